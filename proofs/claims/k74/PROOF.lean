import PyProof.Rows.All
import Wide.All
import OpenK.AllK
import Wide.FinOn
import Lean
import PyProof.EqAt
import PyProof.EqKinds
import PyProof.TupleCall
import PySem.Challenge.RW_truceroll_k74_blames
section
set_option Elab.async false
set_option linter.all false
set_option maxRecDepth 100000
/-! THE HAND LAYER, for ints, bools, texts, own classes, LISTS and tuples (index, slices, in, append, pop ..), calls, loops. Paste it whole ahead of your own text; what your proof does not reach may be deleted. -/
namespace L2
open PySem PySem.Spec PyProof.Rows

/-- a key: an int or a str -/
abbrev Key := Sum Int Str
def keyIs : Key → Value → Bool
  | .inl k, v => Value.isInt k v
  | .inr x, v => Value.isStrOf x v
def keyH (w : World) : Key → Int
  | .inl k => hashInt k
  | .inr x => hashStr w x
theorem keyIs_shape : ∀ {k : Key} {v : Value}, keyIs k v = true → (∃ i t, k = Sum.inl i ∧ v = Value.int i t) ∨ (∃ x t, k = Sum.inr x ∧ v = Value.str x t)
  | .inl i, v, h => by
    obtain ⟨t, e⟩ := Value.isInt_shape (k := i) (v := v) h
    exact .inl ⟨i, t, rfl, e⟩
  | .inr x, v, h => by
    obtain ⟨t, e⟩ := Value.isStrOf_shape (x := x) (v := v) h
    exact .inr ⟨x, t, rfl, e⟩
theorem keyIs_int (i : Int) (t : Tok) : keyIs (.inl i) (.int i t) = true := by simp [keyIs, Value.isInt]
theorem keyIs_str (x : Str) (t : Tok) : keyIs (.inr x) (.str x t) = true := by simp [keyIs, Value.isStrOf]
theorem key_ll (a b : Int) : decide ((Sum.inl a : Key) = Sum.inl b) = (a == b) := by
  by_cases e : a = b
  · subst e; simp
  · have h : ¬ (Sum.inl a : Key) = Sum.inl b := fun q => e (Sum.inl.inj q)
    rw [decide_eq_false h]
    exact (beq_eq_false_iff_ne.mpr e).symm
theorem key_rr (a b : Str) : decide ((Sum.inr a : Key) = Sum.inr b) = decide (a = b) := by
  by_cases e : a = b
  · subst e; simp
  · have h : ¬ (Sum.inr a : Key) = Sum.inr b := fun q => e (Sum.inr.inj q)
    rw [decide_eq_false h, decide_eq_false e]
theorem key_lr (a : Int) (b : Str) : decide ((Sum.inl a : Key) = Sum.inr b) = false := decide_eq_false (fun q => nomatch q)
theorem key_rl (a : Str) (b : Int) : decide ((Sum.inr a : Key) = Sum.inl b) = false := decide_eq_false (fun q => nomatch q)

def mixKind (prog : Program) (w : World) : PySem.KeyKind prog w Key where
  is := keyIs
  hash := keyH w
  inj := fun v a b ha hb => by
    rcases keyIs_shape ha with ⟨i, t, rfl, rfl⟩ | ⟨x, t, rfl, rfl⟩
    · rcases keyIs_shape hb with ⟨j, u, rfl, e⟩ | ⟨y, u, rfl, e⟩
      · injection e with e1 _; rw [e1]
      · exact nomatch e
    · rcases keyIs_shape hb with ⟨j, u, rfl, e⟩ | ⟨y, u, rfl, e⟩
      · exact nomatch e
      · injection e with e1 _; rw [e1]
  byValue := fun k v h => by
    rcases keyIs_shape h with ⟨i, t, rfl, rfl⟩ | ⟨x, t, rfl, rfl⟩ <;> rfl
  pyHash := fun hv h => by
    rcases keyIs_shape hv with ⟨i, t, rfl, rfl⟩ | ⟨x, t, rfl, rfl⟩
    · exact wpAny_pyHash_int h
    · exact wpAny_pyHash_str h
  eqBool := fun hu hv h => by
    rcases keyIs_shape hu with ⟨i, t, rfl, rfl⟩ | ⟨x, t, rfl, rfl⟩
    · rcases keyIs_shape hv with ⟨j, u, rfl, rfl⟩ | ⟨y, u, rfl, rfl⟩
      · rw [key_ll] at h; exact wpAny_eqBool_int h
      · rw [key_lr] at h; exact SeqAt.EqAt.int_str i t y u _ _ _ _ h
    · rcases keyIs_shape hv with ⟨j, u, rfl, rfl⟩ | ⟨y, u, rfl, rfl⟩
      · rw [key_rl] at h; exact SeqAt.EqAt.str_int x t j u _ _ _ _ h
      · rw [key_rr] at h; exact wpAny_eqBool_str h
  «strs» := fun k x t v h => by
    rcases keyIs_shape h with ⟨i, u, rfl, e⟩ | ⟨y, u, rfl, e⟩
    · exact nomatch e
    · injection e with e1 _
      subst e1
      cases v <;> rfl

theorem mixKind_int (prog : Program) (w : World) (i : Int) (t : Tok) : (mixKind prog w).is (.inl i) (.int i t) = true := keyIs_int i t
theorem mixKind_str (prog : Program) (w : World) (x : Str) (t : Tok) : (mixKind prog w).is (.inr x) (.str x t) = true := keyIs_str x t
end L2

namespace L2
open PySem PySem.Spec PyProof.Rows

/-- a value, without the heap -/
inductive V where
  | non | bl (b : Bool) | int (i : Int) | str (x : Str) | byt (b : Array UInt8) | flt (b : UInt64) | ref (a : Addr) | ty (n : String)
  deriving DecidableEq

def RelV : V → Value → Prop
  | .non, u => u = Value.none
  | .bl b, u => u = Value.bool b
  | .int i, u => ∃ t, u = Value.int i t
  | .str x, u => ∃ t, u = Value.str x t
  | .byt b, u => ∃ t, u = Value.bytes b t
  | .flt b, u => ∃ t, u = Value.float b t
  | .ref a, u => u = Value.ref a
  | .ty n, u => u = Value.type n

abbrev Vals : List V → List Value → Prop := Paired RelV
theorem Vals.length {xs : List V} {us : List Value} (r : Vals xs us) : xs.length = us.length := Paired.length r
theorem Vals.get : ∀ {xs : List V} {us : List Value} {i : Nat} {x : V}, Vals xs us → xs[i]? = some x → ∃ u, us[i]? = some u ∧ RelV x u
  | _, _, _, _, .nil, e => by simp at e
  | _, _, 0, _, .cons r _, e => by simp at e; subst e; exact ⟨_, rfl, r⟩
  | _, _, i + 1, x, .cons _ t, e => by
    obtain ⟨u, h1, h2⟩ := Vals.get (i := i) (x := x) t (by simpa using e)
    exact ⟨u, by simpa using h1, h2⟩
theorem Vals.set {x : V} {u : Value} (r : RelV x u) : ∀ {xs : List V} {us : List Value} (i : Nat), Vals xs us → Vals (xs.set i x) (us.set i u)
  | _, _, _, .nil => .nil
  | _, _, 0, .cons _ t => .cons r t
  | _, _, i + 1, .cons q t => .cons q (Vals.set r i t)
theorem Vals.append : ∀ {xs ys : List V} {us ws : List Value}, Vals xs us → Vals ys ws → Vals (xs ++ ys) (us ++ ws)
  | _, _, _, _, .nil, s => s
  | _, _, _, _, .cons r t, s => .cons r (Vals.append t s)
theorem Vals.take : ∀ {xs : List V} {us : List Value} (n : Nat), Vals xs us → Vals (xs.take n) (us.take n)
  | _, _, 0, _ => .nil
  | _, _, _ + 1, .nil => .nil
  | _, _, n + 1, .cons r t => .cons r (Vals.take n t)
theorem Vals.drop : ∀ {xs : List V} {us : List Value} (n : Nat), Vals xs us → Vals (xs.drop n) (us.drop n)
  | _, _, 0, r => r
  | _, _, _ + 1, .nil => .nil
  | _, _, n + 1, .cons _ t => Vals.drop n t
def RelO : Option V → Option Value → Prop
  | some v, some u => RelV v u
  | none, none => True
  | _, _ => False
def KV {κ : Type} : List (κ × V) → List (κ × Value) → Prop := Paired fun (p : κ × V) (q : κ × Value) => p.1 = q.1 ∧ RelV p.2 q.2

/-- a key of a dict (00_mix): an int or a text -/
def kV : Key → V
  | .inl i => .int i
  | .inr x => .str x

/-- what stands at a tracked address -/
inductive HO where
  /-- a list -/
  | lst (xs : List V)
  /-- a tuple (never changes) -/
  | tup (xs : List V)
  /-- a dict whose keys are ints and texts; one whose keys are tuples of ints and texts (the empty one is both) -/
  | dK (kvs : List (Key × V)) | dT (kvs : List (List Key × V))
  /-- a set of ints: its members, its size -/
  | set (S : Int → Bool) (n : Nat)
  /-- an instance of the class at C, its dict at dx, its attributes -/
  | ins (C dx : Addr) (fs : List (Str × V))
  /-- the dict of the instance at x -/
  | own (x : Addr)
  /-- the dict of an exception -/
  | xd (fs : List (Str × V))
  /-- a bound method, f of x -/
  | met (f x : Addr)
  /-- a range object lo, lo + 1, .. below hi -/
  | rng (lo hi : Int)
  /-- a thing that is known to the object (the script; a dict while a loop walks it): read, never written while it is so -/
  | frz (o : Obj) (u : HO)
  /-- a code object's table -/
  | tbl (ps : Array Value)
  /-- any other thing, by what is true of its one object (a def of one's own: SetO a S n := HO.ext fun h => ..) -/
  | ext (φ : Heap → Prop)

abbrev Hp := Addr → Option HO
def upd (H : Hp) (a : Addr) (o : HO) : Hp := fun b => if b = a then some o else H b
theorem upd_same {H : Hp} {a : Addr} {o : HO} : upd H a o a = some o := by unfold upd; rw [if_pos rfl]
theorem upd_ne {H : Hp} {a b : Addr} {o : HO} (h : b ≠ a) : upd H a o b = H b := by unfold upd; rw [if_neg h]
theorem upd_upd {H : Hp} {a : Addr} {o u : HO} : upd (upd H a o) a u = upd H a u := by
  funext b; unfold upd; split <;> rfl
/-- two objects of different content stand apart -/
theorem ne_of {H : Hp} {a b : Addr} {o u : HO} (h : H a = some o) (h' : H b = some u) (d : o ≠ u) : a ≠ b := by
  intro e; subst e; rw [h] at h'; exact d (Option.some.inj h')
theorem ne_of_none {H : Hp} {a b : Addr} {o : HO} (h : H a = some o) (h' : H b = none) : a ≠ b := by
  intro e; subst e; rw [h] at h'; cases h'

section
variable (P : Program) (w : World)
def ObjOk (H : Hp) (h : Heap) (a : Addr) : HO → Prop
  | .lst xs => xs.length ≤ sizeLine ∧ ∃ (its : List Value) (n : Nat), Vals xs its ∧ h.get? a = some { cls := .type "list", data := .seq its.toArray n }
  | .tup xs => xs.length ≤ sizeLine ∧ ∃ its : List Value, Vals xs its ∧ IsTup h a its.toArray
  | .dK kvs => kvs.length ≤ sizeLine ∧ (a == sysModules) = false ∧ ∃ vs, KV kvs vs ∧ h.DictOf (mixKind P w) a vs
  | .dT kvs => kvs.length ≤ sizeLine ∧ (a == sysModules) = false ∧ ∃ xs : List (List Key × Addr × Value),
      Paired (fun (p : List Key × V) (q : List Key × Addr × Value) => p.1 = q.1 ∧ H q.2.1 = some (.tup (p.1.map kV)) ∧ RelV p.2 q.2.2) kvs xs ∧
      ∃ o es ep, h.get? a = some o ∧ o.ExactDict ∧ o.data = .dict es ep ∧ es.toList = xs.map (entryOfKey (tupleKind (mixKind P w))) ∧ (xs.map (·.1)).Nodup
  | .set S n => h.SetOf (intKind P w) a S n
  | .ins C dx fs => H dx = some (.own a) ∧ fs.length ≤ 1000 ∧ dx ≠ a ∧ h.get? a = some (PySem.W.instObj C dx) ∧
      ∃ mA, h.Ns1 dx mA ∧ (∀ f, RelO (fs.lookup f) (mA f)) ∧ PySem.Within mA (fs.map (·.1))
  | .own _ => ∃ o, h.get? a = some o
  | .xd fs => ∃ mA, h.Ns1 a mA ∧ ∀ f, RelO (fs.lookup f) (mA f)
  | .rng lo hi => ∃ t u v, h.get? a = some { cls := .type "range", data := .fields #[.int lo t, .int hi u, .int 1 v] }
  | .frz o u => h.get? a = some o ∧ ObjOk H h a u
  | .tbl ps => h.get? a = some { cls := .none, data := .fields ps }
  | .met f x => h.get? a = some (PySem.W.methodObj (.ref f) (.ref x))
  | .ext φ => φ h ∧ (∃ o, h.get? a = some o) ∧ ∀ h1 h2 : Heap, φ h1 → (∀ o, h1.get? a = some o → h2.get? a = some o) → φ h2
/-- the abstract heap is held -/
def HOk (H : Hp) (h : Heap) : Prop := ∀ a o, H a = some o → ObjOk P w H h a o
end

section
variable {P : Program} {w : World} {H H' : Hp} {h h' : Heap} {a : Addr} {o : HO}
theorem ObjOk.lt (x : ObjOk P w H h a o) : a < h.objs.size := by
  cases o with
  | lst xs => obtain ⟨_, _, _, _, e⟩ := x; exact Heap.lt_size e
  | tup xs => obtain ⟨_, _, _, p⟩ := x; exact p.lt
  | dK kvs => obtain ⟨_, _, _, _, o, _, _, e, _⟩ := x; exact Heap.lt_size e
  | dT kvs => obtain ⟨_, _, _, _, o, _, _, e, _⟩ := x; exact Heap.lt_size e
  | set S n => obtain ⟨o, _, _, _, e, _⟩ := x; exact Heap.lt_size e
  | ins C dx fs => obtain ⟨_, _, _, e, _⟩ := x; exact Heap.lt_size e
  | own y => obtain ⟨_, e⟩ := x; exact Heap.lt_size e
  | xd fs => obtain ⟨_, ⟨_, _, _, e, _⟩, _⟩ := x; exact Heap.lt_size e
  | rng lo hi => obtain ⟨_, _, _, e⟩ := x; exact Heap.lt_size e
  | frz ob u => obtain ⟨e, _⟩ := x; exact Heap.lt_size e
  | tbl ps => exact Heap.lt_size (show h.get? a = some _ from x)
  | met f y => exact Heap.lt_size (show h.get? a = some _ from x)
  | ext φ => obtain ⟨_, ⟨_, e⟩, _⟩ := x; exact Heap.lt_size e
theorem Paired.mapP {α β : Type} {F G : α → β → Prop} : ∀ {l₁ : List α} {l₂ : List β}, Paired F l₁ l₂ → (∀ a b, F a b → G a b) → Paired G l₁ l₂
  | _, _, .nil, _ => .nil
  | _, _, .cons r t, f => .cons (f _ _ r) (Paired.mapP t f)
/-- what an object's description leans on: its own object, its own dict, the tuples -/
theorem ObjOk.stay (x : ObjOk P w H h a o) (k : ∀ b u, (b = a ∨ H b = some (.own a)) → h.get? b = some u → h'.get? b = some u)
    (ho : ∀ b, H b = some (.own a) → H' b = some (.own a)) (ht : ∀ b xs, H b = some (.tup xs) → H' b = some (.tup xs)) : ObjOk P w H' h' a o := by
  induction o with
  | lst xs => obtain ⟨z, its, n, r, e⟩ := x; exact ⟨z, its, n, r, k _ _ (.inl rfl) e⟩
  | tup xs => obtain ⟨z, its, r, ob, e, c⟩ := x; exact ⟨z, its, r, ob, k _ _ (.inl rfl) e, c⟩
  | dK kvs => obtain ⟨z, y, vs, r, ob, es, ep, e, c⟩ := x; exact ⟨z, y, vs, r, ob, es, ep, k _ _ (.inl rfl) e, c⟩
  | dT kvs =>
    obtain ⟨z, y, xs, r, ob, es, ep, e, c⟩ := x
    exact ⟨z, y, xs, Paired.mapP r fun p q z => ⟨z.1, ht _ _ z.2.1, z.2.2⟩, ob, es, ep, k _ _ (.inl rfl) e, c⟩
  | set S n => obtain ⟨ob, es, ep, t, e, c⟩ := x; exact ⟨ob, es, ep, t, k _ _ (.inl rfl) e, c⟩
  | ins C dx fs =>
    obtain ⟨d, z, ne, e, mA, ⟨od, es, ep, e2, c⟩, r⟩ := x
    exact ⟨ho _ d, z, ne, k _ _ (.inl rfl) e, mA, ⟨od, es, ep, k _ _ (.inr d) e2, c⟩, r⟩
  | own y => obtain ⟨ob, e⟩ := x; exact ⟨ob, k _ _ (.inl rfl) e⟩
  | xd fs => obtain ⟨mA, ⟨od, es, ep, e, c⟩, r⟩ := x; exact ⟨mA, ⟨od, es, ep, k _ _ (.inl rfl) e, c⟩, r⟩
  | rng lo hi => obtain ⟨t, u, v, e⟩ := x; exact ⟨t, u, v, k _ _ (.inl rfl) e⟩
  | frz ob u ih => obtain ⟨e, q⟩ := x; exact ⟨k _ _ (.inl rfl) e, ih q⟩
  | tbl ps =>
    have e : h.get? a = some { cls := .none, data := .fields ps } := x
    show h'.get? a = some { cls := .none, data := .fields ps }
    exact k a _ (.inl rfl) e
  | met f y =>
    have e : h.get? a = some (PySem.W.methodObj (.ref f) (.ref y)) := x
    show h'.get? a = some (PySem.W.methodObj (.ref f) (.ref y))
    exact k a _ (.inl rfl) e
  | ext φ => obtain ⟨p, ⟨o, e⟩, st⟩ := x; exact ⟨st _ _ p fun o q => k _ _ (.inl rfl) q, ⟨o, k _ _ (.inl rfl) e⟩, st⟩
theorem HOk.lt (x : HOk P w H h) (e : H a = some o) : a < h.objs.size := (x a o e).lt
theorem HOk.fresh (x : HOk P w H h) (e : h.objs.size ≤ a) : H a = none := by
  cases q : H a with
  | none => rfl
  | some u => exact absurd (Nat.lt_of_lt_of_le (x.lt q) e) (Nat.lt_irrefl _)
/-- every object of the heap is kept -/
theorem HOk.kept (x : HOk P w H h) (k : ∀ b u, h.get? b = some u → h'.get? b = some u) : HOk P w H h' := fun a o e =>
  (x a o e).stay (fun b u _ q => k b u q) (fun _ q => q) fun _ _ q => q
/-- a new object is laid and tracked -/
theorem HOk.laid (x : HOk P w H h) (k : ∀ b u, h.get? b = some u → h'.get? b = some u) (hp : h.objs.size ≤ a) (new : ObjOk P w (upd H a o) h' a o) : HOk P w (upd H a o) h' := fun b u e => by
  have hn := x.fresh hp
  by_cases hb : b = a
  · subst hb; rw [upd_same] at e; cases e; exact new
  · rw [upd_ne hb] at e
    exact (x b u e).stay (fun c v _ q => k c v q) (fun c q => by rw [upd_ne (ne_of_none q hn)]; exact q) fun c xs q => by rw [upd_ne (ne_of_none q hn)]; exact q
end

/-- what may be read as u: it is u, or a known u -/
def Rd (H : Hp) (a : Addr) (u : HO) : Prop := H a = some u ∨ ∃ o, H a = some (.frz o u)
theorem Rd.of {H : Hp} {a : Addr} {u : HO} (h : H a = some u) : Rd H a u := .inl h
theorem Rd.ok {P : Program} {w : World} {H : Hp} {h : Heap} {a : Addr} {u : HO} (r : Rd H a u) (x : HOk P w H h) : ObjOk P w H h a u := by
  rcases r with r | ⟨o, r⟩
  · exact x a u r
  · obtain ⟨_, q⟩ := x a _ r
    exact q
/-- what may be written -/
def Mut : Option HO → Prop
  | some (.lst _) => True
  | some (.dK _) => True
  | some (.dT _) => True
  | some (.set _ _) => True
  | some (.ins _ _ _) => True
  | some (.ext _) => True
  | _ => False
section
variable {P : Program} {w : World} {H : Hp} {h h' : Heap} {x e : Addr} {o' : HO}
/-- the object at e is changed: x itself, or the dict of the instance x -/
theorem HOk.write (ok : HOk P w H h) (mu : Mut (H x)) (he : e = x ∨ H e = some (.own x)) (k : ∀ b u, b ≠ e → h.get? b = some u → h'.get? b = some u) (heo : ∃ u, h'.get? e = some u)
    (new : ObjOk P w (upd H x o') h' x o') : HOk P w (upd H x o') h' := fun b u q => by
  have nown : ∀ c y, H c = some (.own y) → c ≠ x := fun c y r z => by subst z; rw [r] at mu; exact mu
  have ntup : ∀ c xs, H c = some (.tup xs) → c ≠ x := fun c xs r z => by subst z; rw [r] at mu; exact mu
  by_cases hb : b = x
  · subst hb; rw [upd_same] at q; cases q; exact new
  · rw [upd_ne hb] at q
    by_cases hbe : b = e
    · have q' : H b = some (.own x) := by
        rcases he with z | z
        · exact absurd (hbe.trans z) hb
        · rw [hbe]; exact z
      rw [q] at q'; cases q'
      obtain ⟨v, hv⟩ := heo
      exact ⟨v, by rw [hbe]; exact hv⟩
    · refine (ok b u q).stay (fun c v hc r => k c v ?_ r) (fun c r => by rw [upd_ne (nown c b r)]; exact r) fun c xs r => by rw [upd_ne (ntup c xs r)]; exact r
      rcases hc with rfl | hc
      · exact hbe
      · rintro rfl
        rcases he with z | z
        · exact nown c b hc z
        · rw [hc] at z; cases z; exact hb rfl
end

/-! ### kept unless tracked; of the frames at fs (the callers') the slots may change (an exception that passes writes there); of the records at ex (iterators) nothing is said -/
structure Un (fs ex : List Addr) (H H' : Hp) (h h' : Heap) : Prop where
  keep : ∀ b o, h.get? b = some o → H b = none → b ∉ fs → b ∉ ex → h'.get? b = some o
  slot : ∀ b o, h.get? b = some o → H b = none → b ∈ fs → b ∉ ex → ∃ sl, h'.get? b = some { o with slots := sl }
  free : ∀ b o, h.get? b = some o → H b = none → b ∉ ex → H' b = none
  there : ∀ b o, h.get? b = some o → b ∉ ex → ∃ o', h'.get? b = some o'
  tups : ∀ b xs, H b = some (.tup xs) → H' b = some (.tup xs)
  frzs : ∀ b o u, H b = some (.frz o u) → H' b = some (.frz o u)
  tbls : ∀ b ps, H b = some (.tbl ps) → ∃ more, H' b = some (.tbl (ps ++ more))
section
variable {fs fs' ex ex' : List Addr} {H H1 H2 : Hp} {h h1 h2 h' : Heap} {a x e : Addr} {o : HO}
theorem Un.any (u : Un fs ex H H1 h h1) {b : Addr} {ob : Obj} (q : h.get? b = some ob) (n : H b = none) (hx : b ∉ ex) : ∃ sl, h1.get? b = some { ob with slots := sl } := by
  by_cases hb : b ∈ fs
  · exact u.slot b ob q n hb hx
  · exact ⟨ob.slots, u.keep b ob q n hb hx⟩
theorem Un.trans (a : Un fs ex H H1 h h1) (b : Un fs ex H1 H2 h1 h2) : Un fs ex H H2 h h2 where
  keep := fun c ob q n hc hx => b.keep c ob (a.keep c ob q n hc hx) (a.free c ob q n hx) hc hx
  slot := fun c ob q n hc hx => by
    obtain ⟨sl, e1⟩ := a.slot c ob q n hc hx
    obtain ⟨sl', e2⟩ := b.slot c _ e1 (a.free c ob q n hx) hc hx
    exact ⟨sl', e2⟩
  free := fun c ob q n hx => by
    obtain ⟨o', e1⟩ := a.there c ob q hx
    exact b.free c o' e1 (a.free c ob q n hx) hx
  there := fun c ob q hx => by
    obtain ⟨o', e1⟩ := a.there c ob q hx
    exact b.there c o' e1 hx
  tups := fun c xs q => b.tups c xs (a.tups c xs q)
  frzs := fun c ob xs q => b.frzs c ob xs (a.frzs c ob xs q)
  tbls := fun c ps q => by
    obtain ⟨m1, e1⟩ := a.tbls c ps q
    obtain ⟨m2, e2⟩ := b.tbls c _ e1
    exact ⟨m1 ++ m2, by rw [e2, Array.append_assoc]⟩
theorem Un.kept (k : ∀ b u, h.get? b = some u → h'.get? b = some u) : Un fs ex H H h h' :=
  ⟨fun b ob q _ _ _ => k b ob q, fun b ob q _ _ _ => ⟨ob.slots, k b ob q⟩, fun _ _ _ n _ => n, fun b ob q _ => ⟨ob, k b ob q⟩, fun _ _ q => q, fun _ _ _ q => q, fun _ ps q => ⟨#[], by rw [q]; simp⟩⟩
theorem Un.refl : Un fs ex H H h h := Un.kept fun _ _ q => q
theorem Un.laid (k : ∀ b u, h.get? b = some u → h'.get? b = some u) (hp : h.objs.size ≤ a) (hn : H a = none) : Un fs ex H (upd H a o) h h' where
  keep := fun b u q _ _ _ => k b u q
  slot := fun b u q _ _ _ => ⟨u.slots, k b u q⟩
  free := fun b u q n _ => by rw [upd_ne (Nat.ne_of_lt (Nat.lt_of_lt_of_le (Heap.lt_size q) hp))]; exact n
  there := fun b u q _ => ⟨u, k b u q⟩
  tups := fun b xs q => by rw [upd_ne (ne_of_none q hn)]; exact q
  frzs := fun b u xs q => by rw [upd_ne (ne_of_none q hn)]; exact q
  tbls := fun b ps q => ⟨#[], by rw [upd_ne (ne_of_none q hn), q]; simp⟩
theorem Un.write (mu : Mut (H x)) (he : e = x ∨ H e = some (.own x)) (k : ∀ b u, b ≠ e → h.get? b = some u → h'.get? b = some u) (heo : ∃ u, h'.get? e = some u) : Un fs ex H (upd H x o) h h' := by
  have hx : ∀ b, H b = none → b ≠ x := fun b n z => by subst z; rw [n] at mu; exact mu
  have hb : ∀ b, H b = none → b ≠ e := fun b n z => by
    subst z
    rcases he with r | r
    · exact hx b n r
    · rw [n] at r; cases r
  have hm : ∀ b u, H b = some u → ¬ Mut (some u) → b ≠ x := fun b u q nm z => by subst z; rw [q] at mu; exact nm mu
  refine ⟨fun b u q n _ _ => k b u (hb b n) q, fun b u q n _ _ => ⟨u.slots, k b u (hb b n) q⟩, fun b u q n _ => by rw [upd_ne (hx b n)]; exact n, fun b u q _ => ?_,
    fun b xs q => by rw [upd_ne (hm b _ q fun z => z)]; exact q, fun b u xs q => by rw [upd_ne (hm b _ q fun z => z)]; exact q, fun b ps q => ⟨#[], by rw [upd_ne (hm b _ q fun z => z), q]; simp⟩⟩
  by_cases hbe : b = e
  · subst hbe; exact heo
  · exact ⟨u, k b u hbe q⟩
theorem Un.mono (u : Un fs ex H H1 h h1) (hs : ∀ b ∈ fs, b ∈ fs') (hx : ∀ b ∈ ex, b ∈ ex') : Un fs' ex' H H1 h h1 :=
  ⟨fun b ob q n hb he => u.keep b ob q n (fun z => hb (hs b z)) fun z => he (hx b z), fun _ _ q n _ he => u.any q n fun z => he (hx _ z), fun b ob q n he => u.free b ob q n fun z => he (hx b z), fun b ob q he => u.there b ob q fun z => he (hx b z), u.tups, u.frzs, u.tbls⟩
end

/-! ### the heap without what is tracked -/
def trk (h : Heap) (H : Hp) : List Addr := (List.range h.objs.size).filter fun a => (H a).isSome
def hidT (h : Heap) (H : Hp) : Heap := PySem.W.hideAll h (trk h H)
theorem hidT_size (h : Heap) (H : Hp) : (hidT h H).objs.size = h.objs.size := PySem.W.hideAll_size _ _
theorem hidT_get {h : Heap} {H : Hp} {b : Addr} {o : Obj} (e : h.get? b = some o) (n : H b = none) : (hidT h H).get? b = some o :=
  PySem.W.hideAll_get _ e fun hm => by
    have q : (H b).isSome = true := (List.mem_filter.mp hm).2
    rw [n] at q; simp at q
theorem of_hidT {h : Heap} {H : Hp} {b : Addr} {o : Obj} (e : (hidT h H).get? b = some o) : h.get? b = some o ∧ H b = none := by
  have e' : h.get? b = some o := PySem.W.of_hideAll (trk h H) e
  refine ⟨e', ?_⟩
  cases q : H b with
  | none => rfl
  | some x =>
    have hm : b ∈ trk h H := List.mem_filter.mpr ⟨List.mem_range.mpr (Heap.lt_size e'), by simp [q]⟩
    have z : (hidT h H).get? b = none := PySem.W.hideAll_none (trk h H) hm
    rw [z] at e; cases e

/-! ### OpenK's ledger, filled with every new object but one -/
def allNews (g h : Heap) (L : Addr) : List (Addr × Obj) := (List.range h.objs.size).filterMap fun a => if a = L ∨ (g.get? a).isSome = true then none else (h.get? a).map fun o => (a, o)
def rest (g h : Heap) (L d : Addr) : List (Addr × Obj) := (allNews g h L).filter fun p => decide (p.1 ≠ d)
end L2

namespace L2
open PySem PySem.Spec PyProof.Rows

/-- the module's facts, over the base: the heap at the law's entry without what is tracked there -/
structure Mod (K : PySem.W.Frag) (mg : Str → Option Value) (base : Heap) : Prop where
  kin : K.In base
  glob : base.Ns mainGlobals mg
  blt : ∃ mb, base.Ns builtinsNs mb ∧ ∀ x : Str, x ≠ "__name__" → mb x = bootBuiltins x
  nolimit : base.NoLimit

/-- the context: a def's body (or a comprehension's block) running. base: fixed through the whole law; s₀, H₀: the entry; outer: the frames whose slots others may change (a def's callers); stack: all frames that run;
   ex: iterators that were made ahead of the entry and are walked here (a comprehension's); fn: the names whose cells were made at the entry (a def: all; a comprehension's block: its own); calm: not within an except suite; pn: pins that every state bears; xe: what is wanted of an exception that leaves the code -/
structure Cx where
  prog : Program
  w : World
  K : PySem.W.Frag
  mg : Str → Option Value
  base : Heap
  A : Around
  N : List Str
  s₀ : Shared
  H₀ : Hp
  env : Env
  outer : List Env
  stack : List Env
  ex : List Addr
  fn : Str → Bool
  calm : Bool
  pn : List (Addr × Obj)
  xe : Value → Shared → Prop
/-- the callers' frames -/
def frs (l : List Env) : List Addr := l.filterMap (·.frame)
abbrev Cx.fs (X : Cx) : List Addr := frs X.outer

def Vis (sc : Scope) (x : Str) : Prop := sc.names.lookup x = some .local ∨ sc.names.lookup x = some .cell ∨ sc.names.lookup x = some .free
def Loc (sc : Scope) (x : Str) : Prop := sc.names.lookup x = some .local ∨ sc.names.lookup x = some .cell
def Look (env : Env) (h : Heap) (m : Str → Option Value) (x : Str) (u : Value) : Prop :=
  (env.kindOf x = some .local ∧ m x = some u) ∨ ((env.kindOf x = some .cell ∨ env.kindOf x = some .free) ∧ ∃ c, env.cells.lookup x = some c ∧ h.IsCell c (some u))

structure Cx.Ok (X : Cx) : Prop where
  mod : Mod X.K X.mg X.base
  kind : X.env.scope.kind = .function
  glob : X.env.globals = mainGlobals
  blt : X.env.builtins = builtinsNs
  above : X.s₀.heap.objs.size ≤ X.env.locals
  inj : ∀ x y c, X.env.cells.lookup x = some c → X.env.cells.lookup y = some c → x = y
  has : ∀ x, (X.env.kindOf x = some .cell ∨ X.env.kindOf x = some .free) → ∃ c, X.env.cells.lookup x = some c
  cab : ∀ x c, X.fn x = true → X.env.cells.lookup x = some c → X.s₀.heap.objs.size ≤ c
  hd : X.calm = true → X.A.handled = none
  frames : X.A.frames = some X.stack
  stk : X.stack = X.outer ∨ (X.stack = X.env :: X.outer ∧ X.env.frame = some X.env.locals)
  exf : ∀ b ∈ X.ex, b ≠ X.env.locals ∧ ∀ x c, X.env.cells.lookup x = some c → c ≠ b
  bs : ∀ b o, X.base.get? b = some o → X.s₀.heap.get? b = some o ∧ X.H₀ b = none
  bsz : X.base.objs.size ≤ X.s₀.heap.objs.size
  noex : ∀ b o, X.base.get? b = some o → b ∉ X.ex
  exfs : ∀ b ∈ X.ex, b ∉ X.fs
  funs : X.s₀.heap.FunFrames X.base X.outer
  frf : ∀ b ∈ X.fs, X.H₀ b = none

structure Inv (X : Cx) (pins : List (Addr × Obj)) (σ : List (Option V)) (H : Hp) (s : Shared) : Prop where
  ok : X.Ok
  os : s.os = X.s₀.os
  bare : AllBare s.gens
  base : Un X.fs X.ex X.H₀ H X.s₀.heap s.heap
  loc : ∃ m, s.heap.Ns X.env.locals m ∧ ∀ (i : Nat) (x : Str) (v : V), X.N[i]? = some x → σ[i]? = some (some v) → Vis X.env.scope x → ∃ u, RelV v u ∧ Look X.env s.heap m x u
  cell : ∀ x c, X.env.cells.lookup x = some c → ∃ v, s.heap.IsCell c v
  free : H X.env.locals = none
  freeC : ∀ x c, X.env.cells.lookup x = some c → H c = none
  pin : ∀ p ∈ X.pn ++ pins, s.heap.get? p.1 = some p.2 ∧ H p.1 = none ∧ p.1 ≠ X.env.locals ∧ p.1 ∉ X.fs ∧ ∀ v, p.2.data ≠ .cell v
  hok : HOk X.prog X.w H s.heap
  len : σ.length = X.N.length

section
variable {X : Cx} {pins : List (Addr × Obj)} {σ : List (Option V)} {H H' : Hp} {s : Shared} {h' : Heap}

theorem Cx.Ok.nofr (ok : X.Ok) {b : Addr} {o : Obj} (e : X.base.get? b = some o) : b ∉ X.fs := fun hb => by
  have := (ok.funs.mem hb).1
  rw [e] at this; cases this
theorem Inv.bs (I : Inv X pins σ H s) : ∀ b o, X.base.get? b = some o → s.heap.get? b = some o ∧ H b = none := fun b o e =>
  ⟨I.base.keep b o (I.ok.bs b o e).1 (I.ok.bs b o e).2 (I.ok.nofr e) (I.ok.noex b o e), I.base.free b o (I.ok.bs b o e).1 (I.ok.bs b o e).2 (I.ok.noex b o e)⟩
theorem Inv.bk (I : Inv X pins σ H s) : ∀ b o, X.base.get? b = some o → s.heap.get? b = some o := fun b o e => (I.bs b o e).1
theorem Inv.mod (I : Inv X pins σ H s) : Mod X.K X.mg X.base := I.ok.mod
theorem Inv.kIn (I : Inv X pins σ H s) : X.K.In s.heap := I.ok.mod.kin.keeps I.bk
theorem Inv.nolimit (I : Inv X pins σ H s) : s.heap.NoLimit := I.ok.mod.nolimit.keeps I.bk
theorem Inv.lt (I : Inv X pins σ H s) : X.env.locals < s.heap.objs.size := let ⟨_, hn, _⟩ := I.loc; hn.lt
theorem Inv.sz (I : Inv X pins σ H s) : X.s₀.heap.objs.size ≤ s.heap.objs.size := Nat.le_trans I.ok.above (Nat.le_of_lt I.lt)
theorem Inv.nofs (I : Inv X pins σ H s) {a : Addr} (h : s.heap.objs.size ≤ a) : a ∉ X.fs := fun hb => by
  obtain ⟨_, o, ho, _⟩ := I.ok.funs.mem hb
  exact absurd (Nat.lt_of_lt_of_le (Heap.lt_size ho) (Nat.le_trans I.sz h)) (Nat.lt_irrefl _)
theorem Inv.cne (I : Inv X pins σ H s) : ∀ x c, X.env.cells.lookup x = some c → c ≠ X.env.locals := fun x c e z => by
  obtain ⟨v, o, ho, hd⟩ := I.cell x c e
  obtain ⟨m, ⟨o', es, ep, ho', hd', _⟩, _⟩ := I.loc
  rw [z, ho'] at ho; cases ho; rw [hd'] at hd; cases hd
theorem Inv.funs (I : Inv X pins σ H s) : s.heap.FunFrames X.base X.outer := by
  have all : ∀ (l : List Env), (∀ b ∈ frs l, b ∈ X.fs) → X.s₀.heap.FunFrames X.base l → s.heap.FunFrames X.base l := by
    intro l
    induction l with
    | nil => intro _ _; trivial
    | cons env r ih =>
      intro hs hl
      obtain ⟨hk, ⟨L, o, hf, hn, ho, hd⟩, hr⟩ := hl
      have hL : L ∈ X.fs := hs L (by unfold frs; rw [List.filterMap_cons, hf]; exact List.mem_cons_self)
      obtain ⟨sl, e⟩ := I.base.slot L o ho (I.ok.frf L hL) hL fun z => I.ok.exfs L z hL
      exact ⟨hk, ⟨L, _, hf, hn, e, hd⟩, ih (fun b hb => hs b (by unfold frs; rw [List.filterMap_cons, hf]; exact List.mem_cons_of_mem _ hb)) hr⟩
  exact all X.outer (fun _ hb => hb) I.ok.funs

/-- the frames that run, for a call -/
theorem Inv.stack (I : Inv X pins σ H s) : s.heap.FunFrames X.base X.stack := by
  rcases I.ok.stk with e | ⟨e, hf⟩
  · rw [e]; exact I.funs
  · rw [e]
    obtain ⟨m, hn, _⟩ := I.loc
    refine .cons (by rw [I.ok.kind]; decide) hf hn ?_ I.funs
    exact Heap.get?_none_of_le (Nat.le_trans I.ok.bsz I.ok.above)
theorem Inv.stkSub (I : Inv X pins σ H s) : ∀ b ∈ frs X.stack, b ∈ X.env.locals :: X.fs := fun b hb => by
  rcases I.ok.stk with e | ⟨e, hf⟩
  · rw [e] at hb; exact List.mem_cons_of_mem _ hb
  · rw [e] at hb
    unfold frs at hb
    rw [List.filterMap_cons, hf] at hb
    exact hb
theorem Inv.stkFree (I : Inv X pins σ H s) : ∀ b ∈ frs X.stack, H b = none := fun b hb => by
  rcases List.mem_cons.mp (I.stkSub b hb) with e | hb
  · rw [e]; exact I.free
  · obtain ⟨_, o, ho, _⟩ := I.ok.funs.mem hb
    exact I.base.free b o ho (I.ok.frf b hb) fun z => I.ok.exfs b z hb

/-- THE STEP: the untracked objects but the frame and the records at ch are kept (the callers' frames up to slots), the frame's map is kept, the new abstract heap is held -/
theorem Inv.step {g' : Array GenState} {t' : Nat} {d' : Drawn} {ch : List Addr} (I : Inv X pins σ H s)
    (hch : ∀ b ∈ ch, (b ∈ X.ex ∨ X.s₀.heap.objs.size ≤ b) ∧ b ≠ X.env.locals ∧ (∀ x c, X.env.cells.lookup x = some c → c ≠ b) ∧ ∀ p ∈ X.pn ++ pins, p.1 ≠ b)
    (keep : ∀ b o, b ≠ X.env.locals → b ∉ X.fs → b ∉ ch → s.heap.get? b = some o → H b = none → h'.get? b = some o)
    (slot : ∀ b o, b ≠ X.env.locals → b ∈ X.fs → b ∉ ch → s.heap.get? b = some o → H b = none → ∃ sl, h'.get? b = some { o with slots := sl }) (free : ∀ b o, b ∉ ch → s.heap.get? b = some o → H b = none → H' b = none)
    (there : ∀ b o, b ∉ ch → s.heap.get? b = some o → ∃ o', h'.get? b = some o')
    (tups : ∀ b xs, H b = some (.tup xs) → H' b = some (.tup xs)) (frzs : ∀ b o u, H b = some (.frz o u) → H' b = some (.frz o u)) (tbls : ∀ b ps, H b = some (.tbl ps) → ∃ more, H' b = some (.tbl (ps ++ more)))
    (ns : ∀ m, s.heap.Ns X.env.locals m → h'.Ns X.env.locals m) (hok : HOk X.prog X.w H' h') (hg : AllBare g') :
    Inv X pins σ H' { s with heap := h', gens := g', drawn := d', toks := t' } := by
  have neL : ∀ b o, X.s₀.heap.get? b = some o → b ≠ X.env.locals := fun b o e => Nat.ne_of_lt (Nat.lt_of_lt_of_le (Heap.lt_size e) I.ok.above)
  have neC : ∀ b o, X.s₀.heap.get? b = some o → b ∉ X.ex → b ∉ ch := fun b o e hx hb => by
    rcases (hch b hb).1 with z | z
    · exact hx z
    · exact absurd (Nat.lt_of_lt_of_le (Heap.lt_size e) z) (Nat.lt_irrefl _)
  have cellK : ∀ x c, X.env.cells.lookup x = some c → ∀ v, s.heap.IsCell c v → h'.IsCell c v := fun x c e v ⟨o, ho, hd⟩ => by
    have nch : c ∉ ch := fun z => (hch c z).2.2.1 x c e rfl
    by_cases hc : c ∈ X.fs
    · obtain ⟨sl, q⟩ := slot c o (I.cne x c e) hc nch ho (I.freeC x c e)
      exact ⟨_, q, hd⟩
    · exact ⟨o, keep c o (I.cne x c e) hc nch ho (I.freeC x c e), hd⟩
  refine ⟨I.ok, I.os, hg, ⟨fun b o e n hb hx => ?_, fun b o e n hb hx => ?_, fun b o e n hx => ?_, fun b o e hx => ?_, fun b xs e => tups b xs (I.base.tups b xs e), fun b o xs e => frzs b o xs (I.base.frzs b o xs e), fun b ps e => ?_⟩, ?_, fun x c e => ?_, ?_, fun x c e => ?_, fun p hp => ?_, hok, I.len⟩
  · exact keep b o (neL b o e) hb (neC b o e hx) (I.base.keep b o e n hb hx) (I.base.free b o e n hx)
  · obtain ⟨sl, e1⟩ := I.base.slot b o e n hb hx
    obtain ⟨sl', e2⟩ := slot b _ (neL b o e) hb (neC b o e hx) e1 (I.base.free b o e n hx)
    exact ⟨sl', e2⟩
  · obtain ⟨o', e1⟩ := I.base.there b o e hx
    exact free b o' (neC b o e hx) e1 (I.base.free b o e n hx)
  · obtain ⟨o', e1⟩ := I.base.there b o e hx
    exact there b o' (neC b o e hx) e1
  · obtain ⟨m1, e1⟩ := I.base.tbls b ps e
    obtain ⟨m2, e2⟩ := tbls b _ e1
    exact ⟨m1 ++ m2, by rw [e2, Array.append_assoc]⟩
  · obtain ⟨m, hn, hl⟩ := I.loc
    refine ⟨m, ns m hn, fun i x v e1 e2 e3 => ?_⟩
    obtain ⟨u, r, l⟩ := hl i x v e1 e2 e3
    refine ⟨u, r, ?_⟩
    rcases l with l | ⟨k, c, e, z⟩
    · exact .inl l
    · exact .inr ⟨k, c, e, cellK x c e _ z⟩
  · obtain ⟨v, z⟩ := I.cell x c e
    exact ⟨v, cellK x c e v z⟩
  · obtain ⟨m, ⟨o, _, _, ho, _⟩, _⟩ := I.loc
    exact free _ o (fun z => (hch _ z).2.1 rfl) ho I.free
  · obtain ⟨v, o, ho, hd⟩ := I.cell x c e
    exact free c o (fun z => (hch c z).2.2.1 x c e rfl) ho (I.freeC x c e)
  · obtain ⟨e, n, ne, nf, d⟩ := I.pin p hp
    have nch : p.1 ∉ ch := fun z => (hch p.1 z).2.2.2 p hp rfl
    exact ⟨keep p.1 p.2 ne nf nch e n, free p.1 p.2 nch e n, ne, nf, d⟩
/-- .. where the frame's own object is kept too -/
theorem Inv.un {t' : Nat} (I : Inv X pins σ H s) (u : Un X.fs [] H H' s.heap h') (hok : HOk X.prog X.w H' h') : Inv X pins σ H' { s with heap := h', toks := t' } := by
  obtain ⟨m, ⟨o, es, ep, ho, r⟩, _⟩ := id I.loc
  obtain ⟨sl, hL⟩ := u.any ho I.free (by simp)
  exact I.step (g' := s.gens) (d' := s.drawn) (ch := []) (fun _ z => nomatch z) (fun b o _ hb _ e n => u.keep b o e n hb (by simp)) (fun b o _ hb _ e n => u.slot b o e n hb (by simp)) (fun b o _ e n => u.free b o e n (by simp)) (fun b o _ e => u.there b o e (by simp)) u.tups u.frzs u.tbls (fun m' hm => by
    obtain ⟨o', es', ep', ho', r'⟩ := hm
    rw [ho] at ho'; cases ho'
    exact ⟨_, es', ep', hL, r'⟩) hok I.bare
/-- behind a call (or a comprehension's block): the slots of this frame may have changed too, the records at ch may have turned -/
theorem Inv.call {g' : Array GenState} {t' : Nat} {d' : Drawn} {ch : List Addr} (I : Inv X pins σ H s) (u : Un (frs X.stack) ch H H' s.heap h') (hok : HOk X.prog X.w H' h') (hg : AllBare g')
    (hch : ∀ b ∈ ch, (b ∈ X.ex ∨ X.s₀.heap.objs.size ≤ b) ∧ b ≠ X.env.locals ∧ (∀ x c, X.env.cells.lookup x = some c → c ≠ b) ∧ ∀ p ∈ X.pn ++ pins, p.1 ≠ b) :
    Inv X pins σ H' { s with heap := h', gens := g', drawn := d', toks := t' } := by
  obtain ⟨m, ⟨o, es, ep, ho, r⟩, _⟩ := id I.loc
  obtain ⟨sl, hL⟩ := u.any ho I.free fun z => (hch _ z).2.1 rfl
  exact I.step (ch := ch) hch (fun b o hL hb hc e n => u.keep b o e n (fun z => (List.mem_cons.mp (I.stkSub b z)).elim hL hb) hc) (fun b o _ _ hc e n => u.any e n hc) (fun b o hc e n => u.free b o e n hc) (fun b o hc e => u.there b o e hc) u.tups u.frzs u.tbls (fun m' hm => by
    obtain ⟨o', es', ep', ho', r'⟩ := hm
    rw [ho] at ho'; cases ho'
    exact ⟨_, es', ep', hL, r'⟩) hok hg
/-- an untracked record of ours (an iterator) has turned -/
theorem Inv.turned {t' : Nat} {it : Addr} (I : Inv X pins σ H s) (k : ∀ b o, b ≠ it → s.heap.get? b = some o → h'.get? b = some o) (hn : H it = none) (hL : it ≠ X.env.locals)
    (h1 : it ∈ X.ex ∨ X.s₀.heap.objs.size ≤ it) (h2 : ∀ x c, X.env.cells.lookup x = some c → c ≠ it) (h3 : ∀ p ∈ X.pn ++ pins, p.1 ≠ it) : Inv X pins σ H { s with heap := h', toks := t' } := by
  have nit : ∀ b u, H b = some u → b ≠ it := fun b u e z => by rw [z, hn] at e; cases e
  refine I.step (g' := s.gens) (d' := s.drawn) (ch := [it]) (fun b hb => ?_) (fun b o _ _ hc e _ => k b o (fun z => hc (by simp [z])) e) (fun b o _ _ hc e _ => ⟨o.slots, k b o (fun z => hc (by simp [z])) e⟩) (fun _ _ _ _ n => n)
    (fun b o hc e => ⟨o, k b o (fun z => hc (by simp [z])) e⟩) (fun _ _ e => e) (fun _ _ _ e => e) (fun b ps e => ⟨#[], by rw [e]; simp⟩) (fun m hm => ?_) (fun b u e => ?_) I.bare
  · have e : b = it := by simpa using hb
    subst e
    exact ⟨h1, hL, h2, h3⟩
  · obtain ⟨o, es, ep, ho, r⟩ := hm
    exact ⟨o, es, ep, k _ o (Ne.symm hL) ho, r⟩
  · refine (I.hok b u e).stay (fun c v hc q => k c v ?_ q) (fun _ q => q) fun _ _ q => q
    rcases hc with z | z
    · rw [z]; exact nit b u e
    · exact nit c _ z
theorem Inv.tok (I : Inv X pins σ H s) (t : Nat) : Inv X pins σ H { s with toks := t } := I.un (h' := s.heap) (t' := t) Un.refl I.hok
/-- all objects kept -/
theorem Inv.kept {t' : Nat} (I : Inv X pins σ H s) (k : ∀ b u, s.heap.get? b = some u → h'.get? b = some u) : Inv X pins σ H { s with heap := h', toks := t' } := I.un (Un.kept k) (I.hok.kept k)
/-- a new object laid and tracked -/
theorem Inv.laid {a : Addr} {o : HO} {t' : Nat} (I : Inv X pins σ H s) (k : ∀ b u, s.heap.get? b = some u → h'.get? b = some u) (hp : s.heap.objs.size ≤ a) (new : ObjOk X.prog X.w (upd H a o) h' a o) :
    Inv X pins σ (upd H a o) { s with heap := h', toks := t' } := I.un (Un.laid k hp (I.hok.fresh hp)) (I.hok.laid k hp new)
/-- an object written -/
theorem Inv.write {x e : Addr} {o : HO} {t' : Nat} (I : Inv X pins σ H s) (mu : Mut (H x)) (he : e = x ∨ H e = some (.own x)) (k : ∀ b u, b ≠ e → s.heap.get? b = some u → h'.get? b = some u) (heo : ∃ u, h'.get? e = some u)
    (new : ObjOk X.prog X.w (upd H x o) h' x o) : Inv X pins σ (upd H x o) { s with heap := h', toks := t' } := I.un (Un.write mu he k heo) (I.hok.write mu he k heo new)
theorem Inv.pins_of {pins' : List (Addr × Obj)} (I : Inv X pins σ H s) (h : ∀ p ∈ pins', s.heap.get? p.1 = some p.2 ∧ H p.1 = none ∧ p.1 ≠ X.env.locals ∧ p.1 ∉ X.fs ∧ ∀ v, p.2.data ≠ .cell v) : Inv X pins' σ H s :=
  ⟨I.ok, I.os, I.bare, I.base, I.loc, I.cell, I.free, I.freeC, fun p hp => (List.mem_append.mp hp).elim (fun z => I.pin p (List.mem_append_left _ z)) (h p), I.hok, I.len⟩

theorem nodup_ix {N : List Str} (hN : N.Nodup) {i j : Nat} {x : Str} (a : N[i]? = some x) (b : N[j]? = some x) : i = j := by
  obtain ⟨h1, e1⟩ := List.getElem?_eq_some_iff.mp a
  obtain ⟨h2, e2⟩ := List.getElem?_eq_some_iff.mp b
  exact (List.getElem_inj hN).mp (e1.trans e2.symm)

/-- a name is stored; what changed -/
theorem store_ok2 {M : Model} {A : Around} {E : Value → Shared → Prop} {i : Nat} {x : Str} {v : V} {u : Value} {Q : Unit → Shared → Prop} (I : Inv X pins σ H s) (hN : X.N.Nodup) (hi : X.N[i]? = some x) (hx : Loc X.env.scope x) (r : RelV v u)
    (h : ∀ s', Inv X pins (σ.set i (some v)) H s' → (∃ a, Heap.SameBut a s.heap s'.heap ∧ (a = X.env.locals ∨ X.env.cells.lookup x = some a)) → Q () s') (hf : X.fn x = true ∨ X.env.scope.names.lookup x = some .local := by first | exact .inl rfl | exact .inr rfl | assumption) : wpAny M A (storeName X.env x u) Q E s := by
  obtain ⟨m, hn, hl⟩ := id I.loc
  have hcls : (X.env.scope.kind == .class || (X.env.scope.kind == .module && X.env.locals != X.env.globals)) = false := by rw [I.ok.kind]; rfl
  have hiσ : i < σ.length := by rw [I.len]; exact (List.getElem?_eq_some_iff.mp hi).1
  have cne := I.cne
  have tracked : ∀ {a : Addr} {h' : Heap}, (∃ o, s.heap.get? a = some o ∧ H a = none) → Heap.SameBut a s.heap h' → HOk X.prog X.w H h' := fun {a h'} ha hs b ob e => by
    obtain ⟨_, _, hfree⟩ := ha
    refine (I.hok b ob e).stay (fun c w' hc q => (hs.2 c ?_).trans q) (fun _ q => q) fun _ _ q => q
    rintro rfl
    rcases hc with rfl | hc
    · rw [hfree] at e; cases e
    · rw [hfree] at hc; cases hc
  rcases hx with hk | hk
  · refine wpAny_storeName_local hk hn (fun h' hn' hs => ?_) hcls
    obtain ⟨oL, _, _, hoL, _⟩ := id hn
    refine h _ ⟨I.ok, I.os, I.bare, ⟨fun b o e n hb hx => ?_, fun b o e n hb hx => ?_, I.base.free, fun b o e hx => ?_, I.base.tups, I.base.frzs, I.base.tbls⟩, ⟨_, hn', fun j y v' e1 e2 e3 => ?_⟩, fun y c e => ?_, I.free, I.freeC, fun p hp => ?_, tracked ⟨oL, hoL, I.free⟩ hs, by simpa using I.len⟩ ⟨_, hs, .inl rfl⟩
    · exact (hs.2 b (Nat.ne_of_lt (Nat.lt_of_lt_of_le (Heap.lt_size e) I.ok.above))).trans (I.base.keep b o e n hb hx)
    · obtain ⟨sl, e1⟩ := I.base.slot b o e n hb hx
      exact ⟨sl, (hs.2 b (Nat.ne_of_lt (Nat.lt_of_lt_of_le (Heap.lt_size e) I.ok.above))).trans e1⟩
    · obtain ⟨o', e1⟩ := I.base.there b o e hx
      exact ⟨o', (hs.2 b (Nat.ne_of_lt (Nat.lt_of_lt_of_le (Heap.lt_size e) I.ok.above))).trans e1⟩
    · by_cases hj : j = i
      · subst hj
        rw [hi] at e1; cases e1
        rw [List.getElem?_set_self hiσ] at e2
        cases e2
        exact ⟨u, r, .inl ⟨hk, by simp⟩⟩
      · rw [List.getElem?_set_ne (Ne.symm hj)] at e2
        obtain ⟨u', r', q⟩ := hl j y v' e1 e2 e3
        refine ⟨u', r', ?_⟩
        rcases q with ⟨k, e⟩ | ⟨k, c, e, z⟩
        · refine .inl ⟨k, ?_⟩
          have : y ≠ x := fun e => hj (nodup_ix hN e1 (e ▸ hi))
          simp [this, e]
        · exact .inr ⟨k, c, e, z.sameBut hs (cne y c e)⟩
    · obtain ⟨w', z⟩ := I.cell y c e
      exact ⟨w', z.sameBut hs (cne y c e)⟩
    · obtain ⟨e, n, ne, nf, d⟩ := I.pin p hp
      exact ⟨(hs.2 p.1 ne).trans e, n, ne, nf, d⟩
  · have hfn : X.fn x = true := by
      rcases hf with z | z
      · exact z
      · rw [z] at hk; cases hk
    obtain ⟨c, hc⟩ := I.ok.has x (.inl hk)
    obtain ⟨w', z⟩ := I.cell x c hc
    refine wpAny_storeName_cell I.ok.kind hk hc z (fun h' hc' hs => ?_)
    obtain ⟨oc, hoc, hocd⟩ := id z
    refine h { s with heap := h' } ⟨I.ok, I.os, I.bare, ⟨fun b o e n hb hx => ?_, fun b o e n hb hx => ?_, I.base.free, fun b o e hx => ?_, I.base.tups, I.base.frzs, I.base.tbls⟩, ⟨m, hn.sameBut hs (Ne.symm (cne x c hc)), fun j y v' e1 e2 e3 => ?_⟩, fun y c' e => ?_, I.free, I.freeC, fun p hp => ?_, tracked ⟨oc, hoc, I.freeC x c hc⟩ hs, by simpa using I.len⟩ ⟨c, hs, .inr hc⟩
    · exact (hs.2 b (Nat.ne_of_lt (Nat.lt_of_lt_of_le (Heap.lt_size e) (I.ok.cab x c hfn hc)))).trans (I.base.keep b o e n hb hx)
    · obtain ⟨sl, e1⟩ := I.base.slot b o e n hb hx
      exact ⟨sl, (hs.2 b (Nat.ne_of_lt (Nat.lt_of_lt_of_le (Heap.lt_size e) (I.ok.cab x c hfn hc)))).trans e1⟩
    · obtain ⟨o', e1⟩ := I.base.there b o e hx
      exact ⟨o', (hs.2 b (Nat.ne_of_lt (Nat.lt_of_lt_of_le (Heap.lt_size e) (I.ok.cab x c hfn hc)))).trans e1⟩
    · by_cases hj : j = i
      · subst hj
        rw [hi] at e1; cases e1
        rw [List.getElem?_set_self hiσ] at e2
        cases e2
        exact ⟨u, r, .inr ⟨.inl hk, c, hc, hc'⟩⟩
      · rw [List.getElem?_set_ne (Ne.symm hj)] at e2
        obtain ⟨u', r', q⟩ := hl j y v' e1 e2 e3
        refine ⟨u', r', ?_⟩
        rcases q with q | ⟨k, c', e, z'⟩
        · exact .inl q
        · refine .inr ⟨k, c', e, z'.sameBut hs ?_⟩
          rintro rfl
          exact hj (nodup_ix hN e1 (I.ok.inj _ _ _ e hc ▸ hi))
    · by_cases hcc : c' = c
      · subst hcc; exact ⟨_, hc'⟩
      · obtain ⟨w2, z2⟩ := I.cell y c' e
        exact ⟨w2, z2.sameBut hs hcc⟩
    · obtain ⟨e, n, ne, nf, d⟩ := I.pin p hp
      refine ⟨(hs.2 p.1 ?_).trans e, n, ne, nf, d⟩
      intro q
      rw [q, hoc] at e
      have q' : oc = p.2 := Option.some.inj e
      exact d w' (by rw [← q']; exact hocd)
theorem store_ok {M : Model} {A : Around} {E : Value → Shared → Prop} {i : Nat} {x : Str} {v : V} {u : Value} {Q : Unit → Shared → Prop} (I : Inv X pins σ H s) (hN : X.N.Nodup) (hi : X.N[i]? = some x) (hx : Loc X.env.scope x) (r : RelV v u)
    (h : ∀ s', Inv X pins (σ.set i (some v)) H s' → Q () s') (hf : X.fn x = true ∨ X.env.scope.names.lookup x = some .local := by first | exact .inl rfl | exact .inr rfl | assumption) : wpAny M A (storeName X.env x u) Q E s :=
  store_ok2 I hN hi hx r (fun s' I' _ => h s' I') hf
/-- behind a call or a block, the state as it is -/
theorem Inv.call' {s' : Shared} {ch : List Addr} (I : Inv X pins σ H s) (ho : s'.os = s.os) (u : Un (frs X.stack) ch H H' s.heap s'.heap) (hok : HOk X.prog X.w H' s'.heap) (hg : AllBare s'.gens)
    (hch : ∀ b ∈ ch, (b ∈ X.ex ∨ X.s₀.heap.objs.size ≤ b) ∧ b ≠ X.env.locals ∧ (∀ x c, X.env.cells.lookup x = some c → c ≠ b) ∧ ∀ p ∈ X.pn ++ pins, p.1 ≠ b) : Inv X pins σ H' s' := by
  obtain ⟨h', g', d', t', o'⟩ := s'
  have e : o' = s.os := ho
  subst e
  exact I.call (g' := g') (t' := t') (d' := d') u hok hg hch
end

/-! ### the judgements -/
/-- an exception: its class, its own dict's address (where it has one), the abstract heap behind it -/
abbrev XK := Value → Option Addr → Hp → Prop
abbrev St := List (Option V)
abbrev VK := V → Hp → Prop
/-- an expression's reading; a test's; an argument list's -/
abbrev TE := St → Hp → VK → Prop
abbrev TT := St → Hp → (Bool → Hp → Prop) → Prop
abbrev TA := St → Hp → (List V → Hp → Prop) → Prop
/-- what is wanted behind a statement -/
structure Ends where
  nx : St → Hp → Prop
  rt : VK
  bk : St → Hp → Prop := fun _ _ => False
  ct : St → Hp → Prop := fun _ _ => False
abbrev TS := Ends → St → Hp → Prop

def EP (X : Cx) (pins : List (Addr × Obj)) (σ : St) (Q : VK) (u : Value) (s' : Shared) : Prop := ∃ v H', Inv X pins σ H' s' ∧ RelV v u ∧ Q v H'
def TP (X : Cx) (pins : List (Addr × Obj)) (σ : St) (Q : Bool → Hp → Prop) (b : Bool) (s' : Shared) : Prop := ∃ H', Inv X pins σ H' s' ∧ Q b H'
def AP (X : Cx) (pins : List (Addr × Obj)) (σ : St) (Q : List V → Hp → Prop) (us : List Value) (s' : Shared) : Prop := ∃ vs H', Inv X pins σ H' s' ∧ Vals vs us ∧ Q vs H'
def SP (X : Cx) (pins : List (Addr × Obj)) (D : Ends) (f : Flow) (s' : Shared) : Prop :=
  match f with
  | .next => ∃ σ' H', Inv X pins σ' H' s' ∧ D.nx σ' H'
  | .brk => ∃ σ' H', Inv X pins σ' H' s' ∧ D.bk σ' H'
  | .cont => ∃ σ' H', Inv X pins σ' H' s' ∧ D.ct σ' H'
  | .ret u => ∃ v σ' H', Inv X pins σ' H' s' ∧ RelV v u ∧ D.rt v H'

def PE (X : Cx) (e : Expr) (t : TE) : Prop :=
  ∀ (pins : List (Addr × Obj)) (s : Shared) (σ : St) (H : Hp) (Q : VK), Inv X pins σ H s → t σ H Q → wpAny (model X.prog X.w) X.A (eval e X.env) (EP X pins σ Q) X.xe s
def PT (X : Cx) (e : Expr) (t : TT) : Prop :=
  ∀ (pins : List (Addr × Obj)) (s : Shared) (σ : St) (H : Hp) (Q : Bool → Hp → Prop), Inv X pins σ H s → t σ H Q → wpAny (model X.prog X.w) X.A (isTrue e X.env (eval e X.env)) (TP X pins σ Q) X.xe s
/-- a test whatever its 'whole' is (and, or) -/
def PW (X : Cx) (e : Expr) (t : TT) : Prop :=
  ∀ (whole : Sem Value) (pins : List (Addr × Obj)) (s : Shared) (σ : St) (H : Hp) (Q : Bool → Hp → Prop), Inv X pins σ H s → t σ H Q → wpAny (model X.prog X.w) X.A (isTrue e X.env whole) (TP X pins σ Q) X.xe s
theorem PW.pt {X : Cx} {e : Expr} {t : TT} (h : PW X e t) : PT X e t := h _
/-- an argument list (no star), from the left -/
def PA (X : Cx) (es : List Expr) (t : TA) : Prop :=
  ∀ (pos : Pos) (pins : List (Addr × Obj)) (s : Shared) (σ : St) (H : Hp) (Q : List V → Hp → Prop), Inv X pins σ H s → t σ H Q → wpAny (model X.prog X.w) X.A (spliced (backTo pos (starEach es X.env))) (AP X pins σ Q) X.xe s
def PS (X : Cx) (st : Stmt) (t : TS) : Prop :=
  ∀ (pins : List (Addr × Obj)) (s : Shared) (σ : St) (H : Hp) (D : Ends), Inv X pins σ H s → t D σ H → wpAny (model X.prog X.w) X.A (exec st X.env) (SP X pins D) X.xe s
def PSs (X : Cx) (st : List Stmt) (t : TS) : Prop :=
  ∀ (pins : List (Addr × Obj)) (s : Shared) (σ : St) (H : Hp) (D : Ends), Inv X pins σ H s → t D σ H → wpAny (model X.prog X.w) X.A (execs st X.env) (SP X pins D) X.xe s
/-- weaken the end -/
theorem thn {α : Type} {t : Sem α} {Q Q' : α → Shared → Prop} {M : Model} {A : Around} {E : Value → Shared → Prop} {s : Shared} (h : wpAny M A t Q E s) (hQ : ∀ a s, Q a s → Q' a s) : wpAny M A t Q' E s := wpAny_mono h hQ fun _ _ x => x
end L2

namespace L2
open PySem PySem.Spec PyProof.Rows
section
variable {X : Cx}

/-- two expressions in a row -/
theorem bin {a b : Expr} {ta tb : TE} (ha : PE X a ta) (hb : PE X b tb) {pins : List (Addr × Obj)} {s : Shared} {σ : St} {H : Hp} {R : V → V → Hp → Prop} (I : Inv X pins σ H s) (h : ta σ H fun x H1 => tb σ H1 fun y H2 => R x y H2)
    {α : Type} {Q : α → Shared → Prop} {f : Value → Value → Sem α}
    (hf : ∀ v u s2 x y H2, Inv X pins σ H2 s2 → RelV x v → RelV y u → R x y H2 → wpAny (model X.prog X.w) X.A (f v u) Q X.xe s2) :
    wpAny (model X.prog X.w) X.A (eval a X.env) (fun v s₁ => wpAny (model X.prog X.w) X.A (eval b X.env) (fun u s₂ => wpAny (model X.prog X.w) X.A (f v u) Q X.xe s₂) X.xe s₁) X.xe s := by
  refine thn (ha pins s σ H _ I h) fun v s1 ⟨x, H1, I1, r1, q1⟩ => ?_
  refine thn (hb pins s1 σ H1 _ I1 q1) fun u s2 ⟨y, H2, I2, r2, q2⟩ => ?_
  exact hf v u s2 x y H2 I2 r1 r2 q2

/-! ### names and constants -/
def tVar (i : Nat) : TE := fun σ H Q => ∃ v, σ[i]? = some (some v) ∧ Q v H
def tC (v : V) : TE := fun _ H Q => Q v H
theorem pe_var {i : Nat} {x : Str} {pos : Pos} (hN : X.N[i]? = some x) (hv : Vis X.env.scope x) (hd : (x == ("__debug__" : Str)) = false := by decide) (hcd : (x == ("__classdict__" : Str)) = false := by decide) : PE X (.Name x pos) (tVar i) := by
  intro pins s σ H Q I h
  obtain ⟨v, e, h⟩ := h
  obtain ⟨m, hn, hl⟩ := I.loc
  obtain ⟨u, r, l⟩ := hl i x v hN e hv
  have fin : EP X pins σ Q u s := ⟨v, H, I, r, h⟩
  rcases l with ⟨hk, hm⟩ | ⟨hk, c, hc, hcell⟩
  · exact wpAny_Name (wpAny_loadName_local I.ok.kind hk hn hm fin) hd
  · rcases hk with hk | hk
    · exact wpAny_Name (wpAny_loadName_cell I.ok.kind hk hc hcell fin) hd
    · exact wpAny_Name (wpAny_loadName_free I.ok.kind hk hc hcell fin hcd) hd
theorem pe_int {i j pos} : PE X (.Constant (.int i) j pos) (tC (.int i)) := fun _ _ _ H _ I h => wpAny_Constant_int ⟨.int i, H, I.tok _, ⟨_, rfl⟩, h⟩
theorem pe_bl {b j pos} : PE X (.Constant (.bool b) j pos) (tC (.bl b)) := fun _ _ _ H _ I h => Constant_bool ⟨.bl b, H, I, rfl, h⟩
/-- a global name of the def -/
def Gl (X : Cx) (x : Str) : Prop := X.env.kindOf x = some .globalImplicit
theorem ld_glob {E : Value → Shared → Prop} {pins : List (Addr × Obj)} {s : Shared} {σ : St} {H : Hp} {x : Str} {u : Value} {pos : Pos} {Q : Value → Shared → Prop} (I : Inv X pins σ H s) (hg : Gl X x) (hm : X.mg x = some u) (h : Q u s)
    (hd : (x == ("__debug__" : Str)) = false := by decide) : wpAny (model X.prog X.w) X.A (eval (.Name x pos) X.env) Q E s :=
  Calls.Name_function_global I.ok.kind hg (Calls.loadGlobal_global (by rw [I.ok.glob]; exact I.mod.glob.keeps I.bk) hm h) hd
theorem ld_blt {E : Value → Shared → Prop} {pins : List (Addr × Obj)} {s : Shared} {σ : St} {H : Hp} {x : Str} {u : Value} {pos : Pos} {Q : Value → Shared → Prop} (I : Inv X pins σ H s) (hg : Gl X x) (hm : X.mg x = none) (hv : bootBuiltins x = some u) (h : Q u s)
    (hn : x ≠ "__name__" := by decide) (hd : (x == ("__debug__" : Str)) = false := by decide) : wpAny (model X.prog X.w) X.A (eval (.Name x pos) X.env) Q E s := by
  obtain ⟨mb, h1, h2⟩ := I.mod.blt
  exact Calls.Name_function_global I.ok.kind hg (Calls.loadGlobal_builtin (by rw [I.ok.glob]; exact I.mod.glob.keeps I.bk) hm (by rw [I.ok.blt]; exact h1.keeps I.bk) ((h2 x hn).trans hv) h) hd
theorem pe_bltn {x : Str} {v : V} {u : Value} {pos : Pos} (hg : Gl X x) (hm : X.mg x = none) (hv : bootBuiltins x = some u) (r : RelV v u) (hn : x ≠ "__name__" := by decide) (hd : (x == ("__debug__" : Str)) = false := by decide) : PE X (.Name x pos) (tC v) :=
  fun _ _ _ H _ I h => ld_blt I hg hm hv ⟨v, H, I, r, h⟩ hn hd

/-! ### arithmetic -/
variable {a b : Expr} {ta tb : TE} {pos : Pos}
/-! ### comparisons -/
/-- a comparison as a value, as a test -/
def tB (t : TE) : TT := fun σ H Q => t σ H fun x H1 => ∃ c, x = .bl c ∧ Q c H1
/-- an expression whose value is a bool, as a test -/
theorem pt_val {e : Expr} {t : TE} (h : PE X e t) (he : ∀ whole, isTrue e X.env whole = (do let v ← whole; standAt e.pos; holding [v] (truthy v)) := by intro _; rfl) : PT X e (tB t) := by
  intro pins s σ H Q I hw
  refine isTrue_plain (thn (h pins s σ H _ I hw) fun v s1 ⟨x, H1, I1, r1, q1⟩ => ?_) (he _)
  obtain ⟨d, rfl, q⟩ := q1
  cases r1
  exact wpAny_truthy_bool ⟨H1, I1, q⟩

/-! ### and, or, not -/
variable {tA tB' : TT} {rest : List Expr}
def tAnd (t u : TT) : TT := fun σ H Q => t σ H fun c H1 => if c = true then u σ H1 Q else Q false H1
def tOr (t u : TT) : TT := fun σ H Q => t σ H fun c H1 => if c = true then Q true H1 else u σ H1 Q
def tNot (t : TT) : TT := fun σ H Q => t σ H fun c H1 => Q (!c) H1
theorem pw_and1 (ha : PT X a tA) : PW X (.BoolOp .And [a] pos) tA := by
  intro wh pins s σ H Q I h
  refine isTrue_and (thn (ha pins s σ H Q I h) fun c s1 e => ?_)
  cases c with
  | true => exact isTrue_and_nil e
  | false => exact e
theorem pw_or1 (ha : PT X a tA) : PW X (.BoolOp .Or [a] pos) tA := by
  intro wh pins s σ H Q I h
  refine isTrue_or (thn (ha pins s σ H Q I h) fun c s1 e => ?_)
  cases c with
  | false => exact isTrue_or_nil e
  | true => exact e
theorem pw_and (ha : PT X a tA) (hb : PW X (.BoolOp .And (b :: rest) pos) tB') : PW X (.BoolOp .And (a :: b :: rest) pos) (tAnd tA tB') := by
  intro wh pins s σ H Q I h
  refine isTrue_and (thn (ha pins s σ H _ I h) fun c s1 ⟨H1, I1, q1⟩ => ?_)
  cases c with
  | true => exact hb wh pins s1 σ H1 Q I1 q1
  | false => exact ⟨H1, I1, q1⟩
theorem pw_or (ha : PT X a tA) (hb : PW X (.BoolOp .Or (b :: rest) pos) tB') : PW X (.BoolOp .Or (a :: b :: rest) pos) (tOr tA tB') := by
  intro wh pins s σ H Q I h
  refine isTrue_or (thn (ha pins s σ H _ I h) fun c s1 ⟨H1, I1, q1⟩ => ?_)
  cases c with
  | true => exact ⟨H1, I1, q1⟩
  | false => exact hb wh pins s1 σ H1 Q I1 q1
theorem pt_not (ha : PT X a tA) : PT X (.UnaryOp .Not a pos) (tNot tA) := by
  intro pins s σ H Q I h
  exact isTrue_not (ha pins s σ H (fun c H1 => Q (!c) H1) I h)
/-- .. as values (bools) -/
def tAndV (ta tb : TE) : TE := fun σ H Q => ta σ H fun x H1 => ∃ c, x = .bl c ∧ if c = true then tb σ H1 Q else Q (.bl false) H1
def tOrV (ta tb : TE) : TE := fun σ H Q => ta σ H fun x H1 => ∃ c, x = .bl c ∧ if c = true then Q (.bl true) H1 else tb σ H1 Q
def tNotV (ta : TE) : TE := fun σ H Q => ta σ H fun x H1 => ∃ c, x = .bl c ∧ Q (.bl (!c)) H1
theorem pe_one {op} {t : TE} (h : PE X a t) : PE X (.BoolOp op [a] pos) t := fun pins s σ H Q I hw => BoolOp_one (h pins s σ H Q I hw)
theorem pe_and (ha : PE X a ta) (hb : PE X (.BoolOp .And (b :: rest) pos) tb) : PE X (.BoolOp .And (a :: b :: rest) pos) (tAndV ta tb) := by
  intro pins s σ H Q I h
  refine BoolOp_and (thn (ha pins s σ H _ I h) fun v s1 ⟨x, H1, I1, r1, q1⟩ => ?_)
  obtain ⟨c, rfl, q1⟩ := q1
  cases r1
  refine wpAny_truthy_bool ?_
  cases c with
  | true => exact hb pins s1 σ H1 Q I1 q1
  | false => exact ⟨.bl false, H1, I1, rfl, q1⟩
theorem pe_not (ha : PE X a ta) : PE X (.UnaryOp .Not a pos) (tNotV ta) := by
  intro pins s σ H Q I h
  refine UnaryOp_ (thn (ha pins s σ H _ I h) fun v s1 ⟨x, H1, I1, r1, q1⟩ => ?_)
  obtain ⟨c, rfl, q1⟩ := q1
  cases r1
  exact not_of (wpAny_truthy_bool ⟨.bl (!c), H1, I1, rfl, q1⟩)
/-- a if t else b -/
def tIf (t : TT) (ta tb : TE) : TE := fun σ H Q => t σ H fun c H1 => if c = true then ta σ H1 Q else tb σ H1 Q
end
end L2

namespace L2
open PySem PySem.Spec PyProof.Rows

/-! ### a list, a tuple that is read: tracked, frozen, or an object of the module -/
def SqL (K : PySem.W.Frag) (H : Hp) (a : Addr) (xs : List V) : Prop :=
  Rd H a (.lst xs) ∨
    ∃ (o : Obj) (its : Array Value) (n : Nat), K.lookup a = some o ∧ o.cls = .type "list" ∧ o.dict = none ∧ o.data = .seq its n ∧ its.size ≤ sizeLine ∧ Vals xs its.toList
def SqT (K : PySem.W.Frag) (H : Hp) (a : Addr) (xs : List V) : Prop :=
  Rd H a (.tup xs) ∨
    ∃ (o : Obj) (its : Array Value) (n : Nat), K.lookup a = some o ∧ o.cls = .type "tuple" ∧ o.data = .seq its n ∧ its.size ≤ sizeLine ∧ Vals xs its.toList
def absV : Value → Option V
  | .none => some .non
  | .bool b => some (.bl b)
  | .int i _ => some (.int i)
  | .str x _ => some (.str x)
  | .bytes b _ => some (.byt b)
  | .float b _ => some (.flt b)
  | .ref a => some (.ref a)
  | .type n => some (.ty n)
  | _ => none
theorem RelV.abs {x : V} {u : Value} (r : RelV x u) : absV u = some x := by
  cases x with
  | non => cases r; rfl
  | bl _ => cases r; rfl
  | int _ => obtain ⟨t, rfl⟩ := r; rfl
  | str _ => obtain ⟨t, rfl⟩ := r; rfl
  | byt _ => obtain ⟨t, rfl⟩ := r; rfl
  | flt _ => obtain ⟨t, rfl⟩ := r; rfl
  | ref _ => cases r; rfl
  | ty _ => cases r; rfl
theorem RelV.inj {x y : V} {u : Value} (r : RelV x u) (q : RelV y u) : x = y := Option.some.inj (r.abs.symm.trans q.abs)
theorem Vals.inj : ∀ {xs ys : List V} {us : List Value}, Vals xs us → Vals ys us → xs = ys
  | _, _, _, .nil, .nil => rfl
  | _, _, _, .cons r t, .cons r' t' => by rw [r.inj r', Vals.inj t t']
section
variable {X : Cx} {pins : List (Addr × Obj)} {σ : St} {H : Hp} {s : Shared} {a : Addr} {xs ys : List V}
theorem SqL.of {K : PySem.W.Frag} (h : H a = some (.lst xs)) : SqL K H a xs := .inl (.inl h)
theorem SqT.of {K : PySem.W.Frag} (h : H a = some (.tup xs)) : SqT K H a xs := .inl (.inl h)
theorem Inv.list (I : Inv X pins σ H s) (h : SqL X.K H a xs) : ∃ its : List Value, Vals xs its ∧ PlainL s.heap a its.toArray ∧ xs.length ≤ sizeLine := by
  rcases h with h | ⟨o, its, n, hk, hc, hd, hs, hz, r⟩
  · obtain ⟨z, its, n, r, e⟩ := h.ok I.hok
    exact ⟨its, r, ⟨_, n, e, rfl, rfl, rfl⟩, z⟩
  · refine ⟨its.toList, r, ⟨o, n, I.kIn a o hk, hc, hd, by simpa using hs⟩, ?_⟩
    have e := r.length
    simp only [Array.length_toList] at e
    omega
theorem Inv.tuple (I : Inv X pins σ H s) (h : SqT X.K H a xs) : ∃ its : List Value, Vals xs its ∧ IsTup s.heap a its.toArray ∧ xs.length ≤ sizeLine := by
  rcases h with h | ⟨o, its, n, hk, hc, hs, hz, r⟩
  · obtain ⟨z, its, r, p⟩ := h.ok I.hok
    exact ⟨its, r, p, z⟩
  · refine ⟨its.toList, r, ⟨o, I.kIn a o hk, hc, n, by simpa using hs⟩, ?_⟩
    have e := r.length
    simp only [Array.length_toList] at e
    omega
theorem Inv.list_inj (I : Inv X pins σ H s) (h : SqL X.K H a xs) (h' : SqL X.K H a ys) : xs = ys := by
  obtain ⟨its, r, ⟨o, n, e, _, _, d⟩, _⟩ := I.list h
  obtain ⟨its', r', ⟨o', n', e', _, _, d'⟩, _⟩ := I.list h'
  rw [e] at e'; cases e'
  rw [d] at d'
  injection d' with d1 _
  have : its = its' := by simpa using congrArg Array.toList d1
  subst this
  exact r.inj r'
theorem Inv.tuple_inj (I : Inv X pins σ H s) (h : SqT X.K H a xs) (h' : SqT X.K H a ys) : xs = ys := by
  obtain ⟨its, r, ⟨o, e, _, n, d⟩, _⟩ := I.tuple h
  obtain ⟨its', r', ⟨o', e', _, n', d'⟩, _⟩ := I.tuple h'
  rw [e] at e'; cases e'
  rw [d] at d'
  injection d' with d1 _
  have : its = its' := by simpa using congrArg Array.toList d1
  subst this
  exact r.inj r'
end

/-! ### another wish about exceptions -/
abbrev Cx.wish (X : Cx) (E : Value → Shared → Prop) : Cx := { X with xe := E }
/-- no exception leaves -/
abbrev Cx.nox (X : Cx) : Cx := X.wish fun _ _ => False
theorem Cx.Ok.wish {X : Cx} (ok : X.Ok) (E : Value → Shared → Prop) : (X.wish E).Ok :=
  ⟨ok.mod, ok.kind, ok.glob, ok.blt, ok.above, ok.inj, ok.has, ok.cab, ok.hd, ok.frames, ok.stk, ok.exf, ok.bs, ok.bsz, ok.noex, ok.exfs, ok.funs, ok.frf⟩
theorem Cx.Ok.unwish {X : Cx} {E : Value → Shared → Prop} (ok : (X.wish E).Ok) : X.Ok :=
  ⟨ok.mod, ok.kind, ok.glob, ok.blt, ok.above, ok.inj, ok.has, ok.cab, ok.hd, ok.frames, ok.stk, ok.exf, ok.bs, ok.bsz, ok.noex, ok.exfs, ok.funs, ok.frf⟩
section
variable {X : Cx} {pins : List (Addr × Obj)} {σ : St} {H : Hp} {s : Shared} {E : Value → Shared → Prop}
theorem Inv.wish (I : Inv X pins σ H s) (E : Value → Shared → Prop) : Inv (X.wish E) pins σ H s := ⟨I.ok.wish E, I.os, I.bare, I.base, I.loc, I.cell, I.free, I.freeC, I.pin, I.hok, I.len⟩
theorem Inv.unwish (I : Inv (X.wish E) pins σ H s) : Inv X pins σ H s := ⟨I.ok.unwish, I.os, I.bare, I.base, I.loc, I.cell, I.free, I.freeC, I.pin, I.hok, I.len⟩
theorem SP.unwish {D : Ends} {f : Flow} {s' : Shared} (h : SP (X.wish E) pins D f s') : SP X pins D f s' := by
  cases f with
  | next => obtain ⟨σ', H', I, q⟩ := h; exact ⟨σ', H', I.unwish, q⟩
  | brk => obtain ⟨σ', H', I, q⟩ := h; exact ⟨σ', H', I.unwish, q⟩
  | cont => obtain ⟨σ', H', I, q⟩ := h; exact ⟨σ', H', I.unwish, q⟩
  | ret u => obtain ⟨v, σ', H', I, r, q⟩ := h; exact ⟨v, σ', H', I.unwish, r, q⟩
theorem PE.nox {e : Expr} {t : TE} (h : PE X.nox e t) : PE X e t := fun pins s σ H Q I hw =>
  wpAny_mono (h pins s σ H Q (I.wish _) hw) (fun _ _ ⟨v, H', I', r, q⟩ => ⟨v, H', I'.unwish, r, q⟩) fun _ _ z => False.elim z
theorem PT.nox {e : Expr} {t : TT} (h : PT X.nox e t) : PT X e t := fun pins s σ H Q I hw =>
  wpAny_mono (h pins s σ H Q (I.wish _) hw) (fun _ _ ⟨H', I', q⟩ => ⟨H', I'.unwish, q⟩) fun _ _ z => False.elim z
theorem PSs.nox {st : List Stmt} {t : TS} (h : PSs X.nox st t) : PSs X st t := fun pins s σ H D I hw =>
  wpAny_mono (h pins s σ H D (I.wish _) hw) (fun _ _ q => q.unwish) fun _ _ z => False.elim z
end

/-! ### blocks and small statements -/
section
variable {X : Cx} {st : Stmt} {rest : List Stmt} {t u : TS} {e : Expr} {te : TE} {pos : Pos}
def tNext : TS := fun D σ H => D.nx σ H
def tSeq (t u : TS) : TS := fun D σ H => t { D with nx := u D } σ H
theorem pss_nil : PSs X [] tNext := fun _ _ σ H _ I h => wpAny_execs_nil ⟨σ, H, I, h⟩
theorem pss_cons (h1 : PS X st t) (h2 : PSs X rest u) : PSs X (st :: rest) (tSeq t u) := by
  intro pins s σ H D I h
  refine wpAny_execs_cons (thn (h1 pins s σ H { D with nx := u D } I h) fun f s1 q => ?_)
  cases f with
  | next =>
    obtain ⟨σ', H', I', q⟩ := q
    exact h2 pins s1 σ' H' D I' q
  | ret v => exact q
  | brk => exact q
  | cont => exact q
theorem pss_one (h1 : PS X st t) : PSs X [st] t := by
  intro pins s σ H D I h
  refine wpAny_execs_cons (thn (h1 pins s σ H D I h) fun f s1 q => ?_)
  cases f with
  | next => exact wpAny_execs_nil q
  | ret v => exact q
  | brk => exact q
  | cont => exact q
/-- in a def's body nothing is shown -/
theorem Inv.quiet {pins : List (Addr × Obj)} {σ : St} {H : Hp} {s : Shared} (I : Inv X pins σ H s) : interactive X.env = false := by simp [interactive, I.ok.kind]
/-- an expression whose value is dropped -/
def tDrop (te : TE) : TS := fun D σ H => te σ H fun _ H1 => D.nx σ H1
theorem ps_expr (he : PE X e te) (hs : swapsWith e none pos.line X.env = pure false := by rfl) : PS X (.Expr e pos) (tDrop te) := by
  intro pins s σ H D I h
  exact wpAny_Expr_any (thn (he pins s σ H _ I h) fun v s1 ⟨x, H1, I1, r1, q1⟩ => ⟨σ, H1, I1, q1⟩) I.quiet hs
def tRet (te : TE) : TS := fun D σ H => te σ H D.rt
theorem ps_ret (he : PE X e te) : PS X (.Return (some e) pos) (tRet te) := by
  intro pins s σ H D I h
  exact wpAny_Return_some (thn (he pins s σ H _ I h) fun v s1 ⟨x, H1, I1, r1, q1⟩ => ⟨x, σ, H1, I1, r1, q1⟩)
def tRetN : TS := fun D _ H => D.rt .non H
def tIfS (c : TT) (t u : TS) : TS := fun D σ H => c σ H fun b H1 => if b = true then t D σ H1 else u D σ H1
theorem ps_if {c : Expr} {a b : List Stmt} {tc : TT} (hc : PT X c tc) (ha : PSs X a t) (hb : PSs X b u) : PS X (.If c a b pos) (tIfS tc t u) := by
  intro pins s σ H D I h
  refine wpAny_If (thn (hc pins s σ H _ I h) fun d s1 ⟨H1, I1, q1⟩ => ?_)
  cases d with
  | true => exact ha pins s1 σ H1 D I1 q1
  | false => exact hb pins s1 σ H1 D I1 q1
/-- code that the proof never comes to -/
def tNever : TS := fun _ _ _ => False
end

/-! ### targets -/
abbrev TG := V → St → Hp → (St → Hp → Prop) → Prop
def PG (X : Cx) (target : Expr) (t : TG) : Prop :=
  ∀ (pins : List (Addr × Obj)) (s : Shared) (σ : St) (H : Hp) (v : V) (u : Value) (Q : St → Hp → Prop), Inv X pins σ H s → RelV v u → t v σ H Q →
    wpAny (model X.prog X.w) X.A (assign target X.env u) (fun _ s' => ∃ σ' H', Inv X pins σ' H' s' ∧ Q σ' H') X.xe s
/-- o[i] = v, by values -/
abbrev TSet := V → V → V → Hp → (Hp → Prop) → Prop
def PSet (X : Cx) (t : TSet) : Prop :=
  ∀ (pins : List (Addr × Obj)) (s : Shared) (σ : St) (H : Hp) (o i v : V) (ov iv u : Value) (Q : Hp → Prop), Inv X pins σ H s → RelV o ov → RelV i iv → RelV v u → t o i v H Q →
    wpAny (model X.prog X.w) X.A (setItem ov iv u) (fun _ s' => ∃ H', Inv X pins σ H' s' ∧ Q H') X.xe s
/-- a op= b, by values -/
abbrev TIp := V → V → Hp → VK → Prop
def PIp (X : Cx) (op : Operator) (t : TIp) : Prop :=
  ∀ (pins : List (Addr × Obj)) (s : Shared) (σ : St) (H : Hp) (x y : V) (v u : Value) (Q : VK), Inv X pins σ H s → RelV x v → RelV y u → t x y H Q →
    wpAny (model X.prog X.w) X.A (inplaceOp op v u) (EP X pins σ Q) X.xe s
section
variable {X : Cx} {pos : Pos}
def gName (i : Nat) : TG := fun v σ H Q => Q (σ.set i (some v)) H
theorem pg_name {i : Nat} {x : Str} (hN : X.N.Nodup) (hi : X.N[i]? = some x) (hx : Loc X.env.scope x) (hf : X.fn x = true ∨ X.env.scope.names.lookup x = some .local := by first | exact .inl rfl | exact .inr rfl | assumption) : PG X (.Name x pos) (gName i) := by
  intro pins s σ H v u Q I r h
  exact wpAny_assign_Name (store_ok I hN hi hx r (fun s' I' => ⟨_, H, I', h⟩) hf)
/-- o[i] = .. -/
def gSub (to ti : TE) (t : TSet) : TG := fun v σ H Q => to σ H fun o H1 => ti σ H1 fun i H2 => t o i v H2 fun H3 => Q σ H3
theorem pg_sub {o i : Expr} {to ti : TE} {t : TSet} (ho : PE X o to) (hi : PE X i ti) (hs : PSet X t)
    (ha : ∀ v, assign (.Subscript o i pos) X.env v = (do
      let ov ← holding [v] (eval o X.env)
      let iv ← holding [v, ov] (eval i X.env)
      standAt pos
      holding [v, ov, iv] (setItem ov iv v)
      release [v, ov, iv] []) := by intro _; rfl) : PG X (.Subscript o i pos) (gSub to ti t) := by
  intro pins s σ H v u Q I r h
  rw [ha]
  refine wpAny_bind (wpAny_holding (thn (ho pins s σ H _ I h) fun ov s1 ⟨x, H1, I1, r1, q1⟩ => ?_))
  refine wpAny_bind (wpAny_holding (thn (hi pins s1 σ H1 _ I1 q1) fun iv s2 ⟨y, H2, I2, r2, q2⟩ => ?_))
  refine wpAny_bind (wpAny_standAt (wpAny_bind (wpAny_holding (thn (hs pins s2 σ H2 x y v ov iv u _ I2 r1 r2 r q2) fun _ s3 ⟨H3, I3, q3⟩ => ?_))))
  exact wpAny_release ⟨σ, H3, I3, q3⟩
/-- target = value -/
def tAsg (te : TE) (g : TG) : TS := fun D σ H => te σ H fun x H1 => g x σ H1 D.nx
theorem ps_asg {tg e : Expr} {te : TE} {g : TG} (he : PE X e te) (hg : PG X tg g) (hs : swapsWithSole [tg] e pos.line X.env = pure false := by rfl) (hw : swappedStores [tg] e X.env = pure none := by rfl)
    (h1 : (assignEach [tg] X.env).map (·.2) = [assign tg X.env] := by rfl) : PS X (.Assign [tg] e pos) (tAsg te g) := by
  intro pins s σ H D I h
  refine wpAny_Assign_stores (thn (he pins s σ H _ I h) fun v s1 ⟨x, H1, I1, r1, q1⟩ => ?_) hs hw
  rw [h1]
  exact thn (hg pins s1 σ H1 x v _ I1 r1 q1) fun _ s2 q => q
/-- name = value -/
theorem ps_set {i : Nat} {x : Str} {e : Expr} {te : TE} {pos' : Pos} (hN : X.N.Nodup) (hi : X.N[i]? = some x) (hx : Loc X.env.scope x) (he : PE X e te) (hs : swapsWith e (some (.Name x pos')) pos.line X.env = pure false := by rfl) (hf : X.fn x = true ∨ X.env.scope.names.lookup x = some .local := by first | exact .inl rfl | exact .inr rfl | assumption) :
    PS X (.Assign [.Name x pos'] e pos) (tAsg te (gName i)) := by
  intro pins s σ H D I h
  refine wpAny_Assign_Name (thn (he pins s σ H _ I h) fun v s1 ⟨y, H1, I1, r1, q1⟩ => ?_) hs
  exact store_ok I1 hN hi hx r1 (fun s2 I2 => ⟨_, H1, I2, q1⟩) hf
/-- a, b = x, y with plain local names: stored from the right; the pair itself is not tracked (the opening rows as in PyProof/Rows/TupAssign.lean:23) -/
def tPar (i j : Nat) (ta : TA) : TS := fun D σ H => ta σ H fun vs H1 => ∃ v w, vs = [v, w] ∧ D.nx ((σ.set i (some v)).set j (some w)) H1
theorem ps_par {i j : Nat} {x y : Str} {a b : Expr} {ta : TA} {px py pt : Pos} {kt k2 pt2} (hc : X.calm = true) (hN : X.N.Nodup) (hi : X.N[i]? = some x) (hj : X.N[j]? = some y) (hij : i ≠ j)
    (hx : X.env.scope.names.lookup x = some .local) (hy : X.env.scope.names.lookup y = some .local) (ha : PA X [a, b] ta)
    (hw : swappedStores [.Tuple [.Name x px, .Name y py] kt pt] (.Tuple [a, b] k2 pt2) X.env = pure (some [x, y]))
    (hs : swapsWithSole [.Tuple [.Name x px, .Name y py] kt pt] (.Tuple [a, b] k2 pt2) pos.line X.env = pure false := by rfl) :
    PS X (.Assign [.Tuple [.Name x px, .Name y py] kt pt] (.Tuple [a, b] k2 pt2) pos) (tPar i j ta) := by
  intro pins s σ H D I h
  rw [exec_Assign_arm]
  refine wpAny_bind (wpAny_standAt ?_)
  rw [hs]
  refine wpAny_bind (wpAny_pure ?_)
  rw [if_neg (by decide)]
  refine wpAny_bind (Tuple_ (thn (ha _ pins s σ H _ I h) fun us s1 ⟨vs, H1, I1, r1, q1⟩ => ?_))
  obtain ⟨v, w, e1, q1⟩ := q1
  subst e1
  obtain ⟨u1, u2, rfl, rv, rw'⟩ : ∃ u1 u2, us = [u1, u2] ∧ RelV v u1 ∧ RelV w u2 := by
    cases r1 with
    | cons p q =>
      cases q with
      | cons p' q' =>
        cases q'
        exact ⟨_, _, rfl, p, p'⟩
  refine wpAny_newObj_type ?_ (by show 2 ≤ sizeLine; decide)
  have I2 : Inv X pins σ H1 { s1 with heap := s1.heap.push { cls := .type "tuple", data := .seq [u1, u2].toArray } } := I1.kept (t' := s1.toks) fun b o e => Heap.get?_push_of_some _ e
  rw [hw]
  refine wpAny_bind (wpAny_pure ?_)
  show wpAny (model X.prog X.w) X.A (do rule "assign.swapped-stores"; let items ← unpackItems (.ref s1.heap.objs.size) 2 none; assignInOrder [fun v => bindName X.env y v, fun v => bindName X.env x v] items.reverse; pure Flow.next) _ _ _
  refine wpAny_bind (wpAny_rule (wpAny_bind (unpackItems_tuple (items := #[u1, u2]) (I.ok.hd hc) (IsTup.new s1.heap _) fun h' hx' => ?_)))
  have I3 := I2.kept (h' := h') (t' := s1.toks) fun b o e => hx' b o (Nat.ne_of_lt (Heap.lt_size e)) e
  show wpAny _ _ (assignInOrder [fun v => bindName X.env y v, fun v => bindName X.env x v] [u2, u1] >>= fun _ => pure Flow.next) _ _ _
  refine wpAny_bind (assignInOrder_cons (wpAny_bindName (store_ok I3 hN hj (.inl hy) rw' (fun s2 I4 => ?_) (.inr hy))))
  refine assignInOrder_cons (wpAny_bindName (store_ok I4 hN hi (.inl hx) rv (fun s3 I5 => assignInOrder_nil (wpAny_pure ?_)) (.inr hx)))
  rw [List.set_comm _ _ (Ne.symm hij)] at I5
  exact ⟨_, H1, I5, q1⟩
/-- name op= e -/
def tAug (i : Nat) (te : TE) (ti : TIp) : TS := fun D σ H => ∃ x, σ[i]? = some (some x) ∧ te σ H fun y H1 => ti x y H1 fun z H2 => D.nx (σ.set i (some z)) H2
theorem ps_aug {i : Nat} {x : Str} {e : Expr} {te : TE} {op : Operator} {ti : TIp} {pos' : Pos} (hN : X.N.Nodup) (hi : X.N[i]? = some x) (hx : Loc X.env.scope x) (he : PE X e te) (ho : PIp X op ti) (hf : X.fn x = true ∨ X.env.scope.names.lookup x = some .local := by first | exact .inl rfl | exact .inr rfl | assumption) :
    PS X (.AugAssign (.Name x pos') op e pos) (tAug i te ti) := by
  intro pins s σ H D I h
  obtain ⟨v, e1, h⟩ := h
  obtain ⟨m, hn, hl⟩ := I.loc
  have vis : Vis X.env.scope x := by rcases hx with k | k; exact .inl k; exact .inr (.inl k)
  obtain ⟨u, r, l⟩ := hl i x v hi e1 vis
  refine wpAny_AugAssign_Name ?_
  have go : wpAny (model X.prog X.w) X.A (eval e X.env) (fun w s₂ => wpAny (model X.prog X.w) X.A (inplaceOp op u w) (fun r s₃ => wpAny (model X.prog X.w) X.A (storeName X.env x r) (fun _ => SP X pins D .next) X.xe s₃) X.xe s₂) X.xe s := by
    refine thn (he pins s σ H _ I h) fun w s1 ⟨y, H1, I1, r1, q1⟩ => ?_
    refine thn (ho pins s1 σ H1 v y u w _ I1 r r1 q1) fun z s2 ⟨zv, H2, I2, r2, q2⟩ => ?_
    exact store_ok I2 hN hi hx r2 (fun s3 I3 => ⟨_, H2, I3, q2⟩) hf
  rcases l with ⟨hk, hm⟩ | ⟨hk, c, hc, hcell⟩
  · exact wpAny_loadName_local I.ok.kind hk hn hm go
  · rcases hk with hk | hk
    · exact wpAny_loadName_cell I.ok.kind hk hc hcell go
    · rcases hx with k | k
      · have : X.env.scope.names.lookup x = some .free := hk
        rw [k] at this; cases this
      · have : X.env.scope.names.lookup x = some .free := hk
        rw [k] at this; cases this
/-- o[i] op= e -/
def tAugS (to ti te : TE) (tget : V → V → Hp → VK → Prop) (tip : TIp) (tset : TSet) : TS := fun D σ H => to σ H fun o H1 => ti σ H1 fun i H2 => tget o i H2 fun x H3 => te σ H3 fun y H4 => tip x y H4 fun z H5 => tset o i z H5 fun H6 => D.nx σ H6
/-- o[i], by values -/
def PGet (X : Cx) (t : V → V → Hp → VK → Prop) : Prop :=
  ∀ (pins : List (Addr × Obj)) (s : Shared) (σ : St) (H : Hp) (o i : V) (ov iv : Value) (Q : VK), Inv X pins σ H s → RelV o ov → RelV i iv → t o i H Q →
    wpAny (model X.prog X.w) X.A (getItem ov iv) (EP X pins σ Q) X.xe s
theorem ps_augS {o i e : Expr} {to ti te : TE} {tget : V → V → Hp → VK → Prop} {tip : TIp} {tset : TSet} {op : Operator} {tpos : Pos} (ho : PE X o to) (hi : PE X i ti) (hg : PGet X tget) (he : PE X e te) (hp : PIp X op tip) (hs : PSet X tset)
    (ha : ∀ ov iv new, augStore i ov iv new = (do holding [new, ov, iv] (setItem ov iv new); release [new, ov, iv] []; pure .next) := by intros; rfl) : PS X (.AugAssign (.Subscript o i tpos) op e pos) (tAugS to ti te tget tip tset) := by
  intro pins s σ H D I h
  refine wpAny_AugAssign_SubscriptAny (thn (ho pins s σ H _ I h) fun ov s1 ⟨x1, H1, I1, r1, q1⟩ => ?_) ha
  refine thn (hi pins s1 σ H1 _ I1 q1) fun iv s2 ⟨x2, H2, I2, r2, q2⟩ => ?_
  refine thn (hg pins s2 σ H2 x1 x2 ov iv _ I2 r1 r2 q2) fun old s3 ⟨x3, H3, I3, r3, q3⟩ => ?_
  refine thn (he pins s3 σ H3 _ I3 q3) fun v s4 ⟨x4, H4, I4, r4, q4⟩ => ?_
  refine thn (hp pins s4 σ H4 x3 x4 old v _ I4 r3 r4 q4) fun new s5 ⟨x5, H5, I5, r5, q5⟩ => ?_
  exact thn (hs pins s5 σ H5 x1 x2 x5 ov iv new _ I5 r1 r2 r5 q5) fun _ s6 ⟨H6, I6, q6⟩ => ⟨σ, H6, I6, q6⟩
/-- ints -/
def ipI (f : Int → Int → Int) : TIp := fun x y H Q => ∃ i j, x = .int i ∧ y = .int j ∧ Q (.int (f i j)) H
theorem ip_add : PIp X .Add (ipI fun i j => i + j) := by
  intro pins s σ H x y v u Q I r1 r2 h
  obtain ⟨i, j, e1, e2, q⟩ := h
  subst e1; subst e2
  obtain ⟨t, rfl⟩ := r1
  obtain ⟨t', rfl⟩ := r2
  exact iadd_int ⟨.int _, H, I.tok _, ⟨_, rfl⟩, q⟩
theorem ip_sub : PIp X .Sub (ipI fun i j => i - j) := by
  intro pins s σ H x y v u Q I r1 r2 h
  obtain ⟨i, j, e1, e2, q⟩ := h
  subst e1; subst e2
  obtain ⟨t, rfl⟩ := r1
  obtain ⟨t', rfl⟩ := r2
  exact isub_int ⟨.int _, H, I.tok _, ⟨_, rfl⟩, q⟩
end

/-! ### while -/
section
variable {X : Cx} {pos : Pos}
/-- the invariant W with its measure -/
def tWhile (c : TT) (tb : TS) : TS := fun D σ H => ∃ W : Nat → St → Hp → Prop, (∃ m, W m σ H) ∧ ∀ m σ H, W m σ H →
  c σ H fun b H1 => if b = true then ∃ N : St → Hp → Prop, (∀ σ' H', N σ' H' → ∃ m', m' < m ∧ W m' σ' H') ∧ tb { D with nx := N, ct := N, bk := D.nx } σ H1 else D.nx σ H1
theorem ps_while {c : Expr} {body : List Stmt} {tc : TT} {tb : TS} (hp : PassesOwn (model X.prog X.w) X.A X.env X.xe) (hc : PT X c tc) (hb : PSs X body tb) : PS X (.While c body [] pos) (tWhile tc tb) := by
  intro pins s σ H D I h
  obtain ⟨W, ⟨m0, w0⟩, turn⟩ := h
  refine wpAny_While (codeAny_whileLoop (fun n s' => ∃ σ' H', Inv X pins σ' H' s' ∧ W n σ' H') ?_ m0 ⟨σ, H, I, w0⟩)
  rintro n s1 ⟨σ1, H1, I1, w1⟩
  refine wpAny_passesOwn hp (thn (hc pins s1 σ1 H1 _ I1 (turn n σ1 H1 w1)) fun b s2 ⟨H2, I2, q2⟩ => ?_)
  cases b with
  | true =>
    obtain ⟨N, hN, q2⟩ := q2
    rw [if_pos rfl]
    refine wpAny_passesOwn hp (thn (hb pins s2 σ1 H2 _ I2 q2) fun f s3 q3 => ?_)
    cases f with
    | next =>
      obtain ⟨σ3, H3, I3, n3⟩ := q3
      obtain ⟨m', hm, w3⟩ := hN σ3 H3 n3
      exact ⟨m', hm, σ3, H3, I3, w3⟩
    | cont =>
      obtain ⟨σ3, H3, I3, n3⟩ := q3
      obtain ⟨m', hm, w3⟩ := hN σ3 H3 n3
      exact ⟨m', hm, σ3, H3, I3, w3⟩
    | brk => exact q3
    | ret v => exact q3
  | false =>
    rw [if_neg Bool.false_ne_true]
    exact wpAny_execs_nil ⟨σ1, H2, I2, q2⟩
end

/-! ### what a loop or a comprehension walks -/
/-- at turn i: it yields x (the heap may grow), or it stops -/
structure It where
  go : Nat → Hp → Prop
  yld : Nat → Hp → V → Hp → Prop
  stop : Nat → Hp → Prop
/-- the iterator's own objects may turn: they are not the frame's, not pinned, younger than the entry (or a comprehension's own) -/
def FpOk (X : Cx) (pins : List (Addr × Obj)) (H : Hp) (b : Addr) : Prop :=
  H b = none ∧ b ≠ X.env.locals ∧ b ∉ X.fs ∧ (b ∈ X.ex ∨ X.s₀.heap.objs.size ≤ b) ∧ (∀ x c, X.env.cells.lookup x = some c → c ≠ b) ∧ ∀ p ∈ X.pn ++ pins, p.1 ≠ b
theorem Inv.fpOk {X : Cx} {pins : List (Addr × Obj)} {σ : St} {H H' : Hp} {s : Shared} {b : Addr} (I : Inv X pins σ H s) (hb : s.heap.objs.size ≤ b) (hn : H' b = none) : FpOk X pins H' b := by
  refine ⟨hn, Nat.ne_of_gt (Nat.lt_of_lt_of_le I.lt hb), I.nofs hb, .inr (Nat.le_trans I.sz hb), fun x c e z => ?_, fun p hp z => ?_⟩
  · obtain ⟨v, q⟩ := I.cell x c e
    exact absurd (Nat.lt_of_lt_of_le q.lt (by rw [z]; exact hb)) (Nat.lt_irrefl _)
  · exact absurd (Nat.lt_of_lt_of_le (Heap.lt_size (I.pin p hp).1) (by rw [z]; exact hb)) (Nat.lt_irrefl _)
structure Turn (P : Program) (w : World) (K : PySem.W.Frag) (tg : Expr) (J : It) (fp : List Addr) (it : Addr) (tn : Nat → Heap → Prop) : Prop where
  mem : it ∈ fp
  obj : ∀ i h, tn i h → ∀ b ∈ fp, ∃ o, h.get? b = some o ∧ ∀ v, o.data ≠ .cell v
  keep : ∀ i h h', tn i h → (∀ b ∈ fp, ∀ o, h.get? b = some o → h'.get? b = some o) → tn i h'
  item : ∀ (X : Cx), X.prog = P → X.w = w → X.K = K → X.calm = true → ∀ (i : Nat) (pins : List (Addr × Obj)) (s : Shared) (σ : St) (H : Hp) (E : Value → Shared → Prop), Inv X pins σ H s → (∀ b ∈ fp, FpOk X pins H b) → tn i s.heap → J.go i H →
    wpAny (model P w) X.A (pyNext (.ref it)) (fun r s1 => ∃ u, r = some u ∧
      wpAny (model P w) X.A (letOwnedTupleGo tg (.ref it) u) (fun _ s2 => ∃ x H', Inv X pins σ H' s2 ∧ RelV x u ∧ J.yld i H x H' ∧ tn (i + 1) s2.heap ∧ ∀ b ∈ fp, H' b = none) E s1) E s
  done : ∀ (X : Cx), X.prog = P → X.w = w → X.K = K → X.calm = true → ∀ (i : Nat) (pins : List (Addr × Obj)) (s : Shared) (σ : St) (H : Hp) (E : Value → Shared → Prop), Inv X pins σ H s → (∀ b ∈ fp, FpOk X pins H b) → tn i s.heap → J.stop i H →
    wpAny (model P w) X.A (pyNext (.ref it)) (fun r s1 => r = none ∧ Inv X pins σ H s1) E s
  self : ∀ (A : Around) (i : Nat) (s : Shared) (Q : Value → Shared → Prop) (E : Value → Shared → Prop), tn i s.heap → Q (.ref it) s → wpAny (model P w) A (pyIter (.ref it)) Q E s
abbrev TI := St → Hp → (It → Hp → Prop) → Prop
/-- an iterator has come -/
def PIE (X : Cx) (pins : List (Addr × Obj)) (σ : St) (tg : Expr) (R : It → Hp → Prop) (itv : Value) (s2 : Shared) : Prop :=
  ∃ (it : Addr) (fp : List Addr) (tn : Nat → Heap → Prop) (J : It) (H' : Hp), itv = .ref it ∧ Inv X pins σ H' s2 ∧ Turn X.prog X.w X.K tg J fp it tn ∧ tn 0 s2.heap ∧ (∀ b ∈ fp, FpOk X pins H' b) ∧ R J H'
def PI (X : Cx) (tg iter : Expr) (wi : TI) : Prop :=
  ∀ (pins : List (Addr × Obj)) (s : Shared) (σ : St) (H : Hp) (R : It → Hp → Prop), Inv X pins σ H s → wi σ H R →
    wpAny (model X.prog X.w) X.A (eval iter X.env) (fun v s1 => wpAny (model X.prog X.w) X.A (pyIter v) (PIE X pins σ tg R) X.xe s1) X.xe s

/-- the step ahead of the store is nothing for an iterator that keeps no tuple -/
theorem go_of {M : Model} {A : Around} {E : Value → Shared → Prop} {s : Shared} {tg : Expr} {it : Addr} {u : Value} {o : Obj} {n : String} {vs : Array Value} {Q : Unit → Shared → Prop} (ho : s.heap.get? it = some o) (hc : o.cls = .type n) (hd : o.data = .fields vs)
    (hn : ["enumerate", "zip", "dict_itemiterator", "dict_reverseitemiterator", "odict_iterator", "itertools.zip_longest", "itertools.pairwise"].contains n = false) (hQ : Q () s) : wpAny M A (letOwnedTupleGo tg (.ref it) u) Q E s := by
  unfold letOwnedTupleGo
  cases tg <;> first
    | exact wpAny_pure hQ
    | (cases u <;> first
        | exact wpAny_pure hQ
        | (refine wpAny_bind (wpAny_load ho ?_)
           rw [hc, hd]
           show wpAny M A (if (["enumerate", "zip", "dict_itemiterator", "dict_reverseitemiterator", "odict_iterator", "itertools.zip_longest", "itertools.pairwise"].contains n && vs[0]? == some (rawInt _)) = true then _ else _) Q E s
           rw [if_neg (by intro h; rw [hn, Bool.false_and] at h; cases h)]
           exact wpAny_pure hQ))

/-- the list at a, as it stands at each turn (a loop may append to it) -/
def Itl (K : PySem.W.Frag) (a : Addr) : It :=
  ⟨fun i H => ∃ xs x, SqL K H a xs ∧ xs[i]? = some x, fun i H x H' => H' = H ∧ ∀ xs, SqL K H a xs → xs[i]? = some x, fun i H => ∃ xs, SqL K H a xs ∧ xs.length ≤ i⟩
def Itt (K : PySem.W.Frag) (a : Addr) : It :=
  ⟨fun i H => ∃ xs x, SqT K H a xs ∧ xs[i]? = some x, fun i H x H' => H' = H ∧ ∀ xs, SqT K H a xs → xs[i]? = some x, fun i H => ∃ xs, SqT K H a xs ∧ xs.length ≤ i⟩
/-- lo, lo + 1, .. (n of them) -/
def Itr (lo : Int) (n : Nat) : It := ⟨fun i _ => i < n, fun i H x H' => H' = H ∧ x = .int (lo + i), fun i _ => n ≤ i⟩
theorem turn_list {P : Program} {w : World} {K : PySem.W.Frag} {tg : Expr} (a it : Addr) : Turn P w K tg (Itl K a) [it] it (fun i h => h.IsListIter it a i) where
  mem := by simp
  obj := fun i h st b hb => by
    have e : b = it := by simpa using hb
    subst e
    obtain ⟨o, e, c, d⟩ := st
    exact ⟨o, e, fun v z => by rw [d] at z; cases z⟩
  keep := fun i h h' st k => st.at fun o e => k it (by simp) o e
  item := by
    intro X hP hw hK hc i pins s σ H E I hf st hg
    subst hP hw hK
    obtain ⟨xs, x, hq, hx⟩ := hg
    obtain ⟨its, rv, p, hz⟩ := I.list hq
    obtain ⟨u, hu, ru⟩ := rv.get hx
    obtain ⟨f0, f1, f2, f3, f4, f5⟩ := hf it (by simp)
    refine wpAny_pyNext_list_item st p.isList (x := u) (by simpa using hu) fun h' st' sb => ?_
    have I1 : Inv X pins σ H { s with heap := h' } := I.turned (t' := s.toks) (fun b o hb e => (sb.2 b hb).trans e) f0 f1 f3 f4 f5
    obtain ⟨o, e, c, d⟩ := id st'
    exact ⟨u, rfl, go_of (s := { s with heap := h' }) e c d (by decide) ⟨x, H, I1, ru, ⟨rfl, fun ys hy => by rw [I.list_inj hy hq]; exact hx⟩, st', fun b hb => (hf b hb).1⟩⟩
  done := by
    intro X hP hw hK hc i pins s σ H E I hf st hg
    subst hP hw hK
    obtain ⟨xs, hq, hx⟩ := hg
    obtain ⟨its, rv, p, hz⟩ := I.list hq
    obtain ⟨f0, f1, f2, f3, f4, f5⟩ := hf it (by simp)
    have hl := rv.length
    exact wpAny_pyNext_list_end (I.ok.hd hc) st p.isList (by simp; omega) fun h' eb => ⟨rfl, I.turned (t' := s.toks) (fun b o hb e => eb b o hb e) f0 f1 f3 f4 f5⟩
  self := fun _ _ _ _ _ st h => wpAny_pyIter_listiter st h
theorem turn_tuple {P : Program} {w : World} {K : PySem.W.Frag} {tg : Expr} (a it : Addr) : Turn P w K tg (Itt K a) [it] it (fun i h => h.IsTupleIter it a i) where
  mem := by simp
  obj := fun i h st b hb => by
    have e : b = it := by simpa using hb
    subst e
    obtain ⟨o, e, c, d⟩ := st
    exact ⟨o, e, fun v z => by rw [d] at z; cases z⟩
  keep := fun i h h' st k => st.at fun o e => k it (by simp) o e
  item := by
    intro X hP hw hK hc i pins s σ H E I hf st hg
    subst hP hw hK
    obtain ⟨xs, x, hq, hx⟩ := hg
    obtain ⟨its, rv, p, hz⟩ := I.tuple hq
    obtain ⟨u, hu, ru⟩ := rv.get hx
    obtain ⟨f0, f1, f2, f3, f4, f5⟩ := hf it (by simp)
    refine wpAny_pyNext_tuple_item st (show s.heap.IsTuple a its.toArray from p) (x := u) (by simpa using hu) fun h' st' sb => ?_
    have I1 : Inv X pins σ H { s with heap := h' } := I.turned (t' := s.toks) (fun b o hb e => (sb.2 b hb).trans e) f0 f1 f3 f4 f5
    obtain ⟨o, e, c, d⟩ := id st'
    exact ⟨u, rfl, go_of (s := { s with heap := h' }) e c d (by decide) ⟨x, H, I1, ru, ⟨rfl, fun ys hy => by rw [I.tuple_inj hy hq]; exact hx⟩, st', fun b hb => (hf b hb).1⟩⟩
  done := by
    intro X hP hw hK hc i pins s σ H E I hf st hg
    subst hP hw hK
    obtain ⟨xs, hq, hx⟩ := hg
    obtain ⟨its, rv, p, hz⟩ := I.tuple hq
    obtain ⟨f0, f1, f2, f3, f4, f5⟩ := hf it (by simp)
    have hl := rv.length
    exact wpAny_pyNext_tuple_end (I.ok.hd hc) st (show s.heap.IsTuple a its.toArray from p) (by simp; omega) fun h' eb => ⟨rfl, I.turned (t' := s.toks) (fun b o hb e => eb b o hb e) f0 f1 f3 f4 f5⟩
  self := fun _ _ _ _ _ st h => wpAny_pyIter_tupleiter st h
theorem turn_range {P : Program} {w : World} {K : PySem.W.Frag} {tg : Expr} (it : Addr) (lo : Int) (n : Nat) : Turn P w K tg (Itr lo n) [it] it (fun i h => IsRangeIter h it (lo + (i : Nat) * 1) ((n : Int) - (i : Nat)) 1) where
  mem := by simp
  obj := fun i h st b hb => by
    have e : b = it := by simpa using hb
    subst e
    exact ⟨_, st, fun v z => by
      have z' : Data.fields _ = Data.cell v := z
      cases z'⟩
  keep := fun i h h' st k => k it (by simp) _ st
  item := by
    intro X hP hw hK hc i pins s σ H E I hf st hg
    subst hP hw hK
    obtain ⟨f0, f1, f2, f3, f4, f5⟩ := hf it (by simp)
    have W := Walks.range (prog := X.prog) (w := X.w) (I.ok.hd hc) it lo 1 n
    refine W.item i s _ _ hg st fun v h' tk hv st' kk => ?_
    obtain ⟨t, rfl⟩ := hv
    have I1 : Inv X pins σ H { s with heap := h', toks := tk } := I.turned (fun b o hb e => kk b o (by simpa using hb) e) f0 f1 f3 f4 f5
    refine ⟨_, rfl, go_of (s := { s with heap := h', toks := tk }) (n := "range_iterator") st' rfl rfl (by decide) ⟨.int (lo + i), H, I1, ⟨t, ?_⟩, ⟨rfl, rfl⟩, st', fun b hb => (hf b hb).1⟩⟩
    rw [Int.mul_one]
  done := by
    intro X hP hw hK hc i pins s σ H E I hf st hg
    subst hP hw hK
    obtain ⟨f0, f1, f2, f3, f4, f5⟩ := hf it (by simp)
    exact wpAny_pyNext_range_end (I.ok.hd hc) st (by have : n ≤ i := hg; omega) fun h' eb => ⟨rfl, I.turned (t' := s.toks) (fun b o hb e => eb b o hb e) f0 f1 f3 f4 f5⟩
  self := fun _ _ _ _ _ st h => wpAny_pyIter_rangeiter st h
end L2

namespace L2
open PySem PySem.Spec PyProof.Rows
section
variable {X : Cx} {tg : Expr}
def iList (K : PySem.W.Frag) (tl : TE) : TI := fun σ H R => tl σ H fun x H1 => ∃ a, x = .ref a ∧ (∃ xs, SqL K H1 a xs) ∧ R (Itl K a) H1
def iTup (K : PySem.W.Frag) (tl : TE) : TI := fun σ H R => tl σ H fun x H1 => ∃ a, x = .ref a ∧ (∃ xs, SqT K H1 a xs) ∧ R (Itt K a) H1
theorem pi_list {l : Expr} {tl : TE} (hl : PE X l tl) : PI X tg l (iList X.K tl) := by
  intro pins s σ H R I h
  refine thn (hl pins s σ H _ I h) fun v s1 ⟨x, H1, I1, r1, q1⟩ => ?_
  obtain ⟨a, e, ⟨xs, hq⟩, q⟩ := q1
  subst e
  cases r1
  obtain ⟨its, rv, p, hz⟩ := I1.list hq
  refine wpAny_pyIter_list p.isList ?_
  refine ⟨s1.heap.objs.size, [s1.heap.objs.size], _, _, H1, rfl, I1.kept (t' := s1.toks) fun b o e => Heap.get?_push_of_some _ e, turn_list a _, ⟨_, Heap.get?_push_size _ rfl, rfl, rfl⟩, fun b hb => ?_, q⟩
  have e : b = s1.heap.objs.size := by simpa using hb
  subst e
  exact I1.fpOk (Nat.le_refl _) (I1.hok.fresh (Nat.le_refl _))
theorem pi_tup {l : Expr} {tl : TE} (hl : PE X l tl) : PI X tg l (iTup X.K tl) := by
  intro pins s σ H R I h
  refine thn (hl pins s σ H _ I h) fun v s1 ⟨x, H1, I1, r1, q1⟩ => ?_
  obtain ⟨a, e, ⟨xs, hq⟩, q⟩ := q1
  subst e
  cases r1
  obtain ⟨its, rv, p, hz⟩ := I1.tuple hq
  refine wpAny_pyIter_tuple (show s1.heap.IsTuple a its.toArray from p) ?_
  refine ⟨s1.heap.objs.size, [s1.heap.objs.size], _, _, H1, rfl, I1.kept (t' := s1.toks) fun b o e => Heap.get?_push_of_some _ e, turn_tuple a _, ⟨_, Heap.get?_push_size _ rfl, rfl, rfl⟩, fun b hb => ?_, q⟩
  have e : b = s1.heap.objs.size := by simpa using hb
  subst e
  exact I1.fpOk (Nat.le_refl _) (I1.hok.fresh (Nat.le_refl _))
/-- a range object just made, walked -/
theorem range_it {pins : List (Addr × Obj)} {σ : St} {H : Hp} {s : Shared} {R : It → Hp → Prop} {E : Value → Shared → Prop} {lo hi : Int} {t u v : Tok} {tk : Nat} (I : Inv X pins σ H s) (h1 : -(2 ^ 62) ≤ lo) (h2 : lo < 2 ^ 62) (h3 : -(2 ^ 62) ≤ hi) (h4 : hi < 2 ^ 62)
    (q : R (Itr lo (hi - lo).toNat) H) : wpAny (model X.prog X.w) X.A (pyIter (.ref s.heap.objs.size)) (PIE X pins σ tg R) E { s with heap := s.heap.push { cls := .type "range", data := .fields #[.int lo t, .int hi u, .int 1 v] }, toks := tk } := by
  refine wpAny_pyIter_range (IsRange.new ..) (small_one h1 h2 h3 h4) ?_
  have I1 : Inv X pins σ H { s with heap := s.heap.push { cls := .type "range", data := .fields #[.int lo t, .int hi u, .int 1 v] }, toks := tk } := I.kept fun b o e => Heap.get?_push_of_some _ e
  refine ⟨(s.heap.push { cls := .type "range", data := .fields #[.int lo t, .int hi u, .int 1 v] }).objs.size, [(s.heap.push { cls := .type "range", data := .fields #[.int lo t, .int hi u, .int 1 v] }).objs.size], _, _, H, rfl,
    I1.kept (t' := tk) fun b o e => Heap.get?_push_of_some _ e, turn_range _ lo (hi - lo).toNat, ?_, fun b hb => ?_, q⟩
  · have e1 : lo + ((0 : Nat) : Int) * 1 = lo := by simp
    have e2 : (((hi - lo).toNat : Nat) : Int) - ((0 : Nat) : Int) = Builtin.Range.rangeSize lo hi 1 := by rw [rangeSize_one]; split <;> omega
    show IsRangeIter _ _ (lo + ((0 : Nat) : Int) * 1) ((((hi - lo).toNat : Nat) : Int) - ((0 : Nat) : Int)) 1
    rw [e1, e2]
    exact Heap.get?_push_size _ rfl
  · have e : b = (s.heap.push { cls := .type "range", data := .fields #[.int lo t, .int hi u, .int 1 v] }).objs.size := by simpa using hb
    subst e
    exact I1.fpOk (Nat.le_refl _) (I1.hok.fresh (Nat.le_refl _))
def iRng1 (ta : TA) : TI := fun σ H R => ta σ H fun vs H1 => ∃ j : Int, vs = [.int j] ∧ -(2 ^ 62) ≤ j ∧ j < 2 ^ 62 ∧ R (Itr 0 j.toNat) H1
def iRng2 (ta : TA) : TI := fun σ H R => ta σ H fun vs H1 => ∃ i j : Int, vs = [.int i, .int j] ∧ (-(2 ^ 62) ≤ i ∧ i < 2 ^ 62 ∧ -(2 ^ 62) ≤ j ∧ j < 2 ^ 62) ∧ R (Itr i (j - i).toNat) H1
theorem pi_range1 {a : Expr} {ta : TA} {p pos : Pos} (hg : Gl X "range") (hm : X.mg "range" = none) (ha : PA X [a] ta) (hs : starEach [a] X.env = [(false, eval a X.env)] := by rfl) : PI X tg (.Call (.Name "range" p) [a] [] pos) (iRng1 ta) := by
  intro pins s σ H R I h
  refine Call_ (ld_blt I hg hm boot_range (PyProof.Rows.callWith_type1 (thn (ha pos pins s σ H _ I h) fun us s1 ⟨vs, H1, I1, r1, q1⟩ => ?_) hs rfl))
  obtain ⟨j, e, q1, q2, q⟩ := q1
  subst e
  cases r1 with
  | cons r rr =>
    cases rr
    obtain ⟨t, rfl⟩ := r
    exact call_range_1 (range_it I1 (by omega) (by omega) q1 q2 (by simpa using q))
/-! ### for -/
/-- W: the invariant by the turn and a measure; N: what the body is to reach -/
def tFor (wi : TI) (g : TG) (tb : TS) : TS := fun D σ H => wi σ H fun J H1 => ∃ W : Nat → Nat → St → Hp → Prop, (∃ m, W 0 m σ H1) ∧ ∀ i m σ H, W i m σ H →
  (J.stop i H ∧ D.nx σ H) ∨ (J.go i H ∧ ∃ N : St → Hp → Prop, (∀ σ' H', N σ' H' → ∃ m', m' < m ∧ W (i + 1) m' σ' H') ∧ ∀ x H', J.yld i H x H' → g x σ H' fun σ2 H2 => tb { D with nx := N, ct := N, bk := D.nx } σ2 H2)
/-- the records at fp as they stand -/
def pinsAt (fp : List Addr) (h : Heap) : List (Addr × Obj) := fp.filterMap fun b => (h.get? b).map fun o => (b, o)
theorem mem_pinsAt {fp : List Addr} {h : Heap} {b : Addr} {o : Obj} (hb : b ∈ fp) (e : h.get? b = some o) : (b, o) ∈ pinsAt fp h := List.mem_filterMap.mpr ⟨b, hb, by rw [e]; rfl⟩
theorem of_pinsAt {fp : List Addr} {h : Heap} {p : Addr × Obj} (hp : p ∈ pinsAt fp h) : p.1 ∈ fp ∧ h.get? p.1 = some p.2 := by
  obtain ⟨b, hb, e⟩ := List.mem_filterMap.mp hp
  cases q : h.get? b with
  | none => rw [q] at e; cases e
  | some o =>
    rw [q] at e
    have e' : (b, o) = p := Option.some.inj e
    subst e'
    exact ⟨hb, q⟩
theorem Inv.pinned {pins : List (Addr × Obj)} {σ : St} {H : Hp} {s : Shared} {fp : List Addr} (I : Inv X pins σ H s) (hf : ∀ b ∈ fp, FpOk X pins H b) (ho : ∀ b ∈ fp, ∃ o, s.heap.get? b = some o ∧ ∀ v, o.data ≠ .cell v) : Inv X (pins ++ pinsAt fp s.heap) σ H s :=
  I.pins_of fun p hp => (List.mem_append.mp hp).elim (fun z => I.pin p (List.mem_append_right _ z)) fun z => by
    obtain ⟨hb, e⟩ := of_pinsAt z
    obtain ⟨f0, f1, f2, _⟩ := hf p.1 hb
    obtain ⟨o, e', d⟩ := ho p.1 hb
    rw [e] at e'; cases e'
    exact ⟨e, f0, f1, f2, d⟩
theorem Inv.unpinned {pins pl : List (Addr × Obj)} {σ : St} {H : Hp} {s : Shared} (I : Inv X (pins ++ pl) σ H s) : Inv X pins σ H s := I.pins_of fun p hp => I.pin p (List.mem_append_right _ (List.mem_append_left _ hp))
theorem ps_for {iter : Expr} {body : List Stmt} {wi : TI} {g : TG} {tb : TS} {pos : Pos} (hp : PassesOwn (model X.prog X.w) X.A X.env X.xe) (hc : X.calm = true) (hi : PI X tg iter wi) (hg : PG X tg g) (hb : PSs X body tb)
    (hs : ∀ x, foldedSetIterable iter X.env x = pure x := by intro _; rfl) : PS X (.For tg iter body [] pos) (tFor wi g tb) := by
  intro pins s σ H D I h
  refine wpAny_For (thn (hi pins s σ H _ I h) fun v s1 h1 => thn h1 fun itv s2 h2 => ?_) hs
  obtain ⟨it, fp, tn, J, H2, e, I2, T, st2, f2, W, ⟨m0, w0⟩, turn⟩ := h2
  subst e
  -- what stays true of the iterator's objects through the loop
  have stat : ∀ {H' : Hp}, (∀ b ∈ fp, H' b = none) → ∀ b ∈ fp, FpOk X pins H' b := fun hn b hb => ⟨hn b hb, (f2 b hb).2⟩
  refine codeAny_forLoop_any (fun n s' => ∃ i σ' H', Inv X pins σ' H' s' ∧ tn i s'.heap ∧ (∀ b ∈ fp, H' b = none) ∧ W i n σ' H') ?_ m0 ⟨0, σ, H2, I2, st2, fun b hb => (f2 b hb).1, w0⟩
  rintro n s3 ⟨i, σ3, H3, I3, st3, fr3, w3⟩
  rcases turn i n σ3 H3 w3 with ⟨stop, qn⟩ | ⟨go, N, hN, step⟩
  · refine wpAny_passesOwn hp (thn (T.done X rfl rfl rfl hc i pins s3 σ3 H3 X.xe I3 (stat fr3) st3 stop) fun r s4 ⟨hr, I4⟩ => ?_)
    subst hr
    exact wpAny_execs_nil ⟨σ3, H3, I4, qn⟩
  · refine wpAny_passesOwn hp (thn (T.item X rfl rfl rfl hc i pins s3 σ3 H3 X.xe I3 (stat fr3) st3 go) fun r s4 ⟨u, hr, h4⟩ => ?_)
    subst hr
    refine wpAny_passesOwn hp (thn h4 fun _ s5 ⟨x, H5, I5, r5, y5, st5, fr5⟩ => ?_)
    have I5' := I5.pinned (stat fr5) (T.obj _ _ st5)
    refine wpAny_passesOwn hp (thn (hg _ s5 σ3 H5 x u _ I5' r5 (step x H5 y5)) fun _ s6 ⟨σ6, H6, I6, q6⟩ => ?_)
    refine wpAny_passesOwn hp (thn (hb _ s6 σ6 H6 _ I6 q6) fun f s7 q7 => ?_)
    have again : ∀ {σ7 : St} {H7 : Hp}, Inv X (pins ++ pinsAt fp s5.heap) σ7 H7 s7 → N σ7 H7 → ∃ m, m < n ∧ ∃ i σ' H', Inv X pins σ' H' s7 ∧ tn i s7.heap ∧ (∀ b ∈ fp, H' b = none) ∧ W i m σ' H' := fun {σ7 H7} I7 n7 => by
      obtain ⟨m', hm, w7⟩ := hN σ7 H7 n7
      refine ⟨m', hm, i + 1, σ7, H7, I7.unpinned, T.keep _ _ _ st5 fun b hb o e => (I7.pin (b, o) (List.mem_append_right _ (List.mem_append_right _ (mem_pinsAt hb e)))).1, fun b hb => ?_, w7⟩
      obtain ⟨o, e, d⟩ := T.obj _ _ st5 b hb
      exact (I7.pin (b, o) (List.mem_append_right _ (List.mem_append_right _ (mem_pinsAt hb e)))).2.1
    cases f with
    | next => obtain ⟨σ7, H7, I7, n7⟩ := q7; exact again I7 n7
    | cont => obtain ⟨σ7, H7, I7, n7⟩ := q7; exact again I7 n7
    | brk => obtain ⟨σ7, H7, I7, q7⟩ := q7; exact ⟨σ7, H7, I7.unpinned, q7⟩
    | ret v => obtain ⟨x7, σ7, H7, I7, r7, q7⟩ := q7; exact ⟨x7, σ7, H7, I7.unpinned, r7, q7⟩
end

/-! ### the forms one uses -/
/-- over a list that the body leaves as it is -/
theorem for_list {K : PySem.W.Frag} {a : Addr} {xs : List V} {g : TG} {tb : TS} {D : Ends} {σ : St} {H : Hp} (Pv : Nat → St → Hp → Prop) (h0 : Pv 0 σ H) (hl : ∀ i σ H, i ≤ xs.length → Pv i σ H → SqL K H a xs)
    (hs : ∀ i x σ H, xs[i]? = some x → Pv i σ H → g x σ H fun σ2 H2 => tb { D with nx := Pv (i + 1), ct := Pv (i + 1), bk := D.nx } σ2 H2) (hd : ∀ σ H, Pv xs.length σ H → D.nx σ H) :
    ∃ W : Nat → Nat → St → Hp → Prop, (∃ m, W 0 m σ H) ∧ ∀ i m σ H, W i m σ H →
      ((Itl K a).stop i H ∧ D.nx σ H) ∨ ((Itl K a).go i H ∧ ∃ N : St → Hp → Prop, (∀ σ' H', N σ' H' → ∃ m', m' < m ∧ W (i + 1) m' σ' H') ∧ ∀ x H', (Itl K a).yld i H x H' → g x σ H' fun σ2 H2 => tb { D with nx := N, ct := N, bk := D.nx } σ2 H2) := by
  refine ⟨fun i m σ H => m = xs.length - i ∧ i ≤ xs.length ∧ Pv i σ H, ⟨xs.length, by simp, Nat.zero_le _, h0⟩, ?_⟩
  rintro i m σ H ⟨rfl, hi, p⟩
  have q := hl i σ H hi p
  by_cases hlt : i < xs.length
  · refine .inr ⟨⟨xs, xs[i], q, by simp [hlt]⟩, Pv (i + 1), fun σ' H' p' => ⟨xs.length - (i + 1), by omega, rfl, hlt, p'⟩, fun x H' y => ?_⟩
    obtain ⟨e, y⟩ := y
    subst e
    exact hs i x σ _ (y xs q) p
  · have e : i = xs.length := by omega
    subst e
    exact .inl ⟨⟨xs, q, Nat.le_refl _⟩, hd σ H p⟩
theorem for_tup {K : PySem.W.Frag} {a : Addr} {xs : List V} {g : TG} {tb : TS} {D : Ends} {σ : St} {H : Hp} (Pv : Nat → St → Hp → Prop) (h0 : Pv 0 σ H) (hl : ∀ i σ H, i ≤ xs.length → Pv i σ H → SqT K H a xs)
    (hs : ∀ i x σ H, xs[i]? = some x → Pv i σ H → g x σ H fun σ2 H2 => tb { D with nx := Pv (i + 1), ct := Pv (i + 1), bk := D.nx } σ2 H2) (hd : ∀ σ H, Pv xs.length σ H → D.nx σ H) :
    ∃ W : Nat → Nat → St → Hp → Prop, (∃ m, W 0 m σ H) ∧ ∀ i m σ H, W i m σ H →
      ((Itt K a).stop i H ∧ D.nx σ H) ∨ ((Itt K a).go i H ∧ ∃ N : St → Hp → Prop, (∀ σ' H', N σ' H' → ∃ m', m' < m ∧ W (i + 1) m' σ' H') ∧ ∀ x H', (Itt K a).yld i H x H' → g x σ H' fun σ2 H2 => tb { D with nx := N, ct := N, bk := D.nx } σ2 H2) := by
  refine ⟨fun i m σ H => m = xs.length - i ∧ i ≤ xs.length ∧ Pv i σ H, ⟨xs.length, by simp, Nat.zero_le _, h0⟩, ?_⟩
  rintro i m σ H ⟨rfl, hi, p⟩
  have q := hl i σ H hi p
  by_cases hlt : i < xs.length
  · refine .inr ⟨⟨xs, xs[i], q, by simp [hlt]⟩, Pv (i + 1), fun σ' H' p' => ⟨xs.length - (i + 1), by omega, rfl, hlt, p'⟩, fun x H' y => ?_⟩
    obtain ⟨e, y⟩ := y
    subst e
    exact hs i x σ _ (y xs q) p
  · have e : i = xs.length := by omega
    subst e
    exact .inl ⟨⟨xs, q, Nat.le_refl _⟩, hd σ H p⟩
theorem for_range {lo : Int} {n : Nat} {g : TG} {tb : TS} {D : Ends} {σ : St} {H : Hp} (Pv : Nat → St → Hp → Prop) (h0 : Pv 0 σ H)
    (hs : ∀ i σ H, i < n → Pv i σ H → g (.int (lo + i)) σ H fun σ2 H2 => tb { D with nx := Pv (i + 1), ct := Pv (i + 1), bk := D.nx } σ2 H2) (hd : ∀ σ H, Pv n σ H → D.nx σ H) :
    ∃ W : Nat → Nat → St → Hp → Prop, (∃ m, W 0 m σ H) ∧ ∀ i m σ H, W i m σ H →
      ((Itr lo n).stop i H ∧ D.nx σ H) ∨ ((Itr lo n).go i H ∧ ∃ N : St → Hp → Prop, (∀ σ' H', N σ' H' → ∃ m', m' < m ∧ W (i + 1) m' σ' H') ∧ ∀ x H', (Itr lo n).yld i H x H' → g x σ H' fun σ2 H2 => tb { D with nx := N, ct := N, bk := D.nx } σ2 H2) := by
  refine ⟨fun i m σ H => m = n - i ∧ i ≤ n ∧ Pv i σ H, ⟨n, by simp, Nat.zero_le _, h0⟩, ?_⟩
  rintro i m σ H ⟨rfl, hi, p⟩
  by_cases hlt : i < n
  · refine .inr ⟨hlt, Pv (i + 1), fun σ' H' p' => ⟨n - (i + 1), by omega, rfl, hlt, p'⟩, fun x H' y => ?_⟩
    obtain ⟨e, y⟩ := y
    subst e y
    exact hs i σ _ hlt p
  · have e : i = n := by omega
    subst e
    exact .inl ⟨Nat.le_refl _, hd σ H p⟩
end L2

namespace L2
open PySem PySem.Spec PyProof.Rows

abbrev R2 := V → V → Hp → VK → Prop
/-- a two-place operation on values: f is binaryOp op, inplaceOp op or compareOp op -/
def OpR (X : Cx) (f : Value → Value → Sem Value) (r : R2) : Prop :=
  ∀ (pins : List (Addr × Obj)) (s : Shared) (σ : St) (H : Hp) (x y : V) (v u : Value) (Q : VK), Inv X pins σ H s → RelV x v → RelV y u → r x y H Q →
    wpAny (model X.prog X.w) X.A (f v u) (EP X pins σ Q) X.xe s
/-- a one-place operation -/
def UnR (X : Cx) (f : Value → Sem Value) (r : V → Hp → VK → Prop) : Prop :=
  ∀ (pins : List (Addr × Obj)) (s : Shared) (σ : St) (H : Hp) (x : V) (v : Value) (Q : VK), Inv X pins σ H s → RelV x v → r x H Q →
    wpAny (model X.prog X.w) X.A (f v) (EP X pins σ Q) X.xe s
/-- a call of a value that is known (a builtin, a type) with values -/
def CallR (X : Cx) (f : Value) (r : List V → Hp → VK → Prop) : Prop :=
  ∀ (pins : List (Addr × Obj)) (s : Shared) (σ : St) (H : Hp) (xs : List V) (us : List Value) (Q : VK), Inv X pins σ H s → Vals xs us → r xs H Q →
    wpAny (model X.prog X.w) X.A (call f us) (EP X pins σ Q) X.xe s
def tOp (r : R2) (ta tb : TE) : TE := fun σ H Q => ta σ H fun x H1 => tb σ H1 fun y H2 => r x y H2 Q
def tUn (r : V → Hp → VK → Prop) (ta : TE) : TE := fun σ H Q => ta σ H fun x H1 => r x H1 Q
/-- ints in, under C, and a value out -/
def rI (C : Int → Int → Prop) (g : Int → Int → V) : R2 := fun x y H Q => ∃ i j, x = .int i ∧ y = .int j ∧ C i j ∧ Q (g i j) H
def rI0 (g : Int → Int → V) : R2 := fun x y H Q => ∃ i j, x = .int i ∧ y = .int j ∧ Q (g i j) H
def rU (g : Int → V) : V → Hp → VK → Prop := fun x H Q => ∃ i, x = .int i ∧ Q (g i) H

section
variable {X : Cx} {a b c : Expr} {ta tb tc : TE} {pos : Pos}

theorem binT (ha : PE X a ta) (hb : PE X b tb) {pins : List (Addr × Obj)} {s : Shared} {σ : St} {H : Hp} {R : V → V → Hp → Prop} (I : Inv X pins σ H s)
    (h : ta σ H fun x H1 => tb σ H1 fun y H2 => R x y H2) {Q : Value → Shared → Prop} {f : Value → Value → Sem Value}
    (hf : ∀ v u s2 x y H2, Inv X pins σ H2 s2 → RelV x v → RelV y u → R x y H2 → wpAny (model X.prog X.w) X.A (f v u) Q X.xe s2) :
    wpAny (model X.prog X.w) X.A (eval a X.env) (fun v s₁ => wpAny (model X.prog X.w) X.A (eval b X.env) (fun u s₂ => wpAny (model X.prog X.w) X.A (f v u) Q X.xe s₂) X.xe s₁) X.xe s := by
  refine thn (ha pins s σ H _ I h) fun v s1 ⟨x, H1, I1, r1, q1⟩ => ?_
  refine thn (hb pins s1 σ H1 _ I1 q1) fun u s2 ⟨y, H2, I2, r2, q2⟩ => ?_
  exact hf v u s2 x y H2 I2 r1 r2 q2

theorem pe_op {op : Operator} {r : R2} (ho : OpR X (binaryOp op) r) (ha : PE X a ta) (hb : PE X b tb) : PE X (.BinOp a op b pos) (tOp r ta tb) := by
  intro pins s σ H Q I h
  exact wpAny_BinOp (binT ha hb I h fun v u s2 x y H2 I2 rx ry q => ho pins s2 σ H2 x y v u Q I2 rx ry q)
theorem pe_un {op : UnaryOp} {r : V → Hp → VK → Prop} (ho : UnR X (unaryOp op) r) (ha : PE X a ta) : PE X (.UnaryOp op a pos) (tUn r ta) := by
  intro pins s σ H Q I h
  exact UnaryOp_ (thn (ha pins s σ H _ I h) fun v s1 ⟨x, H1, I1, r1, q1⟩ => ho pins s1 σ H1 x v Q I1 r1 q1)
/-! ### ints -/
theorem opI {f : Value → Value → Sem Value} {C : Int → Int → Prop} {g : Int → Int → Int}
    (rule : ∀ (i j : Int) (t u : Tok) (s : Shared) (Q : Value → Shared → Prop) (E : Value → Shared → Prop), C i j → Q (.int (g i j) s.toks) { s with toks := s.toks + 1 } → wpAny (model X.prog X.w) X.A (f (.int i t) (.int j u)) Q E s) :
    OpR X f (rI C fun i j => .int (g i j)) := by
  intro pins s σ H x y v u Q I rx ry h
  obtain ⟨i, j, rfl, rfl, hc, q⟩ := h
  obtain ⟨t, rfl⟩ := rx
  obtain ⟨t', rfl⟩ := ry
  exact rule i j t t' s _ _ hc ⟨.int (g i j), H, I.tok _, ⟨_, rfl⟩, q⟩
theorem opI0 {f : Value → Value → Sem Value} {g : Int → Int → Int}
    (rule : ∀ (i j : Int) (t u : Tok) (s : Shared) (Q : Value → Shared → Prop) (E : Value → Shared → Prop), Q (.int (g i j) s.toks) { s with toks := s.toks + 1 } → wpAny (model X.prog X.w) X.A (f (.int i t) (.int j u)) Q E s) :
    OpR X f (rI0 fun i j => .int (g i j)) := by
  intro pins s σ H x y v u Q I rx ry h
  obtain ⟨i, j, rfl, rfl, q⟩ := h
  obtain ⟨t, rfl⟩ := rx
  obtain ⟨t', rfl⟩ := ry
  exact rule i j t t' s _ _ ⟨.int (g i j), H, I.tok _, ⟨_, rfl⟩, q⟩
theorem opB0 {f : Value → Value → Sem Value} {g : Int → Int → Bool}
    (rule : ∀ (i j : Int) (t u : Tok) (s : Shared) (Q : Value → Shared → Prop) (E : Value → Shared → Prop), Q (.bool (g i j)) s → wpAny (model X.prog X.w) X.A (f (.int i t) (.int j u)) Q E s) :
    OpR X f (rI0 fun i j => .bl (g i j)) := by
  intro pins s σ H x y v u Q I rx ry h
  obtain ⟨i, j, rfl, rfl, q⟩ := h
  obtain ⟨t, rfl⟩ := rx
  obtain ⟨t', rfl⟩ := ry
  exact rule i j t t' s _ _ ⟨.bl (g i j), H, I, rfl, q⟩

def CPow (i j : Int) : Prop := 0 ≤ j ∧ j ≤ 1000000 ∧ i.natAbs < 2 ^ 64
def CMul (i j : Int) : Prop := (-(2 ^ 64) < i ∧ i < 2 ^ 64) ∨ (-(2 ^ 64) < j ∧ j < 2 ^ 64)
theorem CMul.ok {i j : Int} (h : CMul i j) : IntMulOk i j := by
  rcases h with ⟨h1, h2⟩ | ⟨h1, h2⟩
  · exact .of_left (intBits_le_64 h1 h2)
  · exact .of_right (intBits_le_64 h1 h2)
theorem op_add : OpR X (binaryOp .Add) (rI0 fun i j => .int (i + j)) := opI0 fun _ _ _ _ _ _ _ q => add_int q
theorem op_sub : OpR X (binaryOp .Sub) (rI0 fun i j => .int (i - j)) := opI0 fun _ _ _ _ _ _ _ q => sub_int q
theorem op_mul : OpR X (binaryOp .Mult) (rI CMul fun i j => .int (i * j)) := opI fun _ _ _ _ _ _ _ hc q => mul_int q hc.ok
/-- % by a positive divisor of any size -/
theorem op_mod : OpR X (binaryOp .Mod) (rI (fun _ j => 0 < j) fun i j => .int (i % j)) := opI fun i j _ _ _ _ _ hc q => by
  have h1 : (0 : Int) < j := hc
  exact mod_int' (by omega) (by rw [Int.fmod_eq_emod_of_nonneg i (by omega)]; exact q)
theorem op_pow : OpR X (binaryOp .Pow) (rI CPow fun i j => .int (i ^ j.toNat)) := opI fun _ _ _ _ _ _ _ hc q => pow_int_small hc.1 hc.2.1 hc.2.2 q
theorem unI {f : Value → Sem Value} {g : Int → Int}
    (rule : ∀ (i : Int) (t : Tok) (s : Shared) (Q : Value → Shared → Prop) (E : Value → Shared → Prop), Q (.int (g i) s.toks) { s with toks := s.toks + 1 } → wpAny (model X.prog X.w) X.A (f (.int i t)) Q E s) :
    UnR X f (rU fun i => .int (g i)) := by
  intro pins s σ H x v Q I rx h
  obtain ⟨i, rfl, q⟩ := h
  obtain ⟨t, rfl⟩ := rx
  exact rule i t s _ _ ⟨.int (g i), H, I.tok _, ⟨_, rfl⟩, q⟩
theorem un_neg : UnR X (unaryOp .USub) (rU fun i => .int (-i)) := unI fun _ _ _ _ _ q => neg_int q
/-! ### bools among ints: n += (a < b) -/
end

/-! ### comparisons -/
/-- the scalars that == tells apart as data does -/
def scal : V → V → Bool
  | .non, .non => true | .non, .int _ => true | .int _, .non => true | .non, .bl _ => true | .bl _, .non => true | .non, .str _ => true | .str _, .non => true
  | .int _, .int _ => true | .bl _, .bl _ => true | .str _, .str _ => true | .byt _, .byt _ => true
  | .int _, .str _ => true | .str _, .int _ => true | .bl _, .str _ => true | .str _, .bl _ => true
  | _, _ => false
def rEq : R2 := fun x y H Q => scal x y = true ∧ Q (.bl (decide (x = y))) H
def rNe : R2 := fun x y H Q => scal x y = true ∧ Q (.bl (!decide (x = y))) H

theorem dec_int {i j : Int} : decide (V.int i = V.int j) = (i == j) := by
  rw [Bool.eq_iff_iff]
  simp
theorem dec_bl {i j : Bool} : decide (V.bl i = V.bl j) = (i == j) := by
  rw [Bool.eq_iff_iff]
  simp
theorem dec_str {i j : Str} : decide (V.str i = V.str j) = (i == j) := by
  rw [Bool.eq_iff_iff]
  simp
theorem dec_byt {i j : Array UInt8} : decide (V.byt i = V.byt j) = (i.toList == j.toList) := by
  rw [Bool.eq_iff_iff]
  cases i
  cases j
  simp

section
variable {X : Cx} {a b c : Expr} {ta tb tc : TE} {pos : Pos}
theorem fin_bl {pins : List (Addr × Obj)} {σ : St} {H : Hp} {s : Shared} {Q : VK} {k k' : Bool} (I : Inv X pins σ H s) (q : Q (.bl k) H) (e : k = k') : EP X pins σ Q (.bool k') s := by
  subst e
  exact ⟨.bl k, H, I, rfl, q⟩
theorem op_eq : OpR X (compareOp .Eq) rEq := by
  intro pins s σ H x y v u Q I rx ry h
  obtain ⟨hs, q⟩ := h
  cases x with
  | non =>
    cases rx
    cases y with
    | non => cases ry; exact PySem.EqNone.eq_none_none (fin_bl I q (by simp))
    | bl j => cases ry; exact PySem.EqNone.eq_none_bool (fin_bl I q (by simp))
    | int j => obtain ⟨t', rfl⟩ := ry; exact PySem.EqNone.eq_none_int (fin_bl I q (by simp))
    | str j => obtain ⟨t', rfl⟩ := ry; exact PySem.EqNone.eq_none_str (fin_bl I q (by simp))
    | _ => exact absurd (show false = true from hs) Bool.false_ne_true
  | bl i =>
    cases rx
    cases y with
    | non => cases ry; exact PySem.EqNone.eq_bool_none (fin_bl I q (by simp))
    | bl j => cases ry; exact eq_bool (fin_bl I q dec_bl)
    | str j => obtain ⟨t', rfl⟩ := ry; exact PySem.EqMixed.eq_bool_str (fin_bl I q (by simp))
    | _ => exact absurd (show false = true from hs) Bool.false_ne_true
  | int i =>
    obtain ⟨t, rfl⟩ := rx
    cases y with
    | non => cases ry; exact PySem.EqNone.eq_int_none (fin_bl I q (by simp))
    | int j => obtain ⟨t', rfl⟩ := ry; exact eq_int (fin_bl I q dec_int)
    | str j => obtain ⟨t', rfl⟩ := ry; exact PySem.EqMixed.eq_int_str (fin_bl I q (by simp))
    | _ => exact absurd (show false = true from hs) Bool.false_ne_true
  | str i =>
    obtain ⟨t, rfl⟩ := rx
    cases y with
    | non => cases ry; exact PySem.EqNone.eq_str_none (fin_bl I q (by simp))
    | bl j => cases ry; exact PySem.EqMixed.eq_str_bool (fin_bl I q (by simp))
    | int j => obtain ⟨t', rfl⟩ := ry; exact PySem.EqMixed.eq_str_int (fin_bl I q (by simp))
    | str j => obtain ⟨t', rfl⟩ := ry; exact eq_str (fin_bl I q dec_str)
    | _ => exact absurd (show false = true from hs) Bool.false_ne_true
  | byt i =>
    obtain ⟨t, rfl⟩ := rx
    cases y with
    | byt j => obtain ⟨t', rfl⟩ := ry; exact PySem.W.eq_bytes (fin_bl I q dec_byt)
    | _ => exact absurd (show false = true from hs) Bool.false_ne_true
  | _ => cases y <;> exact absurd (show false = true from hs) Bool.false_ne_true
theorem op_ne : OpR X (compareOp .NotEq) rNe := by
  intro pins s σ H x y v u Q I rx ry h
  obtain ⟨hs, q⟩ := h
  cases x with
  | non =>
    cases rx
    cases y with
    | non => cases ry; exact PySem.EqNone.ne_none_none (fin_bl I q (by simp))
    | bl j => cases ry; exact PySem.EqNone.ne_none_bool (fin_bl I q (by simp))
    | int j => obtain ⟨t', rfl⟩ := ry; exact PySem.EqNone.ne_none_int (fin_bl I q (by simp))
    | str j => obtain ⟨t', rfl⟩ := ry; exact PySem.EqNone.ne_none_str (fin_bl I q (by simp))
    | _ => exact absurd (show false = true from hs) Bool.false_ne_true
  | bl i =>
    cases rx
    cases y with
    | non => cases ry; exact PySem.EqNone.ne_bool_none (fin_bl I q (by simp))
    | bl j => cases ry; exact ne_bool (fin_bl I q (congrArg not dec_bl))
    | str j => obtain ⟨t', rfl⟩ := ry; exact PySem.EqMixed.ne_bool_str (fin_bl I q (by simp))
    | _ => exact absurd (show false = true from hs) Bool.false_ne_true
  | int i =>
    obtain ⟨t, rfl⟩ := rx
    cases y with
    | non => cases ry; exact PySem.EqNone.ne_int_none (fin_bl I q (by simp))
    | int j => obtain ⟨t', rfl⟩ := ry; exact ne_int (fin_bl I q (congrArg not dec_int))
    | str j => obtain ⟨t', rfl⟩ := ry; exact PySem.EqMixed.ne_int_str (fin_bl I q (by simp))
    | _ => exact absurd (show false = true from hs) Bool.false_ne_true
  | str i =>
    obtain ⟨t, rfl⟩ := rx
    cases y with
    | non => cases ry; exact PySem.EqNone.ne_str_none (fin_bl I q (by simp))
    | bl j => cases ry; exact PySem.EqMixed.ne_str_bool (fin_bl I q (by simp))
    | int j => obtain ⟨t', rfl⟩ := ry; exact PySem.EqMixed.ne_str_int (fin_bl I q (by simp))
    | str j => obtain ⟨t', rfl⟩ := ry; exact ne_str (fin_bl I q (congrArg not dec_str))
    | _ => exact absurd (show false = true from hs) Bool.false_ne_true
  | byt i =>
    obtain ⟨t, rfl⟩ := rx
    cases y with
    | byt j => obtain ⟨t', rfl⟩ := ry; exact PySem.W.ne_bytes (fin_bl I q (congrArg not dec_byt))
    | _ => exact absurd (show false = true from hs) Bool.false_ne_true
  | _ => cases y <;> exact absurd (show false = true from hs) Bool.false_ne_true

theorem op_lt : OpR X (compareOp .Lt) (rI0 fun i j => .bl (decide (i < j))) := opB0 fun _ _ _ _ _ _ _ q => lt_int q
theorem op_gt : OpR X (compareOp .Gt) (rI0 fun i j => .bl (decide (j < i))) := opB0 fun _ _ _ _ _ _ _ q => gt_int q
theorem op_ge : OpR X (compareOp .GtE) (rI0 fun i j => .bl (decide (j ≤ i))) := opB0 fun _ _ _ _ _ _ _ q => ge_int q
/-- two rules for one operation: by cases -/
theorem OpR.or {f : Value → Value → Sem Value} {r r' : R2} (h : OpR X f r) (h' : OpR X f r') : OpR X f (fun x y H Q => r x y H Q ∨ r' x y H Q) := by
  intro pins s σ H x y v u Q I rx ry q
  rcases q with q | q
  · exact h pins s σ H x y v u Q I rx ry q
  · exact h' pins s σ H x y v u Q I rx ry q

theorem nomark (b : Expr) {op : CmpOp} (h : op ≠ .In := by decide) (h2 : op ≠ .NotIn := by decide) : behindInMarks op b = false := by
  have e1 : (op == CmpOp.In) = false := by cases op <;> first | rfl | exact absurd rfl h
  have e2 : (op == CmpOp.NotIn) = false := by cases op <;> first | rfl | exact absurd rfl h2
  cases b <;> simp [behindInMarks, e1, e2]
/-- a comparison as a value; hm: nomark b, or (for in, not in) by with_unfolding_all rfl -/
theorem pe_cmpR {op : CmpOp} {r : R2} (ho : OpR X (compareOp op) r) (ha : PE X a ta) (hb : PE X b tb) (hm : behindInMarks op b = false) : PE X (.Compare a [op] [b] pos) (tOp r ta tb) := by
  intro pins s σ H Q I h
  exact wpAny_Compare1 (binT ha hb I h fun v u s2 x y H2 I2 rx ry q => ho pins s2 σ H2 x y v u Q I2 rx ry q) hm
/-- a reading of a value as a test -/
def tTest (t : TE) : TT := fun σ H Q => t σ H fun x H' => ∃ k, x = .bl k ∧ Q k H'
theorem pt_cmpR {op : CmpOp} {r : R2} (ho : OpR X (compareOp op) r) (ha : PE X a ta) (hb : PE X b tb) (hm : behindInMarks op b = false) : PT X (.Compare a [op] [b] pos) (tTest (tOp r ta tb)) := by
  intro pins s σ H Q I h
  refine wpAny_isTrue_Compare1 (thn (ha pins s σ H _ I h) fun v s1 ⟨x, H1, I1, r1, q1⟩ => thn (hb pins s1 σ H1 _ I1 q1) fun u s2 ⟨y, H2, I2, r2, q2⟩ =>
    thn (ho pins s2 σ H2 x y v u _ I2 r1 r2 q2) fun c s3 ⟨z, H3, I3, r3, k, e, q3⟩ => ?_) hm
  subst e
  cases r3
  exact wpAny_truthy_bool ⟨H3, I3, q3⟩
/-! ### truth -/
theorem line63 : (sizeLine : Nat) < 2 ^ 63 := by rw [sizeLine_eq]; decide
/-! ### strs and bytes -/
/-! ### scalar builtins, by CallR -/
theorem vals1 {x : V} {us : List Value} (r : Vals [x] us) : ∃ u, us = [u] ∧ RelV x u := by
  cases r with
  | cons r1 r2 => cases r2; exact ⟨_, rfl, r1⟩
theorem call_abs : CallR X (.builtin "abs") (fun xs H Q => ∃ i, xs = [.int i] ∧ Q (.int (if i < 0 then -i else i)) H) := by
  intro pins s σ H xs us Q I r h
  obtain ⟨i, rfl, q⟩ := h
  obtain ⟨u, rfl, t, rfl⟩ := vals1 r
  exact call_abs_int fun u tk => ⟨.int (if i < 0 then -i else i), H, I.tok _, ⟨_, rfl⟩, q⟩
end
end L2

namespace L2
open PySem PySem.Spec PyProof.Rows

/-! ### an instance, its attributes a map -/
structure ObjM (h : Heap) (x dx C : Addr) (mA : Str → Option Value) : Prop where
  obj : h.get? x = some (PySem.W.instObj C dx)
  ns : h.Ns1 dx mA
  ne : dx ≠ x

theorem lookIn_ns {h : Heap} {dx : Addr} {mA : Str → Option Value} (n : h.Ns1 dx mA) : ∃ od, h.get? dx = some od ∧ ∀ name, PySem.W.lookIn name od = some (mA name) := by
  obtain ⟨o, es, ep, ho, hd, hk, _, hm⟩ := n
  refine ⟨o, ho, fun name => ?_⟩
  have e := hm name
  unfold nsFind findBy at e
  rw [← Array.find?_toList] at e
  unfold PySem.W.lookIn
  rw [hd]
  dsimp only
  split
  · rename_i y q
    rw [q] at e
    exact congrArg some e
  · rename_i q
    rw [q] at e
    have a : es.toList.any (·.refKey) = false := by
      rw [List.any_eq_false]
      intro y hy
      obtain ⟨z, t, hkey⟩ := hk y (Array.mem_toList_iff.mp hy)
      simp [DictEntry.refKey, hkey]
    have a' : ¬ es.toList.any (·.refKey) = true := by rw [a]; exact Bool.false_ne_true
    rw [if_neg a']
    exact congrArg some e

theorem ObjM.look {h : Heap} {x dx C : Addr} {mA : Str → Option Value} (I : ObjM h x dx C mA) : ∃ od, PySem.W.InstAt h x (PySem.W.instObj C dx) C (some od) ∧ ∀ name, PySem.W.lookIn name od = some (mA name) :=
  let ⟨od, ho, hl⟩ := lookIn_ns I.ns
  ⟨od, ⟨I.obj, rfl, rfl, ho⟩, hl⟩

section
variable {prog : Program} {w : World} {A : Around} {E : Value → Shared → Prop} {s : Shared} {K : PySem.W.Frag} {x dx C f : Addr} {mA : Str → Option Value} {name : Str} {v : Value}

end

/-! ### the attributes as a list of pairs -/
theorem RelO.some_of {v : V} {o : Option Value} (r : RelO (some v) o) : ∃ u, o = some u ∧ RelV v u := by
  cases o with
  | none => exact (show False from r).elim
  | some u => exact ⟨u, rfl, r⟩
section
variable {P : Program} {w : World} {H H' : Hp} {h h' : Heap} {a C dx : Addr} {fs fs' : List (Str × V)}
theorem ins_get (hok : HOk P w H h) (e : H a = some (.ins C dx fs)) : ∃ mA, ObjM h a dx C mA ∧ (∀ f, RelO (fs.lookup f) (mA f)) ∧ PySem.Within mA (fs.map (·.1)) ∧ fs.length ≤ 1000 ∧ H dx = some (.own a) := by
  obtain ⟨d, z, ne, ob, mA, n, r, q⟩ := (show ObjOk P w H h a (.ins C dx fs) from hok a _ e)
  exact ⟨mA, ⟨ob, n, ne⟩, r, q, z, d⟩
end

/-! ### what of the text a class must have -/
structure Cls (K : PySem.W.Frag) (C : Addr) : Prop where
  pg : PySem.W.plainGet K C Str.empty = true
  hd : PySem.W.hasDictIn K C = true
  po : PySem.W.plainOver K C = true
  sa : PySem.W.findIn K (.ref C) "__setattr__" = some (some (.builtin "object.__setattr__"))
theorem Cls.get {K : PySem.W.Frag} {C : Addr} (c : Cls K C) (f : Str) : PySem.W.plainGet K C f = true := c.pg
section
variable {X : Cx} {pins : List (Addr × Obj)} {σ : St} {H : Hp} {s : Shared} {a C dx : Addr} {fs : List (Str × V)} {f : Str} {v : V} {A : Around} {E : Value → Shared → Prop}

/-- a new instance, tracked, without attributes -/
theorem Inv.made (I : Inv X pins σ H s) : Inv X pins σ (upd (upd H s.heap.objs.size (.own (s.heap.objs.size + 1))) (s.heap.objs.size + 1) (.ins C s.heap.objs.size []))
    { s with heap := (s.heap.push PySem.W.emptyDict).push (PySem.W.instObj C s.heap.objs.size) } := by
  have e1 : (s.heap.push PySem.W.emptyDict).get? s.heap.objs.size = some PySem.W.emptyDict := Heap.get?_push_size s.heap rfl
  have e2 : ((s.heap.push PySem.W.emptyDict).push (PySem.W.instObj C s.heap.objs.size)).get? (s.heap.objs.size + 1) = some (PySem.W.instObj C s.heap.objs.size) := by
    have := Heap.get?_push_size (s.heap.push PySem.W.emptyDict) (o := PySem.W.instObj C s.heap.objs.size) rfl
    rwa [Heap.size_push] at this
  have e3 : (s.heap.push PySem.W.emptyDict).Ns s.heap.objs.size (fun _ => none) := ⟨PySem.W.emptyDict, #[], _, e1, rfl, (fun e he => absurd he (by simp)), fun _ => rfl⟩
  have I1 := I.laid (a := s.heap.objs.size) (o := .own (s.heap.objs.size + 1)) (h' := s.heap.push PySem.W.emptyDict) (t' := s.toks) (fun b u q => Heap.get?_push_of_some _ q) (Nat.le_refl _) ⟨_, e1⟩
  refine I1.laid (a := s.heap.objs.size + 1) (o := .ins C s.heap.objs.size []) (t' := s.toks) (fun b u q => Heap.get?_push_of_some _ q) (Nat.le_of_eq (Heap.size_push _ _)) ?_
  have ne : s.heap.objs.size ≠ s.heap.objs.size + 1 := Nat.ne_of_lt (Nat.lt_succ_self _)
  refine ⟨by rw [upd_ne ne, upd_same], Nat.zero_le _, ne, e2, fun _ => none, (Heap.Ns1.of_empty e3).at fun o q => Heap.get?_push_of_some _ q, fun _ => True.intro, fun y hy => absurd rfl hy⟩

end

/-! ### readings and rules -/
section
variable {X : Cx} {o e value : Expr} {f : Str} {pos pos' tpos : Pos} {ta tv : TE}
end

/-! ### isinstance -/
section
variable {X : Cx} {pins : List (Addr × Obj)} {σ : St} {H : Hp} {s : Shared} {A : Around} {E : Value → Shared → Prop} {Q : Value → Shared → Prop} {c : Value} {b : Bool}
/-- the type of a value, as the fragment's deciders take it; for an instance its class -/
inductive TyOf (K : PySem.W.Frag) (H : Hp) : V → Value → Prop where
  | non : TyOf K H .non (.type "NoneType")
  | bl (x : Bool) : TyOf K H (.bl x) (.type "bool")
  | int (i : Int) : TyOf K H (.int i) (.type "int")
  | str (x : Str) : TyOf K H (.str x) (.type "str")
  | flt (x : UInt64) : TyOf K H (.flt x) (.type "float")
  | lst {a : Addr} {xs : List V} (e : H a = some (.lst xs)) : TyOf K H (.ref a) (.type "list")
  | frz {a : Addr} {o : Obj} {xs : List V} (e : H a = some (.frz o (.lst xs))) : TyOf K H (.ref a) (.type "list")
  | tup {a : Addr} {xs : List V} (e : H a = some (.tup xs)) : TyOf K H (.ref a) (.type "tuple")
  | dK {a : Addr} {kvs : List (Key × V)} (e : H a = some (.dK kvs)) : TyOf K H (.ref a) (.type "dict")
  | dT {a : Addr} {kvs : List (List Key × V)} (e : H a = some (.dT kvs)) : TyOf K H (.ref a) (.type "dict")
  | ins {a C dx : Addr} {fs : List (Str × V)} (e : H a = some (.ins C dx fs)) (cl : Cls K C) (ha : PySem.W.findIn K (.ref C) "__class__" = some (some (.builtin "object.__class__")))
      (hn : PySem.W.specialIn K (.builtin "object.__class__") "__get__" = some (some (.builtin "getset_descriptor.__get__"))) (htk : PySem.W.takesIn K (.builtin "object.__class__") = some true)
      (hm : PySem.W.mroIn K C (.type "object") = some true) : TyOf K H (.ref a) (.ref C)
/-- isinstance(x, c) for one class c, a built-in or an own one: kitOne's answer -/
theorem isinst_ok {x : V} {u t : Value} (I : Inv X pins σ H s) (rx : RelV x u) (ty : TyOf X.K H x t) (e : PySem.W.kitOne X.K t c = some b) (h : ∀ tk, Q (.bool b) { s with toks := tk }) :
    wpAny (model X.prog X.w) A (call (.builtin "isinstance") [u, c]) Q E s := by
  cases ty with
  | non => cases (show u = Value.none from rx); exact PySem.W.kia_one PySem.W.kitx_none I.kIn True.intro e (fun z => nomatch z) h
  | bl y => cases (show u = Value.bool y from rx); exact PySem.W.kia_one PySem.W.kitx_bool I.kIn True.intro e (fun z => nomatch z) h
  | int i => obtain ⟨t, q⟩ := (show ∃ t, u = Value.int i t from rx); cases q; exact PySem.W.kia_one PySem.W.kitx_int I.kIn True.intro e (fun z => nomatch z) h
  | str y => obtain ⟨t, q⟩ := (show ∃ t, u = Value.str y t from rx); cases q; exact PySem.W.kia_one PySem.W.kitx_str I.kIn True.intro e (fun z => nomatch z) h
  | flt y => obtain ⟨t, q⟩ := (show ∃ t, u = Value.float y t from rx); cases q; exact PySem.W.kia_one PySem.W.kitx_float I.kIn True.intro e (fun z => nomatch z) h
  | @lst a xs ea =>
    cases (show u = Value.ref a from rx)
    obtain ⟨_, _, n, _, h1⟩ := (show ObjOk X.prog X.w H s.heap a (.lst xs) from I.hok a _ ea)
    exact PySem.W.kia_one PySem.W.kitx_list I.kIn ⟨_, h1, rfl⟩ e (fun z => nomatch z) h
  | @frz a ob xs ea =>
    cases (show u = Value.ref a from rx)
    obtain ⟨_, _, _, n, _, h1⟩ := (show ObjOk X.prog X.w H s.heap a (.frz ob (.lst xs)) from I.hok a _ ea)
    exact PySem.W.kia_one PySem.W.kitx_list I.kIn ⟨_, h1, rfl⟩ e (fun z => nomatch z) h
  | @tup a xs ea =>
    cases (show u = Value.ref a from rx)
    obtain ⟨_, _, _, p⟩ := (show ObjOk X.prog X.w H s.heap a (.tup xs) from I.hok a _ ea)
    obtain ⟨o, h1, h2, _⟩ := p
    exact PySem.W.kia_one PySem.W.kitx_tuple I.kIn ⟨o, h1, h2⟩ e (fun z => nomatch z) h
  | @dK a kvs ea =>
    cases (show u = Value.ref a from rx)
    obtain ⟨_, _, vs, _, p⟩ := (show ObjOk X.prog X.w H s.heap a (.dK kvs) from I.hok a _ ea)
    obtain ⟨o, es, ep, h1, h2, _⟩ := p
    exact PySem.W.kia_one PySem.W.kitx_dict I.kIn ⟨o, h1, h2.1⟩ e (fun z => nomatch z) h
  | @dT a kvs ea =>
    cases (show u = Value.ref a from rx)
    obtain ⟨_, _, xs, _, o, es, ep, h1, h2, _⟩ := (show ObjOk X.prog X.w H s.heap a (.dT kvs) from I.hok a _ ea)
    exact PySem.W.kia_one PySem.W.kitx_dict I.kIn ⟨o, h1, h2.1⟩ e (fun z => nomatch z) h
  | @ins a C dx fs ea cl ha hn htk hm =>
    cases (show u = Value.ref a from rx)
    obtain ⟨mA, O, _⟩ := ins_get I.hok ea
    obtain ⟨od, J, _⟩ := O.look
    exact PySem.W.kia_one (PySem.W.kitx_own (cl.get _) cl.hd ha hn htk hm) I.kIn J e (fun z => nomatch z) h
end
end L2

namespace L2
open PySem PySem.Spec PyProof.Rows

/-! ### room -/
structure Room (k : Nat) (A : Around) : Prop where
  hd : A.handled = none
  dp : A.depth + 3 * k + 5 < recursionLimit
  un : A.units + 16 * k + 200 < cLine
theorem Room.mono {j k : Nat} {A : Around} (r : Room k A) (h : j ≤ k) : Room j A := ⟨r.hd, by have := r.dp; omega, by have := r.un; omega⟩
theorem Room.deeper {k : Nat} {A : Around} (r : Room (k + 1) A) (env : Env) : Room k (A.deeper env) :=
  ⟨r.hd, by have := r.dp; show A.depth + 1 + 3 * k + 5 < _; omega, by have := r.un; show A.units + 3 + 16 * k + 200 < _; omega⟩
theorem Room.in1 {k : Nat} {A : Around} (r : Room (k + 1) A) : Room k A.in1 :=
  ⟨r.hd, by have := r.dp; show A.depth + 3 * k + 5 < _; omega, by have := r.un; show A.units + 1 + 16 * k + 200 < _; omega⟩
theorem Room.depth {k : Nat} {A : Around} (r : Room k A) : A.depth < recursionLimit := by have := r.dp; omega
theorem Room.units {k : Nat} {A : Around} (r : Room k A) : A.units + 64 < cLine := by have := r.un; omega
theorem Room.units0 {k : Nat} {A : Around} (r : Room k A) : A.units < cLine := by have := r.un; omega

/-! ### argument lists and displays -/
def tNil : TA := fun _ H Q => Q [] H
def tCons (ta : TE) (tr : TA) : TA := fun σ H Q => ta σ H fun x H1 => tr σ H1 fun xs H2 => Q (x :: xs) H2
section
variable {X : Cx} {e : Expr} {es : List Expr} {te : TE} {t : TA} {pos : Pos}
theorem pa_nil : PA X [] tNil := fun _ _ _ _ H Q I h => Calls.spliced_nil ⟨[], H, I, .nil, h⟩
theorem pa_cons (ha : PE X e te) (hr : PA X es t) (hs : starEach (e :: es) X.env = (false, eval e X.env) :: starEach es X.env := by rfl) : PA X (e :: es) (tCons te t) := by
  intro pos pins s σ H Q I h
  rw [hs]
  show wpAny _ _ (spliced ((false, eval e X.env) :: backTo pos (starEach es X.env))) _ _ s
  refine Calls.spliced_cons (thn (ha pins s σ H _ I h) fun u s1 ⟨x, H1, I1, r1, q1⟩ => ?_)
  exact thn (hr pos pins s1 σ H1 _ I1 q1) fun us s2 ⟨xs, H2, I2, r2, q2⟩ => ⟨x :: xs, H2, I2, .cons r1 r2, q2⟩

/-- a tuple, a list of written items -/
def tTup (t : TA) : TE := fun σ H Q => t σ H fun xs H1 => xs.length ≤ sizeLine ∧ ∀ p, H1 p = none → Q (.ref p) (upd H1 p (.tup xs))
def tLst (t : TA) : TE := fun σ H Q => t σ H fun xs H1 => xs.length ≤ sizeLine ∧ ∀ p, H1 p = none → Q (.ref p) (upd H1 p (.lst xs))
theorem pe_tup {x1} (h : PA X es t) : PE X (.Tuple es x1 pos) (tTup t) := by
  intro pins s σ H Q I hq
  refine wpAny_Tuple_spliced (thn (h pos pins s σ H _ I hq) fun us s1 ⟨xs, H1, I1, r, z, q⟩ => ⟨by rw [← r.length]; exact z, ?_⟩)
  have hf : H1 s1.heap.objs.size = none := I1.hok.fresh (Nat.le_refl _)
  refine ⟨.ref s1.heap.objs.size, upd H1 s1.heap.objs.size (.tup xs), I1.laid (t' := s1.toks) (fun b u e => Heap.get?_push_of_some _ e) (Nat.le_refl _) ?_, rfl, q _ hf⟩
  exact ⟨z, us, r, ⟨_, Heap.get?_push_size _ rfl, rfl, _, rfl⟩⟩
theorem pe_lst (h : PA X es t) : PE X (.List es pos) (tLst t) := by
  intro pins s σ H Q I hq
  refine wpAny_List_spliced (thn (h pos pins s σ H _ I hq) fun us s1 ⟨xs, H1, I1, r, z, q⟩ => ⟨by rw [← r.length]; exact z, ?_⟩)
  have hf : H1 s1.heap.objs.size = none := I1.hok.fresh (Nat.le_refl _)
  refine ⟨.ref s1.heap.objs.size, upd H1 s1.heap.objs.size (.lst xs), I1.laid (t' := s1.toks) (fun b u e => Heap.get?_push_of_some _ e) (Nat.le_refl _) ?_, rfl, q _ hf⟩
  exact ⟨z, us, 0, r, Heap.get?_push_size _ rfl⟩
end

/-! ### what a def promises -/
/-- a def's promise: the bound arguments in the parameters' order, the heap, the wanted end, the wanted exception -/
abbrev Sp := List V → Hp → VK → XK → Prop
/-- how an exception lies behind a call (file 08 gives it): the callers' frames, abstract heap and state ahead of the call, the wish, the exception, the state -/
abbrev CXT := List Env → Hp → Shared → XK → Value → Shared → Prop

/-- the state at a call -/
structure Env0 (P : Program) (w : World) (K : PySem.W.Frag) (mg : Str → Option Value) (base : Heap) (A : Around) (outer : List Env) (s : Shared) (H : Hp) : Prop where
  frames : A.frames = some outer
  mod : Mod K mg base
  bs : ∀ b o, base.get? b = some o → s.heap.get? b = some o ∧ H b = none
  bsz : base.objs.size ≤ s.heap.objs.size
  funs : s.heap.FunFrames base outer
  frf : ∀ b ∈ frs outer, H b = none
  hok : HOk P w H s.heap
  bare : AllBare s.gens
/-- a call's end -/
def CE (outer : List Env) (P : Program) (w : World) (H : Hp) (s : Shared) (Q : VK) (u : Value) (s' : Shared) : Prop :=
  ∃ v H', s'.os = s.os ∧ AllBare s'.gens ∧ Un (frs outer) [] H H' s.heap s'.heap ∧ HOk P w H' s'.heap ∧ RelV v u ∧ Q v H'
def CR (CX : CXT) (outer : List Env) (P : Program) (w : World) (H : Hp) (s : Shared) (Q : VK) (E : XK) (r : Result) (s' : Shared) : Prop :=
  match r with
  | .ok (.ret u) => CE outer P w H s Q u s'
  | .ok _ => False
  | .error e => CX outer H s E e s'
structure FnOk (P : Program) (w : World) (K : PySem.W.Frag) (mg : Str → Option Value) (base : Heap) (CX : CXT) (k : Nat) (f : Addr) (fd : FuncData) (ps : List Str) (sp : Sp) : Prop where
  len : ∀ vs H Q E, sp vs H Q E → vs.length = ps.length
  run : ∀ (A : Around) (outer : List Env) (s : Shared) (H : Hp) (args : Args) (us : List Value) (vs : List V) (Q : VK) (E : XK), Room k A → Env0 P w K mg base A outer s H → BindsTo s fd args (ps.zip us) → Vals vs us → sp vs H Q E →
    codeAny (model P w) A (.call (.ref f) args) (CR CX outer P w H s Q E) s
theorem FnOk.mono {P : Program} {w : World} {K : PySem.W.Frag} {mg : Str → Option Value} {base : Heap} {CX : CXT} {j k : Nat} {f : Addr} {fd : FuncData} {ps : List Str} {sp : Sp} (F : FnOk P w K mg base CX j f fd ps sp) (h : j ≤ k) :
    FnOk P w K mg base CX k f fd ps sp := ⟨F.len, fun A outer s H args us vs Q E hr => F.run A outer s H args us vs Q E (hr.mono h)⟩
/-- a weaker promise -/
theorem FnOk.imp {P : Program} {w : World} {K : PySem.W.Frag} {mg : Str → Option Value} {base : Heap} {CX : CXT} {k : Nat} {f : Addr} {fd : FuncData} {ps : List Str} {sp sp' : Sp} (F : FnOk P w K mg base CX k f fd ps sp)
    (h : ∀ vs H Q E, sp' vs H Q E → sp vs H Q E) : FnOk P w K mg base CX k f fd ps sp' :=
  ⟨fun vs H Q E q => F.len vs H Q E (h _ _ _ _ q), fun A outer s H args us vs Q E hr he hb hv hs => F.run A outer s H args us vs Q E hr he hb hv (h _ _ _ _ hs)⟩

theorem Env0.in1 {P : Program} {w : World} {K : PySem.W.Frag} {mg : Str → Option Value} {base : Heap} {A : Around} {outer : List Env} {s : Shared} {H : Hp} (e : Env0 P w K mg base A outer s H) :
    Env0 P w K mg base A.in1 outer s H := ⟨e.frames, e.mod, e.bs, e.bsz, e.funs, e.frf, e.hok, e.bare⟩

section
variable {X : Cx} {pins : List (Addr × Obj)} {σ : St} {H : Hp} {s s' : Shared}
/-- from a body: what a callee wants -/
theorem Inv.env0 (I : Inv X pins σ H s) : Env0 X.prog X.w X.K X.mg X.base X.A X.stack s H :=
  ⟨I.ok.frames, I.ok.mod, I.bs, Nat.le_trans I.ok.bsz I.sz, I.stack, I.stkFree, I.hok, I.bare⟩
/-- behind a call -/
theorem Inv.after {Q : VK} {u : Value} (I : Inv X pins σ H s) (h : CE X.stack X.prog X.w H s Q u s') : EP X pins σ Q u s' := by
  obtain ⟨v, H', os, bare, un, hok, r, q⟩ := h
  obtain ⟨hh, g, d, t, os'⟩ := s'
  obtain rfl : os' = s.os := os
  exact ⟨v, H', I.call (h' := hh) (g' := g) (d' := d) (t' := t) (ch := []) un hok bare (fun b z => absurd z (by simp)), r, q⟩
end

/-! ### calls -/
/-- f(..): the written arguments, then the defaults dvs; E: what is wanted of an exception -/
def tCall (sp : Sp) (dvs : List V) (E : XK) (t : TA) : TE := fun σ H Q => t σ H fun vs H1 => sp (vs ++ dvs) H1 Q E
/-- how the parameters are bound: us the positional arguments, kw the keywords' values by name, ds the defaults that fill up -/
def Binds (K : PySem.W.Frag) (fd : FuncData) (ps : List Str) (ds : List Value) : Prop :=
  ∀ (s : Shared) (us : List Value), K.In s.heap → (us ++ ds).length = ps.length → BindsTo s fd ⟨us, []⟩ (ps.zip (us ++ ds))
/-- every parameter is given -/
theorem Binds.all {K : PySem.W.Frag} {fd : FuncData} {ps : List Str} (h : ∀ us : List Value, us.length = ps.length → bindArgs fd ⟨us, []⟩ = pure (ps.zip us)) : Binds K fd ps [] := fun s us _ hl => by
  rw [List.append_nil] at hl ⊢
  exact .of_eq (h us hl)

/-- an exception of a callee reaches what this body wants of exceptions -/
def Passes (CX : CXT) (X : Cx) (E : XK) : Prop := ∀ (pins : List (Addr × Obj)) (σ : St) (H : Hp) (s : Shared) (e : Value) (s' : Shared), Inv X pins σ H s → CX X.stack H s E e s' → X.xe e s'

section
variable {X : Cx} {CX : CXT} {k : Nat} {f C : Addr} {fd : FuncData} {ps : List Str} {sp : Sp} {dvs : List V} {ds : List Value} {E : XK} {x m : Str} {p pos apos : Pos} {e o : Expr} {es : List Expr} {ta : TE} {t : TA}

/-- the callee runs -/
theorem run_fn {pins : List (Addr × Obj)} {σ : St} {H : Hp} {s : Shared} {Q : VK} {us : List Value} {vs : List V} (F : FnOk X.prog X.w X.K X.mg X.base CX k f fd ps sp) (hr : Room k X.A) (hb : Binds X.K fd ps ds) (hd : Vals dvs ds) (hx : Passes CX X E)
    (I : Inv X pins σ H s) (r : Vals vs us) (h : sp (vs ++ dvs) H Q E) : wpAny (model X.prog X.w) X.A (call (.ref f) us) (EP X pins σ Q) X.xe s := by
  have r2 : Vals (vs ++ dvs) (us ++ ds) := r.append hd
  have hl : (us ++ ds).length = ps.length := by rw [← r2.length]; exact F.len _ _ _ _ h
  refine wpAny_call (codeAny_mono (F.run X.A X.stack s H ⟨us, []⟩ (us ++ ds) (vs ++ dvs) Q E hr I.env0 (hb s us I.kIn hl) r2 h) fun r s' hq => ?_)
  cases r with
  | error e => exact hx pins σ H s e s' I hq
  | ok fl =>
    cases fl with
    | ret u => exact I.after hq
    | next => exact False.elim hq
    | brk => exact False.elim hq
    | cont => exact False.elim hq

theorem pe_call (F : FnOk X.prog X.w X.K X.mg X.base CX k f fd ps sp) (hr : Room k X.A) (hg : Gl X x) (hm : X.mg x = some (.ref f)) (hk : PySem.W.keepIn X.K (.ref f) = true) (hb : Binds X.K fd ps ds) (hd : Vals dvs ds) (hx : Passes CX X E)
    (ha : PA X (e :: es) t) (hdb : (x == ("__debug__" : Str)) = false := by decide) (he : starEach (e :: es) X.env = (false, eval e X.env) :: starEach es X.env := by rfl) (hpl : (backTo pos (starEach es X.env)).any (·.1) = false := by rfl) :
    PE X (.Call (.Name x p) (e :: es) [] pos) (tCall sp dvs E t) := by
  intro pins s σ H Q I h
  refine wpAny_Call_Name_kw (ld_glob I hg hm ?_ hdb)
  refine PySem.W.callWith_K (h₀ := X.base) I.ok.mod.kin hk (thn (ha pos pins s σ H _ I h) fun us s1 ⟨vs, H1, I1, r, q⟩ => ⟨I1.kIn, ?_⟩) he hpl
  exact run_fn F hr hb hd hx I1 r q
end

/-! ### keywords -/
section
variable {X : Cx} {CX : CXT} {k : Nat} {f C : Addr} {fd : FuncData} {ps ks : List Str} {sp : Sp} {E : XK} {x m : Str} {p pos apos kpos : Pos} {e o : Expr} {es : List Expr} {kws : List Keyword} {te ta : TE} {t tk : TA} {nm : Option Str}
variable {g : List Value → List Value → List Value} {gV : List V → List V → List V}
end

/-! ### a def's body keeps its promise -/
/-- names: the parameters first -/
structure FnScope (N P : List Str) (sc : Scope) : Prop where
  kind : sc.kind = .function
  co : sc.isCoroutine = false
  gen : sc.isGenerator = false
  nd : N.Nodup
  pre : N.take P.length = P
  par : ∀ x ∈ P, sc.names.lookup x = some .local ∨ sc.names.lookup x = some .cell
  nofree : ∀ y ∈ sc.names, y.2 ≠ .free

theorem bindL_out {kindOf : Str → Option NameKind} {x : Str} : ∀ {binds : List (Str × Value)} {m : Str → Option Value}, (∀ v, (x, v) ∉ binds) → bindL kindOf binds m x = m x
  | [], _, _ => rfl
  | (n, v) :: r, m, h => by
    unfold bindL
    rw [bindL_out fun w hw => h w (List.mem_cons_of_mem _ hw)]
    split
    · have : x ≠ n := by rintro rfl; exact h v List.mem_cons_self
      simp [this]
    · rfl
theorem bindC_out {kindOf : Str → Option NameKind} {x : Str} : ∀ {binds : List (Str × Value)} {m : Str → Option Value}, (∀ v, (x, v) ∉ binds) → bindC kindOf binds m x = m x
  | [], _, _ => rfl
  | (n, v) :: r, m, h => by
    unfold bindC
    rw [bindC_out fun w hw => h w (List.mem_cons_of_mem _ hw)]
    split
    · rfl
    · have : x ≠ n := by rintro rfl; exact h v List.mem_cons_self
      simp [this]
theorem bindL_get {kindOf : Str → Option NameKind} {x : Str} {v : Value} : ∀ {P : List Str} {vs : List Value} {i : Nat} {m : Str → Option Value}, P.Nodup → P[i]? = some x → vs[i]? = some v → kindOf x = some .local →
    bindL kindOf (P.zip vs) m x = some v
  | [], _, _, _, _, h, _, _ => by simp at h
  | _ :: _, [], _, _, _, _, h, _ => by simp at h
  | p :: P, w :: vs, 0, m, nd, h1, h2, hk => by
    simp at h1 h2; subst h1; subst h2
    show bindL kindOf ((p, w) :: P.zip vs) m p = _
    unfold bindL
    rw [bindL_out fun v hv => (List.nodup_cons.mp nd).1 (List.of_mem_zip hv).1, if_pos hk]
    simp
  | p :: P, w :: vs, i + 1, m, nd, h1, h2, hk => by
    show bindL kindOf ((p, w) :: P.zip vs) m x = _
    unfold bindL
    exact bindL_get (i := i) (List.nodup_cons.mp nd).2 (by simpa using h1) (by simpa using h2) hk
theorem bindC_get {kindOf : Str → Option NameKind} {x : Str} {v : Value} : ∀ {P : List Str} {vs : List Value} {i : Nat} {m : Str → Option Value}, P.Nodup → P[i]? = some x → vs[i]? = some v → kindOf x ≠ some .local →
    bindC kindOf (P.zip vs) m x = some v
  | [], _, _, _, _, h, _, _ => by simp at h
  | _ :: _, [], _, _, _, _, h, _ => by simp at h
  | p :: P, w :: vs, 0, m, nd, h1, h2, hk => by
    simp at h1 h2; subst h1; subst h2
    show bindC kindOf ((p, w) :: P.zip vs) m p = _
    unfold bindC
    rw [bindC_out fun v hv => (List.nodup_cons.mp nd).1 (List.of_mem_zip hv).1, if_neg hk]
    simp
  | p :: P, w :: vs, i + 1, m, nd, h1, h2, hk => by
    show bindC kindOf ((p, w) :: P.zip vs) m x = _
    unfold bindC
    exact bindC_get (i := i) (List.nodup_cons.mp nd).2 (by simpa using h1) (by simpa using h2) hk

/-- the names' values at the entry -/
def start (N : List Str) (vs : List V) : St := vs.map some ++ List.replicate (N.length - vs.length) none

/-- the context of a def's body, at its entry; an exception leaves the frame, then lies as CX says -/
def cxOf (CX : CXT) (P : Program) (w : World) (K : PySem.W.Frag) (mg : Str → Option Value) (base : Heap) (N : List Str) (qual : Str) (scope : Scope) (f : Addr) (cd : Value) (A : Around) (outer : List Env) (s : Shared) (H : Hp) (E : XK) : Cx where
  prog := P
  w := w
  K := K
  mg := mg
  base := base
  A := A.deeper (envOfC qual scope s.heap.objs.size f cd)
  N := N
  s₀ := s
  H₀ := H
  env := envOfC qual scope s.heap.objs.size f cd
  outer := outer
  stack := envOfC qual scope s.heap.objs.size f cd :: outer
  ex := []
  calm := true
  fn := fun _ => true
  pn := []
  xe := fun e s' => wpAny (model P w) (A.deeper (envOfC qual scope s.heap.objs.size f cd)) (leaving (envOfC qual scope s.heap.objs.size f cd) e) (fun _ s'' => CX outer H s E e s'') (fun e' s'' => CX outer H s E e' s'') s'

theorem cell_has {sc : Scope} {n : Nat} {x : Str} (h : sc.names.lookup x = some .cell) : ∃ c, (cellsFrom n sc.names []).lookup x = some c := by
  have q := PySem.W.cellsFrom_some sc.names n [] (.inl h)
  exact Option.isSome_iff_exists.mp q

theorem inv_start {CX : CXT} {P : Program} {w : World} {K : PySem.W.Frag} {mg : Str → Option Value} {base : Heap} {N ps : List Str} {qual : Str} {scope : Scope} {f : Addr} {cd : Value} {A : Around} {outer : List Env} {s s1 : Shared} {H : Hp} {E : XK} {us : List Value} {vs : List V}
    (S : FnScope N ps scope) (hd : A.handled = none) (e0 : Env0 P w K mg base A outer s H) (hl : vs.length = ps.length) (r : Vals vs us)
    (x : InCallC s s.heap.objs.size (bindL (envOfC qual scope s.heap.objs.size f cd).kindOf (ps.zip us) fun _ => none) (cellsFrom (s.heap.objs.size + 1) scope.names []) (bindC (envOfC qual scope s.heap.objs.size f cd).kindOf (ps.zip us) fun _ => none) s1) :
    Inv (cxOf CX P w K mg base N qual scope f cd A outer s H E) [] (start N vs) H s1 := by
  have hpl : ps.length ≤ N.length := by have := congrArg List.length S.pre; rw [List.length_take] at this; omega
  obtain ⟨h1, tk, rfl, hk⟩ := x.done
  have noA : ∀ b : Addr, b ∉ (cxOf CX P w K mg base N qual scope f cd A outer s H E).ex := fun b z => absurd (show b ∈ ([] : List Addr) from z) (by simp)
  refine ⟨⟨e0.mod, S.kind, rfl, rfl, Nat.le_refl _, fun y z c h1 h2 => ?_, fun y hy => ?_, fun y c _ h => ?_, fun _ => hd, Around.frames_deeper e0.frames, .inr ⟨rfl, rfl⟩, fun b z => absurd z (noA b), e0.bs, e0.bsz, fun b _ _ => noA b, fun b z => absurd z (noA b), e0.funs, e0.frf⟩,
    rfl, e0.bare, Un.kept hk, ⟨_, x.toInCall.ns, fun i y v h1 h2 h3 => ?_⟩, fun y c h => ⟨_, x.cell y c h⟩, e0.hok.fresh (Nat.le_refl _), fun y c h => ?_, fun p hp => absurd (show p ∈ ([] : List (Addr × Obj)) from hp) (by simp), e0.hok.kept hk, ?_⟩
  · exact name_of_addr x.apart (PySem.mem_of_lookup h1) (PySem.mem_of_lookup h2)
  · have hy : scope.names.lookup y = some .cell ∨ scope.names.lookup y = some .free := hy
    rcases hy with hy | hy
    · exact cell_has hy
    · exact absurd rfl (S.nofree _ (PySem.mem_of_lookup hy))
  · exact Nat.le_of_lt (x.above y c (PySem.mem_of_lookup h))
  · have hi : i < vs.length := by
      unfold start at h2
      by_cases hi : i < vs.length
      · exact hi
      · rw [List.getElem?_append_right (by simpa using hi)] at h2
        rw [List.getElem?_replicate] at h2
        split at h2 <;> cases h2
    have ha : vs[i]? = some v := by
      unfold start at h2
      rw [List.getElem?_append_left (by simpa using hi), List.getElem?_map] at h2
      cases e : vs[i]? with
      | none => rw [e] at h2; cases h2
      | some a => rw [e] at h2; cases h2; rfl
    obtain ⟨u, hu, rv⟩ := r.get ha
    have hp : ps[i]? = some y := by
      rw [← S.pre, List.getElem?_take_of_lt (by omega)]; exact h1
    have ndP : ps.Nodup := by rw [← S.pre]; exact S.nd.sublist (List.take_sublist _ _)
    refine ⟨u, rv, ?_⟩
    rcases S.par y (List.mem_of_getElem? hp) with k | k
    · exact .inl ⟨k, bindL_get ndP hp hu k⟩
    · obtain ⟨c, e⟩ := cell_has (n := s.heap.objs.size + 1) k
      refine .inr ⟨.inl k, c, e, ?_⟩
      have q := x.cell y c e
      rw [bindC_get ndP hp hu (by show scope.names.lookup y ≠ _; rw [k]; decide)] at q
      exact q
  · exact e0.hok.fresh (Nat.le_of_lt (x.above y c (PySem.mem_of_lookup h)))
  · unfold start
    show _ = N.length
    rw [List.length_append, List.length_map, List.length_replicate]
    omega

/-- THE RULE: a def (or a method) of the text, by its body. The body's reading t is chosen for each entry; it is run at the parameters' values -/
theorem fn_of {CX : CXT} {P : Program} {w : World} {K : PySem.W.Frag} {mg : Str → Option Value} {base : Heap} {k : Nat} {f : Addr} {name qual : Str} {params : Arguments} {body : List Stmt} {scope : Scope} {dV kV doc pm cdv ct oc : Value} {an od : Option Addr}
    {osl : Array (Option Value)} {N ps : List Str} {sp : Sp} (lk : K.lookup f = some ⟨oc, od, .func (PySem.W.fnOf name qual params body scope dV kV doc pm an cdv ct), osl⟩) (hcd : PySem.W.codeIn K cdv qual = true) (S : FnScope N ps scope)
    (len : ∀ vs H Q E, sp vs H Q E → vs.length = ps.length)
    (hbody : ∀ (A : Around) (outer : List Env) (s : Shared) (H : Hp) (vs : List V) (Q : VK) (E : XK), Room k (A.deeper (envOfC qual scope s.heap.objs.size f cdv)) → sp vs H Q E →
      ∃ t, PSs (cxOf CX P w K mg base N qual scope f cdv A outer s H E) body t ∧ t { nx := fun _ H' => Q .non H', rt := Q } (start N vs) H) :
    FnOk P w K mg base CX (k + 1) f (PySem.W.fnOf name qual params body scope dV kV doc pm an cdv ct) ps sp := by
  refine ⟨len, fun A outer s H args us vs Q E hr e0 hb r hsp => ?_⟩
  have hl := len _ _ _ _ hsp
  have KX : K.In s.heap := e0.mod.kin.keeps fun b o e => (e0.bs b o e).1
  have lim : s.heap.NoLimit := e0.mod.nolimit.keeps fun b o e => (e0.bs b o e).1
  have hkind : ∀ y ∈ ps.zip us, scope.names.lookup y.1 = some .local ∨ (scope.names.lookup y.1 = some .cell ∧ ((cellsFrom (s.heap.objs.size + 1) scope.names []).lookup y.1).isSome = true) := fun ⟨n, v⟩ hy => by
    rcases S.par n (List.of_mem_zip hy).1 with q | q
    · exact .inl q
    · exact .inr ⟨q, PySem.W.cellsFrom_some _ _ _ (.inl q)⟩
  refine codeAny_call_function hr.depth (KX _ _ lk) rfl S.co S.gen rfl (PySem.W.codeRec_of KX hcd) (hb _ _ _ _ ?_)
  refine wpAny_newFunctionEnv_cells S.kind hkind fun env he s1 x => ?_
  subst he
  refine ⟨lim.keeps x.toInCall.keep, codeAny_func ?_⟩
  obtain ⟨t, ht, hq⟩ := hbody A outer s H vs Q E (hr.deeper _) hsp
  have I : Inv (cxOf CX P w K mg base N qual scope f cdv A outer s H E) [] (start N vs) H s1 := inv_start S hr.hd e0 hl r x
  refine wpAny_mono (ht [] s1 (start N vs) H _ I hq) (fun fl s' hs => ?_) fun e s' hs => hs
  have fin : ∀ {σ' : St} {H' : Hp} {v : V} {u : Value}, Inv (cxOf CX P w K mg base N qual scope f cdv A outer s H E) [] σ' H' s' → RelV v u → Q v H' → CE outer P w H s Q u s' :=
    fun {σ' H' v u} J rv q => ⟨v, H', J.os, J.bare, J.base, J.hok, rv, q⟩
  cases fl with
  | ret u =>
    obtain ⟨v, σ', H', J, rv, q⟩ := hs
    exact fin J rv q
  | next =>
    obtain ⟨σ', H', J, q⟩ := hs
    exact fin (v := V.non) (u := Value.none) J rfl q
  | brk =>
    obtain ⟨_, _, _, q⟩ := hs
    exact False.elim q
  | cont =>
    obtain ⟨_, _, _, q⟩ := hs
    exact False.elim q
end L2

namespace L2
open PySem PySem.Spec PyProof.Rows
section
variable {X : Cx} {x : Str} {p pos : Pos} {e : Expr} {es : List Expr} {t : TA} {id T : String} {r : List V → Hp → VK → Prop}

def tCB (r : List V → Hp → VK → Prop) (t : TA) : TE := fun σ H Q => t σ H fun vs H1 => r vs H1 Q
/-- f(e, ..), f a built-in function -/
theorem pe_callB (hc : CallR X (.builtin id) r) (hg : Gl X x) (hm : X.mg x = none) (hv : bootBuiltins x = some (.builtin id)) (ha : PA X (e :: es) t) (hn : x ≠ "__name__" := by decide) (hdb : (x == ("__debug__" : Str)) = false := by decide)
    (he : starEach (e :: es) X.env = (false, eval e X.env) :: starEach es X.env := by rfl) (hpl : (backTo pos (starEach es X.env)).any (·.1) = false := by rfl) : PE X (.Call (.Name x p) (e :: es) [] pos) (tCB r t) := by
  intro pins s σ H Q I h
  refine wpAny_Call_Name_kw (ld_blt I hg hm hv ?_ hn hdb)
  exact PyProof.Rows.callWith_builtin1 (thn (ha pos pins s σ H _ I h) fun us s1 ⟨vs, H1, I1, r1, q1⟩ => hc pins s1 σ H1 vs us Q I1 r1 q1) he hpl
/-- T(e, ..), T a built-in type -/
theorem pe_callTy (hc : CallR X (.type T) r) (hg : Gl X x) (hm : X.mg x = none) (hv : bootBuiltins x = some (.type T)) (ha : PA X (e :: es) t) (hn : x ≠ "__name__" := by decide) (hdb : (x == ("__debug__" : Str)) = false := by decide)
    (he : starEach (e :: es) X.env = (false, eval e X.env) :: starEach es X.env := by rfl) (hpl : (backTo pos (starEach es X.env)).any (·.1) = false := by rfl) : PE X (.Call (.Name x p) (e :: es) [] pos) (tCB r t) := by
  intro pins s σ H Q I h
  refine wpAny_Call_Name_kw (ld_blt I hg hm hv ?_ hn hdb)
  exact PyProof.Rows.callWith_type1 (thn (ha pos pins s σ H _ I h) fun us s1 ⟨vs, H1, I1, r1, q1⟩ => hc pins s1 σ H1 vs us Q I1 r1 q1) he hpl
end
end L2

namespace HT
open PySem PyProof.Rows

/-- t < u of tuples of ints -/
def lexLt : List Int → List Int → Bool
  | [], [] => false
  | [], _ :: _ => true
  | _ :: _, [] => false
  | x :: xs, y :: ys => if x = y then lexLt xs ys else decide (x < y)
section
open PySem.SeqAt
open PySem.AutoSeq1 (wpAny_loadPart')
open PySem.MeetsSeq PySem.MeetsSeq2 PySem.MeetsSeq3

end

section
variable {prog : Program} {w : World} {A : Around} {E : Value → Shared → Prop} {s : Shared}

/-- t + u, t not empty -/
theorem cat_tup {t b : Addr} {vs ws : List Value} {Q : Value → Shared → Prop} (ht : IsTup s.heap t vs.toArray) (hb : IsTup s.heap b ws.toArray) (hv : vs ≠ [])
    (h1 : ws = [] → Q (.ref t) s) (h2 : ws ≠ [] → Q (.ref s.heap.objs.size) { s with heap := s.heap.push { cls := .type "tuple", data := .seq (vs ++ ws).toArray } })
    (hsz : vs.length + ws.length ≤ sizeLine) : wpAny (model prog w) A (binaryOp .Add (.ref t) (.ref b)) Q E s := by
  obtain ⟨⟨cls, dd, data, sl⟩, ho, hc, n, hd⟩ := id ht
  obtain ⟨⟨cls2, dd2, data2, sl2⟩, ho2, hc2, n2, hd2⟩ := id hb
  simp only at hc hd hc2 hd2
  subst hc hd hc2 hd2
  have e : vs.toArray ++ ws.toArray = (vs ++ ws).toArray := by simp
  by_cases hw : ws = []
  · exact concat_meets ⟨_, ho, rfl⟩ ⟨_, ho2, rfl⟩ noFill_tuple_add seq_tuple_add PySem.F.slot_tuple_add PySem.F.entry_tuple_add (PySem.F.args_tuple_add_2 _ _)
      (tuple_addW1 t b vs.toArray ws.toArray n n2 dd dd2 sl sl2 (by simpa using hv) (by simp [hw])) ⟨ho, ho2, h1 hw⟩
  · refine concat_meets ⟨_, ho, rfl⟩ ⟨_, ho2, rfl⟩ noFill_tuple_add seq_tuple_add PySem.F.slot_tuple_add PySem.F.entry_tuple_add (PySem.F.args_tuple_add_2 _ _)
      (tuple_addW2 t b vs.toArray ws.toArray n n2 dd dd2 sl sl2 (by simpa using hv) (by simpa using hw) (by rw [List.size_toArray, List.size_toArray]; exact hsz)) ⟨ho, ho2, ?_⟩
    rw [e]
    exact h2 hw

/-! ### t[a:b], not the whole -/
/-- a slice's bound as a place among n (d where it is left out) -/
def sIx (n d : Nat) : Option Int → Nat
  | none => d
  | some v => if v < 0 then (v + (n : Int)).toNat else min v.toNat n
end
end HT

namespace L2
open PySem PySem.Spec PyProof.Rows

/-! ### the parts of a slice -/
abbrev TO := St → Hp → (Option Int → Hp → Prop) → Prop
/-- a slice's part (left out, or an int) -/
def PO (X : Cx) (e : Option Expr) (t : TO) : Prop :=
  ∀ (pins : List (Addr × Obj)) (s : Shared) (σ : St) (H : Hp) (Q : Option Int → Hp → Prop), Inv X pins σ H s → t σ H Q →
    wpAny (model X.prog X.w) X.A (evalPart e X.env) (fun u s' => ∃ o H', Inv X pins σ H' s' ∧ IsPart u o ∧ Q o H') X.xe s
def tNoPart : TO := fun _ H Q => Q none H
def tPart (t : TE) : TO := fun σ H Q => t σ H fun x H1 => ∃ i, x = .int i ∧ Q (some i) H1

theorem intsAre_of {ns : List Int} : ∀ {us : List Value}, Vals (ns.map V.int) us → IntsAre us ns := by
  induction ns with
  | nil => intro us r; rw [List.map_nil] at r; cases r; exact .nil
  | cons n ns ih =>
    intro us r
    rw [List.map_cons] at r
    cases r with
    | cons r1 r2 =>
      obtain ⟨t, e⟩ := r1
      subst e
      exact .cons n t (ih r2)

section
variable {X : Cx} {e : Expr} {te : TE} {lo hi : Option Expr} {tl th : TO} {pos p2 : Pos}

theorem po_none : PO X none tNoPart := by
  intro pins s σ H Q I h
  rw [evalPart_none]
  exact wpAny_pure ⟨none, H, I, .none, h⟩
theorem po_some (h : PE X e te) : PO X (some e) (tPart te) := by
  intro pins s σ H Q I hw
  rw [evalPart_some]
  refine thn (h pins s σ H _ I hw) fun u s1 ⟨x, H1, I1, r1, q1⟩ => ?_
  obtain ⟨i, rfl, q⟩ := q1
  obtain ⟨t, rfl⟩ := r1
  exact ⟨some i, H1, I1, .int i t, q⟩

/-- what a slice of a value is, by values: the slice object stands at sl -/
def SlR (X : Cx) (r : V → Option Int → Option Int → Hp → VK → Prop) : Prop :=
  ∀ (pins : List (Addr × Obj)) (s : Shared) (σ : St) (H : Hp) (x : V) (v vl vu : Value) (lo hi : Option Int) (sl : Addr) (Q : VK), Inv X pins σ H s → RelV x v → s.heap.IsSliceOf sl vl vu .none → IsPart vl lo → IsPart vu hi → r x lo hi H Q →
    ∃ T id, typeLookup (.type T) "__getitem__" = pure (some (.builtin id)) ∧ s.TypeIs v T ∧ wpAny (model X.prog X.w) X.A (getItem v (.ref sl)) (EP X pins σ Q) X.xe s
theorem SlR.or {r r' : V → Option Int → Option Int → Hp → VK → Prop} (h : SlR X r) (h' : SlR X r') : SlR X (fun x lo hi H Q => r x lo hi H Q ∨ r' x lo hi H Q) := by
  intro pins s σ H x v vl vu lo hi sl Q I rx hs pl pu q
  rcases q with q | q
  · exact h pins s σ H x v vl vu lo hi sl Q I rx hs pl pu q
  · exact h' pins s σ H x v vl vu lo hi sl Q I rx hs pl pu q
def tSl (r : V → Option Int → Option Int → Hp → VK → Prop) (te : TE) (tl th : TO) : TE := fun σ H Q => te σ H fun x H1 => tl σ H1 fun l H2 => th σ H2 fun u H3 => r x l u H3 Q
/-- a[lo:hi], any a -/
theorem pe_slice {r : V → Option Int → Option Int → Hp → VK → Prop} (hr : SlR X r) (he : PE X e te) (hl : PO X lo tl) (hu : PO X hi th) : PE X (.Subscript e (.Slice lo hi none p2) pos) (tSl r te tl th) := by
  intro pins s σ H Q I h
  refine Subscript_ (thn (he pins s σ H _ I h) fun v s1 ⟨x, H1, I1, r1, q1⟩ => ?_)
  refine wpAny_Slice (thn (hl pins s1 σ H1 _ I1 q1) fun vl s2 ⟨l, H2, I2, pl, q2⟩ => thn (hu pins s2 σ H2 _ I2 q2) fun vu s3 ⟨u, H3, I3, pu, q3⟩ => ?_)
  rw [evalPart_none]
  refine wpAny_pure ?_
  have I4 : Inv X pins σ H3 { s3 with heap := s3.heap.push { cls := .type "slice", data := .fields #[vl, vu, .none] } } := I3.kept (t' := s3.toks) fun b ob q => Heap.get?_push_of_some _ q
  obtain ⟨T, id, hT, ht, hg⟩ := hr pins { s3 with heap := s3.heap.push { cls := .type "slice", data := .fields #[vl, vu, .none] } } σ H3 x v vl vu l u s3.heap.objs.size Q I4 r1 (Heap.IsSliceOf.new ..) pl pu q3
  show wpAny (model X.prog X.w) X.A (subscriptTail e (.Slice lo hi none p2) v (.ref s3.heap.objs.size)) (EP X pins σ Q) X.xe { s3 with heap := s3.heap.push { cls := .type "slice", data := .fields #[vl, vu, .none] } }
  exact tail_any (ops := [.ref s3.heap.objs.size, v]) ht hT hg (by with_unfolding_all rfl)

/-- the items of xs[lo:hi] -/
def cutV (xs : List V) (lo hi : Option Int) : List V := (xs.drop (HT.sIx xs.length 0 lo)).take (HT.sIx xs.length xs.length hi - HT.sIx xs.length 0 lo)
theorem cutV_length (xs : List V) (lo hi : Option Int) : (cutV xs lo hi).length ≤ xs.length := by
  unfold cutV
  rw [List.length_take, List.length_drop]
  omega
/-! ### t < u, t + u -/
/-- t + u, t not empty: u empty gives t itself -/
def rCatT (K : PySem.W.Frag) : R2 := fun x y H Q => ∃ a b xs ys, x = .ref a ∧ y = .ref b ∧ SqT K H a xs ∧ SqT K H b ys ∧ xs ≠ [] ∧ xs.length + ys.length ≤ sizeLine ∧
  (ys = [] → Q (.ref a) H) ∧ (ys ≠ [] → ∀ p, H p = none → Q (.ref p) (upd H p (.tup (xs ++ ys))))
theorem Vals.nil_iff {xs : List V} {us : List Value} (r : Vals xs us) : us = [] ↔ xs = [] := by
  cases r with
  | nil => simp
  | cons _ _ => simp
theorem op_catT : OpR X (binaryOp .Add) (rCatT X.K) := by
  intro pins s σ H x y v u Q I rx ry h
  obtain ⟨a, b, xs, ys, rfl, rfl, ha, hb, hx, hz, q1, q2⟩ := h
  cases rx
  cases ry
  obtain ⟨its, r1, p1, _⟩ := I.tuple ha
  obtain ⟨its2, r2, p2, _⟩ := I.tuple hb
  refine HT.cat_tup p1 p2 (fun z => hx (r1.nil_iff.mp z)) (fun z => ⟨.ref a, H, I, rfl, q1 (r2.nil_iff.mp z)⟩) (fun z => ?_) (by rw [← r1.length, ← r2.length]; exact hz)
  refine ⟨.ref s.heap.objs.size, _, I.laid (t' := s.toks) (o := .tup (xs ++ ys)) (fun b ob q => Heap.get?_push_of_some _ q) (Nat.le_refl _) ?_, rfl, q2 (fun w => z (r2.nil_iff.mpr w)) _ (I.hok.fresh (Nat.le_refl _))⟩
  exact ⟨by rw [List.length_append]; exact hz, _, r1.append r2, IsTup.new _ _⟩
end
end L2

namespace L2
open PySem PySem.Spec PyProof.Rows

/-! ### places -/
/-- the place that an index of any sign means -/
def ixN (n : Nat) (i : Int) : Option Nat := if 0 ≤ i then (if i < n then some i.toNat else none) else if -(n : Int) ≤ i then some (i + n).toNat else none
def atI {α : Type} (xs : List α) (i : Int) : Option α := (ixN xs.length i).bind fun j => xs[j]?
theorem ixN_seq {n : Nat} {i : Int} {j : Nat} (h : ixN n i = some j) : seqIndex? i n = some j ∧ j < n ∧ -(n : Int) ≤ i ∧ i < n := by
  unfold ixN at h
  by_cases h0 : 0 ≤ i
  · rw [if_pos h0] at h
    by_cases h1 : i < n
    · rw [if_pos h1] at h
      have e : i.toNat = j := Option.some.inj h
      exact ⟨by rw [seqIndex_of h0 h1, e], by omega, by omega, h1⟩
    · rw [if_neg h1] at h; cases h
  · rw [if_neg h0] at h
    by_cases h1 : -(n : Int) ≤ i
    · rw [if_pos h1] at h
      have e : (i + n).toNat = j := Option.some.inj h
      exact ⟨by rw [seqIndex_neg (by omega) h1, e], by omega, h1, by omega⟩
    · rw [if_neg h1] at h; cases h
theorem atI_get {α : Type} {xs : List α} {i : Int} {v : α} (h : atI xs i = some v) : ∃ j, seqIndex? i xs.length = some j ∧ xs[j]? = some v ∧ j < xs.length ∧ -(xs.length : Int) ≤ i ∧ i < xs.length := by
  unfold atI at h
  cases e : ixN xs.length i with
  | none => rw [e] at h; cases h
  | some j =>
    rw [e] at h
    obtain ⟨h1, h2, h3, h4⟩ := ixN_seq e
    exact ⟨j, h1, h, h2, h3, h4⟩
theorem atI_nat {α : Type} {xs : List α} {j : Nat} {v : α} (h : xs[j]? = some v) : atI xs (j : Int) = some v := by
  have hj : j < xs.length := (List.getElem?_eq_some_iff.mp h).1
  have e : ixN xs.length (j : Int) = some j := by
    unfold ixN
    rw [if_pos (by omega), if_pos (by omega)]; simp
  unfold atI; rw [e]; exact h
/-! ### what may be subscripted -/
/-- what stands as an index of a plain subscript -/
def PlainIx (b : Expr) : Prop := ∀ o i, subscripted b false o i = operate [o, i] (getItem o i)
/-- a subscript by values -/
def IxR (X : Cx) (r : R2) : Prop :=
  ∀ (value slice : Expr) (pins : List (Addr × Obj)) (s : Shared) (σ : St) (H : Hp) (x y : V) (v u : Value) (Q : VK), Inv X pins σ H s → RelV x v → RelV y u → r x y H Q →
    subscripted slice false v u = operate [v, u] (getItem v u) → wpAny (model X.prog X.w) X.A (subscriptTail value slice v u) (EP X pins σ Q) X.xe s
/-- a call of a builtin's method by values: the receiver, the arguments -/
def MtR (X : Cx) (id : String) (r : V → List V → Hp → VK → Prop) : Prop :=
  ∀ (pins : List (Addr × Obj)) (s : Shared) (σ : St) (H : Hp) (x : V) (xs : List V) (v : Value) (us : List Value) (Q : VK), Inv X pins σ H s → RelV x v → Vals xs us → r x xs H Q →
    wpAny (model X.prog X.w) X.A (call (.builtin id) (v :: us)) (EP X pins σ Q) X.xe s
section
variable {X : Cx} {a b : Expr} {ta tb : TE} {pos : Pos}
theorem IxR.or {r r' : R2} (h : IxR X r) (h' : IxR X r') : IxR X (fun x y H Q => r x y H Q ∨ r' x y H Q) := by
  intro value slice pins s σ H x y v u Q I rx ry q hs
  rcases q with q | q
  · exact h value slice pins s σ H x y v u Q I rx ry q hs
  · exact h' value slice pins s σ H x y v u Q I rx ry q hs
theorem MtR.or {id : String} {r r' : V → List V → Hp → VK → Prop} (h : MtR X id r) (h' : MtR X id r') : MtR X id (fun x xs H Q => r x xs H Q ∨ r' x xs H Q) := by
  intro pins s σ H x xs v us Q I rx rs q
  rcases q with q | q
  · exact h pins s σ H x xs v us Q I rx rs q
  · exact h' pins s σ H x xs v us Q I rx rs q
/-- a[b] -/
theorem pe_ix {r : R2} (hr : IxR X r) (ha : PE X a ta) (hb : PE X b tb) (hs : PlainIx b) : PE X (.Subscript a b pos) (tOp r ta tb) := by
  intro pins s σ H Q I h
  exact Subscript_ (binT ha hb I h fun v u s2 x y H2 I2 rx ry q => hr a b pins s2 σ H2 x y v u Q I2 rx ry q (hs _ _))

def rIxL (K : PySem.W.Frag) : R2 := fun x y H Q => ∃ p xs i v, x = .ref p ∧ y = .int i ∧ SqL K H p xs ∧ atI xs i = some v ∧ Q v H
def rIxT (K : PySem.W.Frag) : R2 := fun x y H Q => ∃ p xs i v, x = .ref p ∧ y = .int i ∧ SqT K H p xs ∧ atI xs i = some v ∧ Q v H
theorem ix_list : IxR X (rIxL X.K) := by
  intro value slice pins s σ H x y v u Q I rx ry h hs
  obtain ⟨p, xs, i, z, rfl, rfl, hq, he, q⟩ := h
  cases rx
  obtain ⟨t, rfl⟩ := ry
  obtain ⟨its, r, pl, hz⟩ := I.list hq
  obtain ⟨j, h1, h2, h3, h4, h5⟩ := atI_get he
  obtain ⟨w, ew, rw'⟩ := r.get h2
  have hl := r.length
  have hn := line63
  have fin : EP X pins σ Q w s := ⟨z, H, I, rw', q⟩
  by_cases h0 : 0 ≤ i
  · have hj : i.toNat = j := by
      rw [seqIndex_of h0 h5] at h1
      exact Option.some.inj h1
    exact item_listR pl.isList h0 (by omega) (by rw [hj]; simpa using ew) fin hs
  · have hj : (i + (its.toArray.size : Int)).toNat = j := by
      rw [seqIndex_neg (by omega) h4] at h1
      rw [List.size_toArray, ← hl]
      exact Option.some.inj h1
    exact subscriptTail_builtinR (x := w) pl.isList.typeIs slot_list_getitem.lookup
      (wpAny_getItem_list_neg (Q := fun r s' => r = w ∧ EP X pins σ Q r s') pl.isList (by omega) (by rw [List.size_toArray] <;> omega) (by omega) (by rw [hj]; simpa using ew) ⟨rfl, fin⟩) hs
theorem ix_tup : IxR X (rIxT X.K) := by
  intro value slice pins s σ H x y v u Q I rx ry h hs
  obtain ⟨p, xs, i, z, rfl, rfl, hq, he, q⟩ := h
  cases rx
  obtain ⟨t, rfl⟩ := ry
  obtain ⟨its, r, pl, hz⟩ := I.tuple hq
  obtain ⟨j, h1, h2, h3, h4, h5⟩ := atI_get he
  obtain ⟨w, ew, rw'⟩ := r.get h2
  have hl := r.length
  have hn := line63
  have fin : EP X pins σ Q w s := ⟨z, H, I, rw', q⟩
  exact subscriptTail_builtinR (x := w) pl.typeIs slot_tuple_getitem.lookup
    (getItem_tuple (j := j) (Q := fun r s' => r = w ∧ EP X pins σ Q r s') pl (by omega) (by omega) (by rw [List.size_toArray, ← hl]; exact h1) (by simpa using ew) ⟨rfl, fin⟩) hs
/-! ### xs[i] = v, any sign -/
/-- the list's object behind a store -/
theorem mapSeq_set (its : List Value) (n j : Nat) (u : Value) : Obj.mapSeq (·.setIfInBounds j u) { cls := .type "list", data := .seq its.toArray n } = { cls := .type "list", data := .seq (its.set j u).toArray n } := by
  simp [Obj.mapSeq]
theorem Inv.lst {pins : List (Addr × Obj)} {σ : St} {H : Hp} {s : Shared} {p : Addr} {xs : List V} (I : Inv X pins σ H s) (h : H p = some (.lst xs)) :
    ∃ (its : List Value) (n : Nat), Vals xs its ∧ s.heap.get? p = some { cls := .type "list", data := .seq its.toArray n } ∧ xs.length ≤ sizeLine := by
  obtain ⟨z, its, n, r, e⟩ := I.hok p _ h
  exact ⟨its, n, r, e, z⟩
/-- the list at p is written by an update of its object -/
theorem Inv.lstUpd {pins : List (Addr × Obj)} {σ : St} {H : Hp} {s : Shared} {p : Addr} {xs ys : List V} {its its' : List Value} {n n' : Nat} {f : Obj → Obj} (I : Inv X pins σ H s) (h : H p = some (.lst xs))
    (ho : s.heap.get? p = some { cls := .type "list", data := .seq its.toArray n }) (hf : f { cls := .type "list", data := .seq its.toArray n } = { cls := .type "list", data := .seq its'.toArray n' }) (r : Vals ys its') (hz : ys.length ≤ sizeLine) (t : Nat) :
    Inv X pins σ (upd H p (.lst ys)) { s with heap := s.heap.update p f, toks := t } := by
  have e : (s.heap.update p f).get? p = some { cls := .type "list", data := .seq its'.toArray n' } := by
    rw [Heap.get?_update_self f ho (by rw [hf] <;> rfl), hf]
  refine I.write (x := p) (e := p) (by rw [h]; trivial) (.inl rfl) (fun b u hb q => (Heap.get?_update_other _ _ (Ne.symm hb)).trans q) ⟨_, e⟩ ?_
  exact ⟨hz, its', n', r, e⟩
def rSetL : V → V → V → Hp → (Hp → Prop) → Prop := fun o i v H Q => ∃ p xs k j, o = .ref p ∧ i = .int k ∧ H p = some (.lst xs) ∧ ixN xs.length k = some j ∧ Q (upd H p (.lst (xs.set j v)))
theorem set_list : PSet X rSetL := by
  intro pins s σ H o i v ov iv u Q I ro ri rv h
  obtain ⟨p, xs, k, j, rfl, rfl, hp, hj, q⟩ := h
  cases ro
  obtain ⟨t, rfl⟩ := ri
  obtain ⟨its, n, r, ho, hz⟩ := I.lst hp
  obtain ⟨h1, h2, h3, h4⟩ := ixN_seq hj
  have hl := r.length
  have hn := line63
  have I' : Inv X pins σ (upd H p (.lst (xs.set j v))) { s with heap := s.heap.update p (Obj.mapSeq (·.setIfInBounds j u)) } :=
    I.lstUpd hp ho (mapSeq_set its n j u) (r.set rv j) (by rw [List.length_set]; exact hz) s.toks
  by_cases h0 : 0 ≤ k
  · have hk : k.toNat = j := by
      rw [seqIndex_of h0 h4] at h1
      exact Option.some.inj h1
    exact PySem.W.ki_setAt ho h0 (by omega) (by rw [List.size_toArray, ← hl]; exact h4) (by rw [hk]; exact ⟨_, I', q⟩)
  · have hk : (k + (its.toArray.size : Int)).toNat = j := by
      rw [seqIndex_neg (by omega) h3] at h1
      rw [List.size_toArray, ← hl]
      exact Option.some.inj h1
    exact PySem.W.ki_setBack ho (by omega) (by rw [List.size_toArray, ← hl]; exact h3) (by omega) (by rw [hk]; exact ⟨_, I', q⟩)

/-! ### slices -/
theorem slice_bounds (lo hi : Option Int) (n : Nat) : (sliceBounds lo hi none n).1 = ((HT.sIx n 0 lo : Nat) : Int) ∧ (sliceBounds lo hi none n).2.1 = ((HT.sIx n n hi : Nat) : Int) ∧ (sliceBounds lo hi none n).2.2 = 1 := by
  refine ⟨?_, ?_, rfl⟩
  · cases lo with
    | none => simp [sliceBounds, HT.sIx]
    | some i =>
      simp only [sliceBounds, HT.sIx, Option.getD_none, show (1 : Int) > 0 by decide, if_true]
      by_cases h : i < 0
      · simp only [h, if_true] <;> omega
      · simp only [h, if_false] <;> omega
  · cases hi with
    | none => simp [sliceBounds, HT.sIx]
    | some i =>
      simp only [sliceBounds, HT.sIx, Option.getD_none, show (1 : Int) > 0 by decide, if_true]
      by_cases h : i < 0
      · simp only [h, if_true] <;> omega
      · simp only [h, if_false] <;> omega
theorem slicePick_cut (its : List Value) (lo hi : Option Int) : slicePick its.toArray lo hi none = ((its.drop (HT.sIx its.length 0 lo)).take (HT.sIx its.length its.length hi - HT.sIx its.length 0 lo)).toArray := by
  obtain ⟨h1, h2, h3⟩ := slice_bounds lo hi its.toArray.size
  unfold slicePick
  rw [h1, h2, h3]
  simp only [sliceRange_one, pick_run, List.size_toArray] <;> rfl
/-- xs[lo:hi] of a list: a new list -/
def rSlL (K : PySem.W.Frag) : V → Option Int → Option Int → Hp → VK → Prop := fun x lo hi H Q => ∃ a xs, x = .ref a ∧ SqL K H a xs ∧ ∀ p, H p = none → Q (.ref p) (upd H p (.lst (cutV xs lo hi)))
theorem sl_list : SlR X (rSlL X.K) := by
  intro pins s σ H x v vl vu lo hi sl Q I rx hs pl pu h
  obtain ⟨a, xs, rfl, hx, q⟩ := h
  cases rx
  obtain ⟨its, r, ht, hz⟩ := I.list hx
  have hlen := r.length
  refine ⟨"list", _, slot_list_getitem.lookup, ht.isList.typeIs, ?_⟩
  refine wpAny_getItem_list_slice ht.isList hs pl pu .none (by simp) ?_ (by rw [List.size_toArray] <;> omega)
  rw [slicePick_cut, ← hlen]
  refine ⟨.ref s.heap.objs.size, _, I.laid (t' := s.toks) (o := .lst (cutV xs lo hi)) (fun b ob q => Heap.get?_push_of_some _ q) (Nat.le_refl _) ?_, rfl, q _ (I.hok.fresh (Nat.le_refl _))⟩
  exact ⟨Nat.le_trans (cutV_length xs lo hi) hz, _, 0, (r.drop (HT.sIx xs.length 0 lo)).take (HT.sIx xs.length xs.length hi - HT.sIx xs.length 0 lo), Heap.get?_push_size _ rfl⟩

/-! ### in, not in: flat items -/
def flatV : V → Bool
  | .non => true
  | .bl _ => true
  | .int _ => true
  | .str _ => true
  | _ => false
/-- == of flat values -/
def eqV : V → V → Bool
  | .non, .non => true
  | .bl a, .bl b => a == b
  | .bl a, .int b => (if a then 1 else 0) == b
  | .int a, .bl b => a == (if b then 1 else 0)
  | .int a, .int b => a == b
  | .str a, .str b => a == b
  | _, _ => false
theorem eqAt_V {A : Around} {s : Shared} {y x : V} {u v : Value} (ry : RelV y u) (rx : RelV x v) (fy : flatV y = true) (fx : flatV x = true) : SeqAt.EqAt A s u v (eqV y x) := by
  cases y with
  | non =>
    cases ry
    cases x with
    | non => cases rx; exact SeqAt.EqAt.same _
    | bl b => cases rx; exact SeqAt.EqAt.none_bool b
    | int b => obtain ⟨t, rfl⟩ := rx; exact SeqAt.EqAt.none_int b t
    | str b => obtain ⟨t, rfl⟩ := rx; exact SeqAt.EqAt.none_str b t
    | _ => exact absurd (show false = true from fx) Bool.false_ne_true
  | bl a =>
    cases ry
    cases x with
    | non => cases rx; exact SeqAt.EqAt.bool_none a
    | bl b => cases rx; exact SeqAt.EqAt.bool_bool a b
    | int b => obtain ⟨t, rfl⟩ := rx; exact SeqAt.EqAt.bool_int a b t
    | str b => obtain ⟨t, rfl⟩ := rx; exact SeqAt.EqAt.bool_str a b t
    | _ => exact absurd (show false = true from fx) Bool.false_ne_true
  | int a =>
    obtain ⟨t', rfl⟩ := ry
    cases x with
    | non => cases rx; exact SeqAt.EqAt.int_none a t'
    | bl b => cases rx; exact SeqAt.EqAt.int_bool a t' b
    | int b => obtain ⟨t, rfl⟩ := rx; exact SeqAt.EqAt.int_int a t' b t
    | str b => obtain ⟨t, rfl⟩ := rx; exact SeqAt.EqAt.int_str a t' b t
    | _ => exact absurd (show false = true from fx) Bool.false_ne_true
  | str a =>
    obtain ⟨t', rfl⟩ := ry
    cases x with
    | non => cases rx; exact SeqAt.EqAt.str_none a t'
    | bl b => cases rx; exact SeqAt.EqAt.str_bool a t' b
    | int b => obtain ⟨t, rfl⟩ := rx; exact SeqAt.EqAt.str_int a t' b t
    | str b => obtain ⟨t, rfl⟩ := rx; exact SeqAt.EqAt.str_str a t' b t
    | _ => exact absurd (show false = true from fx) Bool.false_ne_true
  | _ => exact absurd (show false = true from fy) Bool.false_ne_true
/-- the items' answers, read off the values (a value's own answer does not lean on its token) -/
def eqU (x : V) (u : Value) : Bool := match u with
  | .none => eqV .non x
  | .bool b => eqV (.bl b) x
  | .int i _ => eqV (.int i) x
  | .str z _ => eqV (.str z) x
  | _ => false
theorem eqU_of {x y : V} {u : Value} (r : RelV y u) (f : flatV y = true) : eqU x u = eqV y x := by
  cases y with
  | non => cases r; rfl
  | bl b => cases r; rfl
  | int i => obtain ⟨t, rfl⟩ := r; rfl
  | str z => obtain ⟨t, rfl⟩ := r; rfl
  | _ => exact absurd (show false = true from f) Bool.false_ne_true
theorem any_eqU {x : V} : ∀ {xs : List V} {us : List Value}, Vals xs us → xs.all flatV = true → us.any (eqU x) = xs.any fun y => eqV y x
  | _, _, .nil, _ => rfl
  | y :: xs, u :: us, .cons r t, f => by
    rw [List.all_cons, Bool.and_eq_true] at f
    rw [List.any_cons, List.any_cons, eqU_of r f.1, any_eqU t f.2]
theorem mem_eqAt {A : Around} {s : Shared} {x : V} {v : Value} (rx : RelV x v) (fx : flatV x = true) : ∀ {xs : List V} {us : List Value}, Vals xs us → xs.all flatV = true → ∀ u ∈ us, SeqAt.EqAt A s u v (eqU x u)
  | _, _, .nil, _ => fun u hu => by cases hu
  | y :: xs, u :: us, .cons r t, f => fun u' hu => by
    rw [List.all_cons, Bool.and_eq_true] at f
    rcases List.mem_cons.mp hu with rfl | hu
    · rw [eqU_of r f.1]; exact eqAt_V r rx f.1 fx
    · exact mem_eqAt rx fx t f.2 u' hu
def inV (x : V) (xs : List V) : Bool := xs.any fun y => eqV y x
/-- x in a list or tuple of flat items -/
def rIn (K : PySem.W.Frag) (neg : Bool) : R2 := fun x y H Q => ∃ p xs, y = .ref p ∧ (SqL K H p xs ∨ SqT K H p xs) ∧ flatV x = true ∧ xs.all flatV = true ∧ Q (.bl (if neg then !inV x xs else inV x xs)) H
theorem op_in_seq : OpR X (compareOp .In) (rIn X.K false) := by
  intro pins s σ H x y v u Q I rx ry h
  obtain ⟨p, xs, rfl, hq, fx, fs, q⟩ := h
  cases ry
  rcases hq with hq | hq
  · obtain ⟨its, r, pl, hz⟩ := I.list hq
    refine SeqAt.in_listAt (eqU x) pl.isList (fun w hw => mem_eqAt rx fx r fs w (by simpa using hw)) ⟨.bl _, H, I, rfl, ?_⟩
    rw [show its.toArray.any (eqU x) = its.any (eqU x) by simp, any_eqU r fs]
    exact q
  · obtain ⟨its, r, pl, hz⟩ := I.tuple hq
    refine SeqAt.in_tupleAt (eqU x) pl (fun w hw => mem_eqAt rx fx r fs w (by simpa using hw)) ⟨.bl _, H, I, rfl, ?_⟩
    rw [show its.toArray.any (eqU x) = its.any (eqU x) by simp, any_eqU r fs]
    exact q
/-! ### len, list(x), tuple(x) of any list or tuple that is read -/
theorem call_len_seq : CallR X (.builtin "len") (fun xs H Q => ∃ p ys, xs = [.ref p] ∧ (SqL X.K H p ys ∨ SqT X.K H p ys) ∧ Q (.int ys.length) H) := by
  intro pins s σ H xs us Q I r h
  obtain ⟨p, ys, rfl, hq, q⟩ := h
  obtain ⟨u, rfl, rx⟩ := vals1 r
  cases rx
  have hn := line63
  rcases hq with hq | hq
  · obtain ⟨its, r', pl, hz⟩ := I.list hq
    have hlen := r'.length
    exact Calls.call_len_list pl.isList (by simp only [List.size_toArray] <;> omega) ⟨.int ys.length, H, I.tok _, ⟨s.toks + 1, by rw [List.size_toArray, hlen]⟩, q⟩
  · obtain ⟨its, r', pl, hz⟩ := I.tuple hq
    have hlen := r'.length
    exact len_tuple pl (by simp only [List.size_toArray] <;> omega) ⟨.int ys.length, H, I.tok _, ⟨s.toks + 1, by rw [List.size_toArray, hlen]⟩, q⟩
theorem CallR.or {f : Value} {r r' : List V → Hp → VK → Prop} (h : CallR X f r) (h' : CallR X f r') : CallR X f (fun xs H Q => r xs H Q ∨ r' xs H Q) := by
  intro pins s σ H xs us Q I rs q
  rcases q with q | q
  · exact h pins s σ H xs us Q I rs q
  · exact h' pins s σ H xs us Q I rs q
theorem call_list_of : CallR X (.type "list") (fun xs H Q => ∃ p ys, xs = [.ref p] ∧ (SqL X.K H p ys ∨ SqT X.K H p ys) ∧ ∀ l, H l = none → Q (.ref l) (upd H l (.lst ys))) := by
  intro pins s σ H xs us Q I r h
  obtain ⟨p, ys, rfl, hq, q⟩ := h
  obtain ⟨u, rfl, rx⟩ := vals1 r
  cases rx
  have fin : ∀ (its : List Value), Vals ys its → ys.length ≤ sizeLine → ∀ (h' : Heap) (c' : Nat), (∀ b o', s.heap.get? b = some o' → h'.get? b = some o') →
      h'.get? s.heap.objs.size = some { cls := .type "list", dict := none, data := .seq its.toArray c', slots := #[] } → EP X pins σ Q (.ref s.heap.objs.size) { s with heap := h' } := fun its r' hz h' c' kp e =>
    ⟨.ref s.heap.objs.size, _, I.laid (t' := s.toks) kp (Nat.le_refl _) (show ObjOk X.prog X.w _ h' _ (.lst ys) from ⟨hz, its, c', r', e⟩), rfl, q _ (I.hok.fresh (Nat.le_refl _))⟩
  rcases hq with hq | hq
  · obtain ⟨its, r', pl, hz⟩ := I.list hq
    have hlen := r'.length
    obtain ⟨o, ho, hc, n, hd⟩ := pl.isList
    exact call_list_seq p (.inl rfl) ho hc hd (fun h' c' kp e => fin its r' hz h' c' kp e) (by simp only [List.size_toArray] <;> omega)
  · obtain ⟨its, r', pl, hz⟩ := I.tuple hq
    have hlen := r'.length
    obtain ⟨o, ho, hc, n, hd⟩ := pl
    exact call_list_seq p (.inr rfl) ho hc hd (fun h' c' kp e => fin its r' hz h' c' kp e) (by simp only [List.size_toArray] <;> omega)
theorem call_tuple_of : CallR X (.type "tuple") (fun xs H Q => ∃ p ys, xs = [.ref p] ∧ ((SqL X.K H p ys ∧ ∀ l, H l = none → Q (.ref l) (upd H l (.tup ys))) ∨ (SqT X.K H p ys ∧ Q (.ref p) H))) := by
  intro pins s σ H xs us Q I r h
  obtain ⟨p, ys, rfl, h⟩ := h
  obtain ⟨u, rfl, rx⟩ := vals1 r
  cases rx
  rcases h with ⟨hq, q⟩ | ⟨hq, q⟩
  · obtain ⟨its, r', pl, hz⟩ := I.list hq
    have hlen := r'.length
    refine call_tuple_list pl.isList (fun h' kp => ?_) (by simp only [List.size_toArray] <;> omega)
    have I1 : Inv X pins σ H { s with heap := h' } := I.kept (t' := s.toks) kp
    have I2 : Inv X pins σ (upd H h'.objs.size (.tup ys)) { s with heap := h'.push { cls := .type "tuple", data := .seq its.toArray } } :=
      I1.laid (t' := s.toks) (fun b o e => Heap.get?_push_of_some _ e) (Nat.le_refl _) (show ObjOk X.prog X.w _ _ _ (.tup ys) from ⟨hz, its, r', IsTup.new _ _⟩)
    exact ⟨.ref h'.objs.size, _, I2, rfl, q _ (I1.hok.fresh (Nat.le_refl _))⟩
  · obtain ⟨its, r', pl, hz⟩ := I.tuple hq
    exact call_tuple_same pl ⟨.ref p, H, I, rfl, q⟩

/-! ### the call of a builtin's method: o.m(..) -/
/-- the value is of that builtin type -/
def tyV (K : PySem.W.Frag) (T : String) (x : V) (H : Hp) : Prop := match x with
  | .str _ => T = "str"
  | .int _ => T = "int"
  | .ref p => (T = "list" ∧ ∃ xs, SqL K H p xs) ∨ (T = "tuple" ∧ ∃ o, K.lookup p = some o ∧ o.cls = .type "tuple" ∧ o.dict = none) ∨
      (T = "dict" ∧ ((∃ kvs, H p = some (.dK kvs)) ∨ ∃ kvs, H p = some (.dT kvs))) ∨ (T = "set" ∧ ∃ S n, H p = some (.set S n))
  | _ => False
theorem tyV_is {pins : List (Addr × Obj)} {σ : St} {H : Hp} {s : Shared} {T : String} {x : V} {v : Value} (I : Inv X pins σ H s) (r : RelV x v) (ty : tyV X.K T x H) :
    s.TypeIs v T ∧ ∀ a, v = .ref a → ∃ ob, s.heap.get? a = some ob ∧ ob.dict = none := by
  cases x with
  | str z =>
    obtain ⟨t, rfl⟩ := r
    cases (show T = "str" from ty)
    exact ⟨typeIs_str s z t, fun _ e => nomatch e⟩
  | int i =>
    obtain ⟨t, rfl⟩ := r
    cases (show T = "int" from ty)
    exact ⟨typeIs_int s i t, fun _ e => nomatch e⟩
  | ref p =>
    cases r
    rcases ty with ⟨rfl, xs, hq⟩ | ⟨rfl, o, hk, hc, hd⟩ | ⟨rfl, hk⟩ | ⟨rfl, S, n, hk⟩
    · obtain ⟨its, _, pl, _⟩ := I.list hq
      refine ⟨pl.isList.typeIs, fun a e => ?_⟩
      cases e
      obtain ⟨o, n, e, c, hd, _⟩ := pl
      exact ⟨o, e, hd⟩
    · refine ⟨⟨o, I.kIn p o hk, hc⟩, fun a e => ?_⟩
      cases e
      exact ⟨o, I.kIn _ o hk, hd⟩
    · have z : ∃ o, s.heap.get? p = some o ∧ o.ExactDict := by
        rcases hk with ⟨kvs, hk⟩ | ⟨kvs, hk⟩
        · obtain ⟨_, _, _, _, o, _, _, e, ex, _⟩ := I.hok p _ hk
          exact ⟨o, e, ex⟩
        · obtain ⟨_, _, _, _, o, _, _, e, ex, _⟩ := I.hok p _ hk
          exact ⟨o, e, ex⟩
      obtain ⟨o, e, ex⟩ := z
      refine ⟨⟨o, e, ex.1⟩, fun a e2 => ?_⟩
      cases e2
      exact ⟨o, e, ex.2.1⟩
    · obtain ⟨o, _, _, _, e, ex, _⟩ := I.hok p _ hk
      refine ⟨⟨o, e, ex.1⟩, fun a e2 => ?_⟩
      cases e2
      exact ⟨o, e, ex.2.1⟩
  | _ => exact False.elim ty
def tBM0 (K : PySem.W.Frag) (T : String) (r : V → List V → Hp → VK → Prop) (to : TE) : TE := fun σ H Q => to σ H fun x H1 => tyV K T x H1 ∧ r x [] H1 Q
def tBM (K : PySem.W.Frag) (T : String) (r : V → List V → Hp → VK → Prop) (to : TE) (t : TA) : TE := fun σ H Q => to σ H fun x H1 => tyV K T x H1 ∧ t σ H1 fun xs H2 => r x xs H2 Q
variable {o e : Expr} {es : List Expr} {to : TE} {t : TA} {name : Str} {apos cpos : Pos} {T id : String} {r : V → List V → Hp → VK → Prop}
theorem pe_bm0 (pa : PlainAttrs T) (slot : Slot T name id) (hty : typeOf (.builtin id) = pure (.type "method_descriptor")) (hm : MtR X id r) (ho : PE X o to)
    (hbase : attributeBase o name X.env (eval o X.env) = eval o X.env := by rfl) (hline : (apos.endLine == cpos.line) = true := by rfl) : PE X (.Call (.Attribute o name apos) [] [] cpos) (tBM0 X.K T r to) := by
  intro pins s σ H Q I h
  refine wpAny_Call_method0_late hbase hline (thn (ho pins s σ H _ I h) fun v s1 ⟨x, H1, I1, r1, ty, q1⟩ => ?_)
  obtain ⟨h1, h2⟩ := tyV_is I1 r1 ty
  exact ⟨T, id, pa, slot, hty, h1, h2, Calls.callWith_builtin rfl (PySem.evalArgs_none (hm pins s1 σ H1 x [] v [] Q I1 r1 .nil q1))⟩
theorem pe_bm (pa : PlainAttrs T) (slot : Slot T name id) (hty : typeOf (.builtin id) = pure (.type "method_descriptor")) (hm : MtR X id r) (ho : PE X o to) (ha : PA X (e :: es) t)
    (hbase : attributeBase o name X.env (eval o X.env) = eval o X.env := by rfl)
    (hfew : ((backTo cpos (starEach (e :: es) X.env)).all (fun x => !x.1) && (backToKw cpos (keywordEach [] X.env)).all (fun x => x.1.isSome)
      && decide ((e :: es).length + ([] : List Keyword).length + (if ([] : List Keyword).isEmpty then 0 else 1) < 30)) = true := by rfl)
    (hline : (apos.endLine == cpos.line) = true := by rfl) (hs : starEach (e :: es) X.env = (false, eval e X.env) :: starEach es X.env := by rfl) (hplain : (backTo cpos (starEach es X.env)).any (·.1) = false := by rfl) :
    PE X (.Call (.Attribute o name apos) (e :: es) [] cpos) (tBM X.K T r to t) := by
  intro pins s σ H Q I h
  refine wpAny_Call_method_late hbase hfew hline rfl (thn (ho pins s σ H _ I h) fun v s1 ⟨x, H1, I1, r1, ty, q1⟩ => ?_)
  obtain ⟨h1, h2⟩ := tyV_is I1 r1 ty
  refine ⟨T, id, pa, slot, hty, h1, h2, ?_⟩
  have hA := ha cpos pins s1 σ H1 _ I1 q1
  rw [hs] at hA ⊢
  refine Calls.callWith_builtin (by show (false || (backTo cpos (starEach es X.env)).any (·.1)) = false; rw [hplain] <;> rfl) (Calls.evalArgs_plain ?_)
  exact thn hA fun us s2 ⟨vs, H2, I2, r2, q2⟩ => hm pins s2 σ H2 x vs v us Q I2 r1 r2 q2
/- xs.append(e), list.index on a module's tuple .. are MtR facts of 06m -/
end
end L2

namespace L2
open PySem PySem.Spec PyProof.Rows

def MtM (X : Cx) (id : String) (r : V → List V → Hp → VK → Prop) : Prop :=
  ∀ (pins : List (Addr × Obj)) (s : Shared) (σ : St) (H : Hp) (x : V) (xs : List V) (v : Value) (us : List Value) (Q : VK), Inv X pins σ H s → RelV x v → Vals xs us → r x xs H Q →
    wpAny (model X.prog X.w) X.A (call (.builtin id) (v :: us)) (EP X pins σ Q) X.xe s

/-! ### lists of values -/
theorem Vals.one : ∀ {x : V} {us : List Value}, Vals [x] us → ∃ u, us = [u] ∧ RelV x u
  | _, _, .cons r .nil => ⟨_, rfl, r⟩
theorem Vals.two : ∀ {x y : V} {us : List Value}, Vals [x, y] us → ∃ u v, us = [u, v] ∧ RelV x u ∧ RelV y v
  | _, _, _, .cons r (.cons q .nil) => ⟨_, _, rfl, r, q⟩
theorem Vals.zero : ∀ {us : List Value}, Vals [] us → us = []
  | _, .nil => rfl
theorem Vals.eraseIdx : ∀ {xs : List V} {us : List Value} (i : Nat), Vals xs us → Vals (xs.eraseIdx i) (us.eraseIdx i)
  | _, _, _, .nil => .nil
  | _, _, 0, .cons _ t => t
  | _, _, i + 1, .cons r t => .cons r (Vals.eraseIdx i t)
theorem Vals.reverse {xs : List V} {us : List Value} (h : Vals xs us) : Vals xs.reverse us.reverse := by
  induction h with
  | nil => exact .nil
  | cons r t ih => rw [List.reverse_cons, List.reverse_cons]; exact Vals.append ih (.cons r .nil)
section
variable {X : Cx} {pins : List (Addr × Obj)} {σ : St} {H : Hp} {s : Shared} {l b : Addr} {xs ys zs : List V}

/-! ### the two steps: a tracked list is rewritten, a new list is laid -/
theorem Inv.lset {its its' : List Value} {n : Nat} {f : Array Value → Array Value} {t' : Nat} (I : Inv X pins σ H s) (hH : H l = some (.lst xs))
    (e : s.heap.get? l = some { cls := .type "list", data := .seq its.toArray n }) (hf : f its.toArray = its'.toArray) (hv : Vals ys its') (hz : ys.length ≤ sizeLine) :
    Inv X pins σ (upd H l (.lst ys)) { s with heap := s.heap.update l (Obj.mapSeq f), toks := t' } := by
  have q := PySem.IsL.update e f
  rw [hf] at q
  refine I.write (x := l) (e := l) (by rw [hH]; exact trivial) (.inl rfl) (fun b' u hb hu => (Heap.get?_update_other s.heap (Obj.mapSeq f) (Ne.symm hb)).trans hu) ⟨_, q⟩ ?_
  exact ⟨hz, its', _, hv, q⟩
theorem Inv.lnew {its : List Value} {t' : Nat} (I : Inv X pins σ H s) (hv : Vals ys its) (hz : ys.length ≤ sizeLine) :
    Inv X pins σ (upd H s.heap.objs.size (.lst ys)) { s with heap := s.heap.push { cls := .type "list", data := .seq its.toArray }, toks := t' } :=
  I.laid (fun _ _ q => Heap.get?_push_of_some _ q) (Nat.le_refl _) ⟨hz, its, 0, hv, Heap.get?_push_size _ rfl⟩
theorem Inv.fresh (I : Inv X pins σ H s) : H s.heap.objs.size = none := I.hok.fresh (Nat.le_refl _)
theorem Inv.lstM (I : Inv X pins σ H s) (hH : H l = some (.lst xs)) : xs.length ≤ sizeLine ∧ ∃ (its : List Value) (n : Nat), Vals xs its ∧ xs.length = its.length ∧ s.heap.get? l = some { cls := .type "list", data := .seq its.toArray n } := by
  obtain ⟨z, its, n, r, e⟩ := I.hok l _ hH
  exact ⟨z, its, n, r, r.length, e⟩

theorem notLongL {n : Nat} (h : n ≤ sizeLine) : Builtin.List.listTooLong n = false := by
  unfold Builtin.List.listTooLong
  exact decide_eq_false (by omega)
end

section
variable {X : Cx}

/-! ### methods -/
def rAppend : V → List V → Hp → VK → Prop := fun x vs H Q => ∃ l xs y, x = .ref l ∧ vs = [y] ∧ H l = some (.lst xs) ∧ xs.length < sizeLine ∧ Q .non (upd H l (.lst (xs ++ [y])))
theorem mt_append : MtM X "list.append" rAppend := by
  intro pins s σ H x vs v us Q I rx rv h
  obtain ⟨l, xs, y, rfl, rfl, hH, hz, q⟩ := h
  cases rx
  obtain ⟨u, rfl, ru⟩ := rv.one
  obtain ⟨z, its, n, r, hl, e⟩ := I.lstM hH
  refine call_meets F.slot_list_append ⟨_, e, rfl⟩ F.entry_list_append (F.args_list_append_2 _ _) (PySem.list_append l its.toArray n u (by rw [List.size_toArray]; omega)) ⟨e, ?_⟩
  refine ⟨.non, _, I.lset (its' := its ++ [u]) hH e (by simp) (r.append (.cons ru .nil)) ?_, rfl, q⟩
  rw [List.length_append, List.length_singleton]
  omega

def rExtend : V → List V → Hp → VK → Prop := fun x vs H Q => ∃ l b xs zs, x = .ref l ∧ vs = [.ref b] ∧ H l = some (.lst xs) ∧ H b = some (.lst zs) ∧ xs.length + zs.length ≤ sizeLine ∧ Q .non (upd H l (.lst (xs ++ zs)))
def rPopAt : V → List V → Hp → VK → Prop := fun x vs H Q => ∃ l xs i k y, x = .ref l ∧ vs = [.int i] ∧ H l = some (.lst xs) ∧ -(2 ^ 63) ≤ i ∧ i < 2 ^ 63 ∧ seqIndex? i xs.length = some k ∧ xs[k]? = some y ∧ Q y (upd H l (.lst (xs.eraseIdx k)))
def rReverse : V → List V → Hp → VK → Prop := fun x vs H Q => ∃ l xs, x = .ref l ∧ vs = [] ∧ H l = some (.lst xs) ∧ Q .non (upd H l (.lst xs.reverse))
def rClear : V → List V → Hp → VK → Prop := fun x vs H Q => ∃ l xs, x = .ref l ∧ vs = [] ∧ H l = some (.lst xs) ∧ Q .non (upd H l (.lst []))
/-! ### list + list, list += list, list * int -/
def rCat : R2 := fun x y H Q => ∃ l b xs zs, x = .ref l ∧ y = .ref b ∧ H l = some (.lst xs) ∧ H b = some (.lst zs) ∧ xs.length + zs.length ≤ sizeLine ∧ ∀ p, H p = none → Q (.ref p) (upd H p (.lst (xs ++ zs)))
theorem op_cat : OpR X (binaryOp .Add) rCat := by
  intro pins s σ H x y v u Q I rx ry h
  obtain ⟨l, b, xs, zs, rfl, rfl, hH, hB, hz, q⟩ := h
  cases rx
  cases ry
  obtain ⟨z, its, n, r, hl, e⟩ := I.lstM hH
  obtain ⟨z2, its2, n2, r2, hl2, e2⟩ := I.lstM hB
  refine PySem.P.add_list e e2 ?_ (by rw [List.size_toArray, List.size_toArray]; omega)
  have ea : its.toArray ++ its2.toArray = (its ++ its2).toArray := by simp
  rw [ea]
  exact ⟨.ref _, _, I.lnew (t' := s.toks) (r.append r2) (by rw [List.length_append]; omega), rfl, q _ I.fresh⟩
/-! ### del xs[i] -/
end

/-! ### xs[a:b] = ys -/
section
variable {prog : Program} {w : World} {A : Around} {E : Value → Shared → Prop} {s : Shared}
set_option maxRecDepth 100000 in
end

section
variable {X : Cx}
end
end L2

namespace L2
open PySem PySem.Spec PyProof.Rows

/-! ### lists of pairs as tables -/
section
variable {κ : Type} [DecidableEq κ]
def valV (kvs : List (κ × V)) (k : κ) : Option V := (kvs.find? fun kv => decide (kv.1 = k)).map (·.2)
/-- in its place, or at the end -/
def putK (kvs : List (κ × V)) (k : κ) (v : V) : List (κ × V) :=
  if (kvs.any fun kv => decide (kv.1 = k)) = true then kvs.map (fun kv => if kv.1 = k then (kv.1, v) else kv) else kvs ++ [(k, v)]
def dropK (kvs : List (κ × V)) (k : κ) : List (κ × V) := kvs.filter fun kv => decide (kv.1 ≠ k)

theorem valV_pos {p : κ × V} {r : List (κ × V)} {k : κ} (e : p.1 = k) : valV (p :: r) k = some p.2 := by simp [valV, List.find?_cons, e]
theorem valV_neg {p : κ × V} {r : List (κ × V)} {k : κ} (e : ¬ p.1 = k) : valV (p :: r) k = valV r k := by simp [valV, List.find?_cons, e]
theorem valV_any (k : κ) : ∀ kvs : List (κ × V), (kvs.any fun kv => decide (kv.1 = k)) = (valV kvs k).isSome
  | [] => rfl
  | p :: r => by
    rw [List.any_cons]
    by_cases e : p.1 = k
    · simp only [valV_pos e, decide_eq_true e, Bool.true_or, Option.isSome_some]
    · rw [valV_neg e, decide_eq_false e, Bool.false_or]; exact valV_any k r
theorem length_putK (kvs : List (κ × V)) (k : κ) (v : V) : (putK kvs k v).length ≤ kvs.length + 1 := by
  unfold putK
  split
  · rw [List.length_map]; omega
  · rw [List.length_append, List.length_cons, List.length_nil]; omega
theorem putK_new {kvs : List (κ × V)} {k : κ} (v : V) (h : valV kvs k = none) : putK kvs k v = kvs ++ [(k, v)] := by
  unfold putK
  rw [valV_any, h]
  exact if_neg (by decide)

theorem RelO.isSome_eq {o : Option V} {u : Option Value} (r : RelO o u) : o.isSome = u.isSome := by
  cases o with
  | none => cases u with
    | none => rfl
    | some _ => exact (show False from r).elim
  | some _ => cases u with
    | none => exact (show False from r).elim
    | some _ => rfl
theorem RelO.getD {o : Option V} {u : Option Value} {d : V} {d' : Value} (r : RelO o u) (rd : RelV d d') : RelV (o.getD d) (u.getD d') := by
  cases o with
  | none => cases u with
    | none => exact rd
    | some _ => exact (show False from r).elim
  | some _ => cases u with
    | none => exact (show False from r).elim
    | some _ => exact r

/-- raw tables of the same keys -/
theorem KV.val {kvs : List (κ × V)} {vs : List (κ × Value)} (r : KV kvs vs) (k : κ) : RelO (valV kvs k) (valueAt vs k) := by
  unfold KV at r
  induction r with
  | nil => exact True.intro
  | @cons p q ps qs h t ih =>
    obtain ⟨h1, h2⟩ := h
    by_cases e : p.1 = k
    · have e' : q.1 = k := h1.symm.trans e
      have b : valueAt (q :: qs) k = some q.2 := by simp [valueAt, List.find?_cons, e']
      rw [valV_pos e, b]; exact h2
    · have e' : ¬ q.1 = k := fun z => e (h1.trans z)
      have b : valueAt (q :: qs) k = valueAt qs k := by simp [valueAt, List.find?_cons, e']
      rw [valV_neg e, b]; exact ih
theorem KV.any {kvs : List (κ × V)} {vs : List (κ × Value)} (r : KV kvs vs) (k : κ) : (kvs.any fun kv => decide (kv.1 = k)) = vs.any fun kv => decide (kv.1 = k) := by
  unfold KV at r
  induction r with
  | nil => rfl
  | cons h t ih => rw [List.any_cons, List.any_cons, ih, h.1]
theorem KV.repl {kvs : List (κ × V)} {vs : List (κ × Value)} (r : KV kvs vs) (k : κ) {y : V} {u : Value} (ry : RelV y u) :
    KV (kvs.map fun kv => if kv.1 = k then (kv.1, y) else kv) (vs.map fun kv => if kv.1 = k then (kv.1, u) else kv) := by
  unfold KV at r ⊢
  induction r with
  | nil => exact .nil
  | @cons p q ps qs h t ih =>
    rw [List.map_cons, List.map_cons]
    refine .cons ?_ ih
    obtain ⟨h1, h2⟩ := h
    by_cases e : p.1 = k
    · rw [if_pos e, if_pos (h1.symm.trans e)]; exact ⟨h1, ry⟩
    · rw [if_neg e, if_neg (fun z => e (h1.trans z))]; exact ⟨h1, h2⟩
theorem KV.put {kvs : List (κ × V)} {vs : List (κ × Value)} (r : KV kvs vs) (k : κ) {y : V} {u : Value} (ry : RelV y u) : KV (putK kvs k y) (stored vs k u) := by
  unfold putK stored
  rw [r.any k]
  by_cases e : (vs.any fun kv => decide (kv.1 = k)) = true
  · rw [if_pos e, if_pos e]; exact r.repl k ry
  · rw [if_neg e, if_neg e]; exact Paired.snoc r ⟨rfl, ry⟩
theorem KV.drop {kvs : List (κ × V)} {vs : List (κ × Value)} (r : KV kvs vs) (k : κ) : KV (dropK kvs k) (without vs k) := by
  unfold KV at r ⊢
  unfold dropK without
  induction r with
  | nil => exact .nil
  | @cons p q ps qs h t ih =>
    obtain ⟨h1, h2⟩ := h
    rw [List.filter_cons, List.filter_cons]
    by_cases e : p.1 = k
    · have a : ¬ decide (p.1 ≠ k) = true := by simp [e]
      have b : ¬ decide (q.1 ≠ k) = true := by simp [h1.symm.trans e]
      rw [if_neg a, if_neg b]; exact ih
    · have e' : ¬ q.1 = k := fun z => e (h1.trans z)
      have a : decide (p.1 ≠ k) = true := by simp [e]
      have b : decide (q.1 ≠ k) = true := by simp [e']
      rw [if_pos a, if_pos b]; exact .cons ⟨h1, h2⟩ ih
theorem KV.keys {kvs : List (κ × V)} {vs : List (κ × Value)} (r : KV kvs vs) : kvs.map (·.1) = vs.map (·.1) := by
  unfold KV at r
  induction r with
  | nil => rfl
  | cons h t ih => rw [List.map_cons, List.map_cons, ih, h.1]
theorem KV.length {kvs : List (κ × V)} {vs : List (κ × Value)} (r : KV kvs vs) : kvs.length = vs.length := Paired.length r
end


/-! ### a tracked dict, its keys ints and texts or tuples of these -/
theorem kV_is {P : Program} {w : World} {k : Key} {u : Value} (r : RelV (kV k) u) : (mixKind P w).is k u = true := by
  cases k with
  | inl i => obtain ⟨t, e⟩ := (show ∃ t, u = Value.int i t from r); subst e; exact mixKind_int P w i t
  | inr x => obtain ⟨t, e⟩ := (show ∃ t, u = Value.str x t from r); subst e; exact mixKind_str P w x t
theorem items_are {P : Program} {w : World} : ∀ {ks : List Key} {us : List Value}, Vals (ks.map kV) us → ItemsAre (mixKind P w) ks us
  | [], _, r => by rw [List.map_nil] at r; cases r; exact .nil
  | k :: ks, _, r => by
    rw [List.map_cons] at r
    cases r with
    | cons h t => exact .cons (kV_is h) (items_are t)

/-- raw entries of a dict with tuple keys -/
abbrev KT (H : Hp) : List (List Key × V) → List (List Key × Addr × Value) → Prop := Paired fun p q => p.1 = q.1 ∧ H q.2.1 = some (.tup (p.1.map kV)) ∧ RelV p.2 q.2.2
theorem KT.val {H : Hp} {kvs : List (List Key × V)} {xs : List (List Key × Addr × Value)} (r : KT H kvs xs) (k : List Key) : RelO (valV kvs k) ((atKey xs k).map (·.2)) := by
  induction r with
  | nil => exact True.intro
  | @cons p q ps qs h t ih =>
    obtain ⟨h1, _, h2⟩ := h
    by_cases e : p.1 = k
    · have e' : q.1 = k := h1.symm.trans e
      have b : atKey (q :: qs) k = some q.2 := by simp [atKey, List.find?_cons, e']
      rw [valV_pos e, b]; exact h2
    · have e' : ¬ q.1 = k := fun z => e (h1.trans z)
      have b : atKey (q :: qs) k = atKey qs k := by simp [atKey, List.find?_cons, e']
      rw [valV_neg e, b]; exact ih
theorem KT.repl {H : Hp} {kvs : List (List Key × V)} {xs : List (List Key × Addr × Value)} (r : KT H kvs xs) (k : List Key) {y : V} {u : Value} (ry : RelV y u) :
    KT H (kvs.map fun kv => if kv.1 = k then (kv.1, y) else kv) (xs.map (putAt k u)) := by
  induction r with
  | nil => exact .nil
  | @cons p q ps qs h t ih =>
    rw [List.map_cons, List.map_cons]
    refine .cons ?_ ih
    obtain ⟨h1, h2, h3⟩ := h
    unfold putAt
    by_cases e : p.1 = k
    · rw [if_pos e, if_pos (h1.symm.trans e)]; exact ⟨h1, h2, ry⟩
    · rw [if_neg e, if_neg (fun z => e (h1.trans z))]; exact ⟨h1, h2, h3⟩
theorem KT.put {H : Hp} {kvs : List (List Key × V)} {xs : List (List Key × Addr × Value)} (r : KT H kvs xs) (k : List Key) {b : Addr} {y : V} {u : Value} (hb : H b = some (.tup (k.map kV))) (ry : RelV y u) :
    KT H (putK kvs k y) (storedH xs k b u) := by
  have e : (kvs.any fun kv => decide (kv.1 = k)) = (atKey xs k).isSome := by
    rw [valV_any, (r.val k).isSome_eq, Option.isSome_map]
  unfold putK storedH
  rw [e]
  by_cases q : (atKey xs k).isSome = true
  · rw [if_pos q, if_pos q]; exact r.repl k ry
  · rw [if_neg q, if_neg q]; exact Paired.snoc r ⟨rfl, hb, ry⟩
theorem KT.keeps {H H' : Hp} {kvs : List (List Key × V)} {xs : List (List Key × Addr × Value)} (r : KT H kvs xs) (ht : ∀ b ys, H b = some (.tup ys) → H' b = some (.tup ys)) : KT H' kvs xs :=
  Paired.mapP r fun _ _ z => ⟨z.1, ht _ _ z.2.1, z.2.2⟩

section
variable {P : Program} {w : World} {H : Hp} {h : Heap} {a : Addr}
theorem rd_of {u : HO} (ok : HOk P w H h) (e : Rd H a u) : ObjOk P w H h a u := e.ok ok
theorem dk_rd {kvs : List (Key × V)} (ok : HOk P w H h) (e : Rd H a (.dK kvs)) : kvs.length ≤ sizeLine ∧ (a == sysModules) = false ∧ ∃ vs, KV kvs vs ∧ h.DictOf (mixKind P w) a vs :=
  show ObjOk P w H h a (.dK kvs) from rd_of ok e
theorem dk_of {kvs : List (Key × V)} (ok : HOk P w H h) (e : H a = some (.dK kvs)) : kvs.length ≤ sizeLine ∧ (a == sysModules) = false ∧ ∃ vs, KV kvs vs ∧ h.DictOf (mixKind P w) a vs := dk_rd ok (.inl e)
/-- a tracked tuple of ints and texts is a key -/
theorem key_of {ks : List Key} (ok : HOk P w H h) (e : H a = some (.tup (ks.map kV))) : (tupleKind (mixKind P w)).is h ks a := by
  obtain ⟨_, its, r, o, h1, h2, n, h3⟩ := (show ObjOk P w H h a (.tup (ks.map kV)) from ok a _ e)
  exact ⟨o, its.toArray, n, h1, h2, h3, by simpa using items_are r⟩
theorem dt_rd {kvs : List (List Key × V)} (ok : HOk P w H h) (e : Rd H a (.dT kvs)) : kvs.length ≤ sizeLine ∧ (a == sysModules) = false ∧
    ∃ xs, KT H kvs xs ∧ h.DictOfH (tupleKind (mixKind P w)) a xs := by
  obtain ⟨z, y, xs, r, o, es, ep, h1, h2, h3, h4, h5⟩ := (show ObjOk P w H h a (.dT kvs) from rd_of ok e)
  refine ⟨z, y, xs, r, o, es, ep, h1, h2, h3, h4, fun x hx => ?_, h5⟩
  have all : ∀ {l : List (List Key × V)} {m : List (List Key × Addr × Value)}, KT H l m → ∀ x ∈ m, (tupleKind (mixKind P w)).is h x.1 x.2.1 := by
    intro l m q
    induction q with
    | nil => intro x hx; exact nomatch hx
    | @cons p q ps qs hq t ih =>
      intro x hx
      rcases List.mem_cons.mp hx with e | hx
      · subst e
        exact key_of ok (by rw [← hq.1]; exact hq.2.1)
      · exact ih x hx
  exact all r x hx
theorem dt_of {kvs : List (List Key × V)} (ok : HOk P w H h) (e : H a = some (.dT kvs)) : kvs.length ≤ sizeLine ∧ (a == sysModules) = false ∧
    ∃ xs, KT H kvs xs ∧ h.DictOfH (tupleKind (mixKind P w)) a xs := dt_rd ok (.inl e)
end

/-- what the dict at a holds at the key y -/
def DGet (H : Hp) (a : Addr) (y : V) (r : Option V) : Prop :=
  (∃ kvs k, Rd H a (.dK kvs) ∧ y = kV k ∧ r = valV kvs k) ∨ ∃ kvs k b, Rd H a (.dT kvs) ∧ y = .ref b ∧ H b = some (.tup (k.map kV)) ∧ r = valV kvs k
/-- the heap behind a[y] = v -/
def DPut (H : Hp) (a : Addr) (y v : V) (H' : Hp) : Prop :=
  (∃ kvs k, H a = some (.dK kvs) ∧ y = kV k ∧ kvs.length < sizeLine ∧ H' = upd H a (.dK (putK kvs k v))) ∨
  ∃ kvs k b, H a = some (.dT kvs) ∧ y = .ref b ∧ H b = some (.tup (k.map kV)) ∧ kvs.length < sizeLine ∧ H' = upd H a (.dT (putK kvs k v))
theorem DGet.k {H : Hp} {a : Addr} {kvs : List (Key × V)} {k : Key} (e : H a = some (.dK kvs)) : DGet H a (kV k) (valV kvs k) := .inl ⟨kvs, k, .inl e, rfl, rfl⟩
theorem DGet.t {H : Hp} {a b : Addr} {kvs : List (List Key × V)} {k : List Key} (e : H a = some (.dT kvs)) (eb : H b = some (.tup (k.map kV))) : DGet H a (.ref b) (valV kvs k) := .inr ⟨kvs, k, b, .inl e, rfl, eb, rfl⟩
theorem DPut.k {H : Hp} {a : Addr} {kvs : List (Key × V)} {k : Key} {v : V} (e : H a = some (.dK kvs)) (hl : kvs.length < sizeLine) : DPut H a (kV k) v (upd H a (.dK (putK kvs k v))) := .inl ⟨kvs, k, e, rfl, hl, rfl⟩
theorem DPut.t {H : Hp} {a b : Addr} {kvs : List (List Key × V)} {k : List Key} {v : V} (e : H a = some (.dT kvs)) (eb : H b = some (.tup (k.map kV))) (hl : kvs.length < sizeLine) :
    DPut H a (.ref b) v (upd H a (.dT (putK kvs k v))) := .inr ⟨kvs, k, b, e, rfl, eb, hl, rfl⟩


section
variable {X : Cx} {pins : List (Addr × Obj)} {σ : St} {H : Hp} {s : Shared} {a : Addr} {y v : V} {u r : Value} {o : Option V} {A : Around} {E : Value → Shared → Prop}

theorem Inv.big (I : Inv X pins σ H s) : sysModules < s.heap.objs.size := by
  have h : mainGlobals < s.heap.objs.size := (I.mod.glob.keeps I.bk).lt
  exact Nat.lt_trans (by decide) h

/-- d[y], there -/
theorem d_getItem {Q : Value → Shared → Prop} (hu : A.units + 1 < cLine) (I : Inv X pins σ H s) (g : DGet H a y (some v)) (ry : RelV y u) (h : ∀ w' s', Inv X pins σ H s' → RelV v w' → Q w' s') :
    wpAny (model X.prog X.w) A (getItem (.ref a) u) Q E s := by
  rcases g with ⟨kvs, k, e, ey, l⟩ | ⟨kvs, k, b, e, ey, eb, l⟩
  · subst ey
    obtain ⟨z, hd, vs, rel, dd⟩ := dk_rd I.hok e
    obtain ⟨w', hw, rw'⟩ := RelO.some_of (v := v) (o := valueAt vs k) (by rw [l]; exact rel.val k)
    exact wpAny_getItem_of (kV_is ry) dd.mapOf hw (h w' _ (I.tok _) rw')
  · subst ey
    cases (show u = Value.ref b from ry)
    obtain ⟨z, hd, xs, rel, dd⟩ := dt_rd I.hok e
    obtain ⟨w', hw, rw'⟩ := RelO.some_of (v := v) (o := (atKey xs k).map (·.2)) (by rw [l]; exact rel.val k)
    obtain ⟨p, hp, hp2⟩ := Option.map_eq_some_iff.mp hw
    refine wpAny_getItem_heap (tupleKind_room_in1 hu) (key_of I.hok eb) dd hp ?_
    rw [hp2]
    exact h w' _ (I.tok _) rw'
/-- a dict's object is replaced -/
theorem d_write {h' : Heap} {t' : Nat} {ob : HO} (I : Inv X pins σ H s) (mu : Mut (H a)) (hs : Heap.SameBut a s.heap h') (he : ∃ q, h'.get? a = some q) (new : ObjOk X.prog X.w (upd H a ob) h' a ob) :
    Inv X pins σ (upd H a ob) { s with heap := h', toks := t' } :=
  I.write (x := a) (e := a) mu (.inl rfl) (fun b q hb z => (hs.2 b hb).trans z) he new
theorem dk_new {P : Program} {w : World} {H' : Hp} {h' : Heap} {kvs : List (Key × V)} {vs : List (Key × Value)} (z : kvs.length ≤ sizeLine) (hd : (a == sysModules) = false) (rel : KV kvs vs) (dd : h'.DictOf (mixKind P w) a vs) :
    ObjOk P w H' h' a (.dK kvs) := ⟨z, hd, vs, rel, dd⟩
/-- d[y] = v -/
theorem d_setItem {H' : Hp} {Q : Unit → Shared → Prop} (hu : A.units + 1 < cLine) (I : Inv X pins σ H s) (g : DPut H a y v H') (ry : RelV y u) (rv : RelV v r) (h : ∀ s', Inv X pins σ H' s' → Q () s') :
    wpAny (model X.prog X.w) A (setItem (.ref a) u r) Q E s := by
  rcases g with ⟨kvs, k, e, ey, l, eH⟩ | ⟨kvs, k, b, e, ey, eb, l, eH⟩
  · subst ey eH
    obtain ⟨z, hd, vs, rel, dd⟩ := dk_of I.hok e
    have hz : vs.length ≤ sizeLine := by rw [← rel.length]; exact z
    have hl : (putK kvs k v).length ≤ sizeLine := by have := length_putK kvs k v; omega
    refine wpAny_setItem_pairs (hsz := hz) (kV_is ry) dd fun h' dd' hs => h _ ?_
    have he : ∃ q, h'.get? a = some q := let ⟨q, _, _, hq, _⟩ := dd'; ⟨q, hq⟩
    exact d_write I (by rw [e]; exact True.intro) hs he (dk_new hl hd (rel.put k rv) dd')
  · subst ey eH
    cases (show u = Value.ref b from ry)
    obtain ⟨z, hd, xs, rel, dd⟩ := dt_of I.hok e
    have hz : xs.length ≤ sizeLine := by rw [← Paired.length rel]; exact z
    have hl : (putK kvs k v).length ≤ sizeLine := by have := length_putK kvs k v; omega
    refine wpAny_setItem_heap (hsz := hz) (tupleKind_room_in1 hu) (key_of I.hok eb) dd fun h' dd' hs => h _ ?_
    obtain ⟨q, es, ep, hq, h2, h3, h4, _, h5⟩ := dd'
    refine d_write I (by rw [e]; exact True.intro) hs ⟨q, hq⟩ ⟨hl, hd, _, (rel.put k eb rv).keeps fun c ys ec => ?_, q, es, ep, hq, h2, h3, h4, h5⟩
    rw [upd_ne (ne_of ec e (fun z => nomatch z))]
    exact ec
end

section
variable {X : Cx} {pins : List (Addr × Obj)} {σ : St} {H : Hp} {s : Shared} {a : Addr} {kvs : List (Key × V)} {k : Key} {u : Value} {A : Around} {E : Value → Shared → Prop}
end


/-! ### readings and rules -/
/-- the element of a subscription, not a slice -/
def NoSl (i : Expr) : Prop := ∀ ov iv, subscripted i false ov iv = operate [ov, iv] (getItem ov iv)
theorem subD_of {prog : Program} {w : World} {A : Around} {E : Value → Shared → Prop} {s : Shared} {env : Env} {value slice : Expr} {pos : Pos} {T id : String} {Q : Value → Shared → Prop}
    (hl : typeLookup (.type T) "__getitem__" = pure (some (.builtin id))) (hs : NoSl slice)
    (h : wpAny (model prog w) A (eval value env) (fun o s₁ => wpAny (model prog w) A (eval slice env) (fun i s₂ => s₂.TypeIs o T ∧ wpAny (model prog w) A (getItem o i) Q E s₂) E s₁) E s) :
    wpAny (model prog w) A (eval (.Subscript value slice pos) env) Q E s := by
  refine Subscript_ (wpAny_mono h (fun o s₁ h₁ => wpAny_mono h₁ (fun i s₂ h₂ => ?_) fun _ _ x => x) fun _ _ x => x)
  obtain ⟨hT, h₂⟩ := h₂
  unfold subscriptTail
  refine wpAny_bind ?_
  rw [getitemInPython_of_ne hT.not_modules]
  refine wpAny_bind (wpAny_specialOf hT hl ?_)
  have fin : wpAny (model prog w) A (subscripted slice false o i) (fun r s₃ => wpAny (model prog w) A (letTemporaryGo value o r >>= fun _ => pure r) Q E s₃) E s₂ := by
    rw [hs o i]
    exact wpAny_operating (wpAny_mono h₂ (fun r s₃ h₃ => wpAny_bind (wpAny_letTemporaryGo (wpAny_pure h₃))) fun _ _ x => x)
  first
    | exact wpAny_pure (wpAny_bind fin)
    | exact wpAny_bind (wpAny_pure (wpAny_bind fin))
    | exact wpAny_bind fin

theorem dict_typeIs {X : Cx} {pins : List (Addr × Obj)} {σ : St} {H : Hp} {s : Shared} {a : Addr} {y : V} {o : Option V} (I : Inv X pins σ H s) (g : DGet H a y o) : s.TypeIs (.ref a) "dict" := by
  rcases g with ⟨kvs, k, e, _, _⟩ | ⟨kvs, k, b, e, _, _, _⟩
  · obtain ⟨_, _, vs, _, dd⟩ := dk_rd I.hok e
    exact dd.typeIs
  · obtain ⟨_, _, xs, _, dd⟩ := dt_rd I.hok e
    exact dd.typeIs
/-- d[y] -/
def tDGet (td ty : TE) : TE := fun σ H Q => td σ H fun x H1 => ty σ H1 fun y H2 => ∃ a v, x = .ref a ∧ DGet H2 a y (some v) ∧ Q v H2
/-- d[y] = v -/
def sDPut (td ty tv : TE) : TS := fun D σ H => tv σ H fun v H1 => td σ H1 fun x H2 => ty σ H2 fun y H3 => ∃ a H4, x = .ref a ∧ DPut H3 a y v H4 ∧ D.nx σ H4
section
variable {X : Cx} {o i e value : Expr} {pos pos' tpos : Pos} {td ty tv : TE}
theorem pe_dget (hu : X.A.units + 1 < cLine) (ho : PE X o td) (hi : PE X i ty) (hs : NoSl i) : PE X (.Subscript o i pos) (tDGet td ty) := by
  intro pins s σ H Q I h
  refine subD_of PySem.F.slot_dict_getitem.lookup hs (thn (ho pins s σ H _ I h) fun u s1 ⟨x, H1, I1, rx, q1⟩ => thn (hi pins s1 σ H1 _ I1 q1) fun iv s2 ⟨y, H2, I2, ry, a, v, ex, g, q2⟩ => ?_)
  subst ex
  obtain rfl : u = Value.ref a := rx
  exact ⟨dict_typeIs I2 g, d_getItem hu I2 g ry fun w' s3 I3 rw' => ⟨v, H2, I3, rw', q2⟩⟩
theorem ps_dput (hu : X.A.units + 1 < cLine) (ho : PE X o td) (hi : PE X i ty) (hv : PE X value tv) (hs : swapsWith value (some (.Subscript o i pos')) pos.line X.env = pure false) :
    PS X (.Assign [.Subscript o i pos'] value pos) (sDPut td ty tv) := by
  intro pins s σ H D I h
  refine wpAny_Assign_Subscript (thn (hv pins s σ H _ I h) fun r s1 ⟨v, H1, I1, rv, q1⟩ => thn (ho pins s1 σ H1 _ I1 q1) fun u s2 ⟨x, H2, I2, rx, q2⟩ => thn (hi pins s2 σ H2 _ I2 q2) fun iv s3 ⟨y, H3, I3, ry, a, H4, ex, g, q3⟩ => ?_) hs
  subst ex
  obtain rfl : u = Value.ref a := rx
  exact d_setItem hu I3 g ry rv fun s4 I4 => ⟨σ, H4, I4, q3⟩
end


/-! ### displays -/
theorem dk_empty {P : Program} {w : World} {H : Hp} (h : Heap) (hb : sysModules < h.objs.size) : ObjOk P w H (h.push { cls := .type "dict", data := .dict #[] }) h.objs.size (.dK []) :=
  ⟨Nat.zero_le _, beq_eq_false_iff_ne.mpr (Ne.symm (Nat.ne_of_lt hb)), [], .nil, Heap.DictOf.new h⟩
/-- {}, to be a dict of the kind that is wanted -/
def tDNewK : TE := fun _ H Q => ∀ p, H p = none → Q (.ref p) (upd H p (.dK []))
def tDNewT : TE := fun _ H Q => ∀ p, H p = none → Q (.ref p) (upd H p (.dT []))
section
variable {X : Cx} {pos : Pos}
theorem pe_dnewK : PE X (.Dict [] [] pos) tDNewK := fun pins s σ H Q I h =>
  wpAny_Dict_empty ⟨.ref s.heap.objs.size, _, I.laid (a := s.heap.objs.size) (o := .dK []) (t' := s.toks) (fun _ _ q => Heap.get?_push_of_some _ q) (Nat.le_refl _) (dk_empty s.heap I.big), rfl, h _ (I.hok.fresh (Nat.le_refl _))⟩
end

def mergeK (kvs more : List (Key × V)) : List (Key × V) := more.foldl (fun acc kv => putK acc kv.1 kv.2) kvs
theorem KV.merge : ∀ {more : List (Key × V)} {rs : List (Key × Value)} {kvs : List (Key × V)} {vs : List (Key × Value)}, KV more rs → KV kvs vs → KV (mergeK kvs more) (merged vs rs) := by
  intro more rs kvs vs r
  unfold KV at r
  induction r generalizing kvs vs with
  | nil => intro q; exact q
  | @cons p q ps qs h t ih =>
    intro r0
    have e : KV (putK kvs p.1 p.2) (stored vs q.1 q.2) := by
      have := r0.put p.1 h.2
      rw [← h.1]; exact this
    exact ih e
/-! ### methods -/
section
variable {X : Cx} {pins : List (Addr × Obj)} {σ : St} {H : Hp} {s : Shared} {a : Addr} {y d : V} {u r : Value} {o : Option V} {A : Around} {E : Value → Shared → Prop}
/-- d.get(y, x) -/
theorem d_get2 {Q : Value → Shared → Prop} (hu : A.units + 1 < cLine) (I : Inv X pins σ H s) (g : DGet H a y o) (ry : RelV y u) (rd : RelV d r) (h : ∀ w' s', Inv X pins σ H s' → RelV (o.getD d) w' → Q w' s') :
    wpAny (model X.prog X.w) A (call (.builtin "dict.get") [.ref a, u, r]) Q E s := by
  rcases g with ⟨kvs, k, e, ey, l⟩ | ⟨kvs, k, b, e, ey, eb, l⟩
  · subst ey
    obtain ⟨z, hd, vs, rel, dd⟩ := dk_rd I.hok e
    refine call_meetsIn PySem.F.slot_dict_get dd.typeIs PySem.F.entry_dict_get (PySem.F.args_dict_get_3 _ _ _) (meets_dict_get_default (mixKind X.prog X.w) a (kV_is ry) hd r) ⟨_, dd.mapOf, h _ _ (I.tok _) ?_⟩
    rw [l]
    exact (rel.val k).getD rd
  · subst ey
    cases (show u = Value.ref b from ry)
    obtain ⟨z, hd, xs, rel, dd⟩ := dt_rd I.hok e
    refine call_meetsIn PySem.F.slot_dict_get dd.typeIs PySem.F.entry_dict_get (PySem.F.args_dict_get_3 _ _ _) (meetsH_dict_get_default (tupleKind (mixKind X.prog X.w)) a b hd r) ⟨tupleKind_room_in1 hu, k, xs, key_of I.hok eb, dd, h _ _ (I.tok _) ?_⟩
    rw [l]
    exact (rel.val k).getD rd
end

section
variable {X : Cx} {o e f : Expr} {apos cpos : Pos} {td ty tx : TE}
end

/-! ### dict(d): a copy -/
section
variable {X : Cx} {pins : List (Addr × Obj)} {σ : St} {H : Hp} {s : Shared} {a : Addr} {kvs : List (Key × V)} {A : Around} {E : Value → Shared → Prop}
end


section
variable {X : Cx} {pins : List (Addr × Obj)} {σ : St} {H : Hp} {s : Shared} {a : Addr} {y : V} {u : Value} {A : Around} {E : Value → Shared → Prop}
end
end L2

namespace Att
open PySem PySem.W PySem.Calls PyProof.Rows

/-! ### the script -/
theorem ints_of_wellAll {P : Params} {h : Heap} : ∀ (ns : List Int) (vs : List Value), WellAll P h vs (ns.map WData.int) → IntsAre vs ns := by
  intro ns
  induction ns with
  | nil =>
    intro vs w
    rw [List.map_nil] at w
    cases w
    exact .nil
  | cons n ns ih =>
    intro vs w
    rw [List.map_cons] at w
    cases w with
    | cons a b =>
      cases a
      exact .cons _ _ (ih _ b)

theorem script_of {l : OpenLaw} {n : Nat} (hn : l.most = some n) {P : Params} {h : Heap} {args : List WData} {vals : List Value}
    (hpre : l.row.toRowW.claim.pre args = true) (hwl : WellAll P h vals args) :
    ∃ a vs ns, vals = [Value.ref a] ∧ args = [WData.list (ns.map WData.int)] ∧ h.get? a = some { cls := .type "list", data := .seq vs.toArray } ∧ IntsAre vs ns ∧ ns.length ≤ n := by
  have hsh : WShape.hasAll [] args [.list .int] = true := (pre_splitW hpre).1
  have hc : l.pre.holds [] { args := args } = true := (pre_splitW hpre).2
  obtain ⟨d, r, rfl, h1, h2⟩ := hasAllW_cons hsh
  obtain rfl := hasAllW_nil h2
  obtain ⟨xs, rfl, h3⟩ := hasW_list h1
  obtain ⟨ns, rfl⟩ := items_int h3
  have hlen : ns.length ≤ n := by
    unfold OpenLaw.pre at hc
    have h4 : (WTm.not (.lt (.lit (.int (n : Int))) (.len (.arg 0)))).holds [] { args := [.list (ns.map .int)] } = true := by
      have h4 := (holds_andW hc).1
      rw [hn] at h4
      exact h4
    have h5 := condW_of h4 (w_not (w_lt w_lit (w_len_list (w_arg rfl))))
    rw [List.length_map] at h5
    refine Nat.le_of_not_lt fun q => ?_
    have q' : (n : Int) < ((ns.length : Nat) : Int) := by omega
    first
      | (rw [decide_eq_true q'] at h5; exact absurd h5 (by decide))
      | (simp at h5; omega)
  cases hwl with
  | cons w1 w2 =>
    cases w2
    cases w1 with
    | list ho hall => exact ⟨_, _, ns, rfl, rfl, ho, ints_of_wellAll ns _ hall, hlen⟩

theorem post_true (l : OpenLaw) (args : List WData) : l.row.toRowW.claim.post args (.bool true) args = true :=
  postW_of (r := l.row.toRowW) (X := (true == true))
    (show WShape.has [] (.bool true) .bool = true by first | rfl | decide | simp [WShape.has, WShape.arms, WShape.armsAll])
    (show (WTm.eq .res (.lit (.bool true))).value [] { args := args, res := some (.bool true), after := args } = some (.bool (true == true)) from w_eq_bool (w_res rfl) w_lit) rfl

/-! ### the attachment: holds_open's last premise (the goal 'hc' behind k_head) from a wpAny of the law's body -/
/-- the same from a codeAny of the CALL (for a layer whose function contracts speak of calls) -/
theorem attach_call {l : OpenLaw} {n : Nat} {q : Program} {loose : List Str} {XP : (Str → Option Value) → Heap → Prop} {YP : World → Heap → Prop} {d : DefRec}
    (hn : l.most = some n) (hdf : d.params.defaults = [])
    (call : ∀ (w : World) (s₀ s₁ : Shared) (mg mb : Str → Option Value) (fa : Addr) (o : Obj) (pm cd doc : Value) (a : Addr) (vs : List Value) (ns : List Int),
      Ground q loose [] XP w s₀ mg mb s₁.heap → YP w s₁.heap →
      s₁.heap.get? fa = some o → o.data = .func (docDef d.name d.params d.body d.scope pm cd doc) → s₁.heap.CodeRec cd d.name → mg d.name = some (.ref fa) →
      s₁.heap.get? a = some { cls := .type "list", data := .seq vs.toArray } → IntsAre vs ns → ns.length ≤ n → s₁.gens = #[] →
      codeAny (model l.prog w) callerA (.call (.ref fa) ⟨[.ref a], []⟩) (fun r s' => r = .ok (.ret (.bool true)) ∧ OldK s₁.heap s'.heap ∧ s'.os = s₁.os ∧ AllBare s'.gens) s₁) :
    WalkO q loose XP YP l.row.toRowW d [] (fun f vs => PySem.call f vs) := by
  intro w s₀ s₁ mg mb G Y fa o pm cd doc dV kV ho hd hcd hD hmg hg args vals as hpre hlay hrd hwl hlo
  obtain rfl : dV = .none := Dflts.none hD hdf
  obtain rfl : kV = .none := Dflts.noKw hD
  obtain ⟨a, vs, ns, rfl, rfl, hobj, hints, hlen⟩ := script_of hn hpre hwl
  refine enter_call (codeAny_mono (call w s₀ s₁ mg mb fa o pm cd doc a vs ns G Y ho (fd_plain hd) hcd hmg hobj hints hlen hg) fun r s' hq => ?_)
  obtain ⟨rfl, h2, h3, h4⟩ := hq
  exact ⟨.inl ⟨.bool true, .bool true, [], rfl, fun _ => rfl, .bool true, post_true l _, fun _ => ⟨List.Pairwise.nil, fun _ hm => (nomatch hm)⟩⟩, h2, h3, h4⟩

/-! ### rules over ANY heap (no ledger) from facts about the written part K: the library's own take a ledger (News) for what they write -/
section
variable {prog : Program} {w : World} {A : Around} {E : Value → Shared → Prop} {s : Shared} {K : Frag}

/-! the whole heap as the ledger: makes every rule that writes through a ledger a rule over any heap -/
end
end Att

namespace L2
open PySem PySem.Spec PyProof.Rows

theorem vals_ints : ∀ {vs : List Value} {ns : List Int}, IntsAre vs ns → Vals (ns.map V.int) vs
  | _, _, .nil => .nil
  | _, _, .cons n t h => .cons ⟨t, rfl⟩ (vals_ints h)

/-- nothing is tracked but the script, known to the object (or it is an object of the module) -/
def Only (H : Hp) : Prop := ∀ b, H b = none ∨ ∃ o xs, H b = some (.frz o (.lst xs))

/-- THE HEAD: the law's promise, at the heap behind the top. F, the promise of the law's def, may use that base is part of the heap (so K.In base, base.Ns mainGlobals mg stand in Mod) -/
theorem law_call {P : Program} {w : World} {K : PySem.W.Frag} {mg mb : Str → Option Value} {CX : CXT} {k : Nat} {fa a : Addr} {fd : FuncData} {x : Str} {sp : Sp} {s₁ : Shared} {vs : List Value} {ns : List Int}
    (KX : K.In s₁.heap) (hns : s₁.heap.Ns mainGlobals mg) (hb : s₁.heap.Ns builtinsNs mb) (hbb : ∀ x : Str, x ≠ "__name__" → mb x = bootBuiltins x) (hlim : s₁.heap.NoLimit) (hg : s₁.gens = #[])
    (ha : s₁.heap.get? a = some { cls := .type "list", data := .seq vs.toArray }) (hi : IntsAre vs ns) (hl : ns.length ≤ sizeLine) (hr : Room k callerA)
    (F : ∀ base : Heap, K.In base → base.Ns mainGlobals mg → FnOk P w K mg base CX k fa fd [x] sp) (hbind : ∀ (s : Shared) (u : Value), BindsTo s fd ⟨[u], []⟩ [(x, u)])
    (hsp : ∀ H : Hp, Only H → SqL K H a (ns.map V.int) → sp [.ref a] H (fun v _ => v = .bl true) fun _ _ _ => False)
    (hCX : ∀ H e s', CX [] H s₁ (fun _ _ _ => False) e s' → False) :
    codeAny (model P w) callerA (.call (.ref fa) ⟨[.ref a], []⟩) (fun r s' => r = .ok (.ret (.bool true)) ∧ OldK s₁.heap s'.heap ∧ s'.os = s₁.os ∧ AllBare s'.gens) s₁ := by
  have rv := vals_ints hi
  have lenV := hi.length
  -- from an abstract heap in which nothing but the script may be tracked
  have core : ∀ H : Hp, Only H → SqL K H a (ns.map V.int) → HOk P w H s₁.heap → (∀ b, H b ≠ none → b = a) → (H a ≠ none → K.lookup a = none) →
      codeAny (model P w) callerA (.call (.ref fa) ⟨[.ref a], []⟩) (fun r s' => r = .ok (.ret (.bool true)) ∧ OldK s₁.heap s'.heap ∧ s'.os = s₁.os ∧ AllBare s'.gens) s₁ := by
    intro H hO hS hok hA hK
    have base_of : ∀ {b : Addr} {o : Obj}, s₁.heap.get? b = some o → H b = none → (hidT s₁.heap H).get? b = some o := fun e n => hidT_get e n
    have noA : ∀ {b : Addr} {o : Obj} {es : Array DictEntry} {ep : Nat}, s₁.heap.get? b = some o → o.data = .dict es ep → H b = none := fun {b o es ep} e d => by
      cases q : H b with
      | none => rfl
      | some u =>
        have e' : b = a := hA b (by rw [q]; simp)
        subst e'
        rw [ha] at e; cases e
        have d' : Data.seq vs.toArray _ = Data.dict es ep := d
        cases d'
    have nsK : ∀ {b : Addr} {m : Str → Option Value}, s₁.heap.Ns b m → (hidT s₁.heap H).Ns b m := fun {b m} ⟨o, es, ep, e, d, r⟩ => ⟨o, es, ep, base_of e (noA e d), d, r⟩
    have hKb : K.In (hidT s₁.heap H) := fun b o e => base_of (KX b o e) (by
      cases q : H b with
      | none => rfl
      | some u =>
        have e' : b = a := hA b (by rw [q]; simp)
        subst e'
        rw [hK (by rw [q]; simp)] at e; cases e)
    have hM : Mod K mg (hidT s₁.heap H) := ⟨hKb, nsK hns, ⟨mb, nsK hb, hbb⟩, let ⟨mc, h1, h2⟩ := hlim; ⟨mc, nsK h1, h2⟩⟩
    have e0 : Env0 P w K mg (hidT s₁.heap H) callerA [] s₁ H := ⟨rfl, hM, fun b o e => of_hidT e, Nat.le_of_eq (hidT_size _ _), trivial, fun b hb => absurd (show b ∈ ([] : List Addr) from hb) (by simp), hok, .of_eq hg⟩
    refine codeAny_mono ((F _ hKb (nsK hns)).run callerA [] s₁ H ⟨[.ref a], []⟩ [.ref a] [.ref a] _ _ hr e0 (hbind s₁ (.ref a)) (.cons rfl .nil) (hsp H hO hS)) fun r s' h => ?_
    cases r with
    | error e => exact (hCX H e s' h).elim
    | ok fl =>
      cases fl with
      | next => exact False.elim h
      | brk => exact False.elim h
      | cont => exact False.elim h
      | ret u =>
        obtain ⟨v, H', os, bare, un, hok', r', q⟩ := h
        have q' : v = .bl true := q
        subst q'
        obtain rfl : u = Value.bool true := r'
        refine ⟨rfl, OldK.of_keep fun b o e => ?_, os, bare⟩
        cases q : H b with
        | none => exact un.keep b o e q (by intro z; exact absurd (show b ∈ ([] : List Addr) from z) (by simp)) (by simp)
        | some u =>
          rcases hO b with z | ⟨ob, xs, z⟩
          · rw [q] at z; cases z
          · have z2 := un.frzs b ob _ z
            obtain ⟨e1, _⟩ := hok b _ z
            obtain ⟨e2, _⟩ := hok' b _ z2
            rw [e] at e1; cases e1
            exact e2
  cases hk : K.lookup a with
  | some o =>
    -- the script is one of the module's own objects
    have e := KX a o hk
    rw [ha] at e
    cases e
    refine core (fun _ => none) (fun _ => .inl rfl) (.inr ⟨_, vs.toArray, _, hk, rfl, rfl, rfl, by rw [List.size_toArray, lenV]; exact hl, by simpa using rv⟩) (fun b u z => by have z' : (none : Option HO) = some u := z; cases z') (fun b z => absurd rfl z) fun z => absurd rfl z
  | none =>
    refine core (fun b => if b = a then some (.frz { cls := .type "list", data := .seq vs.toArray } (.lst (ns.map V.int))) else none) (fun b => ?_) (.inl (.inr ⟨{ cls := .type "list", data := .seq vs.toArray }, if_pos rfl⟩)) (fun b u z => ?_) (fun b z => ?_) fun _ => hk
    · by_cases hb : b = a
      · exact .inr ⟨_, _, if_pos hb⟩
      · exact .inl (if_neg hb)
    · by_cases hb : b = a
      · have z' := (if_pos hb).symm.trans z
        cases z'
        subst hb
        exact ⟨ha, by rw [List.length_map]; exact hl, vs, _, rv, ha⟩
      · have z' := (if_neg hb).symm.trans z
        cases z'
    · by_cases hb : b = a
      · exact hb
      · exact absurd (if_neg hb) z
end L2

namespace L2
open PySem PySem.Spec PyProof.Rows

/-- the goal that k_head leaves (case hc), from the law's promise. F gives the function object fd (K's own) once, then the promise over every base -/
theorem walk_of {l : PySem.W.OpenLaw} {n k : Nat} {q : Program} {loose : List Str} {XP : (Str → Option Value) → Heap → Prop} {YP : World → Heap → Prop} {d : DefRec} {K : Params → PySem.W.Frag} {CX : World → CXT} {sp : World → Sp} {x : Str}
    (hn : l.most = some n) (hn2 : n ≤ sizeLine) (hdf : d.params.defaults = []) (hr : Room k callerA)
    (hY : ∀ (w : World) (h : Heap), YP w h → (K w.params).In h)
    (F : ∀ (w : World) (mg : Str → Option Value) (fa : Addr) (h : Heap), (K w.params).In h → h.Ns mainGlobals mg → mg d.name = some (.ref fa) →
      ∃ fd : FuncData, (∀ (s : Shared) (u : Value), BindsTo s fd ⟨[u], []⟩ [(x, u)]) ∧
        ∀ base : Heap, (K w.params).In base → base.Ns mainGlobals mg → FnOk l.prog w (K w.params) mg base (CX w) k fa fd [x] (sp w))
    (hsp : ∀ (w : World) (H : Hp) (a : Addr) (ns : List Int), ns.length ≤ n → Only H → SqL (K w.params) H a (ns.map V.int) → sp w [.ref a] H (fun v _ => v = .bl true) fun _ _ _ => False)
    (hCX : ∀ (w : World) (H : Hp) (s : Shared) (e : Value) (s' : Shared), CX w [] H s (fun _ _ _ => False) e s' → False) :
    PySem.W.WalkO q loose XP YP l.row.toRowW d [] (fun f vs => PySem.call f vs) := by
  refine Att.attach_call hn hdf fun w s₀ s₁ mg mb fa o pm cd doc a vs ns G Y ho hd hcd hmg hobj hints hlen hg => ?_
  have KX := hY w _ Y
  obtain ⟨fd, hb, hF⟩ := F w mg fa _ KX G.T.g hmg
  exact law_call KX G.T.g G.T.b G.T.builtins G.T.nolimit hg hobj hints (Nat.le_trans hlen hn2) hr hF hb (fun H hO hS => hsp w H a ns hlen hO hS) fun H e s' => hCX w H s₁ e s'
end L2

/-! SHORT WORDS over the layer: a def of the text, its body, what a loop and a test want. -/
namespace L2
open PySem PySem.Spec PyProof.Rows

/-! ### the text by places -/
def defArgs (s : Stmt) : Arguments := match s with
  | .FunctionDef _ a _ _ _ _ _ _ _ _ => a
  | _ => { posonlyargs := [], args := [], vararg := none, kwonlyargs := [], kw_defaults := [], kwarg := none, defaults := [] }
def defBody (s : Stmt) : List Stmt := match s with
  | .FunctionDef _ _ b _ _ _ _ _ _ _ => b
  | _ => []
def defScope (s : Stmt) : Scope := match s with
  | .FunctionDef _ _ _ _ _ _ sc _ _ _ => sc
  | _ => { kind := .function, names := [], isGenerator := false, isCoroutine := false }

/-! ### no exception leaves a def -/
abbrev CX0 : CXT := fun _ _ _ _ _ _ => False
abbrev E0 : XK := fun _ _ _ => False
theorem pass0 {X : Cx} : Passes CX0 X E0 := fun _ _ _ _ _ _ _ h => h.elim

/-! ### a def (or method) of the text as it stands behind the top -/
structure Fun (K : PySem.W.Frag) (x qual : Str) (st : Stmt) (f : Addr) (fd : FuncData) : Prop where
  ex : ∃ (oc : Value) (od : Option Addr) (kV doc pm : Value) (an : Option Addr) (cdv ct : Value) (osl : Array (Option Value)),
    fd = PySem.W.fnOf x qual (defArgs st) (defBody st) (defScope st) .none kV doc pm an cdv ct ∧ K.lookup f = some ⟨oc, od, .func fd, osl⟩ ∧ PySem.W.codeIn K cdv qual = true
  kp : PySem.W.keepIn K (.ref f) = true
section
variable {P : Program} {w : World} {K : PySem.W.Frag} {mg : Str → Option Value} {base : Heap}
/-- THE RULE for a def: its body as a term of rules, and the reading of that term -/
theorem Fun.ok {x qual : Str} {st : Stmt} {f : Addr} {fd : FuncData} {N ps : List Str} {k : Nat} {sp : Sp} (F : Fun K x qual st f fd) (S : FnScope N ps (defScope st)) (len : ∀ vs H Q E, sp vs H Q E → vs.length = ps.length)
    (hbody : ∀ (cdv : Value) (A : Around) (outer : List Env) (s : Shared) (H : Hp) (vs : List V) (Q : VK) (E : XK), Room k (A.deeper (envOfC qual (defScope st) s.heap.objs.size f cdv)) → sp vs H Q E →
      ∃ t, PSs (cxOf CX0 P w K mg base N qual (defScope st) f cdv A outer s H E).nox (defBody st) t ∧ t { nx := fun _ H' => Q .non H', rt := Q } (start N vs) H) : FnOk P w K mg base CX0 (k + 1) f fd ps sp := by
  obtain ⟨oc, od, kV, doc, pm, an, cdv, ct, osl, rfl, lk, hcd⟩ := F.ex
  refine fn_of lk hcd S len fun A outer s H vs Q E hr hsp => ?_
  obtain ⟨t, h, q⟩ := hbody cdv A outer s H vs Q E hr hsp
  exact ⟨t, h.nox, q⟩
/-- how its arguments bind (no defaults): h is «fun _ _ _ _ _ _ us hl => match us, hl with | [_, _], _ => rfl», one _ a parameter -/
theorem Fun.binds {x qual : Str} {st : Stmt} {f : Addr} {fd : FuncData} {ps : List Str} (F : Fun K x qual st f fd)
    (h : ∀ (kV doc pm : Value) (an : Option Addr) (cdv ct : Value) (us : List Value), us.length = ps.length → bindArgs (PySem.W.fnOf x qual (defArgs st) (defBody st) (defScope st) .none kV doc pm an cdv ct) ⟨us, []⟩ = pure (ps.zip us)) : Binds K fd ps [] := by
  obtain ⟨oc, od, kV, doc, pm, an, cdv, ct, osl, rfl, lk, hcd⟩ := F.ex
  exact .all (h kV doc pm an cdv ct)
theorem fun_mk {x qual : Str} {st : Stmt} {f : Addr} {oc : Value} {od an : Option Addr} {osl : Array (Option Value)} {kV doc pm cdv ct : Value} (l : K.lookup f = some ⟨oc, od, .func (PySem.W.fnOf x qual (defArgs st) (defBody st) (defScope st) .none kV doc pm an cdv ct), osl⟩)
    (c : PySem.W.codeIn K cdv qual = true) (k : PySem.W.keepIn K (.ref f) = true) : Fun K x qual st f (PySem.W.fnOf x qual (defArgs st) (defBody st) (defScope st) .none kV doc pm an cdv ct) := ⟨⟨oc, od, kV, doc, pm, an, cdv, ct, osl, rfl, l, c⟩, k⟩
end
theorem hu_of {A : Around} {k : Nat} (hr : Room k A) : A.units + 1 < cLine := Nat.lt_of_le_of_lt (Nat.add_le_add_left (by decide : 1 ≤ 64) _) hr.units
theorem small1000 {n : Nat} (h : n ≤ 1000) : n < sizeLine := Nat.lt_of_le_of_lt h (by decide)

/-! ### expressions in short: the name that stands in the i-th slot -/
section
variable {X : Cx}
theorem pv (i : Nat) {x : Str} {pos : Pos} (hN : X.N[i]? = some x := by rfl) (hv : Vis X.env.scope x := by first | exact Or.inl rfl | exact Or.inr (Or.inl rfl) | exact Or.inr (Or.inr rfl)) (hd : (x == ("__debug__" : Str)) = false := by decide)
    (hcd : (x == ("__classdict__" : Str)) = false := by decide) : PE X (.Name x pos) (tVar i) := pe_var hN hv hd hcd
end

/-! ### tests -/
/-! ### heaps -/
/-- all that was tracked is as it was -/
def Same (H H' : Hp) : Prop := ∀ b o, H b = some o → H' b = some o
theorem Same.refl (H : Hp) : Same H H := fun _ _ h => h
theorem Same.trans {H H1 H2 : Hp} (a : Same H H1) (b : Same H1 H2) : Same H H2 := fun c o h => b c o (a c o h)
theorem Same.free {H H' : Hp} (e : Same H H') {l : Addr} (h : H' l = Option.none) : H l = Option.none := by
  cases q : H l with
  | none => rfl
  | some o =>
    rw [e l o q] at h
    cases h
theorem Same.seq {K : PySem.W.Frag} {H H' : Hp} {a : Addr} {xs : List V} (e : Same H H') (h : SqL K H a xs) : SqL K H' a xs := by
  rcases h with (h | ⟨o, h⟩) | h
  · exact .inl (.inl (e _ _ h))
  · exact .inl (.inr ⟨o, e _ _ h⟩)
  · exact .inr h

/-! ### a dict's pairs: keys that differ -/
section
variable {κ : Type} [DecidableEq κ]
theorem nd_snoc : ∀ {l : List κ} {k : κ}, l.Nodup → ¬ k ∈ l → (l ++ [k]).Nodup
  | [], k, _, _ => by simp
  | a :: r, k, h, hk => by
    obtain ⟨h1, h2⟩ := List.nodup_cons.mp h
    show (a :: (r ++ [k])).Nodup
    refine List.nodup_cons.mpr ⟨fun m => ?_, nd_snoc h2 fun m => hk (List.mem_cons.mpr (Or.inr m))⟩
    rcases List.mem_append.mp m with q | q
    · exact h1 q
    · exact hk (List.mem_cons.mpr (Or.inl (List.mem_singleton.mp q).symm))
end
end L2
end

section
set_option Elab.async false
set_option linter.all false
set_option maxRecDepth 100000
set_option maxHeartbeats 4000000
/-! ## A comprehension's block, one `for`, over the layer -/
namespace L2
open PySem PySem.Spec PyProof.Rows

theorem forIn_pureX {α β : Type} {f : α → β → Sem (ForInStep β)} (g : α → β → β) : ∀ (l : List α) (b : β), (∀ x ∈ l, ∀ c, f x c = pure (.yield (g x c))) → forIn l b f = pure (l.foldl (fun c x => g x c) b)
  | [], b, _ => rfl
  | x :: l, b, h => by
    rw [List.forIn_cons, h x List.mem_cons_self, pure_bind]
    exact forIn_pureX g l (g x b) fun y hy => h y (List.mem_cons_of_mem _ hy)

/-- the cells that the block takes over -/
def closL (env : Env) (names : List (Str × NameKind)) (cs : List (Str × Addr)) : List (Str × Addr) :=
  names.foldl (fun c y => if y.2 == NameKind.free then (y.1, (env.cells.lookup y.1).getD 0) :: c else c) cs
theorem closureFor_closL {scope : Scope} {env : Env} (h : ∀ y ∈ scope.names, y.2 = .free → ∃ c, env.cells.lookup y.1 = some c) : closureFor scope env = pure (closL env scope.names []) := by
  simp only [closureFor]
  rw [forIn_pureX (fun y c => if y.2 == NameKind.free then (y.1, (env.cells.lookup y.1).getD 0) :: c else c) scope.names [] (fun x hx c => by
    obtain ⟨n, kind⟩ := x
    dsimp only
    by_cases hk : kind = .free
    · subst hk
      obtain ⟨a, e⟩ := h (n, .free) hx rfl
      have e' : env.cells.lookup n = some a := e
      have : cellOf env n = pure a := by unfold cellOf; rw [e']
      rw [this, e']
      rfl
    · have hb : (kind == NameKind.free) = false := by simpa using hk
      rw [hb]; rfl)]
  simp only [pure_bind]
  rfl
theorem closL_mem {env : Env} : ∀ (names : List (Str × NameKind)) (cs : List (Str × Addr)), (∀ y ∈ names, y.2 = .free → ∃ c, env.cells.lookup y.1 = some c) → (∀ p ∈ cs, env.cells.lookup p.1 = some p.2) →
    ∀ p ∈ closL env names cs, env.cells.lookup p.1 = some p.2
  | [], cs, _, hc => hc
  | y :: r, cs, h, hc => by
    unfold closL
    rw [List.foldl_cons]
    refine closL_mem r _ (fun z hz => h z (List.mem_cons_of_mem _ hz)) fun p hp => ?_
    by_cases hk : y.2 = .free
    · have hb : (y.2 == NameKind.free) = true := by simpa using hk
      rw [if_pos hb] at hp
      rcases List.mem_cons.mp hp with e | hp
      · obtain ⟨c, e1⟩ := h y List.mem_cons_self hk
        rw [e]; dsimp only; rw [e1]; rfl
      · exact hc p hp
    · have hb : ¬ (y.2 == NameKind.free) = true := by simpa using hk
      rw [if_neg hb] at hp
      exact hc p hp
theorem closL_keeps {env : Env} {p : Str × Addr} : ∀ (names : List (Str × NameKind)) (cs : List (Str × Addr)), p ∈ cs → p ∈ closL env names cs
  | [], _, h => h
  | y :: r, cs, h => by
    unfold closL
    rw [List.foldl_cons]
    refine closL_keeps r _ ?_
    split
    · exact List.mem_cons_of_mem _ h
    · exact h
theorem closL_has {env : Env} {x : Str} : ∀ (names : List (Str × NameKind)) (cs : List (Str × Addr)), (x, NameKind.free) ∈ names → ∃ c, (x, c) ∈ closL env names cs
  | y :: r, cs, h => by
    rcases List.mem_cons.mp h with e | h
    · subst e
      exact ⟨_, by
        unfold closL; rw [List.foldl_cons]
        refine closL_keeps r _ ?_
        rw [if_pos (by rfl)]
        exact List.mem_cons_self⟩
    · obtain ⟨c, hc⟩ := closL_has r (if y.2 == NameKind.free then (y.1, (env.cells.lookup y.1).getD 0) :: cs else cs) h
      exact ⟨c, by unfold closL; rw [List.foldl_cons]; exact hc⟩
theorem lookup_of_all {f : Str → Option Addr} {x : Str} : ∀ {cs : List (Str × Addr)}, (∀ p ∈ cs, f p.1 = some p.2) → (∃ c, (x, c) ∈ cs) → cs.lookup x = f x
  | [], _, ⟨_, h⟩ => nomatch h
  | (n, a) :: r, hc, ⟨c, h⟩ => by
    rw [List.lookup_cons]
    by_cases e : x = n
    · subst e
      rw [beq_self_eq_true]
      exact (hc (x, a) List.mem_cons_self).symm
    · have hb : (x == n) = false := by simpa using e
      rw [hb]
      refine lookup_of_all (fun p hp => hc p (List.mem_cons_of_mem _ hp)) ⟨c, ?_⟩
      rcases List.mem_cons.mp h with q | q
      · exact absurd (congrArg Prod.fst q) e
      · exact q
/-- a cell or free name of the block is a free one of its scope -/
theorem relabel_free {env : Env} {y : Str} : ∀ {names : List (Str × NameKind)}, (∀ z ∈ names, z.2 ≠ .cell) →
    ((names.map fun (n, k) => if (k == NameKind.free && env.scope.kind == .function && env.kindOf n == some .cell) then (n, NameKind.cell) else (n, k)).lookup y = some .cell ∨
     (names.map fun (n, k) => if (k == NameKind.free && env.scope.kind == .function && env.kindOf n == some .cell) then (n, NameKind.cell) else (n, k)).lookup y = some .free) → names.lookup y = some .free
  | [], _, h => by rcases h with h | h <;> cases h
  | (n, k) :: r, hc, h => by
    have ih := @relabel_free env y r fun z hz => hc z (List.mem_cons_of_mem _ hz)
    rw [List.map_cons] at h
    rw [List.lookup_cons]
    by_cases e : y = n
    · subst e
      rw [beq_self_eq_true]
      by_cases hb : (k == NameKind.free && env.scope.kind == .function && env.kindOf y == some .cell) = true
      · have hk : k = .free := by
          rw [Bool.and_eq_true, Bool.and_eq_true] at hb
          simpa using hb.1.1
        rw [hk]
      · dsimp only at h
        rw [if_neg hb, List.lookup_cons, beq_self_eq_true] at h
        dsimp only at h
        rcases h with h | h
        · exact absurd (Option.some.inj h) (hc (y, k) List.mem_cons_self)
        · exact h
    · have hn : (y == n) = false := by simpa using e
      rw [hn]
      dsimp only at h ⊢
      apply ih
      by_cases hb : (k == NameKind.free && env.scope.kind == .function && env.kindOf n == some .cell) = true
      · rw [if_pos hb, List.lookup_cons, hn] at h
        exact h
      · rw [if_neg hb, List.lookup_cons, hn] at h
        exact h

/-! ### the block's context -/
structure CB where
  C : Addr
  cl : List (Str × Addr)
  s2 : Shared
  H2 : Hp
  ex : List Addr
@[reducible] def cxC (X : Cx) (scope : Scope) (N : List Str) (c : CB) : Cx :=
  { prog := X.prog, w := X.w, K := X.K, mg := X.mg, base := X.base, A := X.A, N := N, s₀ := c.s2, H₀ := c.H2, env := compEnvC scope c.cl c.C X.env, outer := X.stack, stack := X.stack, ex := c.ex, fn := fun _ => false, calm := X.calm, pn := [], xe := fun _ _ => False }
def subS (σ : St) (idx : List Nat) : St := idx.map fun i => (σ[i]?).join
def subN (N : List Str) (idx : List Nat) : List Str := idx.map fun i => N.getD i ""
/-- the tests of a clause -/
def PIfs (X : Cx) (ifs : List Expr) (t : TT) : Prop :=
  ∀ (pins : List (Addr × Obj)) (s : Shared) (σ : St) (H : Hp) (Q : Bool → Hp → Prop), Inv X pins σ H s → t σ H Q →
    wpAny (model X.prog X.w) X.A (forIn ifs true fun c r => if r = true then do let ok ← isTrue c X.env (eval c X.env); pure (ForInStep.yield ok) else pure (ForInStep.yield r)) (TP X pins σ Q) X.xe s
def tYes : TT := fun _ H Q => Q true H
theorem pifs_nil {X : Cx} : PIfs X [] tYes := fun _ _ _ H _ I h => wpAny_tests_nil ⟨H, I, h⟩
theorem pifs_one {X : Cx} {e : Expr} {t : TT} (h : PT X e t) : PIfs X [e] t := fun pins s σ H Q I q => wpAny_tests_one (h pins s σ H Q I q)

/-- W: by the turn, a measure and the items so far -/
def tComp (wi : TI) (k : Nat) (idx : List Nat) (g : CB → TG) (tt : CB → TT) (te : CB → TE) : TE := fun σ H Q => wi σ H fun J H1 => ∀ D, H1 D = none → ∃ W : Nat → Nat → List V → Hp → Prop, (∃ m, W 0 m [] (upd H1 D (.lst []))) ∧
  ∀ i m ys H', W i m ys H' → (J.stop i H' ∧ Q (.ref D) H') ∨ (J.go i H' ∧ ∃ N : List V → Hp → Prop, (∀ ys' H'', N ys' H'' → ∃ m', m' < m ∧ W (i + 1) m' ys' H'') ∧ ∀ (c : CB) (own : St), own.length = k → ∀ x H2, J.yld i H' x H2 → g c x (own ++ subS σ idx) H2 fun σ3 H3 =>
    (∃ own', own'.length = k ∧ σ3 = own' ++ subS σ idx) ∧ tt c σ3 H3 fun b H4 => if b = true then te c σ3 H4 fun y H5 => H5 D = some (.lst ys) ∧ ys.length < sizeLine ∧ N (ys ++ [y]) (upd H5 D (.lst (ys ++ [y]))) else N ys H4)

/-- what the scope of the block must be -/
structure CScope (X : Cx) (scope : Scope) (xs : List Str) (idx : List Nat) : Prop where
  kind : scope.kind = .function
  nocell : ∀ y ∈ scope.names, y.2 ≠ .cell
  loc : ∀ y ∈ scope.names, y.2 = .local → scope.names.lookup y.1 = some .local
  free : ∀ y ∈ scope.names, y.2 = .free → scope.names.lookup y.1 = some .free ∧ (X.env.kindOf y.1 = some .cell ∨ X.env.kindOf y.1 = some .free)
  ix : ∀ i ∈ idx, ∃ y, X.N[i]? = some y ∧ scope.names.lookup y = some .free

section
variable {prog : Program} {w : World} {A : Around} {R : Result → Shared → Prop} {s : Shared}
theorem codeAny_compLoop_any {elt target iter : Expr} {ifs : List Expr} {scope : Scope} {pos : Pos} {it acc : Value} {env : Env} (I : Nat → Shared → Prop)
    (turn : ∀ n s, I n s → wpAny (model prog w) A (pyNext it) (fun r s₁ => match r with
      | none => R (.ok .next) s₁
      | some v => wpAny (model prog w) A (letOwnedTupleGo target it v) (fun _ s₁' => wpAny (model prog w) A (assign target env v) (fun _ s₂ =>
          wpAny (model prog w) A (forIn ifs true fun c r => if r = true then do let ok ← isTrue c env (eval c env); pure (ForInStep.yield ok) else pure (ForInStep.yield r)) (fun ok s₃ =>
            if ok = true then wpAny (model prog w) A (eval elt env) (fun x s₄ =>
              wpAny (model prog w) A (call (.builtin "list.append") [acc, x]) (fun _ s₅ => ∃ m, m < n ∧ I m s₅) (fun _ _ => False) s₄) (fun _ _ => False) s₃
            else ∃ m, m < n ∧ I m s₃) (fun _ _ => False) s₂) (fun _ _ => False) s₁') (fun _ _ => False) s₁) (fun _ _ => False) s)
    (n : Nat) (h : I n s) :
    codeAny (model prog w) A (.compLoop (.ListComp elt [⟨target, iter, ifs, 0⟩] scope pos) 0 it acc env) R s := by
  refine codeAny_loop rfl I (fun n s hI => ?_) n h
  show wpAny _ A ((compTurn (.ListComp elt [⟨target, iter, ifs, 0⟩] scope pos) 0 it acc env).onRaise (fun x => do noteFrame x env; theTreesLotGoes x)) _ _ s
  refine wpAny_noted ?_
  rw [compTurn_list]
  refine wpAny_bind (wpAny_standAt (wpAny_bind (wpAny_mono (turn n s hI) (fun r s₁ h₁ => ?_) fun _ _ h' => False.elim h')))
  cases r with
  | none => exact wpAny_pure h₁
  | some v =>
    refine wpAny_bind (wpAny_mono h₁ (fun _ s₁' h₁' => ?_) fun _ _ h' => False.elim h')
    refine wpAny_bind (wpAny_mono h₁' (fun _ s₂ h₂ => wpAny_bind (wpAny_mono h₂ (fun ok s₃ h₃ => ?_) fun _ _ h' => False.elim h')) fun _ _ h' => False.elim h')
    cases ok with
    | false => exact wpAny_pure ⟨rfl, h₃⟩
    | true =>
      exact wpAny_bind (wpAny_bind (wpAny_mono h₃ (fun x s₄ h₄ => wpAny_bind (wpAny_mono h₄ (fun _ s₅ h₅ => wpAny_pure (wpAny_pure ⟨rfl, h₅⟩)) fun _ _ h' => False.elim h')) fun _ _ h' => False.elim h'))
end

section
variable {X : Cx} {pins : List (Addr × Obj)} {σ : St} {H : Hp} {s : Shared}
/-- an untracked record of no one's changes -/
theorem HOk.but {P : Program} {w : World} {h h' : Heap} {C : Addr} (x : HOk P w H h) (hn : H C = none) (hs : Heap.SameBut C h h') : HOk P w H h' := fun b ob e => by
  refine (x b ob e).stay (fun c w' hc q => (hs.2 c ?_).trans q) (fun _ q => q) fun _ _ q => q
  rintro rfl
  rcases hc with rfl | hc
  · rw [hn] at e; cases e
  · rw [hn] at hc; cases hc
theorem Un.but {fs ex : List Addr} {H' : Hp} {h h1 h2 : Heap} {C : Addr} (u : Un fs ex H H' h h1) (hC : h.get? C = none) (hs : Heap.SameBut C h1 h2) : Un fs ex H H' h h2 := by
  have ne : ∀ b o, h.get? b = some o → b ≠ C := fun b o e z => by rw [z, hC] at e; cases e
  exact ⟨fun b o e n h1 h2 => (hs.2 b (ne b o e)).trans (u.keep b o e n h1 h2), fun b o e n h1 h2 => by
      obtain ⟨sl, q⟩ := u.slot b o e n h1 h2
      exact ⟨sl, (hs.2 b (ne b o e)).trans q⟩, u.free, fun b o e h2 => by
      obtain ⟨o', q⟩ := u.there b o e h2
      exact ⟨o', (hs.2 b (ne b o e)).trans q⟩, u.tups, u.frzs, u.tbls⟩

theorem subS_get {idx : List Nat} {j : Nat} {v : V} (h : (subS σ idx)[j]? = some (some v)) : ∃ i, idx[j]? = some i ∧ σ[i]? = some (some v) := by
  unfold subS at h
  rw [List.getElem?_map] at h
  cases e : idx[j]? with
  | none => rw [e] at h; cases h
  | some i =>
    rw [e] at h
    refine ⟨i, rfl, ?_⟩
    have h' : (σ[i]?).join = some v := Option.some.inj h
    cases q : σ[i]? with
    | none => rw [q] at h'; cases h'
    | some o => rw [q] at h'; cases o with
      | none => cases h'
      | some z => cases h'; rfl
theorem subN_get {N : List Str} {idx : List Nat} {j i : Nat} {y : Str} (h : idx[j]? = some i) (e : N[i]? = some y) : (subN N idx)[j]? = some y := by
  unfold subN
  rw [List.getElem?_map, h]
  show some (N.getD i "") = some y
  rw [List.getD_eq_getElem?_getD, e]; rfl

/-- the block begins -/
theorem Inv.block {scope : Scope} {xs : List Str} {idx : List Nat} {fp : List Addr} {C : Addr} {h' : Heap} {t' : Nat} {H1 : Hp} {D : Addr} {m0 : Str → Option Value} (I : Inv X pins σ H s) (S : CScope X scope xs idx)
    (hfp : ∀ b ∈ fp, FpOk X pins H b) (hfo : ∀ b ∈ fp, ∃ o, s.heap.get? b = some o) (hC : s.heap.objs.size ≤ C) (hDC : D ≠ C) (hD : s.heap.objs.size ≤ D) (hn : h'.Ns C m0) (hk : ∀ b o, s.heap.get? b = some o → h'.get? b = some o)
    (hl : ∃ n, h'.get? D = some { cls := .type "list", data := .seq #[] n }) :
    Inv (cxC X scope (xs ++ subN X.N idx) ⟨C, closL X.env scope.names [], s, H, fp⟩) [] (List.replicate xs.length none ++ subS σ idx) (upd H D (.lst [])) { s with heap := h', toks := t' } := by
  have hfree : ∀ y ∈ scope.names, y.2 = .free → ∃ c, X.env.cells.lookup y.1 = some c := fun y hy e => I.ok.has y.1 (S.free y hy e).2
  have hall := closL_mem (env := X.env) scope.names [] hfree (fun p hp => (nomatch hp))
  have hcell : ∀ y c, (closL X.env scope.names []).lookup y = some c → X.env.cells.lookup y = some c := fun y c e => hall (y, c) (PySem.mem_of_lookup e)
  have hhas : ∀ y, scope.names.lookup y = some .free → (closL X.env scope.names []).lookup y = X.env.cells.lookup y := fun y e => lookup_of_all (f := fun n => X.env.cells.lookup n) hall (closL_has scope.names [] (PySem.mem_of_lookup e))
  have lt : ∀ b, (∃ o, s.heap.get? b = some o) → b < s.heap.objs.size := fun b ⟨o, e⟩ => Heap.lt_size e
  have hDn : H D = none := I.hok.fresh hD
  refine ⟨⟨I.ok.mod, S.kind, I.ok.glob, I.ok.blt, hC, fun x y c h1 h2 => I.ok.inj x y c (hcell x c h1) (hcell y c h2), fun y hy => ?_, fun _ _ e => (nomatch e), I.ok.hd, I.ok.frames, .inl rfl, fun b hb => ⟨?_, fun x c e => (hfp b hb).2.2.2.2.1 x c (hcell x c e)⟩, I.bs, Nat.le_trans I.ok.bsz I.sz, fun b o e hb => ?_, fun b hb z => ?_, I.stack, I.stkFree⟩,
    rfl, I.bare, ?_, ⟨m0, hn, fun i y v e1 e2 hv => ?_⟩, fun x c e => ?_, ?_, fun x c e => ?_, fun p hp => (nomatch hp), ?_, ?_⟩
  · -- has
    have q : scope.names.lookup y = some .free := relabel_free S.nocell hy
    have q2 := PySem.mem_of_lookup q
    obtain ⟨c, e⟩ := hfree _ q2 rfl
    exact ⟨c, (hhas y q).trans e⟩
  · -- exf
    exact Nat.ne_of_lt (Nat.lt_of_lt_of_le (lt b (hfo b hb)) hC)
  · -- noex
    rcases (hfp b hb).2.2.2.1 with z | z
    · exact I.ok.noex b o e z
    · exact absurd (Nat.lt_of_lt_of_le (Heap.lt_size e) (Nat.le_trans I.ok.bsz z)) (Nat.lt_irrefl _)
  · -- exfs
    rcases List.mem_cons.mp (I.stkSub b z) with q | q
    · exact (hfp b hb).2.1 q
    · exact (hfp b hb).2.2.1 q
  · -- base
    exact Un.laid hk hD hDn
  · -- loc
    by_cases hi : i < xs.length
    · rw [List.getElem?_append_left (by simpa using hi)] at e2
      rw [List.getElem?_replicate] at e2
      split at e2 <;> cases e2
    · have hi' : xs.length ≤ i := Nat.le_of_not_lt hi
      rw [List.getElem?_append_right (by simpa using hi'), List.length_replicate] at e2
      obtain ⟨i0, ei, es⟩ := subS_get e2
      obtain ⟨y', ey, ef⟩ := S.ix i0 (List.mem_of_getElem? ei)
      have e1' : (xs ++ subN X.N idx)[i]? = some y := e1
      rw [List.getElem?_append_right hi', subN_get ei ey] at e1'
      cases e1'
      obtain ⟨m, hm, hl'⟩ := I.loc
      have ef2 := S.free (y, .free) (PySem.mem_of_lookup ef) rfl
      have vis : Vis X.env.scope y := .inr ef2.2
      obtain ⟨u, ru, lk⟩ := hl' i0 y v ey es vis
      refine ⟨u, ru, ?_⟩
      rcases lk with ⟨k1, _⟩ | ⟨_, c, ec, hc⟩
      · rcases ef2.2 with z | z
        · have z' : X.env.kindOf y = some .cell := z
          rw [k1] at z'; cases z'
        · have z' : X.env.kindOf y = some .free := z
          rw [k1] at z'; cases z'
      · refine .inr ⟨?_, c, (hhas y ef).trans ec, hc.keeps hk⟩
        rcases hv with z | z | z
        · exfalso
          have z' : (relabel scope X.env).names.lookup y = some .local := z
          -- a free name is not local in the block
          have : ∀ (names : List (Str × NameKind)), names.lookup y = some .free → (names.map fun (n, k) => if (k == NameKind.free && X.env.scope.kind == .function && X.env.kindOf n == some .cell) then (n, NameKind.cell) else (n, k)).lookup y ≠ some .local := by
            intro names
            induction names with
            | nil => intro h; cases h
            | cons p r ih =>
              obtain ⟨n, k⟩ := p
              intro h
              rw [List.map_cons]
              by_cases e : y = n
              · subst e
                rw [List.lookup_cons, beq_self_eq_true] at h
                cases h
                dsimp only
                split
                · rw [List.lookup_cons, beq_self_eq_true]; exact fun q => nomatch q
                · rw [List.lookup_cons, beq_self_eq_true]; exact fun q => nomatch q
              · have hn : (y == n) = false := by simpa using e
                rw [List.lookup_cons, hn] at h
                dsimp only
                split
                · rw [List.lookup_cons, hn]; exact ih h
                · rw [List.lookup_cons, hn]; exact ih h
          exact this scope.names ef z'
        · exact .inl z
        · exact .inr z
  · -- cell
    obtain ⟨v, q⟩ := I.cell x c (hcell x c e)
    exact ⟨v, q.keeps hk⟩
  · -- free
    show upd H D (.lst []) C = none
    rw [upd_ne (Ne.symm hDC)]
    exact I.hok.fresh hC
  · -- freeC
    have e' := hcell x c e
    obtain ⟨v, q⟩ := I.cell x c e'
    rw [upd_ne (Nat.ne_of_lt (Nat.lt_of_lt_of_le q.lt hD))]
    exact I.freeC x c e'
  · -- hok
    obtain ⟨n, e⟩ := hl
    exact I.hok.laid hk hD ⟨Nat.zero_le _, [], n, .nil, e⟩
  · show (List.replicate xs.length none ++ subS σ idx).length = (xs ++ subN X.N idx).length
    rw [List.length_append, List.length_append, List.length_replicate]
    unfold subS subN
    rw [List.length_map, List.length_map]
end

section
variable {X : Cx} {elt target iter : Expr} {ifs : List Expr} {scope : Scope} {pos : Pos} {xs : List Str} {idx : List Nat} {wi : TI} {g : CB → TG} {tt : CB → TT} {te : CB → TE}
/-- the block, up to where its list stands -/
theorem comp_run {pins : List (Addr × Obj)} {σ : St} {H2 : Hp} {s2 : Shared} {fp : List Addr} {it : Addr} {tn : Nat → Heap → Prop} {J : It} {Q : V → Hp → Prop} {RR : Value → Addr → Result → Shared → Prop} {E : Value → Shared → Prop} (hc : X.calm = true) (S : CScope X scope xs idx)
    (hg : ∀ c, PG (cxC X scope (xs ++ subN X.N idx) c) target (g c)) (ht : ∀ c, PIfs (cxC X scope (xs ++ subN X.N idx) c) ifs (tt c)) (he : ∀ c, PE (cxC X scope (xs ++ subN X.N idx) c) elt (te c))
    (I2 : Inv X pins σ H2 s2) (T : Turn X.prog X.w X.K target J fp it tn) (st2 : tn 0 s2.heap) (f2 : ∀ b ∈ fp, FpOk X pins H2 b)
    (h : ∀ D, H2 D = none → ∃ W : Nat → Nat → List V → Hp → Prop, (∃ m, W 0 m [] (upd H2 D (.lst []))) ∧
      ∀ i m ys H', W i m ys H' → (J.stop i H' ∧ Q (.ref D) H') ∨ (J.go i H' ∧ ∃ N : List V → Hp → Prop, (∀ ys' H'', N ys' H'' → ∃ m', m' < m ∧ W (i + 1) m' ys' H'') ∧ ∀ (c : CB) (own : St), own.length = xs.length → ∀ x H2, J.yld i H' x H2 → g c x (own ++ subS σ idx) H2 fun σ3 H3 =>
        (∃ own', own'.length = xs.length ∧ σ3 = own' ++ subS σ idx) ∧ tt c σ3 H3 fun b H4 => if b = true then te c σ3 H4 fun y H5 => H5 D = some (.lst ys) ∧ ys.length < sizeLine ∧ N (ys ++ [y]) (upd H5 D (.lst (ys ++ [y]))) else N ys H4))
    (hRR : ∀ D C σ' H' s', s2.heap.objs.size ≤ C → Inv (cxC X scope (xs ++ subN X.N idx) ⟨C, closL X.env scope.names [], s2, H2, fp⟩) [] σ' H' s' → Q (.ref D) H' → RR (.ref D) C (.ok .next) s') :
    wpAny (model X.prog X.w) X.A (newList []) (fun acc s₃ => wpAny (model X.prog X.w) X.A (newFunctionEnv scope X.env.globals (closL X.env scope.names []) [] X.env.qual none .none (some X.env)) (fun cenv s₄ =>
      codeAny (model X.prog X.w) X.A (.compStart (.ListComp elt [⟨target, iter, ifs, 0⟩] scope pos) 0 (.ref it) acc { cenv with scope := relabel scope X.env }) (RR acc cenv.locals) s₄) E s₃) E s2 := by
  refine wpAny_newObj_type (wpAny_newFunctionEnv S.nocell (by intro y hy; simp at hy) (fun h₁ hns₁ hsb₁ => ?_) S.kind)
  dsimp only at hns₁ hsb₁ ⊢
  generalize hH2 : s2.heap.push { cls := .type "list", dict := none, data := .seq ([] : List Value).toArray } = HH at hns₁ hsb₁ ⊢
  have hCs : HH.objs.size = s2.heap.objs.size + 1 := by rw [← hH2, Heap.size_push]
  have hDC : s2.heap.objs.size ≠ HH.objs.size := by rw [hCs]; exact Nat.ne_of_lt (Nat.lt_succ_self _)
  have hCle : s2.heap.objs.size ≤ HH.objs.size := by rw [hCs]; exact Nat.le_succ _
  have old : ∀ b o, s2.heap.get? b = some o → h₁.get? b = some o := fun b o e => hsb₁.extBut b o (by rw [hCs]; exact Nat.ne_of_lt (Nat.lt_succ_of_lt (Heap.lt_size e))) (Heap.get?_push_of_some _ (hH2 ▸ Heap.get?_push_of_some _ e))
  have hacc : ∃ n, h₁.get? s2.heap.objs.size = some { cls := .type "list", data := .seq #[] n } := ⟨_, hsb₁.extBut _ _ hDC (Heap.get?_push_of_some _ (hH2 ▸ Heap.get?_push_size _ rfl))⟩
  have st1 : tn 0 h₁ := T.keep _ _ _ st2 fun b _ o e => old b o e
  obtain ⟨W, ⟨m0, w0⟩, turn⟩ := h s2.heap.objs.size I2.fresh
  have loop : ∀ s₃ : Shared, s₃ = { s2 with heap := h₁, toks := s2.toks + ([] : List (Str × Value)).length } →
      codeAny (model X.prog X.w) X.A (.compLoop (.ListComp elt [⟨target, iter, ifs, 0⟩] scope pos) 0 (.ref it) (.ref s2.heap.objs.size) (compEnvC scope (closL X.env scope.names []) HH.objs.size X.env)) (RR (.ref s2.heap.objs.size) HH.objs.size) s₃ := by
    rintro s₃ rfl
    have I3 := I2.block (t' := s2.toks + ([] : List (Str × Value)).length) (H1 := H2) S f2 (fun b hb => let ⟨o, e, _⟩ := T.obj _ _ st2 b hb; ⟨o, e⟩) hCle hDC (Nat.le_refl _) hns₁ old hacc
    generalize hY : cxC X scope (xs ++ subN X.N idx) ⟨HH.objs.size, closL X.env scope.names [], s2, H2, fp⟩ = Y at I3
    have eY : Y = cxC X scope (xs ++ subN X.N idx) ⟨HH.objs.size, closL X.env scope.names [], s2, H2, fp⟩ := hY.symm
    have nof : ∀ b ∈ fp, b ∉ Y.fs := fun b hb z => by
      rw [eY] at z
      rcases List.mem_cons.mp (I2.stkSub b z) with q | q
      · exact (f2 b hb).2.1 q
      · exact (f2 b hb).2.2.1 q
    have stat : ∀ {H' : Hp}, (∀ b ∈ fp, H' b = none) → ∀ b ∈ fp, FpOk Y [] H' b := fun {H'} hn b hb => by
      have lt : b < s2.heap.objs.size := let ⟨o, e, _⟩ := T.obj _ _ st2 b hb; Heap.lt_size e
      refine ⟨hn b hb, ?_, nof b hb, .inl (by rw [eY]; exact hb), fun x c e => ?_, fun p hp => ?_⟩
      · rw [eY]; exact Nat.ne_of_lt (Nat.lt_of_lt_of_le lt hCle)
      · rw [eY] at e
        have hall := closL_mem (env := X.env) scope.names [] (fun y hy e => I2.ok.has y.1 (S.free y hy e).2) (fun p hp => nomatch hp)
        exact (f2 b hb).2.2.2.2.1 x c (hall (x, c) (PySem.mem_of_lookup e))
      · rw [eY] at hp; exact nomatch hp
    have T' : Turn Y.prog Y.w Y.K target J fp it tn := by rw [eY]; exact T
    have hg' : PG Y target (g ⟨HH.objs.size, closL X.env scope.names [], s2, H2, fp⟩) := by rw [eY]; exact hg _
    have ht' : PIfs Y ifs (tt ⟨HH.objs.size, closL X.env scope.names [], s2, H2, fp⟩) := by rw [eY]; exact ht _
    have he' : PE Y elt (te ⟨HH.objs.size, closL X.env scope.names [], s2, H2, fp⟩) := by rw [eY]; exact he _
    have hcY : Y.calm = true := by rw [eY]; exact hc
    have eA : Y.A = X.A := by rw [eY]
    have eP : Y.prog = X.prog := by rw [eY]
    have eW : Y.w = X.w := by rw [eY]
    have eE : Y.env = compEnvC scope (closL X.env scope.names []) HH.objs.size X.env := by rw [eY]
    have eX : Y.xe = fun _ _ => False := by rw [eY]
    have fin : ∀ σ' H' s', Inv Y [] σ' H' s' → Q (.ref s2.heap.objs.size) H' → RR (.ref s2.heap.objs.size) HH.objs.size (.ok .next) s' := fun σ' H' s' I' q => hRR _ _ σ' H' s' hCle (by rw [← eY]; exact I') q
    rw [← eE, ← eA, ← eP, ← eW]
    have fr0 : ∀ b ∈ fp, (upd H2 s2.heap.objs.size (.lst [])) b = none := fun b hb => by
      have lt : b < s2.heap.objs.size := let ⟨o, e, _⟩ := T.obj _ _ st2 b hb; Heap.lt_size e
      rw [upd_ne (Nat.ne_of_lt lt)]; exact (f2 b hb).1
    refine codeAny_compLoop_any (fun n s' => ∃ i ys own H', own.length = xs.length ∧ Inv Y [] (own ++ subS σ idx) H' s' ∧ tn i s'.heap ∧ (∀ b ∈ fp, H' b = none) ∧ W i n ys H') ?_ m0
      ⟨0, [], _, _, List.length_replicate, I3, st1, fr0, w0⟩
    rintro n s4 ⟨i, ys, own, H4, hown, I4, st4, fr4, w4⟩
    rcases turn i n ys H4 w4 with ⟨stop, qn⟩ | ⟨go, NN, hNN, step⟩
    · exact thn (T'.done Y rfl rfl rfl hcY i [] s4 _ H4 _ I4 (stat fr4) st4 stop) fun r s5 ⟨hr, I5⟩ => by subst hr; exact fin _ _ _ I5 qn
    · refine thn (T'.item Y rfl rfl rfl hcY i [] s4 _ H4 _ I4 (stat fr4) st4 go) fun r s5 ⟨u, hr, h5⟩ => ?_
      subst hr
      refine thn h5 fun _ s6 ⟨x, H6, I6, r6, y6, st6, fr6⟩ => ?_
      have I6' := I6.pinned (stat fr6) (T'.obj _ _ st6)
      have step' := step ⟨HH.objs.size, closL X.env scope.names [], s2, H2, fp⟩ own hown x H6 y6
      refine wpAny_mono (hg' _ s6 _ H6 x u _ I6' r6 step') (fun _ s7 ⟨σ7, H7, I7, q7⟩ => ?_) (fun _ _ z => by rw [eX] at z; exact z)
      obtain ⟨⟨own7, ho7, e7⟩, q7⟩ := q7
      refine wpAny_mono (ht' _ s7 σ7 H7 _ I7 q7) (fun b s8 ⟨H8, I8, q8⟩ => ?_) (fun _ _ z => by rw [eX] at z; exact z)
      have again : ∀ {H9 : Hp} {s9 : Shared} {ys' : List V}, Inv Y ([] ++ pinsAt fp s6.heap) σ7 H9 s9 → NN ys' H9 → ∃ m, m < n ∧ ∃ i ys own H', own.length = xs.length ∧ Inv Y [] (own ++ subS σ idx) H' s9 ∧ tn i s9.heap ∧ (∀ b ∈ fp, H' b = none) ∧ W i m ys H' := fun {H9 s9 ys'} I9 n9 => by
        obtain ⟨m', hm, w9⟩ := hNN _ _ n9
        rw [e7] at I9
        refine ⟨m', hm, i + 1, ys', own7, H9, ho7, I9.unpinned, T'.keep _ _ _ st6 fun b hb o e => (I9.pin (b, o) (List.mem_append_right _ (List.mem_append_right _ (mem_pinsAt hb e)))).1, fun b hb => ?_, w9⟩
        obtain ⟨o, e, d⟩ := T'.obj _ _ st6 b hb
        exact (I9.pin (b, o) (List.mem_append_right _ (List.mem_append_right _ (mem_pinsAt hb e)))).2.1
      cases b with
      | false => exact again I8 q8
      | true =>
        refine wpAny_mono (he' _ s8 σ7 H8 _ I8 q8) (fun u9 s9 ⟨y, H9, I9, r9, hy, hz, q9⟩ => ?_) (fun _ _ z => by rw [eX] at z; exact z)
        have ap := mt_append (X := Y) _ s9 σ7 H9 (.ref s2.heap.objs.size) [y] (.ref s2.heap.objs.size) [u9] (fun _ H10 => NN (ys ++ [y]) H10) I9 rfl (.cons r9 .nil) ⟨_, ys, y, rfl, rfl, hy, hz, q9⟩
        refine wpAny_mono ap (fun _ s10 ⟨_, H10, I10, _, q10⟩ => again I10 q10) (fun _ _ z => by rw [eX] at z; exact z)
  exact codeAny_compStart_list (loop _ rfl) (T.self _ 0 _ _ _ st1 (loop _ rfl))

/-- a list comprehension -/
theorem pe_comp (hc : X.calm = true) (S : CScope X scope xs idx) (hi : PI X target iter wi)
    (hg : ∀ c, PG (cxC X scope (xs ++ subN X.N idx) c) target (g c)) (ht : ∀ c, PIfs (cxC X scope (xs ++ subN X.N idx) c) ifs (tt c)) (he : ∀ c, PE (cxC X scope (xs ++ subN X.N idx) c) elt (te c))
    (hs : ∀ x, foldedSetIterable iter X.env x = pure x := by intro _; rfl) : PE X (.ListComp elt [⟨target, iter, ifs, 0⟩] scope pos) (tComp wi xs.length idx g tt te) := by
  intro pins s σ H Q I h
  rw [eval_ListComp]
  have hclos : closureFor scope X.env = pure (closL X.env scope.names []) := closureFor_closL fun y hy e => I.ok.has y.1 (S.free y hy e).2
  refine wpAny_comprehension_free (use := none) rfl hs hclos S.kind S.loc (thn (hi pins s σ H _ I h) fun xv s₁ h₁ => thn h₁ fun itv s₂ h₂ => ?_)
  obtain ⟨it, fp, tn, J, H2, e, I2, T, st2, f2, hW⟩ := h₂
  subst e
  refine comp_run (Q := Q) (RR := fun acc C => compPost (model X.prog X.w) X.A X.xe none (EP X pins σ Q) acc C) hc S hg ht he I2 T st2 f2 hW ?_
  intro D C σ' H' s' hC I' q
  obtain ⟨m', hn, _⟩ := I'.loc
  refine ⟨m', hn, fun h'' hs'' => ?_⟩
  obtain ⟨hh, gg, d, t, os⟩ := s'
  obtain rfl : os = s₂.os := I'.os
  have Cn : s₂.heap.get? C = none := Heap.get?_none_of_le hC
  refine ⟨.ref D, H', I2.call (s := s₂) (h' := h'') (g' := gg) (d' := d) (t' := t) (ch := fp) (I'.base.but Cn hs'') (I'.hok.but I'.free hs'') I'.bare (fun b hb => ?_), rfl, q⟩
  obtain ⟨_, f1, _, f3, f4, f5⟩ := f2 b hb
  exact ⟨f3, f1, f4, f5⟩
end
/-! ### the forms one uses -/
theorem comp_range {lo : Int} {n k : Nat} {idx : List Nat} {g : CB → TG} {tt : CB → TT} {te : CB → TE} {σ : St} {Q : VK} {H1 : Hp} {D : Addr} (Pv : Nat → List V → Hp → Prop) (h0 : Pv 0 [] (upd H1 D (.lst [])))
    (hs : ∀ i ys H, i < n → Pv i ys H → ∀ (c : CB) (own : St), own.length = k → g c (.int (lo + i)) (own ++ subS σ idx) H fun σ3 H3 =>
      (∃ own', own'.length = k ∧ σ3 = own' ++ subS σ idx) ∧ tt c σ3 H3 fun b H4 => if b = true then te c σ3 H4 fun y H5 => H5 D = some (.lst ys) ∧ ys.length < sizeLine ∧ Pv (i + 1) (ys ++ [y]) (upd H5 D (.lst (ys ++ [y]))) else Pv (i + 1) ys H4)
    (hd : ∀ ys H, Pv n ys H → Q (.ref D) H) :
    ∃ W : Nat → Nat → List V → Hp → Prop, (∃ m, W 0 m [] (upd H1 D (.lst []))) ∧
      ∀ i m ys H', W i m ys H' → ((Itr lo n).stop i H' ∧ Q (.ref D) H') ∨ ((Itr lo n).go i H' ∧ ∃ N : List V → Hp → Prop, (∀ ys' H'', N ys' H'' → ∃ m', m' < m ∧ W (i + 1) m' ys' H'') ∧ ∀ (c : CB) (own : St), own.length = k → ∀ x H2, (Itr lo n).yld i H' x H2 → g c x (own ++ subS σ idx) H2 fun σ3 H3 =>
        (∃ own', own'.length = k ∧ σ3 = own' ++ subS σ idx) ∧ tt c σ3 H3 fun b H4 => if b = true then te c σ3 H4 fun y H5 => H5 D = some (.lst ys) ∧ ys.length < sizeLine ∧ N (ys ++ [y]) (upd H5 D (.lst (ys ++ [y]))) else N ys H4) := by
  refine ⟨fun i m ys H => m = n - i ∧ i ≤ n ∧ Pv i ys H, ⟨n, by simp, Nat.zero_le _, h0⟩, ?_⟩
  rintro i m ys H ⟨rfl, hi, p⟩
  by_cases hlt : i < n
  · refine .inr ⟨hlt, Pv (i + 1), fun ys' H' p' => ⟨n - (i + 1), by omega, rfl, hlt, p'⟩, fun c own ho x H' y => ?_⟩
    obtain ⟨e, y⟩ := y
    subst e y
    exact hs i ys _ hlt p c own ho
  · have e : i = n := by omega
    subst e
    exact .inl ⟨Nat.le_refl _, hd ys H p⟩
theorem comp_list {K : PySem.W.Frag} {a : Addr} {zs : List V} {k : Nat} {idx : List Nat} {g : CB → TG} {tt : CB → TT} {te : CB → TE} {σ : St} {Q : VK} {H1 : Hp} {D : Addr} (Pv : Nat → List V → Hp → Prop) (h0 : Pv 0 [] (upd H1 D (.lst [])))
    (hl : ∀ i ys H, i ≤ zs.length → Pv i ys H → SqL K H a zs)
    (hs : ∀ i x ys H, zs[i]? = some x → Pv i ys H → ∀ (c : CB) (own : St), own.length = k → g c x (own ++ subS σ idx) H fun σ3 H3 =>
      (∃ own', own'.length = k ∧ σ3 = own' ++ subS σ idx) ∧ tt c σ3 H3 fun b H4 => if b = true then te c σ3 H4 fun y H5 => H5 D = some (.lst ys) ∧ ys.length < sizeLine ∧ Pv (i + 1) (ys ++ [y]) (upd H5 D (.lst (ys ++ [y]))) else Pv (i + 1) ys H4)
    (hd : ∀ ys H, Pv zs.length ys H → Q (.ref D) H) :
    ∃ W : Nat → Nat → List V → Hp → Prop, (∃ m, W 0 m [] (upd H1 D (.lst []))) ∧
      ∀ i m ys H', W i m ys H' → ((Itl K a).stop i H' ∧ Q (.ref D) H') ∨ ((Itl K a).go i H' ∧ ∃ N : List V → Hp → Prop, (∀ ys' H'', N ys' H'' → ∃ m', m' < m ∧ W (i + 1) m' ys' H'') ∧ ∀ (c : CB) (own : St), own.length = k → ∀ x H2, (Itl K a).yld i H' x H2 → g c x (own ++ subS σ idx) H2 fun σ3 H3 =>
        (∃ own', own'.length = k ∧ σ3 = own' ++ subS σ idx) ∧ tt c σ3 H3 fun b H4 => if b = true then te c σ3 H4 fun y H5 => H5 D = some (.lst ys) ∧ ys.length < sizeLine ∧ N (ys ++ [y]) (upd H5 D (.lst (ys ++ [y]))) else N ys H4) := by
  refine ⟨fun i m ys H => m = zs.length - i ∧ i ≤ zs.length ∧ Pv i ys H, ⟨zs.length, by simp, Nat.zero_le _, h0⟩, ?_⟩
  rintro i m ys H ⟨rfl, hi, p⟩
  have q := hl i ys H hi p
  by_cases hlt : i < zs.length
  · refine .inr ⟨⟨zs, zs[i], q, by simp [hlt]⟩, Pv (i + 1), fun ys' H' p' => ⟨zs.length - (i + 1), by omega, rfl, hlt, p'⟩, fun c own ho x H' y => ?_⟩
    obtain ⟨e, y⟩ := y
    subst e
    exact hs i x ys _ (y zs q) p c own ho
  · have e : i = zs.length := by omega
    subst e
    exact .inl ⟨⟨zs, q, Nat.le_refl _⟩, hd ys H p⟩
theorem own1 {own : St} {k : St} {x : V} (h : own.length = 1) : (own ++ k).set 0 (some x) = [some x] ++ k := by
  match own, h with
  | [_], _ => rfl
theorem comp_range1 {lo : Int} {n : Nat} {idx : List Nat} {tt : CB → TT} {te : CB → TE} {σ : St} {Q : VK} {H1 : Hp} {D : Addr} (Pv : Nat → List V → Hp → Prop) (h0 : Pv 0 [] (upd H1 D (.lst [])))
    (hs : ∀ i ys H, i < n → Pv i ys H → ∀ (c : CB), tt c (some (.int (lo + i)) :: subS σ idx) H fun b H4 => if b = true then te c (some (.int (lo + i)) :: subS σ idx) H4 fun y H5 => H5 D = some (.lst ys) ∧ ys.length < sizeLine ∧ Pv (i + 1) (ys ++ [y]) (upd H5 D (.lst (ys ++ [y]))) else Pv (i + 1) ys H4)
    (hd : ∀ ys H, Pv n ys H → Q (.ref D) H) :
    ∃ W : Nat → Nat → List V → Hp → Prop, (∃ m, W 0 m [] (upd H1 D (.lst []))) ∧
      ∀ i m ys H', W i m ys H' → ((Itr lo n).stop i H' ∧ Q (.ref D) H') ∨ ((Itr lo n).go i H' ∧ ∃ N : List V → Hp → Prop, (∀ ys' H'', N ys' H'' → ∃ m', m' < m ∧ W (i + 1) m' ys' H'') ∧ ∀ (c : CB) (own : St), own.length = 1 → ∀ x H2, (Itr lo n).yld i H' x H2 → gName 0 x (own ++ subS σ idx) H2 fun σ3 H3 =>
        (∃ own', own'.length = 1 ∧ σ3 = own' ++ subS σ idx) ∧ tt c σ3 H3 fun b H4 => if b = true then te c σ3 H4 fun y H5 => H5 D = some (.lst ys) ∧ ys.length < sizeLine ∧ N (ys ++ [y]) (upd H5 D (.lst (ys ++ [y]))) else N ys H4) :=
  comp_range (g := fun _ => gName 0) Pv h0 (fun i ys H hi p c own ho => by
    show (∃ own', own'.length = 1 ∧ (own ++ subS σ idx).set 0 _ = own' ++ subS σ idx) ∧ tt c ((own ++ subS σ idx).set 0 _) H _
    rw [own1 ho]
    exact ⟨⟨[_], rfl, rfl⟩, hs i ys H hi p c⟩) hd
theorem comp_list1 {K : PySem.W.Frag} {a : Addr} {zs : List V} {idx : List Nat} {tt : CB → TT} {te : CB → TE} {σ : St} {Q : VK} {H1 : Hp} {D : Addr} (Pv : Nat → List V → Hp → Prop) (h0 : Pv 0 [] (upd H1 D (.lst [])))
    (hl : ∀ i ys H, i ≤ zs.length → Pv i ys H → SqL K H a zs)
    (hs : ∀ i x ys H, zs[i]? = some x → Pv i ys H → ∀ (c : CB), tt c (some x :: subS σ idx) H fun b H4 => if b = true then te c (some x :: subS σ idx) H4 fun y H5 => H5 D = some (.lst ys) ∧ ys.length < sizeLine ∧ Pv (i + 1) (ys ++ [y]) (upd H5 D (.lst (ys ++ [y]))) else Pv (i + 1) ys H4)
    (hd : ∀ ys H, Pv zs.length ys H → Q (.ref D) H) :
    ∃ W : Nat → Nat → List V → Hp → Prop, (∃ m, W 0 m [] (upd H1 D (.lst []))) ∧
      ∀ i m ys H', W i m ys H' → ((Itl K a).stop i H' ∧ Q (.ref D) H') ∨ ((Itl K a).go i H' ∧ ∃ N : List V → Hp → Prop, (∀ ys' H'', N ys' H'' → ∃ m', m' < m ∧ W (i + 1) m' ys' H'') ∧ ∀ (c : CB) (own : St), own.length = 1 → ∀ x H2, (Itl K a).yld i H' x H2 → gName 0 x (own ++ subS σ idx) H2 fun σ3 H3 =>
        (∃ own', own'.length = 1 ∧ σ3 = own' ++ subS σ idx) ∧ tt c σ3 H3 fun b H4 => if b = true then te c σ3 H4 fun y H5 => H5 D = some (.lst ys) ∧ ys.length < sizeLine ∧ N (ys ++ [y]) (upd H5 D (.lst (ys ++ [y]))) else N ys H4) :=
  comp_list (g := fun _ => gName 0) Pv h0 hl (fun i x ys H hi p c own ho => by
    show (∃ own', own'.length = 1 ∧ (own ++ subS σ idx).set 0 _ = own' ++ subS σ idx) ∧ tt c ((own ++ subS σ idx).set 0 _) H _
    rw [own1 ho]
    exact ⟨⟨[_], rfl, rfl⟩, hs i x ys H hi p c⟩) hd
end L2
end

section
set_option Elab.async false
set_option linter.all false
set_option maxRecDepth 100000
set_option maxHeartbeats 4000000
/-! ## texts, sorted, isinstance, ==, list(d), d.clear() over the layer -/
namespace L2
open PySem PySem.Spec PyProof.Rows

/-! ### x[lo:hi] of a text -/
def cutS (z : Str) (lo hi : Option Int) : Str := ⟨((z.cps.toList.drop (HT.sIx z.length 0 lo)).take (HT.sIx z.length z.length hi - HT.sIx z.length 0 lo)).toArray⟩
theorem small1000' {n : Nat} (h : n ≤ 1000) : n ≤ sizeLine := Nat.le_of_lt (Nat.lt_of_le_of_lt h (by decide))
section
variable {X : Cx}
def rSlS : V → Option Int → Option Int → Hp → VK → Prop := fun x lo hi H Q => ∃ z, x = .str z ∧ z.length ≤ sizeLine ∧ Q (.str (cutS z lo hi)) H
/-! ### xs[::-1] -/
theorem slicePick_rev (its : List Value) : slicePick its.toArray none none (some (-1)) = its.reverse.toArray := by
  unfold slicePick
  have h1 : (sliceBounds none none (some (-1)) its.toArray.size).1 = (its.length : Int) - 1 := by simp [sliceBounds]
  have h2 : (sliceBounds none none (some (-1)) its.toArray.size).2.1 = -1 := by simp [sliceBounds]
  have h3 : (sliceBounds none none (some (-1)) its.toArray.size).2.2 = -1 := by simp [sliceBounds]
  rw [h1, h2, h3]
  have e : sliceRange ((its.length : Int) - 1) (-1) (-1) = (List.range its.length).map fun k => its.length - 1 - k := by
    unfold sliceRange
    have hn : ¬ ((-1 : Int) > 0) := by decide
    rw [if_neg hn]
    have hc : (if (its.length : Int) - 1 > -1 then ((its.length : Int) - 1 - -1 - -1 - 1) / (- -1) else 0) = (its.length : Int) := by
      by_cases h0 : (its.length : Int) - 1 > -1
      · rw [if_pos h0]
        have : - (-1 : Int) = 1 := by decide
        rw [this, Int.ediv_one]; omega
      · rw [if_neg h0]; omega
    rw [hc]
    show (List.range (((its.length : Nat) : Int).toNat)).map _ = _
    rw [Int.toNat_natCast]
    refine List.map_congr_left fun k hk => ?_
    have := List.mem_range.mp hk
    omega
  rw [e]
  congr 1
  refine List.ext_getElem? fun i => ?_
  have : ((List.range its.length).map fun k => its.length - 1 - k).filterMap (its.toArray[·]?) = its.reverse := by
    rw [List.filterMap_map]
    have : ∀ k ∈ List.range its.length, ((fun x => its.toArray[x]?) ∘ fun k => its.length - 1 - k) k = some (its.reverse.getD k .none) := by
      intro k hk
      have hk' := List.mem_range.mp hk
      show its.toArray[its.length - 1 - k]? = _
      rw [List.getElem?_toArray, List.getD_eq_getElem?_getD, List.getElem?_reverse hk']
      rw [List.getElem?_eq_getElem (by omega)]; rfl
    have fm : ∀ (l : List Nat), (∀ k ∈ l, ((fun x => its.toArray[x]?) ∘ fun k => its.length - 1 - k) k = some (its.reverse.getD k .none)) → l.filterMap ((fun x => its.toArray[x]?) ∘ fun k => its.length - 1 - k) = l.map fun k => its.reverse.getD k .none := by
      intro l
      induction l with
      | nil => intro _; rfl
      | cons k r ih =>
        intro h
        rw [List.filterMap_cons, h k List.mem_cons_self, List.map_cons, ih fun j hj => h j (List.mem_cons_of_mem _ hj)]
    rw [fm _ this]
    refine List.ext_getElem? fun j => ?_
    rw [List.getElem?_map]
    by_cases hj : j < its.length
    · rw [List.getElem?_range hj]
      show some (its.reverse.getD j .none) = _
      rw [List.getD_eq_getElem?_getD, List.getElem?_eq_getElem (by simpa using hj)]; rfl
    · rw [List.getElem?_eq_none (by simpa using hj), List.getElem?_eq_none (by simpa using hj)]; rfl
  rw [this]
def tRev (K : PySem.W.Frag) (te ts : TE) : TE := fun σ H Q => te σ H fun x H1 => ts σ H1 fun y H2 => ∃ a xs, x = .ref a ∧ y = .int (-1) ∧ SqL K H2 a xs ∧ ∀ p, H2 p = none → Q (.ref p) (upd H2 p (.lst xs.reverse))
theorem pe_rev {e st : Expr} {te ts : TE} {pos p2 : Pos} (he : PE X e te) (hst : PE X st ts) : PE X (.Subscript e (.Slice none none (some st) p2) pos) (tRev X.K te ts) := by
  intro pins s σ H Q I h
  refine Subscript_ (thn (he pins s σ H _ I h) fun v s1 ⟨x, H1, I1, r1, q1⟩ => ?_)
  refine wpAny_Slice ?_
  rw [evalPart_none]
  refine wpAny_pure (wpAny_pure ?_)
  rw [evalPart_some]
  refine thn (hst pins s1 σ H1 _ I1 q1) fun w s2 ⟨y, H2, I2, r2, q2⟩ => ?_
  obtain ⟨a, xs, rfl, rfl, hx, q⟩ := q2
  cases r1
  obtain ⟨t, rfl⟩ := r2
  have I4 : Inv X pins σ H2 { s2 with heap := s2.heap.push { cls := .type "slice", data := .fields #[.none, .none, .int (-1) t] } } := I2.kept (t' := s2.toks) fun b ob q => Heap.get?_push_of_some _ q
  obtain ⟨its, r, ht, hz⟩ := I4.list hx
  have hlen := r.length
  show wpAny (model X.prog X.w) X.A (subscriptTail e (.Slice none none (some st) p2) (.ref a) (.ref s2.heap.objs.size)) (EP X pins σ Q) X.xe { s2 with heap := s2.heap.push { cls := .type "slice", data := .fields #[.none, .none, .int (-1) t] } }
  refine tail_any (ops := [.ref a, .ref s2.heap.objs.size]) ht.isList.typeIs slot_list_getitem.lookup ?_ (by with_unfolding_all rfl)
  refine wpAny_getItem_list_slice (s := { s2 with heap := s2.heap.push { cls := .type "slice", data := .fields #[.none, .none, .int (-1) t] } }) ht.isList (Heap.IsSliceOf.new ..) .none .none (.int (-1) t) (by decide) ?_ (by rw [List.size_toArray] <;> omega)
  rw [slicePick_rev]
  refine ⟨.ref _, _, I4.laid (t' := s2.toks) (o := .lst xs.reverse) (fun b ob q => Heap.get?_push_of_some _ q) (Nat.le_refl _) ?_, rfl, q _ (I4.hok.fresh (Nat.le_refl _))⟩
  exact ⟨by rw [List.length_reverse]; exact hz, _, 0, r.reverse, Heap.get?_push_size _ rfl⟩

/-! ### sep.join(list of texts) -/
/-! ### sorted(list of texts) -/
/-! ### isinstance(x, T), T a built-in type -/
theorem call_isi (c : Value) : CallR X (.builtin "isinstance") (fun vs H Q => ∃ x t b n, vs = [x, .ty n] ∧ TyOf X.K H x t ∧ PySem.W.kitOne X.K t (.type n) = some b ∧ Q (.bl b) H) := by
  intro pins s σ H vs us Q I rv h
  obtain ⟨x, t, b, n, rfl, ty, e, q⟩ := h
  obtain ⟨u, v, rfl, ru, rv'⟩ := rv.two
  obtain rfl : v = Value.type n := rv'
  exact isinst_ok I ru ty e fun tk => ⟨.bl b, H, I.tok _, rfl, q⟩

/-! ### == and != of lists of flat items -/
def eqVs (xs ys : List V) : Bool := xs.length == ys.length && (List.range xs.length).all fun j => eqV (xs.getD j .non) (ys.getD j .non)
/-! ### list(d), d.clear() -/
def rListD : List V → Hp → VK → Prop := fun vs H Q => ∃ a kvs, vs = [.ref a] ∧ H a = some (.dK kvs) ∧ ∀ p, H p = none → Q (.ref p) (upd H p (.lst (kvs.map fun kv => kV kv.1)))
theorem call_listD (hh : X.A.handled = none) : CallR X (.type "list") rListD := by
  intro pins s σ H vs us Q I rv h
  obtain ⟨a, kvs, rfl, hq, q⟩ := h
  obtain ⟨u, rfl, ru⟩ := vals1 rv
  cases ru
  obtain ⟨z, hd, ws, rel, dd⟩ := I.hok a _ hq
  obtain ⟨ep, hat⟩ := dd.dictAt
  have hlen : kvs.length = ws.length := KV.length rel
  refine PySem.W.kdl_call (PySem.W.kdl_dict (knd := mixKind X.prog X.w) (kvs := ws) (ep := ep) hd) hh hat (by rw [← hlen]; exact z) fun h' tk acc c hk hS hacc => ?_
  refine ⟨.ref s.heap.objs.size, _, I.laid (t' := tk) (o := .lst (kvs.map fun kv => kV kv.1)) hk (Nat.le_refl _) ?_, rfl, q _ I.fresh⟩
  refine ⟨by rw [List.length_map]; exact z, acc.toList, c, ?_, by rw [Array.toArray_toList]; exact hS⟩
  obtain ⟨hl, hv⟩ := hacc
  have go : ∀ (kvs : List (Key × V)) (ws : List (Key × Value)) (us : List Value), KV kvs ws → us.length = ws.length → (∀ (j : Nat) v, us[j]? = some v → ∃ k x, ws[j]? = some (k, x) ∧ (mixKind X.prog X.w).is k v = true) → Vals (kvs.map fun kv => kV kv.1) us := by
    intro kvs ws us rel
    induction rel generalizing us with
    | nil => intro hl _; cases us with
      | nil => exact .nil
      | cons _ _ => cases hl
    | @cons p q ps qs h t ih =>
      intro hl hv
      cases us with
      | nil => cases hl
      | cons u us =>
        refine .cons ?_ (ih us (by simpa using hl) fun j v e => by simpa using hv (j + 1) v (by simpa using e))
        obtain ⟨k, x, e1, e2⟩ := hv 0 u rfl
        have e1' : q = (k, x) := by simpa using e1
        show RelV (kV p.1) u
        rw [h.1, e1']
        rcases keyIs_shape e2 with ⟨i, t, rfl, rfl⟩ | ⟨y, t, rfl, rfl⟩
        · exact ⟨t, rfl⟩
        · exact ⟨t, rfl⟩
  exact go kvs ws acc.toList rel (by rw [Array.length_toList]; exact hl) fun j v e => hv j v (by rw [← Array.getElem?_toList]; exact e)

def rClearD : V → List V → Hp → VK → Prop := fun x vs H Q => ∃ a kvs, x = .ref a ∧ vs = [] ∧ H a = some (.dK kvs) ∧ Q .non (upd H a (.dK []))
theorem mt_clearD : MtR X "dict.clear" rClearD := by
  intro pins s σ H x vs v us Q I rx rv h
  obtain ⟨a, kvs, rfl, rfl, hq, q⟩ := h
  cases rx
  cases rv
  obtain ⟨z, hd, ws, rel, dd⟩ := dk_of I.hok hq
  refine call_meetsIn PySem.F.slot_dict_clear dd.typeIs PySem.F.entry_dict_clear (PySem.F.args_dict_clear_1 _) (PySem.meets_dict_clear (mixKind X.prog X.w) a) ⟨ws, dd, by rw [← KV.length rel]; exact z, fun h' dd' hs => ?_⟩
  have he : ∃ q, h'.get? a = some q := let ⟨q, _, _, hq, _⟩ := dd'; ⟨q, hq⟩
  exact ⟨.non, _, d_write I (by rw [hq]; exact True.intro) hs he (dk_new (Nat.zero_le _) hd .nil dd'), rfl, q⟩
end

/-! ### name = [.. for ..]: the store comes ahead of the block's end -/
section
variable {X : Cx} {elt target iter : Expr} {ifs : List Expr} {scope : Scope} {pos spos py : Pos} {xs : List Str} {idx : List Nat} {wi : TI} {g : CB → TG} {tt : CB → TT} {te : CB → TE}
theorem ps_setC {i : Nat} {y : Str} (hN : X.N.Nodup) (hi0 : X.N[i]? = some y) (hy : X.env.scope.names.lookup y = some .local) (hc : X.calm = true) (S : CScope X scope xs idx) (hi : PI X target iter wi)
    (hg : ∀ c, PG (cxC X scope (xs ++ subN X.N idx) c) target (g c)) (ht : ∀ c, PIfs (cxC X scope (xs ++ subN X.N idx) c) ifs (tt c)) (he : ∀ c, PE (cxC X scope (xs ++ subN X.N idx) c) elt (te c))
    (hsw : swapsWith (.ListComp elt [⟨target, iter, ifs, 0⟩] scope pos) (some (.Name y py)) spos.line X.env = pure true := by rfl)
    (hs : ∀ x, foldedSetIterable iter X.env x = pure x := by intro _; rfl) : PS X (.Assign [.Name y py] (.ListComp elt [⟨target, iter, ifs, 0⟩] scope pos) spos) (tAsg (tComp wi xs.length idx g tt te) (gName i)) := by
  intro pins s σ H D I h
  have hclos : closureFor scope X.env = pure (closL X.env scope.names []) := closureFor_closL fun y hy e => I.ok.has y.1 (S.free y hy e).2
  rw [exec_Assign_Name_used _ _ _ _ hsw]
  refine wpAny_bind (wpAny_standAt (wpAny_bind ?_))
  show wpAny _ X.A (do let _ ← comprehension (.ListComp elt [⟨target, iter, ifs, 0⟩] scope pos) scope X.env _ (newList []) false (eval iter X.env) (some (assign (.Name y py) X.env))) _ _ s
  refine wpAny_bind (wpAny_mono (wpAny_comprehension_free (use := some (assign (.Name y py) X.env)) (Q := fun _ s' => SP X pins D .next s') rfl hs hclos S.kind S.loc
    (thn (hi pins s σ H _ I h) fun xv s₁ h₁ => thn h₁ fun itv s₂ h₂ => ?_)) (fun _ s' hq => wpAny_pure (wpAny_pure hq)) fun _ _ e => e)
  obtain ⟨it, fp, tn, J, H2, e, I2, T, st2, f2, hW⟩ := h₂
  subst e
  refine comp_run (Q := fun v H' => gName i v σ H' D.nx) (RR := fun acc C => compPost (model X.prog X.w) X.A X.xe (some (assign (.Name y py) X.env)) (fun _ s' => SP X pins D .next s') acc C) hc S hg ht he I2 T st2 f2 hW ?_
  intro DD C σ' H' s' hC I' q
  show wpAny _ X.A (assign (.Name y py) X.env (.ref DD)) _ _ _
  obtain ⟨hh, gg, d, t, os⟩ := s'
  obtain rfl : os = s₂.os := I'.os
  have Cn : s₂.heap.get? C = none := Heap.get?_none_of_le hC
  have I3 : Inv X pins σ H' { s₂ with heap := hh, gens := gg, drawn := d, toks := t } := I2.call (s := s₂) (h' := hh) (g' := gg) (d' := d) (t' := t) (ch := fp) (I'.base.but Cn (Heap.SameBut.refl _ _)) I'.hok I'.bare (fun b hb => by
    obtain ⟨_, f1, _, f3, f4, f5⟩ := f2 b hb
    exact ⟨f3, f1, f4, f5⟩)
  obtain ⟨m', hn, _⟩ := I'.loc
  have hLC : X.env.locals ≠ C := Nat.ne_of_lt (Nat.lt_of_lt_of_le I2.lt hC)
  refine wpAny_assign_Name (store_ok2 I3 hN hi0 (.inl hy) (v := .ref DD) rfl (fun s'' I4 ⟨a, hs4, ha⟩ => ?_) (.inr hy))
  have haC : C ≠ a := by
    rcases ha with e | e
    · rw [e]; exact Ne.symm hLC
    · obtain ⟨v, q⟩ := I2.cell y a e
      exact Nat.ne_of_gt (Nat.lt_of_lt_of_le q.lt hC)
  refine ⟨m', hn.sameBut hs4 haC, fun h3 hs3 => ?_⟩
  obtain ⟨hh4, gg4, d4, t4, os4⟩ := s''
  have I5 : Inv X pins (σ.set i (some (.ref DD))) H' { heap := h3, gens := gg4, drawn := d4, toks := t4, os := os4 } :=
    I4.turned (s := { heap := hh4, gens := gg4, drawn := d4, toks := t4, os := os4 }) (h' := h3) (t' := t4) (it := C) (fun b o hb e => (hs3.2 b hb).trans e) I'.free (Ne.symm hLC) (.inr (Nat.le_trans I2.sz hC)) (fun x c e z => by
      obtain ⟨v, q⟩ := I2.cell x c e
      exact absurd (Nat.lt_of_lt_of_le q.lt hC) (by rw [z]; exact Nat.lt_irrefl _)) (fun p hp z => by
      have := (I2.pin p hp).1
      rw [z, Cn] at this; cases this)
  exact ⟨_, H', I5, q⟩
end
end L2
end

section
set_option Elab.async false
set_option linter.all false
set_option maxRecDepth 100000
set_option maxHeartbeats 4000000
/-! ## the rules in the form that a reading by simp takes: an object by its equation -/
namespace L2
open PySem PySem.Spec PyProof.Rows

def csOk (osc : Scope) (N : List Str) (scope : Scope) (idx : List Nat) : Bool :=
  scope.kind == .function && scope.names.all (fun y => y.2 != .cell) && scope.names.all (fun y => y.2 != .local || scope.names.lookup y.1 == some .local) &&
  scope.names.all (fun y => y.2 != .free || (scope.names.lookup y.1 == some .free && (osc.names.lookup y.1 == some .cell || osc.names.lookup y.1 == some .free))) &&
  idx.all (fun i => match N[i]? with | some y => scope.names.lookup y == some .free | none => false)
theorem cscope_of {X : Cx} {scope : Scope} {xs : List Str} {idx : List Nat} {osc : Scope} {N : List Str} (h : csOk osc N scope idx = true) (e1 : X.env.scope = osc := by rfl) (e2 : X.N = N := by rfl) : CScope X scope xs idx := by
  unfold csOk at h
  simp only [Bool.and_eq_true] at h
  obtain ⟨⟨⟨⟨h1, h2⟩, h3⟩, h4⟩, h5⟩ := h
  refine ⟨by simpa using h1, fun y hy e => ?_, fun y hy e => ?_, fun y hy e => ?_, fun i hi => ?_⟩
  · have := List.all_eq_true.mp h2 y hy
    rw [e] at this; exact absurd this (by decide)
  · have := List.all_eq_true.mp h3 y hy
    rw [e] at this; simpa using this
  · have := List.all_eq_true.mp h4 y hy
    rw [e] at this
    have t : (scope.names.lookup y.1 == some NameKind.free && (osc.names.lookup y.1 == some .cell || osc.names.lookup y.1 == some .free)) = true := by simpa using this
    rw [Bool.and_eq_true, Bool.or_eq_true] at t
    refine ⟨by simpa using t.1, ?_⟩
    show X.env.scope.names.lookup y.1 = _ ∨ X.env.scope.names.lookup y.1 = _
    rw [e1]
    exact t.2.imp (by simp) (by simp)
  · have := List.all_eq_true.mp h5 i hi
    rw [e2]
    cases e : N[i]? with
    | none => rw [e] at this; cases this
    | some y => rw [e] at this; exact ⟨y, rfl, by simpa using this⟩

theorem atI_0 {α : Type} (a : α) (xs : List α) : atI (a :: xs) 0 = some a := atI_nat (j := 0) rfl
theorem atI_1 {α : Type} (a b : α) (xs : List α) : atI (a :: b :: xs) 1 = some b := atI_nat (j := 1) rfl
theorem atI_2 {α : Type} (a b c : α) (xs : List α) : atI (a :: b :: c :: xs) 2 = some c := atI_nat (j := 2) rfl
theorem atI_3 {α : Type} (a b c d : α) (xs : List α) : atI (a :: b :: c :: d :: xs) 3 = some d := atI_nat (j := 3) rfl
theorem atI_4 {α : Type} (a b c d e : α) (xs : List α) : atI (a :: b :: c :: d :: e :: xs) 4 = some e := atI_nat (j := 4) rfl
theorem atI_5 {α : Type} (a b c d e f : α) (xs : List α) : atI (a :: b :: c :: d :: e :: f :: xs) 5 = some f := atI_nat (j := 5) rfl
theorem ixN6_1 : ixN 6 1 = some 1 := rfl
theorem ixN6_2 : ixN 6 2 = some 2 := rfl
theorem ixN6_3 : ixN 6 3 = some 3 := rfl
theorem ixN6_4 : ixN 6 4 = some 4 := rfl
theorem ixN6_5 : ixN 6 5 = some 5 := rfl
theorem cmulR (i : Int) : CMul i 48271 ∧ CMul i 40693 ∧ CMul i 3 ∧ CMul i 4294967296 := ⟨.inr ⟨by decide, by decide⟩, .inr ⟨by decide, by decide⟩, .inr ⟨by decide, by decide⟩, .inr ⟨by decide, by decide⟩⟩
theorem cmul1 (i : Int) : CMul i 48271 := (cmulR i).1
theorem cmul2 (i : Int) : CMul i 40693 := (cmulR i).2.1
theorem cmul3 (i : Int) : CMul i 3 := (cmulR i).2.2.1
theorem cmul4 (i : Int) : CMul i 4294967296 := (cmulR i).2.2.2
theorem cmul5 (i : Int) : CMul 5 i ∧ CMul 3 i ∧ CMul 7 i ∧ CMul 10 i := ⟨.inl ⟨by decide, by decide⟩, .inl ⟨by decide, by decide⟩, .inl ⟨by decide, by decide⟩, .inl ⟨by decide, by decide⟩⟩
theorem cmul5a (i : Int) : CMul 5 i := (cmul5 i).1
theorem cmul5b (i : Int) : CMul 3 i := (cmul5 i).2.1
theorem cmul5c (i : Int) : CMul 7 i := (cmul5 i).2.2.1
theorem cmul5d (i : Int) : CMul 10 i := (cmul5 i).2.2.2
theorem cpow18 : CPow 10 18 := ⟨by decide, by decide, by decide⟩
/-- a block cut behind its first statement: N is what holds there -/
def tCut (t u : TS) : TS := fun D σ H => ∃ N : St → Hp → Prop, t { D with nx := N } σ H ∧ ∀ σ' H', N σ' H' → u D σ' H'
theorem pss_cut {X : Cx} {st : Stmt} {rest : List Stmt} {t u : TS} (h1 : PS X st t) (h2 : PSs X rest u) : PSs X (st :: rest) (tCut t u) := by
  intro pins s σ H D I ⟨N, hn, hu⟩
  refine wpAny_execs_cons (thn (h1 pins s σ H { D with nx := N } I hn) fun f s1 q => ?_)
  cases f with
  | next =>
    obtain ⟨σ', H', I', q⟩ := q
    exact h2 pins s1 σ' H' D I' (hu σ' H' q)
  | ret v => exact q
  | brk => exact q
  | cont => exact q
theorem atI_ints {ns : List Int} {k : Int} (h0 : 0 ≤ k) (h : k < (ns.length : Int)) : ∃ v : Int, atI (ns.map V.int) k = some (.int v) := by
  have hk : k.toNat < ns.length := by omega
  have ek : k = ((k.toNat : Nat) : Int) := by omega
  have q : atI (ns.map V.int) ((k.toNat : Nat) : Int) = some (.int ns[k.toNat]) := atI_nat (by rw [List.getElem?_map, List.getElem?_eq_getElem hk] <;> rfl)
  rw [← ek] at q
  exact ⟨_, q⟩
section
variable {X : Cx}
theorem OpR.imp {f : Value → Value → Sem Value} {r r' : R2} (h : OpR X f r) (i : ∀ x y H Q, r' x y H Q → r x y H Q) : OpR X f r' := fun pins s σ H x y v u Q I rx ry q => h pins s σ H x y v u Q I rx ry (i _ _ _ _ q)
theorem IxR.imp {r r' : R2} (h : IxR X r) (i : ∀ x y H Q, r' x y H Q → r x y H Q) : IxR X r' := fun value slice pins s σ H x y v u Q I rx ry q hs => h value slice pins s σ H x y v u Q I rx ry (i _ _ _ _ q) hs
theorem CallR.imp {f : Value} {r r' : List V → Hp → VK → Prop} (h : CallR X f r) (i : ∀ x H Q, r' x H Q → r x H Q) : CallR X f r' := fun pins s σ H vs us Q I rv q => h pins s σ H vs us Q I rv (i _ _ _ q)
theorem MtR.imp {id : String} {r r' : V → List V → Hp → VK → Prop} (h : MtR X id r) (i : ∀ x xs H Q, r' x xs H Q → r x xs H Q) : MtR X id r' := fun pins s σ H x xs v us Q I rx rv q => h pins s σ H x xs v us Q I rx rv (i _ _ _ _ q)
theorem SlR.imp {r r' : V → Option Int → Option Int → Hp → VK → Prop} (h : SlR X r) (i : ∀ x lo hi H Q, r' x lo hi H Q → r x lo hi H Q) : SlR X r' := fun pins s σ H x v vl vu lo hi sl Q I rx hs pl pu q => h pins s σ H x v vl vu lo hi sl Q I rx hs pl pu (i _ _ _ _ _ q)
theorem sqL_of {K : PySem.W.Frag} {H : Hp} {a : Addr} {xs : List V} (h : H a = some (.lst xs)) : SqL K H a xs := SqL.of h
theorem sqT_of {K : PySem.W.Frag} {H : Hp} {a : Addr} {xs : List V} (h : H a = some (.tup xs)) : SqT K H a xs := SqT.of h

/-- xs[i] of a tracked list, tuple -/
def qIxL : R2 := fun x y H Q => ∃ p i, x = .ref p ∧ y = .int i ∧ ∃ xs, H p = some (.lst xs) ∧ ∃ v, atI xs i = some v ∧ Q v H
theorem ix_l : IxR X qIxL := ix_list.imp fun x y H Q ⟨p, i, e1, e2, xs, h, v, e3, q⟩ => ⟨p, xs, i, v, e1, e2, sqL_of h, e3, q⟩
def qIxT : R2 := fun x y H Q => ∃ p i, x = .ref p ∧ y = .int i ∧ ∃ xs, H p = some (.tup xs) ∧ ∃ v, atI xs i = some v ∧ Q v H
theorem ix_t : IxR X qIxT := ix_tup.imp fun x y H Q ⟨p, i, e1, e2, xs, h, v, e3, q⟩ => ⟨p, xs, i, v, e1, e2, sqT_of h, e3, q⟩
def qIxS : R2 := fun x y H Q => ∃ z i, x = .str z ∧ y = .int i ∧ z.length ≤ sizeLine ∧ ∃ c, atI z.cps.toList i = some c ∧ Q (.str ⟨#[c]⟩) H
/-- xs[lo:hi] -/
def qSlL : V → Option Int → Option Int → Hp → VK → Prop := fun x lo hi H Q => ∃ a, x = .ref a ∧ ∃ xs, H a = some (.lst xs) ∧ ∀ p, H p = none → Q (.ref p) (upd H p (.lst (cutV xs lo hi)))
def qSlT : V → Option Int → Option Int → Hp → VK → Prop := fun x lo hi H Q => ∃ a, x = .ref a ∧ ∃ xs, H a = some (.tup xs) ∧ ¬ (HT.sIx xs.length 0 lo = 0 ∧ HT.sIx xs.length xs.length hi = xs.length) ∧ ∀ p, H p = none → Q (.ref p) (upd H p (.tup (cutV xs lo hi)))
/-- len -/
def qLenL : List V → Hp → VK → Prop := fun vs H Q => ∃ p, vs = [.ref p] ∧ ∃ xs, H p = some (.lst xs) ∧ Q (.int xs.length) H
theorem call_lenL : CallR X (.builtin "len") qLenL := call_len_seq.imp fun x H Q ⟨p, e, xs, h, q⟩ => ⟨p, xs, e, .inl (sqL_of h), q⟩
def qLenT : List V → Hp → VK → Prop := fun vs H Q => ∃ p, vs = [.ref p] ∧ ∃ xs, H p = some (.tup xs) ∧ Q (.int xs.length) H
theorem call_lenT : CallR X (.builtin "len") qLenT := call_len_seq.imp fun x H Q ⟨p, e, xs, h, q⟩ => ⟨p, xs, e, .inr (sqT_of h), q⟩
/-- list(xs) -/
def qListL : List V → Hp → VK → Prop := fun vs H Q => ∃ p, vs = [.ref p] ∧ ∃ xs, H p = some (.lst xs) ∧ ∀ l, H l = none → Q (.ref l) (upd H l (.lst xs))
theorem call_listL : CallR X (.type "list") qListL := call_list_of.imp fun x H Q ⟨p, e, xs, h, q⟩ => ⟨p, xs, e, .inl (sqL_of h), q⟩
def qListT : List V → Hp → VK → Prop := fun vs H Q => ∃ p, vs = [.ref p] ∧ ∃ xs, H p = some (.tup xs) ∧ ∀ l, H l = none → Q (.ref l) (upd H l (.lst xs))
def qTupleL : List V → Hp → VK → Prop := fun vs H Q => ∃ p, vs = [.ref p] ∧ ∃ xs, H p = some (.lst xs) ∧ ∀ l, H l = none → Q (.ref l) (upd H l (.tup xs))
theorem call_tupleL : CallR X (.type "tuple") qTupleL := call_tuple_of.imp fun x H Q ⟨p, e, xs, h, q⟩ => ⟨p, xs, e, .inl ⟨sqL_of h, q⟩⟩
def qListD : List V → Hp → VK → Prop := fun vs H Q => ∃ a, vs = [.ref a] ∧ ∃ kvs, H a = some (.dK kvs) ∧ ∀ p, H p = none → Q (.ref p) (upd H p (.lst (kvs.map fun kv => kV kv.1)))
theorem call_listDK (hh : X.A.handled = none) : CallR X (.type "list") qListD := (call_listD hh).imp fun x H Q ⟨p, e, xs, h, q⟩ => ⟨p, xs, e, h, q⟩
def qDictD : List V → Hp → VK → Prop := fun vs H Q => ∃ a, vs = [.ref a] ∧ ∃ kvs, H a = some (.dK kvs) ∧ ∀ p, H p = none → Q (.ref p) (upd H p (.dK kvs))
/-- sorted(texts), join -/
def qSorted : List V → Hp → VK → Prop := fun vs H Q => ∃ a, vs = [.ref a] ∧ ∃ ss : List Str, H a = some (.lst (ss.map V.str)) ∧ ss.length < 64 ∧
  ∀ ss' : List Str, ss'.Perm ss → sortedS ss' = true → ∀ p, H p = none → Q (.ref p) (upd H p (.lst (ss'.map V.str)))
def qJoin : V → List V → Hp → VK → Prop := fun x vs H Q => ∃ sep a, x = .str sep ∧ vs = [.ref a] ∧ ∃ ss : List Str, H a = some (.lst (ss.map V.str)) ∧ JoinOk sep ss = true ∧ Q (.str (Txt.join sep ss)) H
/-- in, not in a list or tuple of flat items -/
def qInL (neg : Bool) : R2 := fun x y H Q => ∃ p, y = .ref p ∧ ∃ xs, H p = some (.lst xs) ∧ flatV x = true ∧ xs.all flatV = true ∧ Q (.bl (if neg then !inV x xs else inV x xs)) H
def qInT (neg : Bool) : R2 := fun x y H Q => ∃ p, y = .ref p ∧ ∃ xs, H p = some (.tup xs) ∧ flatV x = true ∧ xs.all flatV = true ∧ Q (.bl (if neg then !inV x xs else inV x xs)) H
theorem op_inT : OpR X (compareOp .In) (qInT false) := op_in_seq.imp fun x y H Q ⟨p, e, xs, h, f1, f2, q⟩ => ⟨p, xs, e, .inr (sqT_of h), f1, f2, q⟩
def qEqL (neg : Bool) : R2 := fun x y H Q => ∃ a b, x = .ref a ∧ y = .ref b ∧ ∃ xs, H a = some (.lst xs) ∧ ∃ ys, H b = some (.lst ys) ∧ xs.all flatV = true ∧ ys.all flatV = true ∧ Q (.bl (if neg then !eqVs xs ys else eqVs xs ys)) H
/-- isinstance -/
def qIsi (K : PySem.W.Frag) : List V → Hp → VK → Prop := fun vs H Q => ∃ x n, vs = [x, .ty n] ∧ ∃ t, TyOf K H x t ∧ ∃ b, PySem.W.kitOne K t (.type n) = some b ∧ Q (.bl b) H
theorem call_isiT : CallR X (.builtin "isinstance") (qIsi X.K) := (call_isi .none).imp fun x H Q ⟨y, n, e, t, ty, b, h, q⟩ => ⟨y, t, b, n, e, ty, h, q⟩
def qSet : V → V → V → Hp → (Hp → Prop) → Prop := fun o i v H Q => ∃ p k, o = .ref p ∧ i = .int k ∧ ∃ xs, H p = some (.lst xs) ∧ ∃ j, ixN xs.length k = some j ∧ Q (upd H p (.lst (xs.set j v)))
theorem set_l : PSet X qSet := fun pins s σ H o i v ov iv u Q I ro ri rv ⟨p, k, e1, e2, xs, h, j, hj, q⟩ => set_list pins s σ H o i v ov iv u Q I ro ri rv ⟨p, xs, k, j, e1, e2, h, hj, q⟩
/-- xs[i] op= v -/
theorem get_l : PGet X (fun o i H Q => qIxL o i H Q) := by
  intro pins s σ H o i ov iv Q I ro ri h
  obtain ⟨p, i, rfl, rfl, xs, hp, z, he, q⟩ := h
  cases ro
  obtain ⟨t, rfl⟩ := ri
  obtain ⟨its, r, pl, hz⟩ := I.list (sqL_of hp)
  obtain ⟨j, h1, h2, h3, h4, h5⟩ := atI_get he
  obtain ⟨w, ew, rw'⟩ := r.get h2
  have hl := r.length
  have hn := line63
  have fin : EP X pins σ Q w s := ⟨z, H, I, rw', q⟩
  by_cases h0 : 0 ≤ i
  · have hj : i.toNat = j := by
      rw [seqIndex_of h0 h5] at h1
      exact Option.some.inj h1
    exact wpAny_getItem_list pl.isList h0 (by omega) (by rw [hj]; simpa using ew) fin
  · have hj : (i + (its.toArray.size : Int)).toNat = j := by
      rw [seqIndex_neg (by omega) h4] at h1
      rw [List.size_toArray, ← hl]
      exact Option.some.inj h1
    exact wpAny_getItem_list_neg pl.isList (by omega) (by rw [List.size_toArray] <;> omega) (by omega) (by rw [hj]; simpa using ew) fin
end
end L2
namespace L2
open PySem PySem.Spec PyProof.Rows
/-- lists of a known length -/
theorem of1 {α : Type} {C : List α → Prop} (h : ∀ a, C [a]) : ∀ us : List α, us.length = 1 → C us
  | [a], _ => h a
theorem of2 {α : Type} {C : List α → Prop} (h : ∀ a b, C [a, b]) : ∀ us : List α, us.length = 2 → C us
  | [a, b], _ => h a b
theorem of3 {α : Type} {C : List α → Prop} (h : ∀ a b c, C [a, b, c]) : ∀ us : List α, us.length = 3 → C us
  | [a, b, c], _ => h a b c
end L2
end

section
set_option Elab.async false
set_option linter.all false
set_option maxRecDepth 100000
set_option maxHeartbeats 4000000
/-! ## names by closed looks: a look at a scope is decided by the kernel -/
namespace L2
open PySem PySem.Spec PyProof.Rows
structure HC (X : Cx) (N : List Str) (sc : Scope) : Prop where
  n : X.N = N
  s : X.env.scope = sc
def okV (N : List Str) (sc : Scope) (i : Nat) (x : Str) : Bool :=
  N[i]? == some x && (sc.names.lookup x == some .local || sc.names.lookup x == some .cell || sc.names.lookup x == some .free) && !(x == ("__debug__" : Str)) && !(x == ("__classdict__" : Str))
def okL (N : List Str) (sc : Scope) (i : Nat) (x : Str) : Bool := N[i]? == some x && (sc.names.lookup x == some .local || sc.names.lookup x == some .cell)
def okL1 (N : List Str) (sc : Scope) (i : Nat) (x : Str) : Bool := N[i]? == some x && sc.names.lookup x == some .local
def okG (sc : Scope) (x : Str) : Bool := sc.names.lookup x == some .globalImplicit
section
variable {X : Cx} {N : List Str} {sc : Scope} {x : Str} {pos : Pos}
theorem pvk (hc : HC X N sc) (i : Nat) (h : okV N sc i x = true) : PE X (.Name x pos) (tVar i) := by
  unfold okV at h
  simp only [Bool.and_eq_true, Bool.or_eq_true, beq_iff_eq, Bool.not_eq_true'] at h
  obtain ⟨⟨⟨h1, h2⟩, h3⟩, h4⟩ := h
  refine pe_var (by rw [hc.n]; exact h1) ?_ h3 h4
  unfold Vis
  rw [hc.s]
  rcases h2 with (h2 | h2) | h2
  · exact .inl h2
  · exact .inr (.inl h2)
  · exact .inr (.inr h2)
theorem glk (hc : HC X N sc) (h : okG sc x = true) : Gl X x := by
  show X.env.scope.names.lookup x = some .globalImplicit
  rw [hc.s]; simpa [okG] using h
theorem okL_loc (hc : HC X N sc) {i : Nat} (h : okL N sc i x = true) : X.N[i]? = some x ∧ Loc X.env.scope x := by
  unfold okL at h
  simp only [Bool.and_eq_true, Bool.or_eq_true, beq_iff_eq] at h
  refine ⟨by rw [hc.n]; exact h.1, ?_⟩
  unfold Loc; rw [hc.s]; exact h.2
theorem okL1_loc (hc : HC X N sc) {i : Nat} (h : okL1 N sc i x = true) : X.N[i]? = some x ∧ X.env.scope.names.lookup x = some .local := by
  unfold okL1 at h
  simp only [Bool.and_eq_true, beq_iff_eq] at h
  exact ⟨by rw [hc.n]; exact h.1, by rw [hc.s]; exact h.2⟩
/-- in a def's body: every cell is its own -/
theorem pgk (hc : HC X N sc) (nd : N.Nodup) (hf : ∀ x, X.fn x = true) (i : Nat) (h : okL N sc i x = true) : PG X (.Name x pos) (gName i) :=
  pg_name (by rw [hc.n]; exact nd) (okL_loc hc h).1 (okL_loc hc h).2 (.inl (hf x))
/-- in a block: its own names are local -/
theorem pgb (hc : HC X N sc) (nd : N.Nodup) (i : Nat) (h : okL1 N sc i x = true) : PG X (.Name x pos) (gName i) :=
  pg_name (by rw [hc.n]; exact nd) (okL1_loc hc h).1 (.inl (okL1_loc hc h).2) (.inr (okL1_loc hc h).2)
theorem psk_set {e : Expr} {te : TE} {pos' : Pos} (hc : HC X N sc) (nd : N.Nodup) (hf : ∀ x, X.fn x = true) (i : Nat) (h : okL N sc i x = true) (he : PE X e te) (hs : swapsWith e (some (.Name x pos')) pos.line X.env = pure false := by rfl) :
    PS X (.Assign [.Name x pos'] e pos) (tAsg te (gName i)) :=
  ps_set (by rw [hc.n]; exact nd) (okL_loc hc h).1 (okL_loc hc h).2 he hs (.inl (hf x))
theorem psk_aug {e : Expr} {te : TE} {op : Operator} {ti : TIp} {pos' : Pos} (hc : HC X N sc) (nd : N.Nodup) (hf : ∀ x, X.fn x = true) (i : Nat) (h : okL N sc i x = true) (he : PE X e te) (ho : PIp X op ti) : PS X (.AugAssign (.Name x pos') op e pos) (tAug i te ti) :=
  ps_aug (by rw [hc.n]; exact nd) (okL_loc hc h).1 (okL_loc hc h).2 he ho (.inl (hf x))
end
/-- the scope of a block, its free names of the def's own cells named so -/
def relabelS (scope osc : Scope) : Scope :=
  { scope with names := scope.names.map fun (n, k) => if (k == .free && osc.kind == .function && osc.names.lookup n == some .cell) then (n, .cell) else (n, k) }
theorem relabelS_eq {scope osc : Scope} {env : Env} (h : env.scope = osc) : relabel scope env = relabelS scope osc := by
  subst h; rfl
theorem hc_block {X : Cx} {N : List Str} {osc scope : Scope} {xs : List Str} {idx : List Nat} (hc : HC X N osc) (c : CB) : HC (cxC X scope (xs ++ subN X.N idx) c) (xs ++ subN N idx) (relabelS scope osc) :=
  ⟨by show xs ++ subN X.N idx = _; rw [hc.n], relabelS_eq hc.s⟩
section
variable {X : Cx} {N : List Str} {osc : Scope} {elt target iter : Expr} {ifs : List Expr} {scope : Scope} {pos spos py : Pos} {xs : List Str} {idx : List Nat} {wi : TI} {g : CB → TG} {tt : CB → TT} {te : CB → TE}
theorem pek_comp (hc : HC X N osc) (xs : List Str) (idx : List Nat) (hcalm : X.calm = true) (S : csOk osc N scope idx = true) (hi : PI X target iter wi)
    (hg : ∀ c, HC (cxC X scope (xs ++ subN X.N idx) c) (xs ++ subN N idx) (relabelS scope osc) → PG (cxC X scope (xs ++ subN X.N idx) c) target (g c))
    (ht : ∀ c, HC (cxC X scope (xs ++ subN X.N idx) c) (xs ++ subN N idx) (relabelS scope osc) → PIfs (cxC X scope (xs ++ subN X.N idx) c) ifs (tt c))
    (he : ∀ c, HC (cxC X scope (xs ++ subN X.N idx) c) (xs ++ subN N idx) (relabelS scope osc) → PE (cxC X scope (xs ++ subN X.N idx) c) elt (te c))
    (hs : ∀ x, foldedSetIterable iter X.env x = pure x := by intro _; rfl) : PE X (.ListComp elt [⟨target, iter, ifs, 0⟩] scope pos) (tComp wi xs.length idx g tt te) :=
  pe_comp hcalm (cscope_of S hc.s hc.n) hi (fun c => hg c (hc_block hc c)) (fun c => ht c (hc_block hc c)) (fun c => he c (hc_block hc c)) hs
theorem psk_comp {y : Str} (hc : HC X N osc) (nd : N.Nodup) (i : Nat) (h : okL1 N osc i y = true) (xs : List Str) (idx : List Nat) (hcalm : X.calm = true) (S : csOk osc N scope idx = true) (hi : PI X target iter wi)
    (hg : ∀ c, HC (cxC X scope (xs ++ subN X.N idx) c) (xs ++ subN N idx) (relabelS scope osc) → PG (cxC X scope (xs ++ subN X.N idx) c) target (g c))
    (ht : ∀ c, HC (cxC X scope (xs ++ subN X.N idx) c) (xs ++ subN N idx) (relabelS scope osc) → PIfs (cxC X scope (xs ++ subN X.N idx) c) ifs (tt c))
    (he : ∀ c, HC (cxC X scope (xs ++ subN X.N idx) c) (xs ++ subN N idx) (relabelS scope osc) → PE (cxC X scope (xs ++ subN X.N idx) c) elt (te c))
    (hsw : swapsWith (.ListComp elt [⟨target, iter, ifs, 0⟩] scope pos) (some (.Name y py)) spos.line X.env = pure true)
    (hs : ∀ x, foldedSetIterable iter X.env x = pure x := by intro _; rfl) : PS X (.Assign [.Name y py] (.ListComp elt [⟨target, iter, ifs, 0⟩] scope pos) spos) (tAsg (tComp wi xs.length idx g tt te) (gName i)) :=
  ps_setC (by rw [hc.n]; exact nd) (okL1_loc hc h).1 (okL1_loc hc h).2 hcalm (cscope_of S hc.s hc.n) hi (fun c => hg c (hc_block hc c)) (fun c => ht c (hc_block hc c)) (fun c => he c (hc_block hc c)) hsw hs
end
end L2
namespace L2
open PySem PySem.Spec PyProof.Rows
/-- a block's judgement, kept shut -/
@[irreducible] def QSs (X : Cx) (st : List Stmt) (t : TS) : Prop := PSs X st t
theorem QSs.to {X : Cx} {st : List Stmt} {t : TS} (h : QSs X st t) : PSs X st t := by unfold QSs at h; exact h
theorem QSs.of {X : Cx} {st : List Stmt} {t : TS} (h : PSs X st t) : QSs X st t := by unfold QSs; exact h
section
variable {X : Cx} {st : Stmt} {rest : List Stmt} {t u : TS} {pos : Pos}
theorem qss_nil : QSs X [] tNext := .of pss_nil
theorem qss_one (h1 : PS X st t) : QSs X [st] t := .of (pss_one h1)
theorem qss_cons (h1 : PS X st t) (h2 : QSs X rest u) : QSs X (st :: rest) (tSeq t u) := .of (pss_cons h1 h2.to)
theorem qss_cut (h1 : PS X st t) (h2 : QSs X rest u) : QSs X (st :: rest) (tCut t u) := .of (pss_cut h1 h2.to)
theorem qs_if {c : Expr} {a b : List Stmt} {tc : TT} (hc : PT X c tc) (ha : QSs X a t) (hb : QSs X b u) : PS X (.If c a b pos) (tIfS tc t u) := ps_if hc ha.to hb.to
theorem qs_while {c : Expr} {body : List Stmt} {tc : TT} {tb : TS} (hp : PassesOwn (model X.prog X.w) X.A X.env X.xe) (hc : PT X c tc) (hb : QSs X body tb) : PS X (.While c body [] pos) (tWhile tc tb) := ps_while hp hc hb.to
theorem qs_for {tg iter : Expr} {body : List Stmt} {wi : TI} {g : TG} {tb : TS} (hp : PassesOwn (model X.prog X.w) X.A X.env X.xe) (hc : X.calm = true) (hi : PI X tg iter wi) (hg : PG X tg g) (hb : QSs X body tb)
    (hs : ∀ x, foldedSetIterable iter X.env x = pure x := by intro _; rfl) : PS X (.For tg iter body [] pos) (tFor wi g tb) := ps_for hp hc hi hg hb.to hs
end
theorem Fun.okK {P : Program} {w : World} {K : PySem.W.Frag} {mg : Str → Option Value} {base : Heap} {x qual : Str} {st : Stmt} {f : Addr} {fd : FuncData} {N ps : List Str} {k : Nat} {sp : Sp} (F : Fun K x qual st f fd) (S : FnScope N ps (defScope st)) (len : ∀ vs H Q E, sp vs H Q E → vs.length = ps.length)
    (hbody : ∀ (cdv : Value) (A : Around) (outer : List Env) (s : Shared) (H : Hp) (vs : List V) (Q : VK) (E : XK), Room k (A.deeper (envOfC qual (defScope st) s.heap.objs.size f cdv)) → sp vs H Q E →
      HC (cxOf CX0 P w K mg base N qual (defScope st) f cdv A outer s H E).nox N (defScope st) → (∀ x, (cxOf CX0 P w K mg base N qual (defScope st) f cdv A outer s H E).nox.fn x = true) →
      ∃ t, QSs (cxOf CX0 P w K mg base N qual (defScope st) f cdv A outer s H E).nox (defBody st) t ∧ t { nx := fun _ H' => Q .non H', rt := Q } (start N vs) H) : FnOk P w K mg base CX0 (k + 1) f fd ps sp :=
  F.ok S len fun cdv A outer s H vs Q E hr h => let ⟨t, h1, h2⟩ := hbody cdv A outer s H vs Q E hr h ⟨rfl, rfl⟩ fun _ => rfl; ⟨t, h1.to, h2⟩
end L2
namespace L2
open PySem PySem.Spec PyProof.Rows
/-! ### loops and blocks by their own words, so that a reading halts ahead of them -/
def ForAll (J : It) (g : TG) (tb : TS) (D : Ends) (σ : St) (H : Hp) : Prop := ∃ W : Nat → Nat → St → Hp → Prop, (∃ m, W 0 m σ H) ∧ ∀ i m σ H, W i m σ H →
  (J.stop i H ∧ D.nx σ H) ∨ (J.go i H ∧ ∃ N : St → Hp → Prop, (∀ σ' H', N σ' H' → ∃ m', m' < m ∧ W (i + 1) m' σ' H') ∧ ∀ x H', J.yld i H x H' → g x σ H' fun σ2 H2 => tb { D with nx := N, ct := N, bk := D.nx } σ2 H2)
theorem tFor_eq {wi : TI} {g : TG} {tb : TS} {D : Ends} {σ : St} {H : Hp} : tFor wi g tb D σ H = wi σ H (fun J H1 => ForAll J g tb D σ H1) := rfl
def CompAll (J : It) (k : Nat) (idx : List Nat) (g : CB → TG) (tt : CB → TT) (te : CB → TE) (σ : St) (Q : VK) (H1 : Hp) : Prop := ∀ D, H1 D = none → ∃ W : Nat → Nat → List V → Hp → Prop, (∃ m, W 0 m [] (upd H1 D (.lst []))) ∧
  ∀ i m ys H', W i m ys H' → (J.stop i H' ∧ Q (.ref D) H') ∨ (J.go i H' ∧ ∃ N : List V → Hp → Prop, (∀ ys' H'', N ys' H'' → ∃ m', m' < m ∧ W (i + 1) m' ys' H'') ∧ ∀ (c : CB) (own : St), own.length = k → ∀ x H2, J.yld i H' x H2 → g c x (own ++ subS σ idx) H2 fun σ3 H3 =>
    (∃ own', own'.length = k ∧ σ3 = own' ++ subS σ idx) ∧ tt c σ3 H3 fun b H4 => if b = true then te c σ3 H4 fun y H5 => H5 D = some (.lst ys) ∧ ys.length < sizeLine ∧ N (ys ++ [y]) (upd H5 D (.lst (ys ++ [y]))) else N ys H4)
theorem tComp_eq {wi : TI} {k : Nat} {idx : List Nat} {g : CB → TG} {tt : CB → TT} {te : CB → TE} {σ : St} {H : Hp} {Q : VK} : tComp wi k idx g tt te σ H Q = wi σ H (fun J H1 => CompAll J k idx g tt te σ Q H1) := rfl
theorem forAll_rng {lo : Int} {n : Nat} {g : TG} {tb : TS} {D : Ends} {σ : St} {H : Hp} (Pv : Nat → St → Hp → Prop) (h0 : Pv 0 σ H)
    (hs : ∀ i σ H, i < n → Pv i σ H → g (.int (lo + i)) σ H fun σ2 H2 => tb { D with nx := Pv (i + 1), ct := Pv (i + 1), bk := D.nx } σ2 H2) (hd : ∀ σ H, Pv n σ H → D.nx σ H) : ForAll (Itr lo n) g tb D σ H := for_range Pv h0 hs hd
theorem forAll_list {K : PySem.W.Frag} {a : Addr} {xs : List V} {g : TG} {tb : TS} {D : Ends} {σ : St} {H : Hp} (Pv : Nat → St → Hp → Prop) (h0 : Pv 0 σ H) (hl : ∀ i σ H, i ≤ xs.length → Pv i σ H → H a = some (.lst xs))
    (hs : ∀ i x σ H, xs[i]? = some x → Pv i σ H → g x σ H fun σ2 H2 => tb { D with nx := Pv (i + 1), ct := Pv (i + 1), bk := D.nx } σ2 H2) (hd : ∀ σ H, Pv xs.length σ H → D.nx σ H) : ForAll (Itl K a) g tb D σ H :=
  for_list Pv h0 (fun i σ H hi p => sqL_of (hl i σ H hi p)) hs hd
theorem forAll_tup {K : PySem.W.Frag} {a : Addr} {xs : List V} {g : TG} {tb : TS} {D : Ends} {σ : St} {H : Hp} (Pv : Nat → St → Hp → Prop) (h0 : Pv 0 σ H) (hl : ∀ i σ H, i ≤ xs.length → Pv i σ H → H a = some (.tup xs))
    (hs : ∀ i x σ H, xs[i]? = some x → Pv i σ H → g x σ H fun σ2 H2 => tb { D with nx := Pv (i + 1), ct := Pv (i + 1), bk := D.nx } σ2 H2) (hd : ∀ σ H, Pv xs.length σ H → D.nx σ H) : ForAll (Itt K a) g tb D σ H :=
  for_tup Pv h0 (fun i σ H hi p => sqT_of (hl i σ H hi p)) hs hd
theorem compAll_rng {lo : Int} {n : Nat} {idx : List Nat} {tt : CB → TT} {te : CB → TE} {σ : St} {Q : VK} {H1 : Hp} (Pv : Addr → Nat → List V → Hp → Prop) (h0 : ∀ D, H1 D = none → Pv D 0 [] (upd H1 D (.lst [])))
    (hs : ∀ D, H1 D = none → ∀ i ys H, i < n → Pv D i ys H → ∀ (c : CB), tt c (some (.int (lo + i)) :: subS σ idx) H fun b H4 => if b = true then te c (some (.int (lo + i)) :: subS σ idx) H4 fun y H5 => H5 D = some (.lst ys) ∧ ys.length < sizeLine ∧ Pv D (i + 1) (ys ++ [y]) (upd H5 D (.lst (ys ++ [y]))) else Pv D (i + 1) ys H4)
    (hd : ∀ D, H1 D = none → ∀ ys H, Pv D n ys H → Q (.ref D) H) : CompAll (Itr lo n) 1 idx (fun _ => gName 0) tt te σ Q H1 :=
  fun D hD => comp_range1 (Pv D) (h0 D hD) (hs D hD) (hd D hD)
theorem compAll_list {K : PySem.W.Frag} {a : Addr} {zs : List V} {idx : List Nat} {tt : CB → TT} {te : CB → TE} {σ : St} {Q : VK} {H1 : Hp} (Pv : Addr → Nat → List V → Hp → Prop) (h0 : ∀ D, H1 D = none → Pv D 0 [] (upd H1 D (.lst [])))
    (hl : ∀ D, H1 D = none → ∀ i ys H, i ≤ zs.length → Pv D i ys H → H a = some (.lst zs))
    (hs : ∀ D, H1 D = none → ∀ i x ys H, zs[i]? = some x → Pv D i ys H → ∀ (c : CB), tt c (some x :: subS σ idx) H fun b H4 => if b = true then te c (some x :: subS σ idx) H4 fun y H5 => H5 D = some (.lst ys) ∧ ys.length < sizeLine ∧ Pv D (i + 1) (ys ++ [y]) (upd H5 D (.lst (ys ++ [y]))) else Pv D (i + 1) ys H4)
    (hd : ∀ D, H1 D = none → ∀ ys H, Pv D zs.length ys H → Q (.ref D) H) : CompAll (Itl K a) 1 idx (fun _ => gName 0) tt te σ Q H1 :=
  fun D hD => comp_list1 (Pv D) (h0 D hD) (fun i ys H hi p => sqL_of (hl D hD i ys H hi p)) (hs D hD) (hd D hD)
end L2
namespace L2
open PySem PySem.Spec PyProof.Rows
def tTxtsL (ss : List Str) : TA := fun _ H Q => Q (List.map V.str ss) H
end L2
end

section
set_option Elab.async false
set_option linter.all false
set_option maxRecDepth 100000
namespace L2
open PySem PySem.Spec PyProof.Rows
/-! ### the judgements, shut: nothing looks into them while a program's text is walked -/
structure ZE (X : Cx) (e : Expr) (t : TE) : Prop where
  to : PE X e t
structure ZT (X : Cx) (e : Expr) (t : TT) : Prop where
  to : PT X e t
structure ZW (X : Cx) (e : Expr) (t : TT) : Prop where
  to : PW X e t
structure ZA (X : Cx) (e : List Expr) (t : TA) : Prop where
  to : PA X e t
structure ZS (X : Cx) (e : Stmt) (t : TS) : Prop where
  to : PS X e t
structure ZSs (X : Cx) (e : List Stmt) (t : TS) : Prop where
  to : PSs X e t
structure ZG (X : Cx) (e : Expr) (t : TG) : Prop where
  to : PG X e t
structure ZIfs (X : Cx) (e : List Expr) (t : TT) : Prop where
  to : PIfs X e t
structure ZO (X : Cx) (e : Option Expr) (t : TO) : Prop where
  to : PO X e t
structure ZI (X : Cx) (tg iter : Expr) (t : TI) : Prop where
  to : PI X tg iter t
theorem zpe_bl {X : Cx} {b : Bool} {j : Nat} {pos : Pos} : ZE X (Expr.Constant (Const.bool b) j pos) (tC (V.bl b)) := ⟨pe_bl⟩
theorem zpe_int {X : Cx} {i : Int} {j : Nat} {pos : Pos} : ZE X (Expr.Constant (Const.int i) j pos) (tC (V.int i)) := ⟨pe_int⟩
theorem zpvk {X : Cx} {N : List Str} {sc : Scope} {x : Str} {pos : Pos} (h1 : HC X N sc) (i : Nat) (h2 : okV N sc i x = true) : ZE X (Expr.Name x pos) (tVar i) := ⟨pvk h1 i h2⟩
theorem zpe_bltn {X : Cx} {x : Str} {v : V} {u : Value} {pos : Pos} (h1 : Gl X x) (h2 : Cx.mg X x = none) (h3 : bootBuiltins x = some u) (h4 : RelV v u) (h5 : autoParam (x ≠ Str.ofString "__name__") pe_bltn._auto_1) (h6 : autoParam ((x == Str.ofString "__debug__") = false) pe_bltn._auto_2) : ZE X (Expr.Name x pos) (tC v) := ⟨pe_bltn h1 h2 h3 h4 h5 h6⟩
theorem zpe_lst {X : Cx} {es : List Expr} {t : TA} {pos : Pos} (h1 : ZA X es t) : ZE X (Expr.List es pos) (tLst t) := ⟨pe_lst h1.to⟩
theorem zpe_tup {X : Cx} {es : List Expr} {t : TA} {pos : Pos} {x1 : Nat} (h1 : ZA X es t) : ZE X (Expr.Tuple es x1 pos) (tTup t) := ⟨pe_tup h1.to⟩
theorem zpe_dnewK {X : Cx} {pos : Pos} : ZE X (Expr.Dict [] [] pos) tDNewK := ⟨pe_dnewK⟩
theorem zpe_op {X : Cx} {a b : Expr} {ta tb : TE} {pos : Pos} {op : Operator} {r : R2} (h1 : OpR X (binaryOp op) r) (h2 : ZE X a ta) (h3 : ZE X b tb) : ZE X (Expr.BinOp a op b pos) (tOp r ta tb) := ⟨pe_op h1 h2.to h3.to⟩
theorem zpe_not {X : Cx} {a : Expr} {ta : TE} {pos : Pos} (h1 : ZE X a ta) : ZE X (Expr.UnaryOp UnaryOp.Not a pos) (tNotV ta) := ⟨pe_not h1.to⟩
theorem zpe_un {X : Cx} {a : Expr} {ta : TE} {pos : Pos} {op : UnaryOp} {r : V → Hp → VK → Prop} (h1 : UnR X (unaryOp op) r) (h2 : ZE X a ta) : ZE X (Expr.UnaryOp op a pos) (tUn r ta) := ⟨pe_un h1 h2.to⟩
theorem zpe_cmpR {X : Cx} {a b : Expr} {ta tb : TE} {pos : Pos} {op : CmpOp} {r : R2} (h1 : OpR X (compareOp op) r) (h2 : ZE X a ta) (h3 : ZE X b tb) (h4 : behindInMarks op b = false) : ZE X (Expr.Compare a [op] [b] pos) (tOp r ta tb) := ⟨pe_cmpR h1 h2.to h3.to h4⟩
theorem zpe_one {X : Cx} {a : Expr} {pos : Pos} {op : BoolOp} {t : TE} (h1 : ZE X a t) : ZE X (Expr.BoolOp op [a] pos) t := ⟨pe_one h1.to⟩
theorem zpe_and {X : Cx} {a b : Expr} {ta tb : TE} {pos : Pos} {rest : List Expr} (h1 : ZE X a ta) (h2 : ZE X (Expr.BoolOp BoolOp.And (b :: rest) pos) tb) : ZE X (Expr.BoolOp BoolOp.And (a :: b :: rest) pos) (tAndV ta tb) := ⟨pe_and h1.to h2.to⟩
theorem zpe_rev {X : Cx} {e st : Expr} {te ts : TE} {pos p2 : Pos} (h1 : ZE X e te) (h2 : ZE X st ts) : ZE X (Expr.Subscript e (Expr.Slice none none (some st) p2) pos) (tRev (Cx.K X) te ts) := ⟨pe_rev h1.to h2.to⟩
theorem zpo_none {X : Cx} : ZO X none tNoPart := ⟨po_none⟩
theorem zpo_some {X : Cx} {e : Expr} {te : TE} (h1 : ZE X e te) : ZO X (some e) (tPart te) := ⟨po_some h1.to⟩
theorem zpe_slice {X : Cx} {e : Expr} {te : TE} {lo hi : Option Expr} {tl th : TO} {pos p2 : Pos} {r : V → Option Int → Option Int → Hp → VK → Prop} (h1 : SlR X r) (h2 : ZE X e te) (h3 : ZO X lo tl) (h4 : ZO X hi th) : ZE X (Expr.Subscript e (Expr.Slice lo hi none p2) pos) (tSl r te tl th) := ⟨pe_slice h1 h2.to h3.to h4.to⟩
theorem zpe_dget {X : Cx} {o i : Expr} {pos : Pos} {td ty : TE} (h1 : Around.units (Cx.A X) + 1 < cLine) (h2 : ZE X o td) (h3 : ZE X i ty) (h4 : NoSl i) : ZE X (Expr.Subscript o i pos) (tDGet td ty) := ⟨pe_dget h1 h2.to h3.to h4⟩
theorem zpe_ix {X : Cx} {a b : Expr} {ta tb : TE} {pos : Pos} {r : R2} (h1 : IxR X r) (h2 : ZE X a ta) (h3 : ZE X b tb) (h4 : PlainIx b) : ZE X (Expr.Subscript a b pos) (tOp r ta tb) := ⟨pe_ix h1 h2.to h3.to h4⟩
theorem zpek_comp {X : Cx} {N : List Str} {osc : Scope} {elt target iter : Expr} {ifs : List Expr} {scope : Scope} {pos : Pos} {wi : TI} {g : CB → TG} {tt : CB → TT} {te : CB → TE} (h1 : HC X N osc) (xs : List Str) (idx : List Nat) (h2 : Cx.calm X = true) (h3 : csOk osc N scope idx = true) (h4 : ZI X target iter wi) (h5 : (∀ (c : CB),
                HC (cxC X scope (xs ++ subN (Cx.N X) idx) c) (xs ++ subN N idx) (relabelS scope osc) →
                  ZG (cxC X scope (xs ++ subN (Cx.N X) idx) c) target (g c))) (h6 : (∀ (c : CB),
                  HC (cxC X scope (xs ++ subN (Cx.N X) idx) c) (xs ++ subN N idx) (relabelS scope osc) →
                    ZIfs (cxC X scope (xs ++ subN (Cx.N X) idx) c) ifs (tt c))) (h7 : (∀ (c : CB),
                    HC (cxC X scope (xs ++ subN (Cx.N X) idx) c) (xs ++ subN N idx) (relabelS scope osc) →
                      ZE (cxC X scope (xs ++ subN (Cx.N X) idx) c) elt (te c))) (h8 : autoParam (∀ (x : Value), foldedSetIterable iter (Cx.env X) x = pure x) pek_comp._auto_1) : ZE X (Expr.ListComp elt [{ target := target, iter := iter, ifs := ifs, is_async := 0 }] scope pos)
                      (tComp wi (List.length xs) idx g tt te) := ⟨pek_comp h1 xs idx h2 h3 h4.to (fun c z => (h5 c z).to) (fun c z => (h6 c z).to) (fun c z => (h7 c z).to) h8⟩
theorem zpa_nil {X : Cx} : ZA X [] tNil := ⟨pa_nil⟩
theorem zpa_cons {X : Cx} {e : Expr} {es : List Expr} {te : TE} {t : TA} (h1 : ZE X e te) (h2 : ZA X es t) (h3 : autoParam (starEach (e :: es) (Cx.env X) = (false, eval e (Cx.env X)) :: starEach es (Cx.env X)) pa_cons._auto_1) : ZA X (e :: es) (tCons te t) := ⟨pa_cons h1.to h2.to h3⟩
theorem zpgb {X : Cx} {N : List Str} {sc : Scope} {x : Str} {pos : Pos} (h1 : HC X N sc) (h2 : List.Nodup N) (i : Nat) (h3 : okL1 N sc i x = true) : ZG X (Expr.Name x pos) (gName i) := ⟨pgb h1 h2 i h3⟩
theorem zpifs_nil {X : Cx} : ZIfs X [] tYes := ⟨pifs_nil⟩
theorem zpifs_one {X : Cx} {e : Expr} {t : TT} (h1 : ZT X e t) : ZIfs X [e] t := ⟨pifs_one h1.to⟩
theorem zpi_range1 {X : Cx} {tg a : Expr} {ta : TA} {p pos : Pos} (h1 : Gl X (Str.ofString "range")) (h2 : Cx.mg X (Str.ofString "range") = none) (h3 : ZA X [a] ta) (h4 : autoParam (starEach [a] (Cx.env X) = [(false, eval a (Cx.env X))]) pi_range1._auto_1) : ZI X tg (Expr.Call (Expr.Name (Str.ofString "range") p) [a] [] pos) (iRng1 ta) := ⟨pi_range1 h1 h2 h3.to h4⟩
theorem zpi_list {X : Cx} {tg l : Expr} {tl : TE} (h1 : ZE X l tl) : ZI X tg l (iList (Cx.K X) tl) := ⟨pi_list h1.to⟩
theorem zpi_tup {X : Cx} {tg l : Expr} {tl : TE} (h1 : ZE X l tl) : ZI X tg l (iTup (Cx.K X) tl) := ⟨pi_tup h1.to⟩
theorem zpt_cmpR {X : Cx} {a b : Expr} {ta tb : TE} {pos : Pos} {op : CmpOp} {r : R2} (h1 : OpR X (compareOp op) r) (h2 : ZE X a ta) (h3 : ZE X b tb) (h4 : behindInMarks op b = false) : ZT X (Expr.Compare a [op] [b] pos) (tTest (tOp r ta tb)) := ⟨pt_cmpR h1 h2.to h3.to h4⟩
theorem zpt_not {X : Cx} {a : Expr} {pos : Pos} {tA : TT} (h1 : ZT X a tA) : ZT X (Expr.UnaryOp UnaryOp.Not a pos) (tNot tA) := ⟨pt_not h1.to⟩
theorem zPWpt {X : Cx} {e : Expr} {t : TT} (h1 : ZW X e t) : ZT X e t := ⟨PW.pt h1.to⟩
theorem zpt_val {X : Cx} {e : Expr} {t : TE} (h1 : ZE X e t) (h2 : autoParam
        (∀ (whole : Sem Value),
          PySem.isTrue e (Cx.env X) whole = do
            let v ← whole
            standAt (Expr.pos e)
            holding [v] (truthy v))
        pt_val._auto_1) : ZT X e (tB t) := ⟨pt_val h1.to h2⟩
theorem zpw_and1 {X : Cx} {a : Expr} {pos : Pos} {tA : TT} (h1 : ZT X a tA) : ZW X (Expr.BoolOp BoolOp.And [a] pos) tA := ⟨pw_and1 h1.to⟩
theorem zpw_or1 {X : Cx} {a : Expr} {pos : Pos} {tA : TT} (h1 : ZT X a tA) : ZW X (Expr.BoolOp BoolOp.Or [a] pos) tA := ⟨pw_or1 h1.to⟩
theorem zpw_and {X : Cx} {a b : Expr} {pos : Pos} {tA tB' : TT} {rest : List Expr} (h1 : ZT X a tA) (h2 : ZW X (Expr.BoolOp BoolOp.And (b :: rest) pos) tB') : ZW X (Expr.BoolOp BoolOp.And (a :: b :: rest) pos) (tAnd tA tB') := ⟨pw_and h1.to h2.to⟩
theorem zpw_or {X : Cx} {a b : Expr} {pos : Pos} {tA tB' : TT} {rest : List Expr} (h1 : ZT X a tA) (h2 : ZW X (Expr.BoolOp BoolOp.Or (b :: rest) pos) tB') : ZW X (Expr.BoolOp BoolOp.Or (a :: b :: rest) pos) (tOr tA tB') := ⟨pw_or h1.to h2.to⟩
theorem zpe_call {X : Cx} {CX : CXT} {k : Nat} {f : Addr} {fd : FuncData} {ps : List Str} {sp : Sp} {dvs : List V} {ds : List Value} {E : XK} {x : Str} {p pos : Pos} {e : Expr} {es : List Expr} {t : TA} (h1 : FnOk (Cx.prog X) (Cx.w X) (Cx.K X) (Cx.mg X) (Cx.base X) CX k f fd ps sp) (h2 : Room k (Cx.A X)) (h3 : Gl X x) (h4 : Cx.mg X x = some (Value.ref f)) (h5 : W.keepIn (Cx.K X) (Value.ref f) = true) (h6 : Binds (Cx.K X) fd ps ds) (h7 : Vals dvs ds) (h8 : Passes CX X E) (h9 : ZA X (e :: es) t) (h10 : autoParam ((x == Str.ofString "__debug__") = false) pe_call._auto_1) (h11 : autoParam (starEach (e :: es) (Cx.env X) = (false, eval e (Cx.env X)) :: starEach es (Cx.env X))
                          pe_call._auto_2) (h12 : autoParam
                            ((List.any (backTo pos (starEach es (Cx.env X))) fun (x : Bool × Sem Value) => Prod.fst x) =
                              false)
                            pe_call._auto_3) : ZE X (Expr.Call (Expr.Name x p) (e :: es) [] pos) (tCall sp dvs E t) := ⟨pe_call h1 h2 h3 h4 h5 h6 h7 h8 h9.to h10 h11 h12⟩
theorem zpe_callTy {X : Cx} {x : Str} {p pos : Pos} {e : Expr} {es : List Expr} {t : TA} {T : String} {r : List V → Hp → VK → Prop} (h1 : CallR X (Value.type T) r) (h2 : Gl X x) (h3 : Cx.mg X x = none) (h4 : bootBuiltins x = some (Value.type T)) (h5 : ZA X (e :: es) t) (h6 : autoParam (x ≠ Str.ofString "__name__") pe_callTy._auto_1) (h7 : autoParam ((x == Str.ofString "__debug__") = false) pe_callTy._auto_2) (h8 : autoParam (starEach (e :: es) (Cx.env X) = (false, eval e (Cx.env X)) :: starEach es (Cx.env X))
                    pe_callTy._auto_3) (h9 : autoParam
                      ((List.any (backTo pos (starEach es (Cx.env X))) fun (x : Bool × Sem Value) => Prod.fst x) =
                        false)
                      pe_callTy._auto_4) : ZE X (Expr.Call (Expr.Name x p) (e :: es) [] pos) (tCB r t) := ⟨pe_callTy h1 h2 h3 h4 h5.to h6 h7 h8 h9⟩
theorem zpe_callB {X : Cx} {x : Str} {p pos : Pos} {e : Expr} {es : List Expr} {t : TA} {id : String} {r : List V → Hp → VK → Prop} (h1 : CallR X (Value.builtin id) r) (h2 : Gl X x) (h3 : Cx.mg X x = none) (h4 : bootBuiltins x = some (Value.builtin id)) (h5 : ZA X (e :: es) t) (h6 : autoParam (x ≠ Str.ofString "__name__") pe_callB._auto_1) (h7 : autoParam ((x == Str.ofString "__debug__") = false) pe_callB._auto_2) (h8 : autoParam (starEach (e :: es) (Cx.env X) = (false, eval e (Cx.env X)) :: starEach es (Cx.env X))
                    pe_callB._auto_3) (h9 : autoParam
                      ((List.any (backTo pos (starEach es (Cx.env X))) fun (x : Bool × Sem Value) => Prod.fst x) =
                        false)
                      pe_callB._auto_4) : ZE X (Expr.Call (Expr.Name x p) (e :: es) [] pos) (tCB r t) := ⟨pe_callB h1 h2 h3 h4 h5.to h6 h7 h8 h9⟩
theorem zpe_bm {X : Cx} {o e : Expr} {es : List Expr} {to : TE} {t : TA} {name : Str} {apos cpos : Pos} {T id : String} {r : V → List V → Hp → VK → Prop} (h1 : PlainAttrs T) (h2 : Slot T name id) (h3 : typeOf (Value.builtin id) = pure (Value.type "method_descriptor")) (h4 : MtR X id r) (h5 : ZE X o to) (h6 : ZA X (e :: es) t) (h7 : autoParam (attributeBase o name (Cx.env X) (eval o (Cx.env X)) = eval o (Cx.env X)) pe_bm._auto_1) (h8 : autoParam
                    ((((List.all (backTo cpos (starEach (e :: es) (Cx.env X))) fun (x : Bool × Sem Value) =>
                            !Prod.fst x) &&
                          List.all (backToKw cpos (keywordEach [] (Cx.env X))) fun (x : Option Str × Sem Value) =>
                            Option.isSome (Prod.fst x)) &&
                        decide
                          ((List.length (e :: es) + List.length ([] : List Keyword) + if List.isEmpty ([] : List Keyword) = true then 0 else 1) < 30)) =
                      true)
                    pe_bm._auto_2) (h9 : autoParam ((Pos.endLine apos == Pos.line cpos) = true) pe_bm._auto_3) (h10 : autoParam (starEach (e :: es) (Cx.env X) = (false, eval e (Cx.env X)) :: starEach es (Cx.env X))
                        pe_bm._auto_4) (h11 : autoParam
                          ((List.any (backTo cpos (starEach es (Cx.env X))) fun (x : Bool × Sem Value) => Prod.fst x) =
                            false)
                          pe_bm._auto_5) : ZE X (Expr.Call (Expr.Attribute o name apos) (e :: es) [] cpos) (tBM (Cx.K X) T r to t) := ⟨pe_bm h1 h2 h3 h4 h5.to h6.to h7 h8 h9 h10 h11⟩
theorem zpe_bm0 {X : Cx} {o : Expr} {to : TE} {name : Str} {apos cpos : Pos} {T id : String} {r : V → List V → Hp → VK → Prop} (h1 : PlainAttrs T) (h2 : Slot T name id) (h3 : typeOf (Value.builtin id) = pure (Value.type "method_descriptor")) (h4 : MtR X id r) (h5 : ZE X o to) (h6 : autoParam (attributeBase o name (Cx.env X) (eval o (Cx.env X)) = eval o (Cx.env X)) pe_bm0._auto_1) (h7 : autoParam ((Pos.endLine apos == Pos.line cpos) = true) pe_bm0._auto_2) : ZE X (Expr.Call (Expr.Attribute o name apos) [] [] cpos) (tBM0 (Cx.K X) T r to) := ⟨pe_bm0 h1 h2 h3 h4 h5.to h6 h7⟩
theorem zps_ret {X : Cx} {e : Expr} {te : TE} {pos : Pos} (h1 : ZE X e te) : ZS X (Stmt.Return (some e) pos) (tRet te) := ⟨ps_ret h1.to⟩
theorem zps_expr {X : Cx} {e : Expr} {te : TE} {pos : Pos} (h1 : ZE X e te) (h2 : autoParam (swapsWith e none (Pos.line pos) (Cx.env X) = pure false) ps_expr._auto_1) : ZS X (Stmt.Expr e pos) (tDrop te) := ⟨ps_expr h1.to h2⟩
theorem zpsk_comp {X : Cx} {N : List Str} {osc : Scope} {elt target iter : Expr} {ifs : List Expr} {scope : Scope} {pos spos py : Pos} {wi : TI} {g : CB → TG} {tt : CB → TT} {te : CB → TE} {y : Str} (h1 : HC X N osc) (h2 : List.Nodup N) (i : Nat) (h3 : okL1 N osc i y = true) (xs : List Str) (idx : List Nat) (h4 : Cx.calm X = true) (h5 : csOk osc N scope idx = true) (h6 : ZI X target iter wi) (h7 : (∀ (c : CB),
                      HC (cxC X scope (xs ++ subN (Cx.N X) idx) c) (xs ++ subN N idx) (relabelS scope osc) →
                        ZG (cxC X scope (xs ++ subN (Cx.N X) idx) c) target (g c))) (h8 : (∀ (c : CB),
                        HC (cxC X scope (xs ++ subN (Cx.N X) idx) c) (xs ++ subN N idx) (relabelS scope osc) →
                          ZIfs (cxC X scope (xs ++ subN (Cx.N X) idx) c) ifs (tt c))) (h9 : (∀ (c : CB),
                          HC (cxC X scope (xs ++ subN (Cx.N X) idx) c) (xs ++ subN N idx) (relabelS scope osc) →
                            ZE (cxC X scope (xs ++ subN (Cx.N X) idx) c) elt (te c))) (h10 : swapsWith
                              (Expr.ListComp elt [{ target := target, iter := iter, ifs := ifs, is_async := 0 }] scope
                                pos)
                              (some (Expr.Name y py)) (Pos.line spos) (Cx.env X) =
                            pure true) (h11 : autoParam (∀ (x : Value), foldedSetIterable iter (Cx.env X) x = pure x) psk_comp._auto_1) : ZS X
                              (Stmt.Assign [Expr.Name y py]
                                (Expr.ListComp elt [{ target := target, iter := iter, ifs := ifs, is_async := 0 }] scope
                                  pos)
                                spos)
                              (tAsg (tComp wi (List.length xs) idx g tt te) (gName i)) := ⟨psk_comp h1 h2 i h3 xs idx h4 h5 h6.to (fun c z => (h7 c z).to) (fun c z => (h8 c z).to) (fun c z => (h9 c z).to) h10 h11⟩
theorem zpsk_set {X : Cx} {N : List Str} {sc : Scope} {x : Str} {pos : Pos} {e : Expr} {te : TE} {pos' : Pos} (h1 : HC X N sc) (h2 : List.Nodup N) (h3 : (∀ (x : Str), Cx.fn X x = true)) (i : Nat) (h4 : okL N sc i x = true) (h5 : ZE X e te) (h6 : autoParam (swapsWith e (some (Expr.Name x pos')) (Pos.line pos) (Cx.env X) = pure false) psk_set._auto_1) : ZS X (Stmt.Assign [Expr.Name x pos'] e pos) (tAsg te (gName i)) := ⟨psk_set h1 h2 h3 i h4 h5.to h6⟩
theorem zps_dput {X : Cx} {o i value : Expr} {pos pos' : Pos} {td ty tv : TE} (h1 : Around.units (Cx.A X) + 1 < cLine) (h2 : ZE X o td) (h3 : ZE X i ty) (h4 : ZE X value tv) (h5 : swapsWith value (some (Expr.Subscript o i pos')) (Pos.line pos) (Cx.env X) = pure false) : ZS X (Stmt.Assign [Expr.Subscript o i pos'] value pos) (sDPut td ty tv) := ⟨ps_dput h1 h2.to h3.to h4.to h5⟩
theorem zps_asg {X : Cx} {pos : Pos} {tg e : Expr} {te : TE} {g : TG} (h1 : ZE X e te) (h2 : ZG X tg g) (h3 : autoParam (swapsWithSole [tg] e (Pos.line pos) (Cx.env X) = pure false) ps_asg._auto_1) (h4 : autoParam (swappedStores [tg] e (Cx.env X) = pure none) ps_asg._auto_2) (h5 : autoParam
              (List.map (fun (x : Bool × (Value → Sem Unit)) => Prod.snd x) (assignEach [tg] (Cx.env X)) =
                [assign tg (Cx.env X)])
              ps_asg._auto_3) : ZS X (Stmt.Assign [tg] e pos) (tAsg te g) := ⟨ps_asg h1.to h2.to h3 h4 h5⟩
theorem zpg_sub {X : Cx} {pos : Pos} {o i : Expr} {to ti : TE} {t : TSet} (h1 : ZE X o to) (h2 : ZE X i ti) (h3 : PSet X t) (h4 : autoParam
            (∀ (v : Value),
              assign (Expr.Subscript o i pos) (Cx.env X) v = do
                let ov ← holding [v] (eval o (Cx.env X))
                let iv ← holding [v, ov] (eval i (Cx.env X))
                standAt pos
                holding [v, ov, iv] (setItem ov iv v)
                release [v, ov, iv] [])
            pg_sub._auto_1) : ZG X (Expr.Subscript o i pos) (gSub to ti t) := ⟨pg_sub h1.to h2.to h3 h4⟩
theorem zps_augS {X : Cx} {pos : Pos} {o i e : Expr} {to ti te : TE} {tget : V → V → Hp → VK → Prop} {tip : TIp} {tset : TSet} {op : Operator} {tpos : Pos} (h1 : ZE X o to) (h2 : ZE X i ti) (h3 : PGet X tget) (h4 : ZE X e te) (h5 : PIp X op tip) (h6 : PSet X tset) (h7 : autoParam
                  (∀ (ov iv new : Value),
                    augStore i ov iv new = do
                      holding [new, ov, iv] (setItem ov iv new)
                      release [new, ov, iv] []
                      pure Flow.next)
                  ps_augS._auto_1) : ZS X (Stmt.AugAssign (Expr.Subscript o i tpos) op e pos) (tAugS to ti te tget tip tset) := ⟨ps_augS h1.to h2.to h3 h4.to h5 h6 h7⟩
theorem zpsk_aug {X : Cx} {N : List Str} {sc : Scope} {x : Str} {pos : Pos} {e : Expr} {te : TE} {op : Operator} {ti : TIp} {pos' : Pos} (h1 : HC X N sc) (h2 : List.Nodup N) (h3 : (∀ (x : Str), Cx.fn X x = true)) (i : Nat) (h4 : okL N sc i x = true) (h5 : ZE X e te) (h6 : PIp X op ti) : ZS X (Stmt.AugAssign (Expr.Name x pos') op e pos) (tAug i te ti) := ⟨psk_aug h1 h2 h3 i h4 h5.to h6⟩
theorem zqs_if {X : Cx} {t u : TS} {pos : Pos} {c : Expr} {a b : List Stmt} {tc : TT} (h1 : ZT X c tc) (h2 : ZSs X a t) (h3 : ZSs X b u) : ZS X (Stmt.If c a b pos) (tIfS tc t u) := ⟨qs_if h1.to (.of h2.to) (.of h3.to)⟩
theorem zqs_while {X : Cx} {pos : Pos} {c : Expr} {body : List Stmt} {tc : TT} {tb : TS} (h1 : PassesOwn (model (Cx.prog X) (Cx.w X)) (Cx.A X) (Cx.env X) (Cx.xe X)) (h2 : ZT X c tc) (h3 : ZSs X body tb) : ZS X (Stmt.While c body [] pos) (tWhile tc tb) := ⟨qs_while h1 h2.to (.of h3.to)⟩
theorem zpgk {X : Cx} {N : List Str} {sc : Scope} {x : Str} {pos : Pos} (h1 : HC X N sc) (h2 : List.Nodup N) (h3 : (∀ (x : Str), Cx.fn X x = true)) (i : Nat) (h4 : okL N sc i x = true) : ZG X (Expr.Name x pos) (gName i) := ⟨pgk h1 h2 h3 i h4⟩
theorem zqs_for {X : Cx} {pos : Pos} {tg iter : Expr} {body : List Stmt} {wi : TI} {g : TG} {tb : TS} (h1 : PassesOwn (model (Cx.prog X) (Cx.w X)) (Cx.A X) (Cx.env X) (Cx.xe X)) (h2 : Cx.calm X = true) (h3 : ZI X tg iter wi) (h4 : ZG X tg g) (h5 : ZSs X body tb) (h6 : autoParam (∀ (x : Value), foldedSetIterable iter (Cx.env X) x = pure x) qs_for._auto_1) : ZS X (Stmt.For tg iter body [] pos) (tFor wi g tb) := ⟨qs_for h1 h2 h3.to h4.to (.of h5.to) h6⟩
theorem zqss_nil {X : Cx} : ZSs X [] tNext := ⟨QSs.to qss_nil⟩
theorem zqss_one {X : Cx} {st : Stmt} {t : TS} (h1 : ZS X st t) : ZSs X [st] t := ⟨QSs.to (qss_one h1.to)⟩
theorem zqss_cons {X : Cx} {st : Stmt} {rest : List Stmt} {t u : TS} (h1 : ZS X st t) (h2 : ZSs X rest u) : ZSs X (st :: rest) (tSeq t u) := ⟨QSs.to (qss_cons h1.to (.of h2.to))⟩
theorem zqss_cut {X : Cx} {st : Stmt} {rest : List Stmt} {t u : TS} (h1 : ZS X st t) (h2 : ZSs X rest u) : ZSs X (st :: rest) (tCut t u) := ⟨QSs.to (qss_cut h1.to (.of h2.to))⟩
theorem Fun.okZ {P : Program} {w : World} {K : PySem.W.Frag} {mg : Str → Option Value} {base : Heap} {x qual : Str} {st : Stmt} {f : Addr} {fd : FuncData} {N ps : List Str} {k : Nat} {sp : Sp} (F : Fun K x qual st f fd) (S : FnScope N ps (defScope st)) (len : ∀ vs H Q E, sp vs H Q E → vs.length = ps.length)
    (hbody : ∀ (cdv : Value) (A : Around) (outer : List Env) (s : Shared) (H : Hp) (vs : List V) (Q : VK) (E : XK), Room k (A.deeper (envOfC qual (defScope st) s.heap.objs.size f cdv)) → sp vs H Q E →
      HC (cxOf CX0 P w K mg base N qual (defScope st) f cdv A outer s H E).nox N (defScope st) → (∀ x, (cxOf CX0 P w K mg base N qual (defScope st) f cdv A outer s H E).nox.fn x = true) →
      ∃ t, ZSs (cxOf CX0 P w K mg base N qual (defScope st) f cdv A outer s H E).nox (defBody st) t ∧ t { nx := fun _ H' => Q .non H', rt := Q } (start N vs) H) : FnOk P w K mg base CX0 (k + 1) f fd ps sp :=
  F.okK S len fun cdv A outer s H vs Q E hr h hc hf => let ⟨t, h1, h2⟩ := hbody cdv A outer s H vs Q E hr h hc hf; ⟨t, .of h1.to, h2⟩
end L2
end

section
set_option Elab.async false
set_option linter.all false
set_option maxRecDepth 100000
namespace L2
open PySem PySem.Spec PyProof.Rows
/-! ### sets of texts: whether a table is plain, whether its maker was led -/
def byT (w : World) : Bool := w.params.followText "set-order"
theorem lay_led (t : SetTable) (es : Array (Int × Value)) (h : Int) (x : Value) : (layNew t es h x).2.1.led = t.led := by
  unfold layNew
  split
  · dsimp only; unfold SetTable.orStandIn
    split <;> rfl
  · rfl
theorem laid_led {mask finger moves : Nat} {led plain : Bool} {hs : Array Int} {t' : SetTable} {o : Array Nat} (h : SetTable.laid mask finger moves led plain hs = some (t', o)) : t'.led = led ∧ t'.plain = plain := by
  unfold SetTable.laid at h
  cases q : SetTable.layClean mask hs with
  | none => rw [q] at h; cases h
  | some owner => rw [q] at h; cases h; exact ⟨rfl, rfl⟩
theorem relay_led (t : SetTable) (es : Array (Int × Value)) (k : Nat) : (relayAll t es k).2.1.led = t.led := by
  unfold relayAll
  split
  · rename_i t' o q
    dsimp only
    split
    · exact (laid_led q).1
    · rfl
  · rfl
/-- the members of a set's table, as texts -/
def entS (w : World) (p : Str × Tok) : Int × Value := (hashStr w p.1, .str p.1 p.2)
def sObj (es : Array (Int × Value)) (ep : Nat) (t : SetTable) : Obj := { cls := .type "set", dict := none, data := .set es ep t }
/-- the set at a holds just the texts of l -/
structure SetT (w : World) (h : Heap) (a : Addr) (l : List (Str × Tok)) : Prop where
  ex : ∃ es ep t, h.get? a = some (sObj es ep t) ∧ es.toList = l.map (entS w) ∧ t.fits es.size = true ∧ t.led = !byT w ∧ (l ≠ [] → t.plain = false)
  nd : (l.map (·.1)).Nodup
  sz : l.length < scanBound
theorem SetT.at {w : World} {h h' : Heap} {a : Addr} {l : List (Str × Tok)} (x : SetT w h a l) (k : ∀ o, h.get? a = some o → h'.get? a = some o) : SetT w h' a l :=
  ⟨let ⟨es, ep, t, e, r⟩ := x.ex; ⟨es, ep, t, k _ e, r⟩, x.nd, x.sz⟩
section
variable {P : Program} {w : World} {A : Around} {E : Value → Shared → Prop} {s : Shared} {a : Addr} {l : List (Str × Tok)}
end
end L2
end

section
set_option Elab.async false
set_option linter.all false
set_option maxRecDepth 100000
namespace L2
open PySem PySem.Spec PyProof.Rows
section
variable {P : Program} {w : World} {A : Around} {R : Result → Shared → Prop} {I : Addr} {fp wr : List Addr} {G : Array GenState → Array GenState → Prop} {n : Nat} {Pv : Nat → Value → Prop} {St : Nat → Shared → Prop}
end
section
variable {P : Program} {w : World} {A : Around} {E : Value → Shared → Prop} {s : Shared}
theorem set_new {x : Value} {Q : Value → Shared → Prop} (h : Q (.ref s.heap.objs.size) { s with heap := s.heap.push (sObj #[] 0 (.fresh 0 0 (!byT w))) }) :
    codeAny (model P w) A (.call (.builtin "set.__new__") ⟨[.type "set", x], []⟩) (wants Q E) s := by
  refine codeAny_of_tree ?_
  refine wpAny_bind (m := checkBuiltinCall "set.__new__" ⟨[.type "set", x], []⟩) (wpAny_of_eq (PySem.F.newCall_set_1 x) (wpAny_pure ⟨plainId_quiet PySem.F.plain_set_new _, codeAny_builtin PySem.F.entry_set_new ?_⟩))
  rw [Around.under_plainId PySem.F.plain_set_new _]
  unfold Builtin.«set.__new__» Builtin.Frozenset.newClass
  have hsub := sub_set_self
  obtain ⟨hp, g, d, tk, os⟩ := s
  dsimp only
  wp_walk
  refine wpAny_askSetting (wpAny_pure ?_)
  dsimp only
  simp only [newObj]
  refine wpAny_bind (wpAny_alloc (wpAny_pure (wpAny_pure h)))
set_option maxHeartbeats 3200000 in
end
end L2
end

section
set_option Elab.async false
set_option linter.all false
set_option maxRecDepth 100000
namespace L2
open PySem PySem.Spec PyProof.Rows
/-! ### a set's walk -/
theorem si_slot_next : Slot "set_iterator" "__next__" "set_iterator.__next__" :=
  .of (owner := "set_iterator") (n := "__next__") (by rw [typeLookup_type, builtinLookup_eq_fast]; kernel_rfl) (by decide +kernel) (by decide +kernel) (by decide +kernel)
    (.inl (by decide +kernel)) (by rw [isSubtype_type]; kernel_rfl)
theorem si_slot_iter : Slot "set_iterator" "__iter__" "set_iterator.__iter__" :=
  .of (owner := "set_iterator") (n := "__iter__") (by rw [typeLookup_type, builtinLookup_eq_fast]; kernel_rfl) (by decide +kernel) (by decide +kernel) (by decide +kernel)
    (.inl (by decide +kernel)) (by rw [isSubtype_type]; kernel_rfl)
theorem si_entry_next : entryFor table "set_iterator.__next__" = some Builtin.«set_iterator.__next__» := entryFor_of_tree (by kernel_rfl)
theorem si_entry_iter : entryFor table "set_iterator.__iter__" = some Builtin.«dict_keyiterator.__iter__» :=
  entryFor_alias (id' := "dict_keyiterator.__iter__") (by kernel_rfl) rfl (by decide +kernel) (by kernel_rfl)
theorem se_entry_iter : entryFor table "set.__iter__" = some Builtin.«frozenset.__iter__» :=
  entryFor_alias (id' := "frozenset.__iter__") (by kernel_rfl) rfl (by decide +kernel) (by kernel_rfl)
theorem si_owner : Manifest.owners.lookup (String.ofList "rotareti_tes".toList.reverse) = some Manifest.sig_set_iterator := by kernel_rfl
theorem si_args_next (a : Value) : argsOk "set_iterator.__next__" ⟨[a], []⟩ := by
  unfold argsOk; rw [signature?_of (id := "set_iterator.__next__") (n := "__txen__".toList) (o := "rotareti_tes".toList) (by kernel_rfl) si_owner]; kernel_rfl
theorem si_args_iter (a : Value) : argsOk "set_iterator.__iter__" ⟨[a], []⟩ := by
  unfold argsOk; rw [signature?_of (id := "set_iterator.__iter__") (n := "__reti__".toList) (o := "rotareti_tes".toList) (by kernel_rfl) si_owner]; kernel_rfl
end L2
end

section
set_option Elab.async false
set_option linter.all false
set_option maxRecDepth 100000
namespace L2
open PySem PySem.Spec PyProof.Rows
/-- a set's iterator: what it begins with, how many were given, the set, its size, its epoch -/
def siObj (first : Value) (i n ep : Nat) (a : Addr) : Obj := { cls := .type "set_iterator", data := .fields #[first, .int i 0, .ref a, .int n 0, .int ep 0] }
section
variable {P : Program} {w : World} {A : Around} {E : Value → Shared → Prop} {s : Shared} {a I : Addr} {es : Array (Int × Value)} {t : SetTable} {ep i n : Nat} {first : Value}
theorem si_type (hI : s.heap.get? I = some (siObj first i n ep a)) : s.TypeIs (.ref I) "set_iterator" := ⟨_, hI, rfl⟩
theorem si_self {Q : Value → Shared → Prop} (hI : s.heap.get? I = some (siObj first i n ep a)) (q : Q (.ref I) s) : wpAny (model P w) A (pyIter (.ref I)) Q E s := by
  refine wpAny_pyIter_slot (si_type hI) si_slot_iter (wpAny_call_entry si_slot_iter (si_type hI) si_entry_iter ?_ (si_args_iter _))
  exact wpAny_pure ⟨_, rfl, "set_iterator", _, si_type hI, si_slot_next.lookup, q⟩
theorem si_int {slot : Nat} {tk : Tok} {r : Option (Value × Nat)} {Q : Option Value → Shared → Prop} (hh : A.handled = none) (hI : s.heap.get? I = some (siObj (.int slot tk) i n ep a)) (hS : s.heap.get? a = some (sObj es ep t)) (hf : t.fits es.size = true) (hn : es.size = n)
    (hx : ∀ (B : Around) (E' : Value → Shared → Prop) (Q' : Option (Value × Nat) → Shared → Prop), Q' r s → wpAny (model P w) B (setNext a slot i ep) Q' E' s)
    (q : match r with
      | some (x, nx) => ∀ h', h'.get? I = some (siObj (.int (nx : Int) 0) (i + 1) n ep a) → Heap.SameBut I s.heap h' → Q (some x) { s with heap := h' }
      | none => ∀ h', Heap.ExtBut I s.heap h' → Q none { s with heap := h' }) : wpAny (model P w) A (pyNext (.ref I)) Q E s := by
  have hT := si_type hI
  unfold pyNext
  refine wpAny_bind (wpAny_attempt (wpAny_callSpecial?_slot (name := Str.ofString "__next__") hT si_slot_next (wpAny_call_entry si_slot_next hT si_entry_next ?_ (si_args_next _))))
  unfold Builtin.«set_iterator.__next__»
  refine wpAny_bind (m := slotArgs _ _ _) (wpAny_pure ?_)
  refine wpAny_bind (wpAny_fieldsOf hI rfl ?_)
  refine wpAny_bind (m := setEntries a) (wpAny_setEntries_of hS rfl hf ?_)
  rw [if_neg (by rw [hn]; simp)]
  refine wpAny_bind (m := setNext a slot i ep) (hx _ _ _ ?_)
  cases r with
  | some p =>
    obtain ⟨x, nx⟩ := p
    dsimp only at q ⊢
    refine wpAny_bind (m := setField (.ref I) 0 (rawInt nx)) (wpAny_setField_rec hI (by simp) fun h1 e1 sb1 => ?_)
    refine wpAny_bind (m := setField (.ref I) 1 (rawInt (i + 1))) (wpAny_setField_rec e1 (by simp) fun h2 e2 sb2 => ?_)
    exact wpAny_pure ⟨x, rfl, wpAny_pure (q h2 (by rw [e2]; rfl) (sb1.trans sb2))⟩
  | none =>
    dsimp only at q ⊢
    refine wpAny_bind (m := setField (.ref I) 2 .none) (wpAny_setField_rec hI (by simp) fun h1 e1 sb1 => ?_)
    refine wpAny_bind (m := newExc (.type "StopIteration") []) ?_
    simp only [newExc, newTuple]
    refine wpAny_bind (wpAny_newObj_type ?_ (by size_fits))
    refine wpAny_bind (m := firstArgMember _ _) (wpAny_of_eq (a := Value.none) (by first | rfl | (simp only [firstArgMember]; rfl)) ?_)
    refine wpAny_newObj_type (wpAny_raiseNew_none hh ?_) (by size_fits)
    refine wpAny_bind (wpAny_isInstance (T := "StopIteration") (b := true) ⟨_, Heap.get?_push_size _ rfl, rfl⟩ isSubtype_stop ?_)
    exact wpAny_pure (q _ ((sb1.extBut.push _).push _))
theorem si_tup {p : Addr} {vs : Array Value} {c : Nat} {r : Option Value} {Q : Option Value → Shared → Prop} (hh : A.handled = none) (hI : s.heap.get? I = some (siObj (.ref p) i n ep a)) (hS : s.heap.get? a = some (sObj es ep t)) (hf : t.fits es.size = true) (hn : es.size = n)
    (hp : s.heap.get? p = some { cls := .type "tuple", data := .seq vs c })
    (hv : match r with | some x => ∃ (k : Nat) (z : Int), vs[i]? = some (.int k 0) ∧ es[k]? = some (z, x) | none => vs[i]? = none)
    (q : match r with
      | some x => ∀ h', h'.get? I = some (siObj (.ref p) (i + 1) n ep a) → Heap.SameBut I s.heap h' → Q (some x) { s with heap := h' }
      | none => ∀ h', Heap.ExtBut I s.heap h' → Q none { s with heap := h' }) : wpAny (model P w) A (pyNext (.ref I)) Q E s := by
  have hT := si_type hI
  unfold pyNext
  refine wpAny_bind (wpAny_attempt (wpAny_callSpecial?_slot (name := Str.ofString "__next__") hT si_slot_next (wpAny_call_entry si_slot_next hT si_entry_next ?_ (si_args_next _))))
  unfold Builtin.«set_iterator.__next__»
  refine wpAny_bind (m := slotArgs _ _ _) (wpAny_pure ?_)
  refine wpAny_bind (wpAny_fieldsOf hI rfl ?_)
  refine wpAny_bind (m := setEntries a) (wpAny_setEntries_of hS rfl hf ?_)
  rw [if_neg (by rw [hn]; simp)]
  refine wpAny_bind (m := seqItems? (.ref p)) (wpAny_seqItems hp rfl ?_)
  cases r with
  | some x =>
    obtain ⟨k, z, e1, e2⟩ := hv
    dsimp only at q ⊢
    simp only [Int.toNat_natCast, e1]
    refine wpAny_bind (m := setNextDrawn a k ep) ?_
    unfold setNextDrawn
    refine wpAny_bind (wpAny_setState_of hS rfl hf ?_)
    dsimp only
    rw [if_neg (by simp)]
    simp only [e2]
    refine wpAny_pure ?_
    refine wpAny_bind (m := setField (.ref I) 1 (rawInt (i + 1))) (wpAny_setField_rec hI (by simp) fun h2 e2 sb2 => ?_)
    exact wpAny_pure ⟨x, rfl, wpAny_pure (q h2 (by rw [e2]; rfl) sb2)⟩
  | none =>
    dsimp only at q hv ⊢
    simp only [Int.toNat_natCast, hv]
    refine wpAny_bind (m := setField (.ref I) 0 (rawInt 0)) (wpAny_setField_rec hI (by simp) fun h0 e0 sb0 => ?_)
    refine wpAny_bind (m := setField (.ref I) 2 .none) (wpAny_setField_rec e0 (by simp) fun h1 e1 sb1 => ?_)
    refine wpAny_bind (m := newExc (.type "StopIteration") []) ?_
    simp only [newExc, newTuple]
    refine wpAny_bind (wpAny_newObj_type ?_ (by size_fits))
    refine wpAny_bind (m := firstArgMember _ _) (wpAny_of_eq (a := Value.none) (by first | rfl | (simp only [firstArgMember]; rfl)) ?_)
    refine wpAny_newObj_type (wpAny_raiseNew_none hh ?_) (by size_fits)
    refine wpAny_bind (wpAny_isInstance (T := "StopIteration") (b := true) ⟨_, Heap.get?_push_size _ rfl, rfl⟩ isSubtype_stop ?_)
    exact wpAny_pure (q _ (((sb0.trans sb1).extBut.push _).push _))
end
end L2
end

section
set_option Elab.async false
set_option linter.all false
set_option maxRecDepth 100000
namespace L2
open PySem PySem.Spec PyProof.Rows
/-! ### drawn rows are rows of the same things -/
theorem erase_perm {α : Type} : ∀ (l : List α) (i : Nat) (x : α), l[i]? = some x → (x :: l.eraseIdx i).Perm l
  | [], i, x, h => by cases i <;> cases h
  | y :: l, 0, x, h => by cases h; exact List.Perm.refl _
  | y :: l, i + 1, x, h => by
    rw [List.getElem?_cons_succ] at h
    rw [List.eraseIdx_cons_succ]
    exact (List.Perm.swap y x _).trans ((erase_perm l i x h).cons y)
theorem pick_go {α : Type} (next : Nat → Nat) : ∀ (f k : Nat) (l : List α) (out : Array α), l.length = f → (pickOrder.go next f k l out).toList.Perm (out.toList ++ l)
  | 0, k, l, out, h => by
    rw [List.length_eq_zero_iff.mp h, List.append_nil]
    unfold pickOrder.go
    exact List.Perm.refl _
  | f + 1, k, l, out, h => by
    unfold pickOrder.go
    have lt : next k % l.length < l.length := Nat.mod_lt _ (by omega)
    have e : l[next k % l.length]? = some l[next k % l.length] := List.getElem?_eq_getElem lt
    rw [e]
    dsimp only
    refine (pick_go next f (k + 1) _ _ (by rw [List.length_eraseIdx_of_lt lt]; omega)).trans ?_
    rw [Array.toList_push, List.append_assoc]
    exact (erase_perm l _ _ e).append_left _
theorem pick_perm {α : Type} (next : Nat → Nat) (xs : Array α) : (pickOrder next xs).toList.Perm xs.toList := by
  unfold pickOrder
  have := pick_go next xs.size 0 xs.toList #[] Array.length_toList
  simpa using this
section
variable {P : Program} {w : World} {A : Around} {E : Value → Shared → Prop}
theorem draw_perm {α : Type} : ∀ (n : Nat) (xs : List α) (s : Shared) (Q : List α → Shared → Prop), xs.length = n → (∀ ys d, ys.Perm xs → Q ys { s with drawn := d }) → wpAny (model P w) A (drawOrder n xs) Q E s
  | 0, xs, s, Q, h, q => by
    have : xs = [] := List.length_eq_zero_iff.mp h
    subst this
    unfold drawOrder
    exact wpAny_pure (by cases s; exact q [] _ (List.Perm.refl _))
  | n + 1, [], s, Q, h, q => by cases h
  | n + 1, x :: xs, s, Q, h, q => by
    unfold drawOrder
    have lt : w.draws .order (s.drawn.get .order) % (x :: xs).length < (x :: xs).length := Nat.mod_lt _ (by simp)
    refine wpAny_bind (m := choose .order (x :: xs).length) (fun Γ p hΓ => ?_)
    refine ⟨by simp, ?_⟩
    have e : (x :: xs)[w.draws .order (s.drawn.get .order) % (x :: xs).length]? = some (x :: xs)[w.draws .order (s.drawn.get .order) % (x :: xs).length] := List.getElem?_eq_getElem lt
    show wpAny (model P w) A (match (x :: xs)[w.draws .order (s.drawn.get .order) % (x :: xs).length]? with
      | some y => do let r ← drawOrder n ((x :: xs).eraseIdx (w.draws .order (s.drawn.get .order) % (x :: xs).length)); pure (y :: r)
      | none => unsupported "internal:drawOrder") Q E { s with drawn := s.drawn.bump .order }
    rw [e]
    dsimp only
    refine wpAny_bind (draw_perm n _ _ _ (by rw [List.length_eraseIdx_of_lt lt]; simp at h ⊢; omega) fun ys d hp => wpAny_pure ?_)
    exact q _ d ((hp.cons _).trans (erase_perm _ _ _ e))
variable {s : Shared} {a : Addr} {es : Array (Int × Value)} {t : SetTable} {ep slot i : Nat}
theorem byText_ask {Q : Bool → Shared → Prop} (q : Q (byT w) s) : wpAny (model P w) A setsByText Q E s := by
  unfold setsByText
  exact wpAny_bind (wpAny_askSetting (wpAny_pure q))
theorem next_byText {Q : Option (Value × Nat) → Shared → Prop} (hb : byT w = true) (hS : s.heap.get? a = some (sObj es ep t)) (hf : t.fits es.size = true) (q : Q (((pickOrder (w.params.setOrder a ep) es)[i]?).map fun e => (e.2, slot)) s) :
    wpAny (model P w) A (setNext a slot i ep) Q E s := by
  unfold setNext
  refine wpAny_bind (wpAny_setState_of hS rfl hf (wpAny_bind (byText_ask ?_)))
  rw [hb]
  dsimp only
  rw [if_pos rfl, if_neg (by simp)]
  refine wpAny_bind ?_
  unfold setWalk
  refine wpAny_bind (wpAny_setState_of hS rfl hf (wpAny_bind (byText_ask ?_)))
  rw [hb, if_pos rfl]
  exact wpAny_bind (wpAny_askSetting (wpAny_pure (wpAny_pure q)))
end
end L2
end

section
set_option Elab.async false
set_option linter.all false
set_option maxRecDepth 100000
namespace L2
open PySem PySem.Spec PyProof.Rows
section
variable {P : Program} {w : World} {B : Around} {a I : Addr} {es : Array (Int × Value)} {t : SetTable} {ep n : Nat} {ord : List Value}
theorem walks_int (slotAt : Nat → Nat) (hh : B.handled = none) (hne : a ≠ I) (hf : t.fits es.size = true) (hn : es.size = n) (ho : ord.length = n)
    (hx : ∀ i, i ≤ n → ∀ (s : Shared) (C : Around) (E' : Value → Shared → Prop) (Q' : Option (Value × Nat) → Shared → Prop), s.heap.get? a = some (sObj es ep t) → Q' ((ord[i]?).map fun v => (v, slotAt (i + 1))) s → wpAny (model P w) C (setNext a (slotAt i) i ep) Q' E' s) :
    WalksS P w B I [I, a] [I] (fun x y => y = x) n (fun i v => ord[i]? = some v) (fun i s => s.heap.get? I = some (siObj (.int (slotAt i) 0) i n ep a) ∧ s.heap.get? a = some (sObj es ep t)) where
  sub := fun b hb => by rw [List.mem_singleton.mp hb]; exact List.mem_cons_self
  grefl := fun _ => rfl
  gtrans := fun _ _ _ h1 h2 => h2.trans h1
  frame := fun i s h' tk st _ k => ⟨k I (by simp) _ st.1, k a (by simp) _ st.2⟩
  item := fun i s Q E hi st q => by
    have e : ord[i]? = some ord[i] := List.getElem?_eq_getElem (by rw [ho]; exact hi)
    refine si_int (r := some (ord[i], slotAt (i + 1))) hh st.1 st.2 hf hn (fun C E' Q' hq => hx i (Nat.le_of_lt hi) s C E' Q' st.2 (by rw [e]; exact hq)) fun h' h1 h2 => ?_
    exact q _ _ e ⟨h1, h2.extBut a _ hne st.2⟩ ⟨fun b o hb z => h2.extBut b o (fun y => hb (by rw [y]; exact List.mem_singleton.mpr rfl)) z, rfl, rfl, rfl, Nat.le_refl _⟩
  done := fun s Q E st q => by
    have e : ord[n]? = none := List.getElem?_eq_none (by rw [ho]; exact Nat.le_refl _)
    refine si_int (r := none) hh st.1 st.2 hf hn (fun C E' Q' hq => hx n (Nat.le_refl _) s C E' Q' st.2 (by rw [e]; exact hq)) fun h' h1 => ?_
    exact q _ ⟨fun b o hb z => h1 b o (fun y => hb (by rw [y]; exact List.mem_singleton.mpr rfl)) z, rfl, rfl, rfl, Nat.le_refl _⟩
  self := fun i s Q E st q => si_self st.1 q
theorem walks_tup {p : Addr} {pl : List Nat} {c : Nat} (hh : B.handled = none) (hne : a ≠ I) (hnp : p ≠ I) (hf : t.fits es.size = true) (hn : es.size = n) (ho : ord.length = n) (hl : pl.length = n)
    (hx : ∀ i : Nat, i < n → ∃ (k : Nat) (z : Int) (x : Value), pl[i]? = some k ∧ es[k]? = some (z, x) ∧ ord[i]? = some x) :
    WalksS P w B I [I, a, p] [I] (fun x y => y = x) n (fun i v => ord[i]? = some v)
      (fun i s => s.heap.get? I = some (siObj (.ref p) i n ep a) ∧ s.heap.get? a = some (sObj es ep t) ∧ s.heap.get? p = some { cls := .type "tuple", data := .seq (pl.map fun (j : Nat) => Value.int j 0).toArray c }) where
  sub := fun b hb => by rw [List.mem_singleton.mp hb]; exact List.mem_cons_self
  grefl := fun _ => rfl
  gtrans := fun _ _ _ h1 h2 => h2.trans h1
  frame := fun i s h' tk st _ k => ⟨k I (by simp) _ st.1, k a (by simp) _ st.2.1, k p (by simp) _ st.2.2⟩
  item := fun i s Q E hi st q => by
    obtain ⟨k, z, x, e1, e2, e3⟩ := hx i hi
    refine si_tup (r := some x) hh st.1 st.2.1 hf hn st.2.2 ⟨k, z, by simp [e1], e2⟩ fun h' h1 h2 => ?_
    exact q _ _ e3 ⟨h1, h2.extBut a _ hne st.2.1, h2.extBut p _ hnp st.2.2⟩ ⟨fun b o hb z => h2.extBut b o (fun y => hb (by rw [y]; exact List.mem_singleton.mpr rfl)) z, rfl, rfl, rfl, Nat.le_refl _⟩
  done := fun s Q E st q => by
    refine si_tup (r := none) hh st.1 st.2.1 hf hn st.2.2 (by simp [hl]) fun h' h1 => ?_
    exact q _ ⟨fun b o hb z => h1 b o (fun y => hb (by rw [y]; exact List.mem_singleton.mpr rfl)) z, rfl, rfl, rfl, Nat.le_refl _⟩
  self := fun i s Q E st q => si_self st.1 q
end
section
variable {P : Program} {w : World} {A : Around} {E : Value → Shared → Prop} {s : Shared} {a : Addr} {l : List (Str × Tok)}
theorem SetT.typeIs (S : SetT w s.heap a l) : s.TypeIs (.ref a) "set" := let ⟨_, _, _, e, _⟩ := S.ex; ⟨_, e, rfl⟩
end
end L2
end

section
set_option Elab.async false
set_option linter.all false
set_option maxRecDepth 100000
namespace L2
open PySem PySem.Spec PyProof.Rows
section
variable {P : Program} {w : World} {A : Around} {E : Value → Shared → Prop} {s : Shared} {a : Addr} {l : List (Str × Tok)}
theorem set_hint {Q : Bool → Shared → Prop} (hT : s.TypeIs (.ref a) "set") (q : Q false s) : wpAny (model P w) A (Builtin.List.listLengthHint (.ref a)) Q E s := by
  unfold Builtin.List.listLengthHint
  refine wpAny_bind (wpAny_specialOf hT PySem.F.slot_set_len.lookup ?_)
  generalize hid : ("set.__len__" : String) = id0
  wp_delta
  rw [show splitId id0 = some ("set", "__len__") from by subst hid; decide +kernel]
  subst hid
  refine wpAny_bind (wpAny_isInstance (T := "set") (b := true) hT (by rw [isSubtype_type]; kernel_rfl) ?_)
  refine wpAny_ite_split (fun z => absurd z (by decide)) (fun _ => wpAny_ite_split (fun _ => ?_) (fun z => absurd (by decide +kernel) z))
  exact wpAny_bind (wpAny_typeOf hT (wpAny_pure q))
set_option maxHeartbeats 2000000 in
end
theorem Inv.same {X : Cx} {pins : List (Addr × Obj)} {σ : List (Option V)} {H : Hp} {s s' : Shared} (I : Inv X pins σ H s) (hh : s'.heap = s.heap) (hg : s'.gens = s.gens) (ho : s'.os = s.os) : Inv X pins σ H s' :=
  ⟨I.ok, by rw [ho]; exact I.os, by rw [hg]; exact I.bare, by rw [hh]; exact I.base, by rw [hh]; exact I.loc, by rw [hh]; exact I.cell, I.free, I.freeC, by rw [hh]; exact I.pin, by rw [hh]; exact I.hok, I.len⟩
/-- the set at p holds just these texts -/
def TxS (w : World) (p : Addr) (ss : List Str) : HO := .ext fun h => ∃ l, SetT w h p l ∧ ∀ z, z ∈ l.map (·.1) ↔ z ∈ ss
section
variable {X : Cx}
theorem nodup_sub {α : Type} [DecidableEq α] : ∀ {l m : List α}, l.Nodup → (∀ x ∈ l, x ∈ m) → l.length ≤ m.length
  | [], m, _, _ => Nat.zero_le _
  | x :: l, m, h, k => by
    have hx := k x List.mem_cons_self
    have := nodup_sub (m := m.erase x) (List.nodup_cons.mp h).2 fun y hy => (List.mem_erase_of_ne (fun (e : y = x) => (List.nodup_cons.mp h).1 (by rw [← e]; exact hy))).mpr (k y (List.mem_cons_of_mem _ hy))
    rw [List.length_erase_of_mem hx] at this
    have p : 0 < m.length := List.length_pos_of_mem hx
    rw [List.length_cons]; omega
end
end L2
end

section
set_option Elab.async false
set_option linter.all false
set_option maxRecDepth 100000
set_option maxHeartbeats 4000000
/-! ## mathematics of texts -/
namespace L2
open PySem PySem.Spec PyProof.Rows
theorem tyV_str (K : PySem.W.Frag) (z : Str) (H : Hp) : tyV K "str" (.str z) H = True := eq_true rfl
theorem nodup_le {α : Type} [DecidableEq α] : ∀ {l r : List α}, l.Nodup → (∀ x ∈ l, x ∈ r) → l.length ≤ r.length
  | [], _, _, _ => Nat.zero_le _
  | x :: l, r, hn, hs => by
    have hx := hs x List.mem_cons_self
    have hn' := List.nodup_cons.mp hn
    have := nodup_le (l := l) (r := r.erase x) hn'.2 fun y hy => (List.mem_erase_of_ne (fun e : y = x => hn'.1 (by rw [← e]; exact hy))).mpr (hs y (List.mem_cons_of_mem _ hy))
    rw [List.length_erase_of_mem hx] at this
    have h0 : 0 < r.length := List.length_pos_of_mem hx
    rw [List.length_cons]; omega
end L2
end

section
set_option Elab.async false
set_option linter.all false
set_option maxRecDepth 100000
namespace L2
open PySem PySem.Spec PyProof.Rows
section
variable {X : Cx}
def qSetS (w : World) : List V → Hp → VK → Prop := fun vs H Q => ∃ a, vs = [.ref a] ∧ ∃ ss : List Str, H a = some (.lst (ss.map V.str)) ∧ ss.length < 4000 ∧ ∀ p, H p = none → Q (.ref p) (upd H p (TxS w p ss))
def qSortSet (w : World) : List V → Hp → VK → Prop := fun vs H Q => ∃ a, vs = [.ref a] ∧ ∃ ss : List Str, H a = some (TxS w a ss) ∧ ss.length < 64 ∧
  ∀ ss' : List Str, (∀ z, z ∈ ss' ↔ z ∈ ss) → ss'.Nodup → sortedS ss' = true → ∀ p, H p = none → Q (.ref p) (upd H p (.lst (ss'.map V.str)))
/-- all(xs), a list of truths -/
def qAllB : List V → Hp → VK → Prop := fun vs H Q => ∃ a, vs = [.ref a] ∧ ∃ bs : List Bool, H a = some (.lst (bs.map V.bl)) ∧ Q (.bl (bs.all id)) H
end
end L2
end

section
set_option Elab.async false
set_option linter.all false
set_option maxRecDepth 100000
namespace L2
open PySem PySem.Spec PyProof.Rows
section
variable {P : Program} {w : World} {κ : Type} [DecidableEq κ] {knd : PySem.KeyKind P w κ} {A : Around} {E : Value → Shared → Prop} {s : Shared} {a b : Addr} {kvs kvs2 : List (κ × Value)}
theorem find_same {es : Array DictEntry} {i : Nat} {k : κ} {u : Value} (hp : Pairs knd es.toList kvs2) (nd : (kvs2.map (·.1)).Nodup) (h : kvs2[i]? = some (k, u)) :
    ∃ j e, (es.findIdx? fun e => knd.is k e.key) = some j ∧ es[j]? = some e ∧ e.val = u := by
  have hl : es.toList.length = kvs2.length := hp.length
  have hi : i < kvs2.length := (List.getElem?_eq_some_iff.mp h).1
  have hi' : i < es.size := by rw [← Array.length_toList, hl]; exact hi
  have ei := hp.get? (e := es[i]) (by simp [hi']) h
  cases hj : es.findIdx? fun e => knd.is k e.key with
  | none =>
    have := Array.findIdx?_eq_none_iff.mp hj es[i] (Array.getElem_mem hi')
    rw [ei.1] at this; cases this
  | some j =>
    obtain ⟨hjs, hjp, _⟩ := Array.findIdx?_eq_some_iff_getElem.mp hj
    have hj2 : j < kvs2.length := by rw [← hl, Array.length_toList]; exact hjs
    have ej := hp.get? (e := es[j]) (by simp [hjs]) (List.getElem?_eq_getElem hj2)
    have ek : (kvs2[j]).1 = k := knd.inj _ _ _ ej.1 hjp
    have eij : j = i := by
      have h1 : (kvs2.map (·.1))[j]'(by rw [List.length_map]; exact hj2) = (kvs2.map (·.1))[i]'(by rw [List.length_map]; exact hi) := by
        rw [List.getElem_map, List.getElem_map, ek, (List.getElem?_eq_some_iff.mp h).2]
      exact (List.getElem_inj nd).mp h1
    subst eij
    exact ⟨j, es[j], rfl, Array.getElem?_eq_getElem hjs, ei.2⟩
end
section
variable {X : Cx}
/-- d == e, d != e: dicts of truths that are alike -/
def qEqD (neg : Bool) : R2 := fun x y H Q => ∃ a b, x = .ref a ∧ y = .ref b ∧ ∃ kvs, H a = some (.dK kvs) ∧ H b = some (.dK kvs) ∧ (∀ kv ∈ kvs, ∃ c, kv.2 = .bl c) ∧ Q (.bl (!neg)) H
/-- d.update(e) -/
def rUpdateD : V → List V → Hp → VK → Prop := fun x vs H Q => ∃ a b, x = .ref a ∧ vs = [.ref b] ∧ a ≠ b ∧ ∃ kvs, H a = some (.dK kvs) ∧ ∃ more, H b = some (.dK more) ∧ kvs.length + more.length ≤ sizeLine ∧ Q .non (upd H a (.dK (mergeK kvs more)))
end
end L2
end

section
set_option Elab.async false
set_option linter.all false
set_option maxRecDepth 100000
set_option maxHeartbeats 2000000
/-! ## Tuples of pairs of a text and a truth: == and != , in and not in -/
namespace L2
open PySem PySem.Spec PyProof.Rows
abbrev Cl := List (Str × Bool)
def LitAt (H : Hp) (q : Addr) (x : Str × Bool) : Prop := H q = some (.tup [.str x.1, .bl x.2])
def Lits (H : Hp) (qs : List Addr) (cl : Cl) : Prop := qs.length = cl.length ∧ ∀ (i : Nat) q x, qs[i]? = some q → cl[i]? = some x → LitAt H q x
def ClAt (H : Hp) (cl : Cl) (p : Addr) : Prop := ∃ qs : List Addr, H p = some (.tup (List.map V.ref qs)) ∧ Lits H qs cl
theorem Lits.nil {H : Hp} : Lits H [] [] := ⟨rfl, fun i q x e => by simp at e⟩
theorem Lits.mono {H H' : Hp} {qs : List Addr} {cl : Cl} (h : Lits H qs cl) (k : ∀ q xs, H q = some (.tup xs) → H' q = some (.tup xs)) : Lits H' qs cl := ⟨h.1, fun i q x e f => k _ _ (h.2 i q x e f)⟩
theorem ClAt.mono {H H' : Hp} {p : Addr} {cl : Cl} (h : ClAt H cl p) (k : ∀ q xs, H q = some (.tup xs) → H' q = some (.tup xs)) : ClAt H' cl p := let ⟨qs, e, l⟩ := h; ⟨qs, k _ _ e, l.mono k⟩
theorem Lits.at {H : Hp} {qs : List Addr} {cl : Cl} {i : Nat} {q : Addr} (h : Lits H qs cl) (e : qs[i]? = some q) : ∃ n b, cl[i]? = some (n, b) ∧ H q = some (.tup [.str n, .bl b]) := by
  have hi : i < cl.length := by rw [← h.1]; exact (List.getElem?_eq_some_iff.mp e).1
  have ec : cl[i]? = some (cl[i].1, cl[i].2) := List.getElem?_eq_getElem hi
  exact ⟨_, _, ec, h.2 i q _ e ec⟩
theorem Lits.snoc {H : Hp} {qs : List Addr} {cl : Cl} {q : Addr} {x : Str × Bool} (h : Lits H qs cl) (e : LitAt H q x) : Lits H (qs ++ [q]) (cl ++ [x]) := by
  refine ⟨by simp [h.1], fun i p y ep ey => ?_⟩
  by_cases hi : i < qs.length
  · rw [List.getElem?_append_left hi] at ep
    rw [List.getElem?_append_left (by rw [← h.1]; exact hi)] at ey
    exact h.2 i p y ep ey
  · have l := (List.getElem?_eq_some_iff.mp ep).1
    rw [List.length_append, List.length_singleton] at l
    have hi' : i = qs.length := by omega
    rw [hi', List.getElem?_append_right (Nat.le_refl _), Nat.sub_self] at ep
    rw [hi', h.1, List.getElem?_append_right (Nat.le_refl _), Nat.sub_self] at ey
    cases ep
    cases ey
    exact e
section
variable {X : Cx} {pins : List (Addr × Obj)} {s : Shared} {σ : St} {H : Hp} {A : Around}
theorem vals_at {xs : List V} {us : List Value} {j : Nat} {x : V} (r : Vals xs us) (h : j < us.toArray.size) (e : xs[j]? = some x) : RelV x us.toArray[j] := by
  have h' : j < us.length := by simpa using h
  obtain ⟨u, eu, ru⟩ := r.get e
  have := List.getElem?_eq_getElem h'
  rw [eu] at this
  have e1 : us.toArray[j] = u := by simpa using (Option.some.inj this).symm
  rw [e1]; exact ru
end
end L2
end

section
set_option Elab.async false
set_option linter.all false
set_option maxRecDepth 100000
set_option maxHeartbeats 2000000
/-! ## sorted(d), a dict whose keys are texts -/
namespace L2
open PySem PySem.Spec PyProof.Rows
section
variable {P : Program} {w : World} {A : Around} {E : Value → Shared → Prop} {s : Shared}
end
section
variable {X : Cx}
end
end L2
end

section
set_option Elab.async false
set_option linter.all false
set_option maxRecDepth 100000
set_option maxHeartbeats 2000000
/-! ## A text walked sign by sign; ints of the module; a dict of the module that is only read -/
namespace L2
open PySem PySem.Spec PyProof.Rows
section
variable {X : Cx} {tg : Expr}
end
section
variable {X : Cx}
end
end L2
end

section
set_option Elab.async false
set_option linter.all false
set_option maxRecDepth 100000
set_option maxHeartbeats 2000000
/-! ## A block over a tuple -/
namespace L2
open PySem PySem.Spec PyProof.Rows
theorem compAll_tup {K : PySem.W.Frag} {a : Addr} {zs : List V} {idx : List Nat} {tt : CB → TT} {te : CB → TE} {σ : St} {Q : VK} {H1 : Hp} (Pv : Addr → Nat → List V → Hp → Prop) (h0 : ∀ D, H1 D = none → Pv D 0 [] (upd H1 D (.lst [])))
    (hl : ∀ D, H1 D = none → ∀ i ys H, i ≤ zs.length → Pv D i ys H → H a = some (.tup zs))
    (hs : ∀ D, H1 D = none → ∀ i x ys H, zs[i]? = some x → Pv D i ys H → ∀ (c : CB), tt c (some x :: subS σ idx) H fun b H4 => if b = true then te c (some x :: subS σ idx) H4 fun y H5 => H5 D = some (.lst ys) ∧ ys.length < sizeLine ∧ Pv D (i + 1) (ys ++ [y]) (upd H5 D (.lst (ys ++ [y]))) else Pv D (i + 1) ys H4)
    (hd : ∀ D, H1 D = none → ∀ ys H, Pv D zs.length ys H → Q (.ref D) H) : CompAll (Itt K a) 1 idx (fun _ => gName 0) tt te σ Q H1 := by
  intro D hD
  refine ⟨fun i m ys H => m = zs.length - i ∧ i ≤ zs.length ∧ Pv D i ys H, ⟨zs.length, by simp, Nat.zero_le _, h0 D hD⟩, ?_⟩
  rintro i m ys H ⟨rfl, hi, p⟩
  by_cases hlt : i < zs.length
  · refine .inr ⟨⟨zs, zs[i], sqT_of (hl D hD i ys H hi p), List.getElem?_eq_getElem hlt⟩, Pv D (i + 1), fun ys' H' p' => ⟨zs.length - (i + 1), by omega, rfl, hlt, p'⟩, fun c own ho y H' yl => ?_⟩
    obtain ⟨e, hy⟩ := yl
    subst e
    have ey := hy zs (sqT_of (hl D hD i ys H' hi p))
    show (∃ own', own'.length = 1 ∧ (own ++ subS σ idx).set 0 _ = own' ++ subS σ idx) ∧ tt c ((own ++ subS σ idx).set 0 _) H' _
    rw [own1 ho]
    exact ⟨⟨[_], rfl, rfl⟩, hs D hD i y ys H' ey p c⟩
  · have e : i = zs.length := by omega
    subst e
    exact .inl ⟨⟨zs, sqT_of (hl D hD _ ys H hi p), Nat.le_refl _⟩, hd D hD ys H p⟩
section
variable {X : Cx}
end
end L2
end

section
set_option Elab.async false
set_option linter.all false
set_option maxRecDepth 100000
set_option maxHeartbeats 2000000
/-! ## is True, int(truth), a rule's tuple == ('is', name) -/
namespace L2
open PySem PySem.Spec PyProof.Rows
section
variable {X : Cx}
def qIsB (neg : Bool) : R2 := fun x y H Q => ∃ c d, x = .bl c ∧ y = .bl d ∧ Q (.bl (if neg then c != d else c == d)) H
end
end L2
end

section
set_option Elab.async false
set_option linter.all false
set_option maxRecDepth 100000
set_option maxHeartbeats 2000000
/-! ## tuples put together, said by what comes of it; a text's upper; range by steps -/
namespace L2
open PySem PySem.Spec PyProof.Rows
section
variable {X : Cx}
/-- () + u is u itself -/
theorem cat_tup0 {prog : Program} {w : World} {A : Around} {E : Value → Shared → Prop} {s : Shared} {t b : Addr} {ws : List Value} {Q : Value → Shared → Prop} (ht : IsTup s.heap t (([] : List Value)).toArray) (hb : IsTup s.heap b ws.toArray)
    (h1 : Q (.ref b) s) : wpAny (model prog w) A (binaryOp .Add (.ref t) (.ref b)) Q E s := by
  obtain ⟨⟨cls, dd, data, sl⟩, ho, hc, n, hd⟩ := id ht
  obtain ⟨⟨cls2, dd2, data2, sl2⟩, ho2, hc2, n2, hd2⟩ := id hb
  simp only at hc hd hc2 hd2
  subst hc hd hc2 hd2
  exact concat_meets ⟨_, ho, rfl⟩ ⟨_, ho2, rfl⟩ noFill_tuple_add seq_tuple_add PySem.F.slot_tuple_add PySem.F.entry_tuple_add (PySem.F.args_tuple_add_2 _ _)
      (tuple_addW0 t b _ ws.toArray n n2 dd dd2 sl sl2 rfl) ⟨ho, ho2, h1⟩
def qCatT : R2 := fun x y H Q => ∃ a b, x = .ref a ∧ y = .ref b ∧ ∃ xs, H a = some (.tup xs) ∧ ∃ ys, H b = some (.tup ys) ∧ xs.length + ys.length ≤ sizeLine ∧
  ∀ p H', Same H H' → (∀ c, c ≠ p → H' c = H c) → H' p = some (.tup (xs ++ ys)) → Q (.ref p) H'
theorem op_catTQ : OpR X (binaryOp .Add) qCatT := by
  intro pins s σ H x y v u Q I rx ry h
  obtain ⟨a, b, rfl, rfl, xs, ha, ys, hb, hz, q⟩ := h
  by_cases hx : xs = []
  · subst hx
    cases rx; cases ry
    obtain ⟨its, r1, p1, _⟩ := I.tuple (sqT_of ha)
    obtain ⟨its2, r2, p2, _⟩ := I.tuple (sqT_of hb)
    cases r1
    exact cat_tup0 p1 p2 ⟨.ref b, H, I, rfl, q b H (Same.refl H) (fun _ _ => rfl) hb⟩
  · exact op_catT pins s σ H _ _ v u Q I rx ry ⟨a, b, xs, ys, rfl, rfl, sqT_of ha, sqT_of hb, hx, hz, fun e => q a H (Same.refl H) (fun _ _ => rfl) (by rw [e, List.append_nil]; exact ha), fun _ p hp => q p _ (fun b u e => by rw [upd_ne (ne_of_none e hp)]; exact e) (fun c hc => upd_ne hc) upd_same⟩
end
end L2
end

section
set_option Elab.async false
set_option linter.all false
set_option maxRecDepth 100000
set_option maxHeartbeats 2000000
/-! ## a text's upper; range by steps -/
namespace L2
open PySem PySem.Spec PyProof.Rows
section
variable {X : Cx}
def Itst (lo st : Int) (n : Nat) : It := ⟨fun i _ => i < n, fun i H x H' => H' = H ∧ x = .int (lo + i * st), fun i _ => n ≤ i⟩
def iRng3 (ta : TA) : TI := fun σ H R => ta σ H fun vs H1 => ∃ i j : Int, vs = [.int i, .int j, .int 2] ∧ (0 ≤ i ∧ i ≤ 1000 ∧ -1 ≤ j ∧ j ≤ 1000) ∧ R (Itst i 2 ((j - i + 1) / 2).toNat) H1
end
end L2
end

section
set_option Elab.async false
set_option linter.all false
set_option maxRecDepth 100000
set_option maxHeartbeats 2000000
/-! ## a text cut at each sep -/
namespace L2
open PySem PySem.Spec PyProof.Rows Builtin Builtin.Str
section
variable {X : Cx}
end
end L2
end

section
set_option Elab.async false
set_option linter.all false
set_option maxRecDepth 100000
set_option maxHeartbeats 2000000
/-! ## a sort by asking: fewer than 64 unlike things come out in order -/
namespace L2
open PySem PySem.W PyProof.Rows
/-- along the way that b answers, all that is asked is below n, and what comes is so -/
def KG {α : Type} (b : Nat → Nat → Bool) (n : Nat) (P : α → Prop) : KasT α → Prop
  | .ret a => P a
  | .ask i j k => i < n ∧ j < n ∧ KG b n P (k (b i j))
theorem KG.bind {α β : Type} {b : Nat → Nat → Bool} {n : Nat} {P : β → Prop} {f : α → KasT β} : ∀ {t : KasT α}, KG b n (fun a => KG b n P (f a)) t → KG b n P (t.bind f)
  | .ret _, h => h
  | .ask i j k, ⟨h1, h2, h3⟩ => ⟨h1, h2, KG.bind (t := k (b i j)) h3⟩
theorem KG.mono {α : Type} {b : Nat → Nat → Bool} {n : Nat} {P P' : α → Prop} (hp : ∀ a, P a → P' a) : ∀ {t : KasT α}, KG b n P t → KG b n P' t
  | .ret a, h => hp a h
  | .ask i j k, ⟨h1, h2, h3⟩ => ⟨h1, h2, KG.mono hp (t := k (b i j)) h3⟩
/-- a strict order of the numbers below n -/
structure Ord (b : Nat → Nat → Bool) (n : Nat) : Prop where
  tr : ∀ i j k, i < n → j < n → k < n → b i j = true → b j k = true → b i k = true
  asy : ∀ i j, i < n → j < n → b i j = true → b j i = false
  tot : ∀ i j, i < n → j < n → i ≠ j → b i j = true ∨ b j i = true
abbrev at0 (p : Array Nat) (i : Nat) : Nat := p.getD i 0
structure Prm (p : Array Nat) (n : Nat) : Prop where
  perm : p.Perm (List.range n).toArray
theorem Prm.size {p : Array Nat} {n : Nat} (h : Prm p n) : p.size = n := by rw [h.perm.size_eq]; simp
theorem Prm.lt {p : Array Nat} {n : Nat} (h : Prm p n) (hn : 0 < n) (i : Nat) : at0 p i < n := by
  unfold at0
  rw [Array.getD_eq_getD_getElem?]
  by_cases hi : i < p.size
  · rw [Array.getElem?_eq_getElem hi]
    have := (h.perm.mem_iff (a := p[i])).mp (Array.getElem_mem hi)
    simpa using this
  · rw [Array.getElem?_eq_none (by omega)]
    exact hn
theorem Prm.ne {p : Array Nat} {n : Nat} (h : Prm p n) {i j : Nat} (hi : i < n) (hj : j < n) (d : i ≠ j) : at0 p i ≠ at0 p j := by
  have nd : p.toList.Nodup := (Array.perm_iff_toList_perm.mp h.perm).nodup_iff.mpr (by simpa using List.nodup_range)
  have hs := h.size
  intro e
  unfold at0 at e
  rw [Array.getD_eq_getD_getElem?, Array.getD_eq_getD_getElem?, Array.getElem?_eq_getElem (by omega : i < p.size), Array.getElem?_eq_getElem (by omega : j < p.size)] at e
  have e' : p.toList[i]'(by simpa using by omega) = p.toList[j]'(by simpa using by omega) := by simpa using e
  exact d ((List.getElem_inj nd).mp e')
def Asc (b : Nat → Nat → Bool) (p : Array Nat) (m : Nat) : Prop := ∀ i, i + 1 < m → b (at0 p i) (at0 p (i + 1)) = true
section
variable {b : Nat → Nat → Bool} {n : Nat}
theorem Asc.all (O : Ord b n) {p : Array Nat} (h : Prm p n) (hn : 0 < n) {m : Nat} (a : Asc b p m) (hm : m ≤ n) : ∀ d i, i + (d + 1) < m → b (at0 p i) (at0 p (i + (d + 1))) = true
  | 0, i, hi => a i hi
  | d + 1, i, hi => O.tr _ _ _ (h.lt hn _) (h.lt hn _) (h.lt hn _) (Asc.all O h hn a hm d i (by omega)) (a (i + (d + 1)) hi)
theorem Asc.lt (O : Ord b n) {p : Array Nat} (h : Prm p n) (hn : 0 < n) {m : Nat} (a : Asc b p m) (hm : m ≤ n) {i j : Nat} (hij : i < j) (hj : j < m) : b (at0 p i) (at0 p j) = true := by
  have := Asc.all O h hn a hm (j - i - 1) i (by omega)
  rwa [show i + (j - i - 1 + 1) = j by omega] at this
end
end L2
end

section
set_option Elab.async false
set_option linter.all false
set_option maxRecDepth 100000
set_option maxHeartbeats 4000000
/-! ## a sort of any number of things: the model's own steps, by names that can be said -/
namespace L2
open PySem PySem.W PyProof.Rows
end L2
end

section
set_option Elab.async false
set_option linter.all false
set_option maxRecDepth 100000
set_option maxHeartbeats 4000000
namespace L2
open PySem PySem.W PyProof.Rows
section
variable {prog : Program} {w : World} {A : Around} {E : Value → Shared → Prop} {s : Shared} {κ : SortKind} {r : Keyed → Int} {U : Keyed → Prop}
end
end L2
end

section
set_option Elab.async false
set_option linter.all false
set_option maxRecDepth 100000
set_option maxHeartbeats 4000000
namespace L2
open PySem PySem.W PyProof.Rows
def SrtL (r : Keyed → Int) (l : List Keyed) : Prop := l.Pairwise fun x y => r x ≤ r y
/-- a merge under way from below: what is out, what is left of both -/
structure MI (r : Keyed → Int) (tot o ra rb : List Keyed) : Prop where
  perm : (o ++ (ra ++ rb)).Perm tot
  so : SrtL r o
  sa : SrtL r ra
  sb : SrtL r rb
  la : ∀ u ∈ o, ∀ v ∈ ra, r u ≤ r v
  lb : ∀ u ∈ o, ∀ v ∈ rb, r u ≤ r v
section
variable {r : Keyed → Int} {tot o ra rb p : List Keyed}
theorem MI.takeA (h : MI r tot o (p ++ ra) rb) (hp : ∀ u ∈ p, ∀ v ∈ rb, r u ≤ r v) : MI r tot (o ++ p) ra rb := by
  have sa := List.pairwise_append.mp h.sa
  refine ⟨by simpa [List.append_assoc] using h.perm, List.pairwise_append.mpr ⟨h.so, sa.1, fun u hu v hv => h.la u hu v (List.mem_append_left _ hv)⟩, sa.2.1, h.sb, fun u hu v hv => ?_, fun u hu v hv => ?_⟩
  · rcases List.mem_append.mp hu with hu | hu
    · exact h.la u hu v (List.mem_append_right _ hv)
    · exact sa.2.2 u hu v hv
  · rcases List.mem_append.mp hu with hu | hu
    · exact h.lb u hu v hv
    · exact hp u hu v hv
theorem MI.endA (h : MI r tot o ra []) : (o ++ ra).Perm tot ∧ SrtL r (o ++ ra) := ⟨by simpa using h.perm, List.pairwise_append.mpr ⟨h.so, h.sa, h.la⟩⟩
theorem MI.endB (h : MI r tot o [] rb) : (o ++ rb).Perm tot ∧ SrtL r (o ++ rb) := ⟨by simpa using h.perm, List.pairwise_append.mpr ⟨h.so, h.sb, h.lb⟩⟩
end
section
variable {r : Keyed → Int} {a b o : Array Keyed} {x y k : Nat}
abbrev tot (a b : Array Keyed) : List Keyed := a.toList ++ b.toList
def Good (r : Keyed → Int) (a b R : Array Keyed) : Prop := R.toList.Perm (tot a b) ∧ SrtL r R.toList
abbrev MIa (r : Keyed → Int) (a b o : Array Keyed) (x y : Nat) : Prop := MI r (tot a b) o.toList (a.toList.drop x) (b.toList.drop y)
theorem ext_list (a : Array Keyed) (x n : Nat) : (a.extract x n).toList = (a.toList.drop x).take (n - x) := by
  rw [Array.toList_extract]
theorem ext_all (a : Array Keyed) (x : Nat) : (a.extract x a.size).toList = a.toList.drop x := by
  rw [ext_list, ← Array.length_toList, ← List.length_drop]
  exact List.take_length
theorem MI.fin (h : MIa r a b o x y) (e : y = b.size ∨ x = a.size) : Good r a b (o ++ a.extract x a.size ++ b.extract y b.size) := by
  unfold Good
  rw [Array.toList_append, Array.toList_append, ext_all, ext_all]
  rcases e with e | e
  · have z : b.toList.drop y = [] := List.drop_eq_nil_of_le (by simp [e])
    have h' : MI r (tot a b) o.toList (a.toList.drop x) [] := by rw [← z]; exact h
    rw [z, List.append_nil]; exact h'.endA
  · have z : a.toList.drop x = [] := List.drop_eq_nil_of_le (by simp [e])
    have h' : MI r (tot a b) o.toList [] (b.toList.drop y) := by rw [← z]; exact h
    rw [z, List.append_nil]; exact h'.endB
end
section
variable {prog : Program} {w : World} {A : Around} {E : Value → Shared → Prop} {s : Shared} {κ : SortKind} {r : Keyed → Int} {U : Keyed → Prop}
end
end L2
end

section
set_option Elab.async false
set_option linter.all false
set_option maxRecDepth 100000
set_option maxHeartbeats 4000000
namespace L2
open PySem PySem.W PyProof.Rows
/-- a merge under way from above: what is left of both, what is out -/
structure MH (r : Keyed → Int) (tot ra rb o : List Keyed) : Prop where
  perm : (ra ++ rb ++ o).Perm tot
  so : SrtL r o
  sa : SrtL r ra
  sb : SrtL r rb
  la : ∀ u ∈ ra, ∀ v ∈ o, r u ≤ r v
  lb : ∀ u ∈ rb, ∀ v ∈ o, r u ≤ r v
section
variable {r : Keyed → Int} {tot o ra rb p : List Keyed}
theorem MH.takeA (h : MH r tot (ra ++ p) rb o) (hp : ∀ u ∈ p, ∀ v ∈ rb, r v ≤ r u) : MH r tot ra rb (p ++ o) := by
  have sa := List.pairwise_append.mp h.sa
  refine ⟨?_, List.pairwise_append.mpr ⟨sa.2.1, h.so, fun u hu v hv => h.la u (List.mem_append_right _ hu) v hv⟩, sa.1, h.sb, fun u hu v hv => ?_, fun u hu v hv => ?_⟩
  · refine List.Perm.trans ?_ h.perm
    rw [← List.append_assoc]
    refine List.Perm.append_right o ?_
    rw [List.append_assoc, List.append_assoc]
    exact List.Perm.append_left ra List.perm_append_comm
  · rcases List.mem_append.mp hv with hv | hv
    · exact sa.2.2 u hu v hv
    · exact h.la u (List.mem_append_left _ hu) v hv
  · rcases List.mem_append.mp hv with hv | hv
    · exact hp v hv u hu
    · exact h.lb u hu v hv
theorem MH.endA (h : MH r tot ra [] o) : (ra ++ o).Perm tot ∧ SrtL r (ra ++ o) := ⟨by simpa using h.perm, List.pairwise_append.mpr ⟨h.sa, h.so, h.la⟩⟩
theorem MH.endB (h : MH r tot [] rb o) : (rb ++ o).Perm tot ∧ SrtL r (rb ++ o) := ⟨by simpa using h.perm, List.pairwise_append.mpr ⟨h.sb, h.so, h.lb⟩⟩
theorem MH.endF {z : Keyed} (h : MH r tot ra [z] o) (hz : ∀ v ∈ ra, r z ≤ r v) : ([z] ++ ra ++ o).Perm tot ∧ SrtL r ([z] ++ ra ++ o) := by
  have h' := (MH.takeA (p := ra) (ra := []) (by simpa using h) fun u hu v hv => by rw [List.mem_singleton.mp hv]; exact hz u hu).endB
  rw [List.append_assoc]; exact h'
end
section
variable {r : Keyed → Int} {a b o : Array Keyed} {x y e : Nat}
abbrev MHa (r : Keyed → Int) (a b o : Array Keyed) (x y : Nat) : Prop := MH r (tot a b) (a.toList.take x) (b.toList.take y) o.toList.reverse
theorem ext_0 (a : Array Keyed) (x : Nat) : (a.extract 0 x).toList = a.toList.take x := by
  rw [ext_list, List.drop_zero, Nat.sub_zero]
theorem take_one (a : Array Keyed) {x : Nat} (h : x < a.size) : a.toList.take (x + 1) = a.toList.take x ++ [a[x]] := by
  rw [List.take_add_one, List.getElem?_eq_getElem (by simpa using h)]; simp
theorem MH.fin (h : MHa r a b o x y) (e : x = 0 ∨ y = 0) : Good r a b (a.extract 0 x ++ b.extract 0 y ++ o.reverse) := by
  unfold Good
  rw [Array.toList_append, Array.toList_append, Array.toList_reverse, ext_0, ext_0]
  rcases e with e | e
  · subst e
    exact MH.endB h
  · subst e
    rw [List.take_zero, List.append_nil]
    exact MH.endA h
theorem MH.fst (h : MHa r a b o x y) (e : y = 1) (nb : 0 < b.size) (h0 : ∀ v ∈ a, r b[0] ≤ r v) : Good r a b (b.extract 0 y ++ a.extract 0 x ++ o.reverse) := by
  unfold Good
  rw [Array.toList_append, Array.toList_append, Array.toList_reverse, ext_0, ext_0]
  subst e
  have z : b.toList.take 1 = [b[0]] := by rw [take_one b nb]; rfl
  have h' : MH r (tot a b) (a.toList.take x) [b[0]] o.toList.reverse := by rw [← z]; exact h
  rw [z]
  exact h'.endF fun v hv => h0 v (by simpa using List.mem_of_mem_take hv)
end
section
variable {prog : Program} {w : World} {A : Around} {E : Value → Shared → Prop} {s : Shared} {κ : SortKind} {r : Keyed → Int} {U : Keyed → Prop}
end
end L2
end

section
set_option Elab.async false
set_option linter.all false
set_option maxRecDepth 100000
set_option maxHeartbeats 4000000
namespace L2
open PySem PySem.W PyProof.Rows
section
variable {prog : Program} {w : World} {A : Around} {E : Value → Shared → Prop} {s : Shared} {κ : SortKind} {r : Keyed → Int} {a₀ : Array Keyed}
def Rk (r : Keyed → Int) (xs : Array Keyed) (i : Nat) : Int := match xs[i]? with
  | some p => r p
  | none => 0
theorem Rk.eq {xs : Array Keyed} {i : Nat} (h : i < xs.size) : Rk r xs i = r xs[i] := by unfold Rk; rw [Array.getElem?_eq_getElem h]
theorem Rk.congr {xs ys : Array Keyed} {i j : Nat} (h : xs[i]? = ys[j]?) : Rk r xs i = Rk r ys j := by unfold Rk; rw [h]
/-- rising from lo on, up to hi -/
def Sg (r : Keyed → Int) (xs : Array Keyed) (lo hi : Nat) : Prop := ∀ i j, lo ≤ i → i ≤ j → j < hi → Rk r xs i ≤ Rk r xs j
structure SB (a₀ : Array Keyed) (κ : SortKind) (st : SortSt) : Prop where
  perm : (arrOf st).Perm a₀
  kind : kindOf st = κ
  ok : failedOf st = none
theorem SB.size {st : SortSt} (h : SB a₀ κ st) : (arrOf st).size = a₀.size := h.perm.size_eq
theorem SB.put {st : SortSt} (h : SB a₀ κ st) {xs : Array Keyed} (hp : xs.Perm (arrOf st)) : SB a₀ κ (setArr st xs) := ⟨hp.trans h.perm, h.kind, h.ok⟩
theorem SB.mem {st : SortSt} (h : SB a₀ κ st) {z : Keyed} (hz : z ∈ arrOf st) : z ∈ a₀ := h.perm.mem_iff.mp hz
/-- what lies ahead of lo stays -/
def Pre (lo : Nat) (xs ys : Array Keyed) : Prop := ∀ k, k < lo → ys[k]? = xs[k]?
theorem Pre.refl {lo : Nat} {xs : Array Keyed} : Pre lo xs xs := fun _ _ => rfl
theorem Pre.trans {lo : Nat} {xs ys zs : Array Keyed} (h : Pre lo xs ys) (g : Pre lo ys zs) : Pre lo xs zs := fun k hk => (g k hk).trans (h k hk)
end
end L2
end

section
set_option Elab.async false
set_option linter.all false
set_option maxRecDepth 100000
set_option maxHeartbeats 4000000
namespace L2
open PySem PySem.W PyProof.Rows
section
variable {prog : Program} {w : World} {A : Around} {E : Value → Shared → Prop} {s : Shared} {κ : SortKind} {r : Keyed → Int} {a₀ : Array Keyed}
end
end L2
end

section
set_option Elab.async false
set_option linter.all false
set_option maxRecDepth 100000
set_option maxHeartbeats 4000000
namespace L2
open PySem PySem.W PyProof.Rows
section
variable {r : Keyed → Int} {xs ys : Array Keyed}
theorem Sg.congr {lo hi : Nat} (h : Sg r xs lo hi) (e : ∀ k, lo ≤ k → k < hi → ys[k]? = xs[k]?) : Sg r ys lo hi := fun i j h1 h2 h3 => by
  rw [Rk.congr (e i h1 (by omega)), Rk.congr (e j (by omega) h3)]; exact h i j h1 h2 h3
/-- the runs, one behind the other -/
def Segs (r : Keyed → Int) (xs : Array Keyed) : Nat → List (Nat × Nat × Nat) → Nat → Prop
  | lo, [], hi => lo = hi
  | lo, p :: ps, hi => p.1 = lo ∧ 1 ≤ p.2.1 ∧ Sg r xs lo (lo + p.2.1) ∧ Segs r xs (lo + p.2.1) ps hi
theorem Segs.le : ∀ {lo : Nat} {ps : List (Nat × Nat × Nat)} {hi : Nat}, Segs r xs lo ps hi → lo + ps.length ≤ hi
  | lo, [], hi, h => by have : lo = hi := h; simp; omega
  | lo, p :: ps, hi, ⟨h1, h2, _, h4⟩ => by have := h4.le; rw [List.length_cons]; omega
theorem Segs.congr : ∀ {lo : Nat} {ps : List (Nat × Nat × Nat)} {hi : Nat}, Segs r xs lo ps hi → (∀ k, lo ≤ k → k < hi → ys[k]? = xs[k]?) → Segs r ys lo ps hi
  | lo, [], hi, h, _ => h
  | lo, p :: ps, hi, ⟨h1, h2, h3, h4⟩, e => ⟨h1, h2, h3.congr fun k a b => e k a (by have := h4.le; omega), h4.congr fun k a b => e k (by omega) b⟩
theorem Segs.app : ∀ {lo : Nat} {ps qs : List (Nat × Nat × Nat)} {hi : Nat}, Segs r xs lo (ps ++ qs) hi ↔ ∃ m, Segs r xs lo ps m ∧ Segs r xs m qs hi
  | lo, [], qs, hi => ⟨fun h => ⟨lo, rfl, h⟩, fun ⟨m, h1, h2⟩ => by have : lo = m := h1; subst this; exact h2⟩
  | lo, p :: ps, qs, hi => ⟨fun ⟨h1, h2, h3, h4⟩ => by
      obtain ⟨m, a, b⟩ := Segs.app.mp h4
      exact ⟨m, ⟨h1, h2, h3, a⟩, b⟩, fun ⟨m, ⟨h1, h2, h3, a⟩, b⟩ => ⟨h1, h2, h3, Segs.app.mpr ⟨m, a, b⟩⟩⟩
end
section
variable {prog : Program} {w : World} {A : Around} {E : Value → Shared → Prop} {s : Shared} {κ : SortKind} {r : Keyed → Int} {a₀ : Array Keyed}
end
end L2
end

section
set_option Elab.async false
set_option linter.all false
set_option maxRecDepth 100000
set_option maxHeartbeats 4000000
namespace L2
open PySem PySem.W PyProof.Rows
section
variable {prog : Program} {w : World} {A : Around} {E : Value → Shared → Prop} {s : Shared} {κ : SortKind} {r : Keyed → Int} {a₀ : Array Keyed}
end
end L2
end

section
set_option Elab.async false
set_option linter.all false
set_option maxRecDepth 100000
set_option maxHeartbeats 4000000
/-! ## the sort of any number of unlike things, by their numbers -/
namespace L2
open PySem PySem.W PyProof.Rows
theorem smallB {n : Nat} (h : n ≤ 1000000) : n ≤ sizeLine := Nat.le_of_lt (Nat.lt_of_le_of_lt h (by decide))
theorem smallB1 {n : Nat} (h : n ≤ 1000000) : n < sizeLine := Nat.lt_of_le_of_lt h (by decide)
section
variable {prog : Program} {w : World} {A : Around} {E : Value → Shared → Prop} {s : Shared} {κ : SortKind}
end
end L2
end

section
set_option Elab.async false
set_option linter.all false
set_option maxRecDepth 100000
set_option maxHeartbeats 2000000
/-! ## sorted(.., key=): sets by their length, then by their members -/
namespace L2
open PySem PySem.Spec PySem.W PyProof.Rows Builtin
def setLt (x y : List Int) : Bool := decide (x.length < y.length) || (decide (x.length = y.length) && HT.lexLt x y)
section
variable {P : Program} {w : World} {A : Around} {E : Value → Shared → Prop} {s : Shared}
end
end L2
end

section
set_option Elab.async false
set_option linter.all false
set_option maxRecDepth 100000
set_option maxHeartbeats 4000000
/-! ## sorted(.., key=f): the call -/
namespace L2
open PySem PySem.Spec PySem.W PyProof.Rows Builtin
section
variable {P : Program} {w : World} {H H1 : Hp} {h h1 h2 : Heap} {e a : Addr} {o : HO} {fs : List Addr}
theorem hok_off (x : HOk P w H h) (hn : H e = none) (k : ∀ b u, b ≠ e → h.get? b = some u → h2.get? b = some u) : HOk P w H h2 := fun a o ea =>
  (x a o ea).stay (fun b u hb q => k b u (fun z => by
    subst z
    rcases hb with rfl | hb
    · rw [hn] at ea; cases ea
    · rw [hn] at hb; cases hb) q) (fun _ q => q) fun _ _ q => q
theorem un_off (u : Un fs [] H H1 h h1) (he : h.objs.size ≤ e) (k : ∀ b u, b ≠ e → h1.get? b = some u → h2.get? b = some u) : Un fs [] H H1 h h2 :=
  have ne : ∀ b ob, h.get? b = some ob → b ≠ e := fun b ob q => Nat.ne_of_lt (Nat.lt_of_lt_of_le (Heap.lt_size q) he)
  ⟨fun b ob q n hb hx => k _ _ (ne b ob q) (u.keep b ob q n hb hx), fun b ob q n hb hx => let ⟨sl, r⟩ := u.slot b ob q n hb hx; ⟨sl, k _ _ (ne b ob q) r⟩, u.free, fun b ob q hx => let ⟨o', r⟩ := u.there b ob q hx; ⟨o', k _ _ (ne b ob q) r⟩, u.tups, u.frzs, u.tbls⟩
end
/-- order_of: the length, then the thing itself -/
def spOrd : Sp := fun vs H Q _ => ∃ a, vs = [.ref a] ∧ ∃ xs, H a = some (.tup xs) ∧ ∀ p, H p = none → Q (.ref p) (upd H p (.tup [.int xs.length, .ref a]))
section
variable {X : Cx} {pins : List (Addr × Obj)} {σ : St} {H : Hp} {s : Shared}
/-- a state behind s in which the new untracked things at D and S are known -/
structure Mid (X : Cx) (H : Hp) (s : Shared) (D S : Addr) (e1 : Nat) (H' : Hp) (s' : Shared) (kA : Array Value) : Prop where
  os : s'.os = s.os
  bare : AllBare s'.gens
  un : Un (frs X.stack) [] H H' s.heap s'.heap
  hok : HOk X.prog X.w H' s'.heap
  same : Same H H'
  nD : H' D = none
  nS : H' S = none
  oD : s'.heap.get? D = some (seqObj "list" #[] e1)
  oS : ∃ e, s'.heap.get? S = some (seqObj "list" kA e)
/-- one key -/
theorem Mid.call {D S : Addr} {e1 : Nat} {H' : Hp} {s' : Shared} {kA : Array Value} (I : Inv X pins σ H s) (m : Mid X H s D S e1 H' s' kA) (hD : s.heap.objs.size ≤ D) (hS : s.heap.objs.size ≤ S) {k : Nat} {f : Addr} {fd : FuncData} {pm : Str} (F : FnOk X.prog X.w X.K X.mg X.base CX0 k f fd [pm] spOrd) (hr : Room k X.A.in1.in1)
    (hb : Binds X.K fd [pm] []) {a : Addr} {xs : List V} (ha : H a = some (.tup xs)) {Q : Value → Shared → Prop} {E : Value → Shared → Prop}
    (q : ∀ p s2, H' p = none → Mid X H s D S e1 (upd H' p (.tup [.int xs.length, .ref a])) s2 kA → Q (.ref p) s2) : wpAny (model X.prog X.w) X.A.in1.in1 (call (.ref f) [.ref a]) Q E s' := by
  have I' : Inv X pins σ H' s' := I.call' (ch := []) m.os m.un m.hok m.bare (fun b z => absurd z (by simp))
  have nfD : ∀ b, s.heap.objs.size ≤ b → b ∉ frs X.stack := fun b hb z => by
    rcases List.mem_cons.mp (I.stkSub b z) with z | z
    · exact absurd (Nat.lt_of_lt_of_le I.lt hb) (by rw [z]; exact Nat.lt_irrefl _)
    · exact I.nofs hb z
  refine wpAny_call (codeAny_mono (F.run X.A.in1.in1 X.stack s' H' ⟨[.ref a], []⟩ [.ref a] [.ref a] (fun v H2 => ∃ p, v = .ref p ∧ H' p = none ∧ H2 = upd H' p (.tup [.int xs.length, .ref a])) (fun _ _ _ => False) hr I'.env0.in1.in1 (hb s' [.ref a] I'.kIn rfl) (.cons rfl .nil) ⟨a, rfl, xs, m.same _ _ ha, fun p hp => ⟨p, rfl, hp, rfl⟩⟩) fun r s2 hq => ?_)
  cases r with
  | error e => exact False.elim hq
  | ok fl =>
    cases fl with
    | next => exact False.elim hq
    | brk => exact False.elim hq
    | cont => exact False.elim hq
    | ret u =>
      obtain ⟨v, H2, os, bare, un, hok, rv, p, rfl, hp, rfl⟩ := hq
      cases rv
      obtain ⟨eS, oS⟩ := m.oS
      exact q p s2 hp ⟨os.trans m.os, bare, m.un.trans un, hok, m.same.trans fun b u eb => by rw [upd_ne (ne_of_none eb hp)]; exact eb, un.free D _ m.oD m.nD (by simp), un.free S _ oS m.nS (by simp), un.keep D _ m.oD m.nD (nfD D hD) (by simp), eS, un.keep S _ oS m.nS (nfD S hS) (by simp)⟩
/-- the key is put to the others -/
theorem Mid.push {D S : Addr} {e1 : Nat} {H' : Hp} {s' : Shared} {kA : Array Value} (m : Mid X H s D S e1 H' s' kA) (hS : s.heap.objs.size ≤ S) (hDS : D ≠ S) (g : Array Value → Array Value) : Mid X H s D S e1 H' { s' with heap := s'.heap.update S (Obj.mapSeq g) } (g kA) := by
  obtain ⟨eS, oS⟩ := m.oS
  have sb := Heap.SameBut.update s'.heap S (Obj.mapSeq g)
  have k : ∀ b u, b ≠ S → s'.heap.get? b = some u → (s'.heap.update S (Obj.mapSeq g)).get? b = some u := fun b u nb q => (sb.2 b nb).trans q
  exact ⟨m.os, m.bare, un_off m.un hS k, hok_off m.hok m.nS k, m.same, m.nD, m.nS, k _ _ hDS m.oD, _, get?_update_seq oS g⟩
end
end L2
end

section
set_option Elab.async false
set_option linter.all false
set_option maxRecDepth 100000
set_option maxHeartbeats 4000000
namespace L2
open PySem PySem.Spec PySem.W PyProof.Rows Builtin
section
variable {P : Program} {w : World} {H' : Hp} {h : Heap} {p a : Addr}
end
section
variable {X : Cx} {pins : List (Addr × Obj)} {σ : St} {H : Hp} {s : Shared}
/-- what stands behind the sort -/
structure Fin (X : Cx) (H : Hp) (s : Shared) (D : Addr) (H' : Hp) (s' : Shared) (bs : List Addr) : Prop where
  os : s'.os = s.os
  bare : AllBare s'.gens
  un : Un (frs X.stack) [] H H' s.heap s'.heap
  hok : HOk X.prog X.w H' s'.heap
  same : Same H H'
  nD : H' D = none
  oD : ∃ c, s'.heap.get? D = some (seqObj "list" (bs.map Value.ref).toArray c)
end
end L2
end

section
set_option Elab.async false
set_option linter.all false
set_option maxRecDepth 100000
set_option maxHeartbeats 4000000
namespace L2
open PySem PySem.Spec PySem.W PyProof.Rows Builtin
section
variable {X : Cx} {pins : List (Addr × Obj)} {σ : St} {H : Hp} {s : Shared}
end
end L2
end

section
set_option Elab.async false
set_option linter.all false
set_option maxRecDepth 100000
set_option maxHeartbeats 4000000
/-! ## a dict's keys walked, whatever they are -/
namespace L2
open PySem PySem.Spec PySem.W PyProof.Rows Builtin
def RawAt (h : Heap) (d : Addr) (es : Array DictEntry) (ep : Nat) : Prop := ∃ o, h.get? d = some o ∧ o.ExactDict ∧ o.data = .dict es ep
section
variable {P : Program} {w : World} {A : Around} {E : Value → Shared → Prop} {s : Shared} {d it : Addr} {es : Array DictEntry} {ep i : Nat}
theorem RawAt.ty (r : RawAt s.heap d es ep) : s.TypeIs (.ref d) "dict" := let ⟨o, e, c, _⟩ := r; ⟨o, e, c.1⟩
theorem RawAt.on {h h' : Heap} (r : RawAt h d es ep) (k : ∀ o, h.get? d = some o → h'.get? d = some o) : RawAt h' d es ep := let ⟨o, e, c⟩ := r; ⟨o, k _ e, c⟩
theorem raw_iter {Q : Value → Shared → Prop} (lo : (d == sysModules) = false) (r : RawAt s.heap d es ep) (q : Q (.ref s.heap.objs.size) { s with heap := s.heap.push { cls := .type "dict_keyiterator", data := .fields #[.ref d, .int 0 0, .int es.size 0, .int ep 0] } }) :
    wpAny (model P w) A (pyIter (.ref d)) Q E s := by
  have ty := r.ty
  obtain ⟨o, ho, hc, hdat⟩ := r
  refine wpAny_pyIter_slot ty PySem.F.slot_dict_iter (wpAny_call_entry PySem.F.slot_dict_iter ty PySem.F.entry_dict_iter ?_ (PySem.F.args_dict_iter_1 _))
  unfold Builtin.«dict.__iter__»
  refine wpAny_bind ?_
  unfold Builtin.Dict.dictSlotNone
  refine wpAny_bind (wpAny_notOrdered_dict ty (wpAny_pure ?_))
  refine (?_ : wpAny (model P w) _ (Builtin.Dict.showsAll d >>= _) _ _ s)
  unfold Builtin.Dict.showsAll
  rw [if_neg (fun z => by rw [lo] at z; cases z)]
  refine wpAny_bind (wpAny_pure (wpAny_bind (wpAny_dictEntries ho hdat (wpAny_bind (wpAny_dictEpoch ho hdat ?_)))))
  refine wpAny_bind (wpAny_newObj_type (wpAny_pure ⟨_, rfl, "dict_keyiterator", _, ⟨_, Heap.get?_push_size _ rfl, rfl⟩, PySem.F.slot_dict_keyiterator_next.lookup, ?_⟩))
  exact q
theorem raw_item {Q : Option Value → Shared → Prop} (ki : s.heap.IsKeyIter it d i es.size ep) (r : RawAt s.heap d es ep) (hi : i < es.size)
    (q : ∀ h', h'.IsKeyIter it d (i + 1) es.size ep → Heap.SameBut it s.heap h' → Q (some es[i].key) { s with heap := h' }) : wpAny (model P w) A (pyNext (.ref it)) Q E s := by
  obtain ⟨o, ho, hc, hd⟩ := id ki
  obtain ⟨od, hod, _, hdd⟩ := id r
  have ty := ki.typeIs
  unfold pyNext
  refine wpAny_bind (wpAny_attempt (wpAny_callSpecial?_slot (name := Str.ofString "__next__") ty PySem.F.slot_dict_keyiterator_next (wpAny_call_entry PySem.F.slot_dict_keyiterator_next ty PySem.F.entry_dict_keyiterator_next ?_ (PySem.F.args_dict_keyiterator_next_1 _))))
  refine wpAny_bind (wpAny_pure (wpAny_bind (wpAny_bind ?_)))
  first | refine wpAny_bind (wpAny_typeNameOfWhole_keyiter ty (wpAny_pure (wpAny_bind (wpAny_fieldsOf ho hd ?_)))) | refine wpAny_bind (wpAny_typeNameOf_keyiter ty (wpAny_pure (wpAny_bind (wpAny_fieldsOf ho hd ?_))))
  rw [show Builtin.Dict_items.ownsTuple "dict_keyiterator" = false by decide]
  simp only [Bool.false_eq_true, if_false]
  refine (?_ : wpAny (model P w) _ (if (Value.ref d == Value.none) = true then _ else _) _ _ s)
  rw [if_neg (fun z => by cases z)]
  refine wpAny_bind (wpAny_pure (wpAny_bind (wpAny_dictEntries hod hdd ?_)))
  rw [if_neg (by simp)]
  refine wpAny_bind (wpAny_pure (wpAny_bind (wpAny_dictEpoch hod hdd ?_)))
  rw [if_neg (by simp)]
  refine wpAny_pure ?_
  simp only [show ¬ ((i : Int) < 0) from by omega, if_false, Int.toNat_natCast, Array.getElem?_eq_getElem hi]
  refine wpAny_bind ?_
  first | refine wpAny_bind (wpAny_typeNameOfWhole_keyiter ty (wpAny_pure (wpAny_bind (wpAny_isOneOf_keyiter ty ?_)))) | refine wpAny_bind (wpAny_typeNameOf_keyiter ty (wpAny_pure (wpAny_bind (wpAny_isOneOf_keyiter ty ?_))))
  refine (?_ : wpAny (model P w) _ (setField (.ref it) 1 (rawInt ((i : Int) + 1)) >>= _) _ _ s)
  refine wpAny_bind (wpAny_setField ho hd (by simp) ?_)
  have ki' : (s.heap.update it (Obj.mapFields (·.setIfInBounds 1 (rawInt ((i : Int) + 1))))).IsKeyIter it d (i + 1) es.size ep := by
    refine ⟨_, Heap.get?_update_self _ ho (Obj.isFreed_of_fields (Obj.data_mapFields hd _)), (Obj.cls_mapFields ..).trans hc, ?_⟩
    rw [Obj.data_mapFields hd]
    simp [rawInt]
  refine wpAny_bind (wpAny_holding (wpAny_bind (wpAny_isOneOf_keyiter (s := { s with heap := s.heap.update it (Obj.mapFields (·.setIfInBounds 1 (rawInt ((i : Int) + 1)))) }) ki'.typeIs ?_)))
  exact wpAny_pure (wpAny_pure ⟨_, rfl, wpAny_pure (q _ ki' (Heap.SameBut.update ..))⟩)
theorem raw_end {Q : Option Value → Shared → Prop} (hh : A.handled = none) (ki : s.heap.IsKeyIter it d i es.size ep) (r : RawAt s.heap d es ep) (hi : es.size ≤ i)
    (q : ∀ h', Heap.ExtBut it s.heap h' → Q none { s with heap := h' }) : wpAny (model P w) A (pyNext (.ref it)) Q E s := by
  obtain ⟨o, ho, hc, hd⟩ := id ki
  obtain ⟨od, hod, _, hdd⟩ := id r
  have ty := ki.typeIs
  unfold pyNext
  refine wpAny_bind (wpAny_attempt (wpAny_callSpecial?_slot (name := Str.ofString "__next__") ty PySem.F.slot_dict_keyiterator_next (wpAny_call_entry PySem.F.slot_dict_keyiterator_next ty PySem.F.entry_dict_keyiterator_next ?_ (PySem.F.args_dict_keyiterator_next_1 _))))
  refine wpAny_bind (wpAny_pure (wpAny_bind (wpAny_bind ?_)))
  first | refine wpAny_bind (wpAny_typeNameOfWhole_keyiter ty (wpAny_pure (wpAny_bind (wpAny_fieldsOf ho hd ?_)))) | refine wpAny_bind (wpAny_typeNameOf_keyiter ty (wpAny_pure (wpAny_bind (wpAny_fieldsOf ho hd ?_))))
  rw [show Builtin.Dict_items.ownsTuple "dict_keyiterator" = false by decide]
  simp only [Bool.false_eq_true, if_false]
  refine (?_ : wpAny (model P w) _ (if (Value.ref d == Value.none) = true then _ else _) _ _ s)
  rw [if_neg (fun z => by cases z)]
  refine wpAny_bind (wpAny_pure (wpAny_bind (wpAny_dictEntries hod hdd ?_)))
  rw [if_neg (by simp)]
  refine wpAny_bind (wpAny_pure (wpAny_bind (wpAny_dictEpoch hod hdd ?_)))
  rw [if_neg (by simp)]
  refine wpAny_pure ?_
  simp only [show ¬ ((i : Int) < 0) from by omega, if_false, Int.toNat_natCast, Array.getElem?_eq_none hi]
  refine wpAny_bind ?_
  first | refine wpAny_bind (wpAny_typeNameOfWhole_keyiter ty (wpAny_pure ?_)) | refine wpAny_bind (wpAny_typeNameOf_keyiter ty (wpAny_pure ?_))
  refine (?_ : wpAny (model P w) _ (setField (.ref it) 0 .none >>= _) _ _ s)
  refine wpAny_bind (wpAny_setField ho hd (by simp) ?_)
  refine (?_ : wpAny (model P w) _ (newExc (.type "StopIteration") [] >>= _) _ _ _)
  refine wpAny_bind ?_
  simp only [newExc, newTuple]
  refine wpAny_bind (wpAny_newObj_type ?_ (by size_fits))
  refine wpAny_bind (m := firstArgMember _ _) (wpAny_of_eq (a := Value.none)
    (by first | rfl | (simp only [firstArgMember]; rfl)) ?_)
  refine wpAny_newObj_type ?_ (by size_fits)
  simp only [raiseNew]
  refine wpAny_bind (wpAny_handled ?_)
  rw [show A.in1.handled = none from hh]
  refine wpAny_bind (wpAny_pure (wpAny_throw ?_))
  refine wpAny_bind (wpAny_isInstance (T := "StopIteration") (b := true)
    ⟨_, Heap.get?_push_size _ rfl, rfl⟩ isSubtype_stop ?_)
  exact wpAny_pure (q _ (((Heap.SameBut.update ..).extBut.push _).push _))
end
end L2
end

section
set_option Elab.async false
set_option linter.all false
set_option maxRecDepth 100000
set_option maxHeartbeats 4000000
/-! ## sorted(dict of sets, key=f) as a term -/
namespace L2
open PySem PySem.Spec PySem.W PyProof.Rows Builtin
/-- sets at addresses -/
def SetsAt (H : Hp) (bs : List Addr) (ts : List (List Int)) : Prop := bs.length = ts.length ∧ ∀ (i : Nat) b t, bs[i]? = some b → ts[i]? = some t → H b = some (.tup (List.map V.int t))
def qSortT (x : V) (H : Hp) (Q : VK) : Prop := ∃ d, x = .ref d ∧ ∃ kvs ss, H d = some (.dT kvs) ∧ kvs.map (·.1) = ss.map (List.map Sum.inl) ∧ ss.length < 100000 ∧
  ∀ D H' bs ts, Same H H' → H D = none → H' D = some (.lst (List.map V.ref bs)) → SetsAt H' bs ts → ts.Perm ss → ts.Pairwise (fun a b => setLt a b = true) → Q (.ref D) H'
def tSortK (te : TE) : TE := fun σ H Q => te σ H fun x H1 => qSortT x H1 Q
section
variable {X : Cx} {k : Nat} {f : Addr} {fd : FuncData} {pm g : Str} {e : Expr} {te : TE} {p kp kpos pos : Pos}
end
end L2
end

section
set_option Elab.async false
set_option linter.all false
set_option maxRecDepth 100000
set_option maxHeartbeats 4000000
/-! ## any(); // by large divisors; sorted(.., key=f) shut -/
namespace L2
open PySem PySem.Spec PySem.W PyProof.Rows Builtin
section
variable {X : Cx}
def CDivB (i j : Int) : Prop := 0 < j ∧ j < 2 ^ 300
theorem op_fdivB : OpR X (binaryOp .FloorDiv) (rI CDivB fun i j => .int (i / j)) := opI fun i j _ _ _ _ _ hc q => by
  have h1 : (0 : Int) < j := hc.1
  have h2 : j < 2 ^ 300 := hc.2
  refine floordiv_int (by omega) (by rw [Int.fdiv_eq_ediv_of_nonneg i (by omega)]; exact q) (.inl (PyProof.noPylong_of_log2 ?_))
  have h3 : j.natAbs < 2 ^ 300 := by omega
  have h4 : j.natAbs ≠ 0 := by omega
  have := (Nat.log2_lt h4).mpr h3
  omega
def qAnyB : List V → Hp → VK → Prop := fun vs H Q => ∃ a, vs = [.ref a] ∧ ∃ bs : List Bool, H a = some (.lst (bs.map V.bl)) ∧ Q (.bl (bs.any id)) H
variable {k : Nat} {f : Addr} {fd : FuncData} {pm g : Str} {e : Expr} {te : TE} {p kp kpos pos : Pos}
/-- xs.insert(i, y) -/
def rInsert : V → List V → Hp → VK → Prop := fun x vs H Q => ∃ l i y, x = .ref l ∧ vs = [.int i, y] ∧ ∃ xs, H l = some (.lst xs) ∧ 0 ≤ i ∧ i ≤ xs.length ∧ xs.length < 100000 ∧ Q .non (upd H l (.lst (xs.take i.toNat ++ y :: xs.drop i.toNat)))
end
end L2
namespace L2
open PySem PySem.Spec PySem.W PyProof.Rows Builtin
end L2
end

section
set_option Elab.async false
set_option linter.all false
set_option maxRecDepth 100000
set_option maxHeartbeats 4000000
/-! ## a list walked from behind -/
namespace L2
open PySem PySem.Spec PyProof.Rows
def Itrv (K : PySem.W.Frag) (a : Addr) (n : Nat) : It :=
  ⟨fun i H => i < n ∧ ∃ xs, SqL K H a xs ∧ xs.length = n, fun i H x H' => H' = H ∧ ∀ xs, SqL K H a xs → xs[n - 1 - i]? = some x, fun i _ => i = n⟩
section
variable {X : Cx} {tg : Expr}
def iRev (K : PySem.W.Frag) (ta : TA) : TI := fun σ H R => ta σ H fun vs H1 => ∃ a, vs = [.ref a] ∧ ∃ xs, SqL K H1 a xs ∧ R (Itrv K a xs.length) H1
end
end L2
end

section
set_option Elab.async false
set_option linter.all false
set_option maxRecDepth 100000
set_option maxHeartbeats 4000000
/-! ## list.insert; == and != of sets (tuples of ints) and of lists of them -/
namespace L2
open PySem PySem.Spec PyProof.Rows
theorem all_same {α : Type} [DecidableEq α] {cl dl : List α} : ((List.range (min cl.length dl.length)).all (fun j => decide (cl[j]? = dl[j]?)) && cl.length == dl.length) = decide (cl = dl) := by
  rw [Bool.eq_iff_iff, Bool.and_eq_true, List.all_eq_true, decide_eq_true_iff, beq_iff_eq]
  constructor
  · rintro ⟨h, l⟩
    apply List.ext_getElem?
    intro i
    by_cases hi : i < cl.length
    · exact of_decide_eq_true (h i (List.mem_range.mpr (by omega)))
    · rw [List.getElem?_eq_none (by omega), List.getElem?_eq_none (by omega)]
  · rintro rfl
    exact ⟨fun j _ => decide_eq_true rfl, rfl⟩
theorem ints_inj : ∀ {x y : List Int}, List.map V.int x = List.map V.int y → x = y
  | [], [], _ => rfl
  | [], _ :: _, h => by cases h
  | _ :: _, [], h => by cases h
  | a :: x, b :: y, h => by
    rw [List.map_cons, List.map_cons] at h
    injection h with h1 h2
    rw [V.int.inj h1, ints_inj h2]
section
variable {X : Cx} {pins : List (Addr × Obj)} {s : Shared} {σ : St} {H : Hp} {A : Around}
theorem eq_int_items {x y : List Int} {us ws : List Value} (r1 : Vals (List.map V.int x) us) (r2 : Vals (List.map V.int y) ws) (j : Nat) (h1 : j < us.toArray.size) (h2 : j < ws.toArray.size) :
    SeqAt.EqAt A s us.toArray[j] ws.toArray[j] (decide (x[j]? = y[j]?)) := by
  have l1 := r1.length
  have l2 := r2.length
  rw [List.length_map] at l1 l2
  have j1 : j < x.length := by rw [l1]; simpa using h1
  have j2 : j < y.length := by rw [l2]; simpa using h2
  have e1 : x[j]? = some x[j] := List.getElem?_eq_getElem j1
  have e2 : y[j]? = some y[j] := List.getElem?_eq_getElem j2
  have h := eqAt_V (A := A) (s := s) (vals_at (x := .int x[j]) r1 h1 (by rw [List.getElem?_map, e1]; rfl)) (vals_at (x := .int y[j]) r2 h2 (by rw [List.getElem?_map, e2]; rfl)) rfl rfl
  have e3 : eqV (.int x[j]) (.int y[j]) = decide (x[j]? = y[j]?) := by
    rw [e1, e2, Bool.eq_iff_iff, decide_eq_true_iff, Option.some.injEq]
    show (x[j] == y[j]) = true ↔ _
    rw [beq_iff_eq]
  rw [e3] at h
  exact h
theorem eq_set {p q : Addr} {x y : List Int} (I : Inv X pins σ H s) (hp : H p = some (.tup (List.map V.int x))) (hq : H q = some (.tup (List.map V.int y))) (hu : A.units < cLine) : SeqAt.EqAt A s (.ref p) (.ref q) (decide (x = y)) := by
  by_cases e : p = q
  · subst e
    have : x = y := by
      have h := hp.symm.trans hq
      simp only [Option.some.injEq, HO.tup.injEq] at h
      exact ints_inj h
    rw [decide_eq_true this]
    exact SeqAt.EqAt.same _
  · obtain ⟨us, r1, t1, _⟩ := I.tuple (sqT_of hp)
    obtain ⟨ws, r2, t2, _⟩ := I.tuple (sqT_of hq)
    have l1 := r1.length
    have l2 := r2.length
    rw [List.length_map] at l1 l2
    have h := SeqAt.RcAt.tuples (A := A) (e := fun j => decide (x[j]? = y[j]?)) t1 t2 hu fun j h1 h2 => eq_int_items r1 r2 j h1 h2
    rw [List.size_toArray, List.size_toArray, ← l1, ← l2, all_same] at h
    exact .of_refs e h
theorem eq_set_items {ps qs : List Addr} {us ws : List Value} {cl dl : List (List Int)} (I : Inv X pins σ H s) (r1 : Vals (List.map V.ref ps) us) (r2 : Vals (List.map V.ref qs) ws) (a : SetsAt H ps cl) (b : SetsAt H qs dl) (hu : A.units < cLine) (j : Nat) (h1 : j < us.toArray.size) (h2 : j < ws.toArray.size) :
    SeqAt.EqAt A s us.toArray[j] ws.toArray[j] (decide (cl[j]? = dl[j]?)) := by
  have l1 := r1.length
  have l2 := r2.length
  rw [List.length_map] at l1 l2
  have j1 : j < ps.length := by rw [l1]; simpa using h1
  have j2 : j < qs.length := by rw [l2]; simpa using h2
  have e1 : ps[j]? = some ps[j] := List.getElem?_eq_getElem j1
  have e2 : qs[j]? = some qs[j] := List.getElem?_eq_getElem j2
  have k1 : j < cl.length := by rw [← a.1]; exact j1
  have k2 : j < dl.length := by rw [← b.1]; exact j2
  have c1 : cl[j]? = some cl[j] := List.getElem?_eq_getElem k1
  have c2 : dl[j]? = some dl[j] := List.getElem?_eq_getElem k2
  have v1 : us.toArray[j] = .ref ps[j] := vals_at (x := .ref ps[j]) r1 h1 (by rw [List.getElem?_map, e1]; rfl)
  have v2 : ws.toArray[j] = .ref qs[j] := vals_at (x := .ref qs[j]) r2 h2 (by rw [List.getElem?_map, e2]; rfl)
  have := eq_set (A := A) I (a.2 j _ _ e1 c1) (b.2 j _ _ e2 c2) hu
  rw [v1, v2, c1, c2]
  have e3 : decide ((some cl[j] : Option (List Int)) = some dl[j]) = decide (cl[j] = dl[j]) := by simp only [Option.some.injEq]
  rw [e3]; exact this
/-- sets -/
def qEqTI (neg : Bool) : R2 := fun x y H Q => ∃ a b, x = .ref a ∧ y = .ref b ∧ ∃ u v : List Int, H a = some (.tup (List.map V.int u)) ∧ H b = some (.tup (List.map V.int v)) ∧ Q (.bl (if neg then !decide (u = v) else decide (u = v))) H
theorem op_neTI (hu : X.A.units + 1 < cLine) : OpR X (compareOp .NotEq) (qEqTI true) := by
  intro pins s σ H x y v u Q I rx ry h
  obtain ⟨a, b, rfl, rfl, cl, dl, h1, h2, q⟩ := h
  cases rx; cases ry
  obtain ⟨us, r1, t1, _⟩ := I.tuple (sqT_of h1)
  obtain ⟨ws, r2, t2, _⟩ := I.tuple (sqT_of h2)
  have l1 := r1.length
  have l2 := r2.length
  rw [List.length_map] at l1 l2
  refine SeqAt.RcNeAt.tuples (e := fun j => decide (cl[j]? = dl[j]?)) t1 t2 (by omega) (fun j h1 h2 => eq_int_items r1 r2 j h1 h2) _ _ _ _ ⟨.bl _, H, I, rfl, ?_⟩
  rw [List.size_toArray, List.size_toArray, ← l1, ← l2, all_same]
  exact q
/-- lists of sets -/
def qEqSL (neg : Bool) : R2 := fun x y H Q => ∃ a b, x = .ref a ∧ y = .ref b ∧ ∃ ps qs cl dl, H a = some (.lst (List.map V.ref ps)) ∧ H b = some (.lst (List.map V.ref qs)) ∧ SetsAt H ps cl ∧ SetsAt H qs dl ∧ Q (.bl (if neg then !decide (cl = dl) else decide (cl = dl))) H
theorem op_neSL (hu : X.A.units + 1 < cLine) : OpR X (compareOp .NotEq) (qEqSL true) := by
  intro pins s σ H x y v u Q I rx ry h
  obtain ⟨a, b, rfl, rfl, ps, qs, cl, dl, h1, h2, a1, a2, q⟩ := h
  cases rx; cases ry
  obtain ⟨us, r1, t1, _⟩ := I.list (sqL_of h1)
  obtain ⟨ws, r2, t2, _⟩ := I.list (sqL_of h2)
  have l1 := r1.length
  have l2 := r2.length
  rw [List.length_map] at l1 l2
  by_cases hl : cl.length = dl.length
  · refine SeqAt.RcNeAt.lists (e := fun j => decide (cl[j]? = dl[j]?)) t1.isList t2.isList (by rw [List.size_toArray, List.size_toArray, ← l1, ← l2, a1.1, a2.1, hl]) (by omega) (fun j h1 h2 => eq_set_items I r1 r2 a1 a2 (by rw [Around.in1_units]; omega) j h1 h2) _ _ _ _ ⟨.bl _, H, I, rfl, ?_⟩
    have e := all_same (cl := cl) (dl := dl)
    rw [hl, Nat.min_self, beq_self_eq_true, Bool.and_true] at e
    rw [List.size_toArray, ← l1, a1.1, hl, e]
    exact q
  · refine SeqAt.RcNeAt.lists_lengths t1.isList t2.isList (by rw [List.size_toArray, List.size_toArray, ← l1, ← l2, a1.1, a2.1]; simpa using hl) (by omega) _ _ _ _ ⟨.bl _, H, I, rfl, ?_⟩
    have e : decide (cl = dl) = false := decide_eq_false fun z => hl (by rw [z])
    have q' : Q (.bl (!decide (cl = dl))) H := q
    rw [e] at q'
    exact q'
end
end L2
end

section
set_option Elab.async false
set_option linter.all false
set_option maxRecDepth 100000
set_option maxHeartbeats 4000000
/-! ## a comprehension that has cells of its own: a comprehension within it reads its variable -/
namespace L2
open PySem PySem.Spec PyProof.Rows
section
variable {X : Cx} {pins : List (Addr × Obj)} {σ : St} {H : Hp} {s : Shared}
end
section
variable {X : Cx} {elt target iter : Expr} {ifs : List Expr} {scope : Scope} {pos : Pos} {cs xs : List Str} {idx : List Nat} {wi : TI} {g : CB → TG} {tt : CB → TT} {te : CB → TE}
end
section
variable {X : Cx} {N : List Str} {osc : Scope} {elt target iter : Expr} {ifs : List Expr} {scope : Scope} {pos : Pos} {wi : TI} {g : CB → TG} {tt : CB → TT} {te : CB → TE}
end
end L2
end

section
set_option Elab.async false
set_option linter.all false
set_option maxRecDepth 100000
set_option maxHeartbeats 4000000
/-! ## words joined and cut again; two tuples walked side by side -/
namespace L2
open PySem PySem.Spec PyProof.Rows
section
variable {prog : Program} {w : World} {A : Around} {E : Value → Shared → Prop} {s : Shared}
end
section
variable {X : Cx}
end
end L2
end

section
set_option Elab.async false
set_option linter.all false
set_option maxRecDepth 100000
set_option maxHeartbeats 4000000
/-! ## the places of a set's table rise -/
namespace L2
open PySem PySem.Spec PyProof.Rows
def Up (xs : Array Nat) : Prop := xs.toList.Pairwise (· < ·)
theorem Up.lt {xs : Array Nat} (u : Up xs) {i k : Nat} (h : i < k) (hk : k < xs.size) : xs.getD i 0 < xs.getD k 0 := by
  have h1 : i < xs.toList.length := by rw [Array.length_toList]; omega
  have h2 : k < xs.toList.length := by rw [Array.length_toList]; omega
  have := (List.pairwise_iff_getElem.mp u) i k h1 h2 h
  rw [Array.getElem_toList, Array.getElem_toList] at this
  rw [Array.getD_eq_getD_getElem?, Array.getD_eq_getD_getElem?, Array.getElem?_eq_getElem (by omega), Array.getElem?_eq_getElem hk]
  exact this
theorem getD_any {xs : Array Nat} {i j : Nat} (h : i < xs.size) : xs.getD i j = xs.getD i 0 := by
  rw [Array.getD_eq_getD_getElem?, Array.getD_eq_getD_getElem?, Array.getElem?_eq_getElem h]; rfl
theorem below_go {xs : Array Nat} {j : Nat} (u : Up xs) : ∀ (f lo hi : Nat), hi - lo ≤ f → lo ≤ hi → hi ≤ xs.size → (∀ i, i < lo → xs.getD i 0 < j) → (∀ i, hi ≤ i → i < xs.size → j ≤ xs.getD i 0) →
    SetTable.below.go xs j f lo hi ≤ xs.size ∧ (∀ i, i < SetTable.below.go xs j f lo hi → xs.getD i 0 < j) ∧ ∀ i, SetTable.below.go xs j f lo hi ≤ i → i < xs.size → j ≤ xs.getD i 0
  | 0, lo, hi, h0, h1, h2, a, b => by
    have e : lo = hi := by omega
    subst e
    exact ⟨h2, a, b⟩
  | f + 1, lo, hi, h0, h1, h2, a, b => by
    unfold SetTable.below.go
    by_cases c : lo < hi
    · rw [if_pos c]
      dsimp only
      have hm : (lo + hi) / 2 < xs.size := by omega
      rw [getD_any hm]
      by_cases d : xs.getD ((lo + hi) / 2) 0 < j
      · rw [if_pos d]
        refine below_go u f _ _ (by omega) (by omega) h2 (fun i hi' => ?_) b
        by_cases e : i = (lo + hi) / 2
        · rw [e]; exact d
        · have := u.lt (i := i) (k := (lo + hi) / 2) (by omega) hm; omega
      · rw [if_neg d]
        refine below_go u f _ _ (by omega) (by omega) (by omega) a fun i hi' hz => ?_
        by_cases e : i = (lo + hi) / 2
        · rw [e]; omega
        · have := u.lt (i := (lo + hi) / 2) (k := i) (by omega) hz; omega
    · rw [if_neg c]
      have e : lo = hi := by omega
      subst e
      exact ⟨h2, a, b⟩
theorem below_spec {xs : Array Nat} (u : Up xs) (j : Nat) : SetTable.below xs j ≤ xs.size ∧ (∀ i, i < SetTable.below xs j → xs.getD i 0 < j) ∧ ∀ i, SetTable.below xs j ≤ i → i < xs.size → j ≤ xs.getD i 0 :=
  below_go u xs.size 0 xs.size (by omega) (Nat.zero_le _) (Nat.le_refl _) (fun i h => absurd h (Nat.not_lt_zero _)) (fun i h1 h2 => absurd h2 (by omega))
def slotAtP (xs : Array Nat) (i : Nat) : Nat := if i = 0 then 0 else xs.getD (i - 1) 0 + 1
theorem below_at {xs : Array Nat} (u : Up xs) {i : Nat} (hi : i ≤ xs.size) : SetTable.below xs (slotAtP xs i) = i := by
  obtain ⟨h0, h1, h2⟩ := below_spec u (slotAtP xs i)
  generalize SetTable.below xs (slotAtP xs i) = r at h0 h1 h2 ⊢
  unfold slotAtP at h1 h2
  rcases Nat.lt_trichotomy r i with h | h | h
  · have := h2 (i - 1) (by omega) (by omega)
    rw [if_neg (by omega)] at this
    omega
  · exact h
  · have := h1 i h
    by_cases e : i = 0
    · rw [if_pos e] at this; omega
    · rw [if_neg e] at this
      have := u.lt (i := i - 1) (k := i) (by omega) (by omega)
      omega
theorem below_mem {xs : Array Nat} (u : Up xs) {j : Nat} (h : j ∈ xs.toList) : xs[SetTable.below xs j]? = some j := by
  obtain ⟨k, hk, e⟩ := List.getElem_of_mem h
  rw [Array.length_toList] at hk
  rw [Array.getElem_toList] at e
  have ek : xs.getD k 0 = j := by rw [Array.getD_eq_getD_getElem?, Array.getElem?_eq_getElem hk]; exact e
  obtain ⟨h0, h1, h2⟩ := below_spec u j
  have : SetTable.below xs j = k := by
    generalize SetTable.below xs j = r at h0 h1 h2 ⊢
    rcases Nat.lt_trichotomy r k with h | h | h
    · have a := h2 r (Nat.le_refl _) (by omega)
      have b := u.lt (i := r) (k := k) h hk
      omega
    · exact h
    · have := h1 k h; omega
  rw [this, Array.getElem?_eq_getElem hk, e]
theorem insertAt_list {α : Type} (xs : Array α) (p : Nat) (x : α) : (SetTable.insertAt xs p x).toList = xs.toList.take p ++ x :: xs.toList.drop p := by
  unfold SetTable.insertAt
  simp [Array.toList_extract, List.extract]
  exact List.take_of_length_le (by simp)
theorem up_insert {xs : Array Nat} (u : Up xs) {j : Nat} (h : j ∉ xs.toList) : Up (SetTable.insertAt xs (SetTable.below xs j) j) := by
  obtain ⟨h0, h1, h2⟩ := below_spec u j
  generalize SetTable.below xs j = r at h0 h1 h2 ⊢
  unfold Up
  rw [insertAt_list, List.pairwise_append]
  have lt : ∀ a ∈ xs.toList.take r, a < j := fun a ha => by
    obtain ⟨k, hk, e⟩ := List.getElem_of_mem ha
    rw [List.length_take, Array.length_toList] at hk
    rw [List.getElem_take, Array.getElem_toList] at e
    have := h1 k (by omega)
    rw [Array.getD_eq_getD_getElem?, Array.getElem?_eq_getElem (by omega)] at this
    rw [← e]; exact this
  have gt : ∀ a ∈ xs.toList.drop r, j < a := fun a ha => by
    have hm := List.mem_of_mem_drop ha
    obtain ⟨k, hk, e⟩ := List.getElem_of_mem ha
    rw [List.length_drop, Array.length_toList] at hk
    rw [List.getElem_drop, Array.getElem_toList] at e
    have := h2 (r + k) (by omega) (by omega)
    rw [Array.getD_eq_getD_getElem?, Array.getElem?_eq_getElem (by omega)] at this
    have h3 : j ≤ a := by rw [← e]; exact this
    have h4 : j ≠ a := fun z => h (by rw [z]; exact hm)
    omega
  refine ⟨u.sublist (List.take_sublist _ _), List.pairwise_cons.mpr ⟨gt, u.sublist (List.drop_sublist _ _)⟩, fun a ha b hb => ?_⟩
  rcases List.mem_cons.mp hb with e | hb
  · rw [e]; exact lt a ha
  · have := lt a ha; have := gt b hb; omega
/-- a free slot is no one's place -/
theorem probe_free {t : SetTable} {hashAt : Nat → Int} {h : Int} : ∀ (f : Nat) (p : SetTable.Probe) (j : Nat) (d : Option Nat), (∀ q, p.dummy = some q → t.slot q = .dummy) → SetTable.probe.go t hashAt h f p = some (.empty j d) →
    t.slot j = .empty ∧ ∀ q, d = some q → t.slot q = .dummy
  | 0, p, j, d, _, e => by cases e
  | f + 1, p, j, d, hd, e => by
    unfold SetTable.probe.go at e
    have adv : ∀ p : SetTable.Probe, (t.advance p).dummy = p.dummy := fun p => by unfold SetTable.advance; split <;> rfl
    cases hs : t.slot p.j with
    | empty =>
      rw [hs] at e
      dsimp only at e
      cases e
      exact ⟨hs, hd⟩
    | dummy =>
      rw [hs] at e
      refine probe_free f _ j d (fun q hq => ?_) e
      rw [adv] at hq
      cases hq
      exact hs
    | live i =>
      rw [hs] at e
      dsimp only at e
      split at e
      · cases e
      · refine probe_free f _ j d (fun q hq => ?_) e
        rw [adv] at hq
        exact hd q hq
theorem free_notin {t : SetTable} (u : Up t.place) {h : Int} {j : Nat} {b : Bool} (e : t.freeSlot h = some (j, b)) : j ∉ t.place.toList := by
  unfold SetTable.freeSlot at e
  have key : ∀ q, t.slot q = .empty ∨ t.slot q = .dummy → q ∉ t.place.toList := fun q hq hm => by
    have z := below_mem u hm
    have sl : t.slot q = .live (SetTable.below t.place q) := by
      unfold SetTable.slot
      dsimp only
      rw [z]; simp
    rw [sl] at hq
    rcases hq with h | h <;> cases h
  cases hp : t.probe (fun _ => h + 1) h (t.probeStart h) with
  | none => rw [hp] at e; cases e
  | some m =>
    rw [hp] at e
    cases m with
    | candidate j i n => cases e
    | empty j0 d =>
      obtain ⟨a, c⟩ := probe_free _ _ _ _ (fun q hq => by cases hq) hp
      dsimp only at e
      cases d with
      | none => cases e; exact key _ (.inl a)
      | some q => cases e; exact key _ (.inr (c q rfl))
theorem up_range (n : Nat) : Up (Array.range n) := by
  unfold Up
  rw [Array.toList_range]
  exact List.pairwise_lt_range
theorem lay_up {t : SetTable} (u : Up t.place) (es : Array (Int × Value)) (h : Int) (x : Value) : Up (layNew t es h x).2.1.place := by
  unfold layNew
  split
  · rename_i slot wasD q
    dsimp only
    unfold SetTable.orStandIn
    split
    · exact up_insert u (free_notin u q)
    · exact up_range _
  · exact up_range _
theorem laid_up {mask finger moves : Nat} {led plain : Bool} {hs : Array Int} {t' : SetTable} {o : Array Nat} (h : SetTable.laid mask finger moves led plain hs = some (t', o)) : Up t'.place := by
  unfold SetTable.laid at h
  cases q : SetTable.layClean mask hs with
  | none => rw [q] at h; cases h
  | some owner =>
    rw [q] at h
    cases h
    unfold Up
    rw [List.toList_toArray, List.pairwise_map, List.pairwise_filterMap]
    refine List.pairwise_lt_range.imp fun {a b} hab c hc d hd => ?_
    cases ha : owner.getD a none with
    | none => rw [ha] at hc; cases hc
    | some k =>
      cases hb : owner.getD b none with
      | none => rw [hb] at hd; cases hd
      | some k' =>
        rw [ha] at hc; rw [hb] at hd
        cases hc; cases hd
        exact hab
theorem relay_up {t : SetTable} (es : Array (Int × Value)) (k : Nat) : Up (relayAll t es k).2.1.place := by
  unfold relayAll
  split
  · rename_i t' o q
    dsimp only
    split
    · exact laid_up q
    · exact up_range _
  · exact up_range _
end L2
end

section
set_option Elab.async false
set_option linter.all false
set_option maxRecDepth 100000
set_option maxHeartbeats 4000000
/-! ## sets of ints: made of a list, walked, sorted -/
namespace L2
open PySem PySem.Spec PyProof.Rows
/-- the members of a set's table, as ints -/
def entI (p : Int × Tok) : Int × Value := (hashInt p.1, .int p.1 p.2)
/-- the set at a holds just the ints of l -/
structure SetI (w : World) (h : Heap) (a : Addr) (l : List (Int × Tok)) : Prop where
  ex : ∃ es ep t, h.get? a = some (sObj es ep t) ∧ es.toList = l.map (entI) ∧ t.fits es.size = true ∧ t.led = !byT w ∧ Up t.place
  nd : (l.map (·.1)).Nodup
  sz : l.length < scanBound
theorem SetI.at {w : World} {h h' : Heap} {a : Addr} {l : List (Int × Tok)} (x : SetI w h a l) (k : ∀ o, h.get? a = some o → h'.get? a = some o) : SetI w h' a l :=
  ⟨let ⟨es, ep, t, e, r⟩ := x.ex; ⟨es, ep, t, k _ e, r⟩, x.nd, x.sz⟩
section
variable {P : Program} {w : World} {A : Around} {E : Value → Shared → Prop} {s : Shared} {a : Addr} {l : List (Int × Tok)}
theorem elems_ofI (l : List (Int × Tok)) : ElemsOf (intKind P w) (l.map (entI)) := by
  intro e he
  obtain ⟨p, _, rfl⟩ := List.mem_map.mp he
  exact ⟨⟨p.1, intKind_is P w _ _, rfl⟩, rfl⟩
theorem find_entI (x : Int) : ∀ l : List (Int × Tok), (∀ j, (l.map (entI)).findIdx? (fun e => (intKind P w).is x e.2) = some j → x ∈ l.map (·.1)) ∧ ((l.map (entI)).findIdx? (fun e => (intKind P w).is x e.2) = none → x ∉ l.map (·.1)) := by
  intro l
  refine ⟨fun j h => ?_, fun h hm => ?_⟩
  · obtain ⟨hj, hp, _⟩ := List.findIdx?_eq_some_iff_getElem.mp h
    rw [List.getElem_map] at hp
    rw [List.length_map] at hj
    have : (l[j]).1 = x := (intKind P w).inj _ _ _ (intKind_is P w _ _) hp
    exact List.mem_map.mpr ⟨l[j], List.getElem_mem hj, this⟩
  · obtain ⟨p, hp, rfl⟩ := List.mem_map.mp hm
    have := List.findIdx?_eq_none_iff.mp h (entI p) (List.mem_map_of_mem hp)
    rw [show (intKind P w).is p.1 (entI p).2 = true from intKind_is P w _ _] at this
    cases this
theorem perm_entI {es' : List (Int × Value)} {l : List (Int × Tok)} (p : es'.Perm (l.map (entI))) : ∃ l' : List (Int × Tok), es' = l'.map (entI) ∧ l'.Perm l := by
  let back : Int × Value → Int × Tok := fun e => match e.2 with | .int x t => (x, t) | _ => (default, 0)
  have hb : ∀ q : Int × Tok, back (entI q) = q := fun q => rfl
  refine ⟨es'.map back, ?_, ?_⟩
  · rw [List.map_map]
    conv => lhs; rw [← List.map_id es']
    refine List.map_congr_left fun e he => ?_
    obtain ⟨q, _, rfl⟩ := List.mem_map.mp (p.mem_iff.mp he)
    rfl
  · have := p.map back
    rw [List.map_map, show (back ∘ entI) = id from funext hb, List.map_id] at this
    exact this
/-- an int is added -/
theorem add_int {x : Int} {tk : Tok} {Q : Bool → Shared → Prop} (S : SetI w s.heap a l) (room : l.length + 1 < scanBound)
    (q : ∀ h' l' b, Heap.SameBut a s.heap h' → SetI w h' a l' → (∀ z, z ∈ l'.map (·.1) ↔ z ∈ l.map (·.1) ∨ z = x) → l'.length ≤ l.length + 1 → Q b { s with heap := h' }) :
    wpAny (model P w) A (setAddHashed a (.int x tk) (hashInt x)) Q E s := by
  obtain ⟨⟨es, ep, t, ho, hel, hf, hled, hpl⟩, nd, sz⟩ := S
  have hsz : es.size = l.length := by rw [← Array.length_toList, hel, List.length_map]
  have hE : ElemsOf (intKind P w) es.toList := by rw [hel]; exact elems_ofI l
  have hk : (intKind P w).is x (.int x tk) = true := intKind_is P w _ _
  have hd : (sObj es ep t).data = .set es ep t := rfl
  unfold setAddHashed setAddHashedIn
  refine wpAny_holding (wpAny_bind (wpAny_setState_of ho hd hf ?_))
  dsimp only
  rw [byScan_of (knd := intKind P w) rfl (by rw [hsz]; exact sz) hE]
  simp only [↓reduceIte]
  unfold setAddByScan
  refine wpAny_bind (wpAny_bind (wpAny_rule (wpAny_bind (wpAny_setScan_of (knd := intKind P w) hk ho hd hf hE ?_))))
  have hfi := find_entI (P := P) (w := w) x l
  rw [← hel] at hfi
  cases hr : List.findIdx? (fun e => (intKind P w).is x e.2) es.toList with
  | some j =>
    dsimp only
    have hm := hfi.1 j hr
    refine wpAny_pure (wpAny_pure ?_)
    have e : s = { s with heap := s.heap } := by cases s; rfl
    rw [e]
    exact q s.heap l false (Heap.SameBut.refl a s.heap) ⟨⟨es, ep, t, ho, hel, hf, hled, hpl⟩, nd, sz⟩ (fun z => ⟨.inl, fun h => h.elim id fun e => e ▸ hm⟩) (Nat.le_succ _)
  | none =>
    have hm := hfi.2 hr
    dsimp only
    have pp := layNew_perm t es (hashInt x) (.int x tk)
    have pf := layNew_fits t es (hashInt x) (.int x tk)
    have pl := lay_led t es (hashInt x) (.int x tk)
    have pq := lay_up hpl es (hashInt x) (.int x tk)
    generalize hL : layNew t es (hashInt x) (.int x tk) = L at pp pf pl pq ⊢
    obtain ⟨es1, t1, wasD, gave⟩ := L
    dsimp only at pp pf pl pq ⊢
    rw [Array.toList_push, hel] at pp
    obtain ⟨l1, e1, p1⟩ := perm_entI (l := l ++ [(x, tk)]) (es' := es1.toList) (by rw [List.map_append]; exact pp)
    have len1 : l1.length = l.length + 1 := by rw [p1.length_eq, List.length_append]; rfl
    have nd1 : (l1.map (·.1)).Nodup := by
      rw [(p1.map (·.1)).nodup_iff, List.map_append, List.nodup_append]
      refine ⟨nd, by simp, fun u hu v hv => ?_⟩
      rw [List.map_cons, List.map_nil, List.mem_singleton] at hv
      rintro rfl
      rw [hv] at hu
      exact hm hu
    have mem1 : ∀ z, z ∈ l1.map (·.1) ↔ z ∈ l.map (·.1) ∨ z = x := fun z => by
      rw [(p1.map (·.1)).mem_iff, List.map_append, List.mem_append]; simp
    have hsz1 : es1.size = l.length + 1 := by rw [← Array.length_toList, e1, List.length_map, len1]
    have gw : ∀ (b : Bool) {s₁ : Shared} {Q' : Unit → Shared → Prop}, Q' () s₁ → wpAny (model P w) A (match b with | true => rule "set.scan.the-table-gave-way" | false => pure ()) Q' E s₁ :=
      fun b s₁ Q' hq => by cases b <;> first | exact wpAny_pure hq | exact wpAny_rule hq
    refine wpAny_bind (gw _ ?_)
    -- the end, for the table with the mark
    have fin : ∀ t2 : SetTable, t2.fits es1.size = true → t2.led = t.led → Up t2.place →
        wpAny (model P w) A (do
          storeSet a es1 t2
          if (!wasD && t2.tooFull) = true then do
            (match (relayAll t2 es1 (SetTable.grown es1.size)).2.2 with | true => rule "set.scan.the-table-gave-way" | false => pure ())
            storeSet a (relayAll t2 es1 (SetTable.grown es1.size)).1 (relayAll t2 es1 (SetTable.grown es1.size)).2.1
            pure (some true)
          else pure (some true)) (fun r s' => ∃ b, r = some b ∧ Q b s') E s := by
      intro t2 f2 l2 p2
      refine wpAny_bind (wpAny_storeSet_of ho hd ?_ (by rw [hsz1]; exact fits_of_scanBound room))
      have g1 : (s.heap.update a (Obj.putSet es1 t2)).get? a = some (sObj es1 (ep + 1) t2) := by
        have := Heap.get?_update_self (Obj.putSet es1 t2) ho (by rw [putSet_of es1 t2 hd]; rfl)
        rw [putSet_of es1 t2 hd] at this; exact this
      have sb := Heap.SameBut.update s.heap a (Obj.putSet es1 t2)
      split
      · have rp := relayAll_perm t2 es1 (SetTable.grown es1.size)
        have rf := relayAll_fits t2 es1 (SetTable.grown es1.size)
        have rl := relay_led t2 es1 (SetTable.grown es1.size)
        have rq := relay_up (t := t2) es1 (SetTable.grown es1.size)
        generalize hR : relayAll t2 es1 (SetTable.grown es1.size) = R at rp rf rl rq ⊢
        obtain ⟨es2, t3, gave2⟩ := R
        dsimp only at rp rf rl rq ⊢
        rw [e1] at rp
        obtain ⟨l2', e2, p2'⟩ := perm_entI rp
        have len2 : l2'.length = l.length + 1 := by rw [p2'.length_eq, len1]
        have hsz2 : es2.size = l.length + 1 := by rw [← Array.length_toList, e2, List.length_map, len2]
        refine wpAny_bind (gw _ ?_)
        refine wpAny_bind (wpAny_storeSet_of g1 rfl ?_ (by rw [hsz2]; exact fits_of_scanBound room))
        have g2 : ((s.heap.update a (Obj.putSet es1 t2)).update a (Obj.putSet es2 t3)).get? a = some (sObj es2 (ep + 1 + 1) t3) := by
          have := Heap.get?_update_self (Obj.putSet es2 t3) g1 (by rw [putSet_of es2 t3 (show (sObj es1 (ep + 1) t2).data = _ from rfl)]; rfl)
          rw [putSet_of es2 t3 (show (sObj es1 (ep + 1) t2).data = _ from rfl)] at this; exact this
        refine wpAny_pure ⟨true, rfl, q _ l2' true (sb.trans (Heap.SameBut.update _ a _)) ⟨⟨es2, _, t3, g2, e2, rf, by rw [rl, l2, hled], rq⟩, by rw [(p2'.map (·.1)).nodup_iff]; exact nd1, by omega⟩ (fun z => by rw [(p2'.map (·.1)).mem_iff]; exact mem1 z) (by omega)⟩
      · exact wpAny_pure ⟨true, rfl, q _ l1 true sb ⟨⟨es1, _, t2, g1, e1, f2, by rw [l2, hled], p2⟩, nd1, by omega⟩ mem1 (by omega)⟩
    split
    · rename_i hp1
      refine wpAny_bind ?_
      rw [hashByValue_scannable 8 (show (Value.int x tk).scannable = true from rfl)]
      refine wpAny_pure ?_
      rw [show (if plainKind (Value.int x tk) = true then t1 else { t1 with plain := false }) = t1 from rfl]
      refine wpAny_mono (fin t1 pf pl pq) (fun r s' h => ?_) fun _ _ h => h
      obtain ⟨b, rfl, hq⟩ := h
      exact wpAny_pure hq
    · rename_i hp1
      refine wpAny_bind (wpAny_pure ?_)
      simp only [↓reduceIte]
      refine wpAny_mono (fin t1 pf pl pq) (fun r s' h => ?_) fun _ _ h => h
      obtain ⟨b, rfl, hq⟩ := h
      exact wpAny_pure hq
end
section
variable {P : Program} {w : World} {A : Around} {R : Result → Shared → Prop} {I : Addr} {fp wr : List Addr} {G : Array GenState → Array GenState → Prop} {n : Nat} {Pv : Nat → Value → Prop} {St : Nat → Shared → Prop}
theorem loop_int (W : WalksS P w A.in1 I fp wr G n Pv St) (S : Addr) (hSf : S ∉ fp) (val : Nat → Int) (hval : ∀ i v, Pv i v → ∃ t, v = .int (val i) t) (hb : n + 1 < scanBound) :
    ∀ (k i : Nat) (s : Shared) (l : List (Int × Tok)), n - i = k → i ≤ n → St i s → SetI w s.heap S l → l.length ≤ i → (∀ z, z ∈ l.map (·.1) ↔ ∃ j, j < i ∧ val j = z) →
      (∀ s' l', Moved (S :: wr) G s s' → SetI w s'.heap S l' → (∀ z, z ∈ l'.map (·.1) ↔ ∃ j, j < n ∧ val j = z) → R (.ok (.ret .none)) s') →
      codeAny (model P w) A (.builtin "set.update.loop" ⟨[.ref S, .ref I], []⟩) R s := by
  have nw : S ∉ wr := fun z => hSf (W.sub _ z)
  have up : ∀ b ∈ wr, b ∈ S :: wr := fun b z => List.mem_cons_of_mem _ z
  intro k
  induction k with
  | zero =>
    intro i s l hk hi st hS hl hm r
    obtain rfl : i = n := by omega
    refine codeAny_builtin F.entry_set_update_loop ?_
    rw [Around.under_plainId F.plain_set_update_loop _]
    refine wpAny_bind (m := pyNext (.ref I)) (W.done s _ _ st fun s' mv => ?_)
    refine wpAny_pure (r s' l (mv.mono up) (hS.at fun o e => mv.heap S o nw e) hm)
  | succ k ih =>
    intro i s l hk hi st hS hl hm r
    have lt : i < n := by omega
    refine codeAny_builtin F.entry_set_update_loop ?_
    rw [Around.under_plainId F.plain_set_update_loop _]
    refine wpAny_bind (m := pyNext (.ref I)) (W.item i s _ _ lt st fun v s' pv st' mv => ?_)
    obtain ⟨t, rfl⟩ := hval i v pv
    have hS' := hS.at (h' := s'.heap) fun o e => mv.heap S o nw e
    refine wpAny_bind (m := holding [Value.int (val i) t] (setAdd S (.int (val i) t))) (wpAny_holding ?_)
    unfold setAdd
    refine wpAny_holding (wpAny_bind ((intKind P w).pyHash (k := val i) (intKind_is _ _ _ _) ?_))
    refine add_int (s := { s' with toks := s'.toks + 1 }) hS' (by omega) fun h' l' b sb S2 m2 len2 => ?_
    refine wpAny_pure ⟨plainId_quiet F.plain_set_update_loop _, ih (i + 1) _ l' (by omega) lt (W.frame _ s' _ _ st' (Nat.le_succ _) fun c hc o e => ?_) S2 (by omega) (fun z => ?_) fun s2 l2 mv2 S3 m3 => ?_⟩
    · rw [sb.2 c (fun q : c = S => hSf (by rw [← q]; exact hc))]; exact e
    · rw [m2 z, hm z]
      constructor
      · rintro (⟨j, hj, e⟩ | e)
        · exact ⟨j, by omega, e⟩
        · exact ⟨i, by omega, e.symm⟩
      · rintro ⟨j, hj, e⟩
        by_cases q : j = i
        · subst q; exact .inr e.symm
        · exact .inl ⟨j, by omega, e⟩
    · refine r s2 l2 (Moved.trans W.gtrans ((mv.mono up).then_heap (Nat.le_succ _) fun c o hc e => ?_) mv2) S3 m3
      rw [sb.2 c (fun q : c = S => hc (by rw [q]; exact List.mem_cons_self))]; exact e
end
theorem ints_atI : ∀ {vs : List Value} {ss : List Int}, IntsAre vs ss → ∀ (i : Nat) (v : Value), vs[i]? = some v → ∃ t, v = .int (ss.getD i 0) t
  | _, _, .nil, i, v, h => by cases i <;> cases h
  | _, _, .cons y t r, 0, v, h => by cases h; exact ⟨t, rfl⟩
  | _, _, .cons y t r, i + 1, v, h => by
    obtain ⟨u, e⟩ := ints_atI r i v (by simpa using h)
    exact ⟨u, by rw [e]; rfl⟩
section
variable {P : Program} {w : World} {A : Around} {E : Value → Shared → Prop} {s : Shared}
set_option maxHeartbeats 3200000 in
theorem set_ints {l : Addr} {items : Array Value} {ss : List Int} {Q : Value → Shared → Prop} (hh : A.handled = none) (hl : s.heap.IsList l items) (hi : IntsAre items.toList ss) (hb : items.size + 1 < scanBound)
    (h : ∀ (h' : Heap) (tk : Nat) (ls : List (Int × Tok)), SetI w h' s.heap.objs.size ls → (∀ z, z ∈ ls.map (·.1) ↔ z ∈ ss) → (∀ b o, b < s.heap.objs.size → s.heap.get? b = some o → h'.get? b = some o) → Q (.ref s.heap.objs.size) { s with heap := h', toks := tk }) :
    wpAny (model P w) A (call (.type "set") [.ref l]) Q E s := by
  have e : ∀ z : Int, (∃ j, j < items.size ∧ ss.getD j 0 = z) ↔ z ∈ ss := fun z => by
    have hlen : items.size = ss.length := by rw [← Array.length_toList]; exact hi.length
    rw [hlen, List.mem_iff_getElem]
    constructor
    · rintro ⟨j, hj, e⟩; exact ⟨j, hj, by rw [← e]; simp [hj]⟩
    · rintro ⟨j, hj, e⟩; exact ⟨j, hj, by rw [← e]; simp [hj]⟩
  obtain ⟨c, tl, hmro⟩ := PySem.F.called_set.mro
  have hmade := PySem.F.called_set.made
  have hsub := PySem.F.called_set.sub
  refine wpAny_call (codeAny_of_tree (wpAny_pure (a := _) ⟨Code.quiet_builtin _ (by decide +kernel), codeAny_builtin PySem.F.entry_type_call ?_⟩))
  rw [Around.under_plain (weight_type_call_type "set" [.ref l] []) rfl]
  have h1 := PySem.F.called_set.notType
  have h2 := PySem.F.called_set.canCreate
  have hct := PySem.F.typeCall_set_1 (.ref l)
  repeat (any_goals (first | assumption | wp_step))
  refine codeAny_mono (set_new (x := .ref l) (E := E) (Q := fun obj s₁ => obj = .ref s.heap.objs.size ∧ s₁ = { s with heap := s.heap.push (sObj #[] 0 (.fresh 0 0 (!byT w))) }) ⟨rfl, rfl⟩) fun r s₁ hr => ?_
  cases r with
  | error e => exact hr
  | ok fl =>
    cases fl with
    | ret obj =>
      obtain ⟨rfl, rfl⟩ := hr
      have hS : (s.heap.push (sObj #[] 0 (.fresh 0 0 (!byT w)))).get? s.heap.objs.size = some (sObj #[] 0 (.fresh 0 0 (!byT w))) := Heap.get?_push_size _ rfl
      have hT : Shared.TypeIs { s with heap := s.heap.push (sObj #[] 0 (.fresh 0 0 (!byT w))) } (.ref s.heap.objs.size) "set" := ⟨_, hS, rfl⟩
      have hli := PySem.F.called_set.init.lookup
      have hbi := PySem.F.called_set.init.bind (.ref s.heap.objs.size)
      repeat (any_goals (first | assumption | wp_step))
      refine codeAny_mono (codeAny_call_builtin (R := wants (fun r s₂ => r = .none ∧ ∃ h' tk ls, s₂ = { s with heap := h', toks := tk } ∧ SetI w h' s.heap.objs.size ls ∧ (∀ z, z ∈ ls.map (·.1) ↔ z ∈ ss) ∧
          (∀ b o, b < s.heap.objs.size → s.heap.get? b = some o → h'.get? b = some o)) E) PySem.F.called_set.init.plain PySem.F.entry_set_init (check_set_init_1 hT ?_)) fun r₂ s₂ hr₂ => ?_
      · obtain ⟨ol, hol, hcl, nl, hdl⟩ := hl
        obtain ⟨ocls, odict, odata, oslots⟩ := ol
        simp only at hcl hdl
        subst hcl; subst hdl
        have hol' : (s.heap.push (sObj #[] 0 (.fresh 0 0 (!byT w)))).get? l = some { cls := .type "list", dict := odict, data := .seq items nl, slots := oslots } := Heap.get?_push_of_some _ hol
        have hsls := PySem.F.sub_list_set
        have hslf := PySem.F.sub_list_frozenset
        have hne : (Value.type "list" == Value.type "dict") = false := by decide
        have hl1 : (s.heap.push (sObj #[] 0 (.fresh 0 0 (!byT w)))).IsList l items := ⟨_, hol', rfl, nl, rfl⟩
        unfold Builtin.«set.__init__» noKeywords Builtin.Frozenset.updateFrom
        unfold sObj at *
        generalize hPI : pyIter = PI
        wp_walk
        subst hPI
        refine wpAny_pyIter_list hl1 (wpAny_bind (wpAny_runValue ?_))
        have hlS : l < s.heap.objs.size := Heap.lt_size hol
        have hh3 : A.in1.in1.in1.handled = none := by simp [hh]
        have hsz : (s.heap.push (sObj #[] 0 (.fresh 0 0 (!byT w)))).objs.size = s.heap.objs.size + 1 := Heap.size_push _ _
        have hneI : l ≠ (s.heap.push (sObj #[] 0 (.fresh 0 0 (!byT w)))).objs.size := by rw [hsz]; exact Nat.ne_of_lt (Nat.lt_succ_of_lt hlS)
        have hSf : s.heap.objs.size ∉ [(s.heap.push (sObj #[] 0 (.fresh 0 0 (!byT w)))).objs.size, l] := by
          rw [hsz]; simp only [List.mem_cons, List.mem_singleton, List.not_mem_nil, or_false, not_or]; exact ⟨Nat.ne_of_lt (Nat.lt_succ_self _), Nat.ne_of_gt hlS⟩
        refine loop_int ((Walks.list hh3 _ l hneI items).toS) s.heap.objs.size hSf (fun j => ss.getD j 0) (fun i v hv => ?hv) hb (items.size - 0) 0 _ [] (by omega) (Nat.zero_le _)
          ⟨⟨_, Heap.get?_push_size _ rfl, rfl, rfl⟩, (hl1.push _)⟩ ?hS0 (Nat.zero_le _) (fun z => ⟨(fun z => nomatch z), fun ⟨_, hj, _⟩ => absurd hj (Nat.not_lt_zero _)⟩) ?hR
        case hv => exact ints_atI hi i v (by rw [Array.getElem?_toList]; exact hv)
        case hS0 => exact ⟨⟨#[], 0, _, Heap.get?_push_of_some _ hS, rfl, rfl, rfl, List.Pairwise.nil⟩, List.nodup_nil, by decide⟩
        case hR =>
          intro s' l' hm hS' mem
          obtain ⟨h', g', d', tk', os'⟩ := s'
          have eg : g' = s.gens := hm.gens
          have ed : d' = s.drawn := hm.drawn
          have eo : os' = s.os := hm.os
          subst eg; subst ed; subst eo
          refine wpAny_pure (wpAny_pure ⟨rfl, h', tk', l', rfl, hS', fun z => (mem z).trans (e z), fun b o hb e => ?_⟩)
          refine hm.heap b o ?_ (Heap.get?_push_of_some _ (Heap.get?_push_of_some _ e))
          rw [hsz]
          simp only [List.mem_cons, List.mem_singleton, List.not_mem_nil, or_false, not_or]; exact ⟨Nat.ne_of_lt hb, Nat.ne_of_lt (Nat.lt_succ_of_lt hb)⟩
      · cases r₂ with
        | error e => exact hr₂
        | ok fl₂ =>
          cases fl₂ with
          | ret r =>
            obtain ⟨rfl, h', tk, ls, rfl, hS', hm', hk'⟩ := hr₂
            repeat (any_goals (first | assumption | wp_step))
            exact h _ _ _ hS' hm' hk'
          | _ => exact hr₂.elim
    | _ => exact hr.elim
end
section
variable {P : Program} {w : World} {A : Around} {E : Value → Shared → Prop} {s : Shared} {a : Addr} {l : List (Int × Tok)}
theorem SetI.typeIs (S : SetI w s.heap a l) : s.TypeIs (.ref a) "set" := let ⟨_, _, _, e, _⟩ := S.ex; ⟨_, e, rfl⟩
/-- what a walk of the set at a is -/
def WalkOfI (P : Program) (w : World) (z : Nat) (a : Addr) (l : List (Int × Tok)) (I : Addr) (s' : Shared) : Prop :=
  ∃ (ord : List Value) (fp : List Addr) (St : Nat → Shared → Prop), (∀ B : Around, B.handled = none → WalksS P w B I fp [I] (fun x y => y = x) l.length (fun i v => ord[i]? = some v) St) ∧ St 0 s' ∧
    (∀ b ∈ fp, b < s'.heap.objs.size ∧ (b = a ∨ z ≤ b)) ∧ I ∈ fp ∧ ord.Perm (l.map fun p => Value.int p.1 p.2)
end
section
variable {P : Program} {w : World} {A : Around} {E : Value → Shared → Prop} {s : Shared} {a : Addr} {es : Array (Int × Value)} {t : SetTable} {ep slot i : Nat}
theorem next_plain {Q : Option (Value × Nat) → Shared → Prop} (hb : byT w = false) (hl : t.led = true) (d : (!t.plain && decide (es.size > 1)) = false) (hS : s.heap.get? a = some (sObj es ep t)) (hf : t.fits es.size = true)
    (q : Q (match es[SetTable.below t.place slot]?, t.place[SetTable.below t.place slot]? with | some (_, x), some j => some (x, j + 1) | _, _ => none) s) : wpAny (model P w) A (setNext a slot i ep) Q E s := by
  unfold setNext
  refine wpAny_bind (wpAny_setState_of hS rfl hf (wpAny_bind (byText_ask ?_)))
  rw [hb]
  dsimp only
  rw [if_neg (by simp)]
  show wpAny _ _ (if (!t.plain && decide (es.size > 1)) = true then _ else _) _ _ _
  rw [d, if_neg (by simp)]
  show wpAny _ _ ((if (!t.led && !es.isEmpty) = true then _ else _) >>= _) _ _ _
  rw [hl, Bool.not_true, Bool.false_and, if_neg (by simp)]
  exact wpAny_bind (wpAny_pure (wpAny_pure q))
end
section
variable {P : Program} {w : World} {A : Around} {E : Value → Shared → Prop} {s : Shared} {a : Addr} {l : List (Int × Tok)}
theorem set_iterI {Q : Value → Shared → Prop} (S : SetI w s.heap a l)
    (q : ∀ I s', s.heap.objs.size ≤ I → (∀ b o, s.heap.get? b = some o → s'.heap.get? b = some o) → s'.gens = s.gens → s'.os = s.os → WalkOfI P w s.heap.objs.size a l I s' → Q (.ref I) s') : wpAny (model P w) A (pyIter (.ref a)) Q E s := by
  obtain ⟨⟨es, ep, t, ho, hel, hf, hled, hpl⟩, nd, sz⟩ := id S
  have hsz : es.size = l.length := by rw [← Array.length_toList, hel, List.length_map]
  have hval : es.toList.map (·.2) = l.map fun p => Value.int p.1 p.2 := by rw [hel, List.map_map]; rfl
  have lt : a < s.heap.objs.size := Heap.lt_size ho
  refine wpAny_pyIter_slot S.typeIs PySem.F.slot_set_iter (wpAny_call_entry PySem.F.slot_set_iter S.typeIs se_entry_iter ?_ (PySem.F.args_set_iter_1 _))
  unfold Builtin.«frozenset.__iter__»
  refine wpAny_bind (m := Builtin.Frozenset.slot0 "__iter__" ⟨[.ref a], []⟩) (wpAny_of_eq (a := a) rfl ?_)
  unfold Builtin.Frozenset.sizeOf
  refine wpAny_bind (wpAny_bind (wpAny_setEntries_of ho rfl hf (wpAny_pure ?_)))
  unfold setDrawn
  refine wpAny_bind (wpAny_bind (wpAny_setState_of ho rfl hf (wpAny_bind (byText_ask (wpAny_pure ?_)))))
  have last : ∀ (first : Value) (s1 : Shared), s1.heap.get? a = some (sObj es ep t) → (∀ b o, s.heap.get? b = some o → s1.heap.get? b = some o) → s.heap.objs.size ≤ s1.heap.objs.size → s1.gens = s.gens → s1.os = s.os →
      (∀ s', s'.heap.get? s1.heap.objs.size = some (siObj first 0 es.size ep a) → (∀ b o, s1.heap.get? b = some o → s'.heap.get? b = some o) → WalkOfI P w s.heap.objs.size a l s1.heap.objs.size s') →
      wpAny (model P w) A.in1 (do let e ← setEpoch a; let v ← newFields "set_iterator" [first, rawInt 0, Value.ref a, rawInt es.size, rawInt e]; ret v) (fun fin s' => ∃ v, fin = Fin.done (Flow.ret v) ∧ ∃ T' r, s'.TypeIs v T' ∧ typeLookup (Value.type T') (Str.ofString "__next__") = pure (some r) ∧ Q v s') E s1 := by
    intro first s1 h1 k1 z1 g1 o1 hw
    refine wpAny_bind (wpAny_setEpoch_of h1 rfl hf ?_)
    unfold newFields
    refine wpAny_bind (wpAny_newObj_type ?_ (by size_fits))
    have hI : (s1.heap.push { cls := .type "set_iterator", data := .fields [first, rawInt 0, Value.ref a, rawInt es.size, rawInt ep].toArray }).get? s1.heap.objs.size = some (siObj first 0 es.size ep a) := Heap.get?_push_size _ rfl
    refine wpAny_pure ⟨_, rfl, "set_iterator", _, ⟨_, hI, rfl⟩, si_slot_next.lookup, q _ _ z1 (fun b o e => Heap.get?_push_of_some _ (k1 b o e)) g1 o1 (hw _ hI fun b o e => Heap.get?_push_of_some _ e)⟩
  show wpAny _ _ (if (!byT w && (!t.plain && decide (es.size > 1))) = true then _ else _) _ _ _
  by_cases hd : (!byT w && (!t.plain && decide (es.size > 1))) = true
  · rw [if_pos hd]
    refine wpAny_bind (draw_perm es.size (List.range es.size) _ _ (by simp) fun ys d hp => ?_)
    have hyl : ys.length = es.size := by rw [hp.length_eq, List.length_range]
    refine wpAny_bind (wpAny_newTuple ?_ (by rw [List.length_map, hyl, hsz]; exact fits_of_scanBound sz))
    refine last (.ref s.heap.objs.size) _ (Heap.get?_push_of_some _ ho) (fun b o e => Heap.get?_push_of_some _ e) (by show _ ≤ (Heap.push _ _).objs.size; rw [Heap.size_push]; exact Nat.le_succ _) rfl rfl fun s' hI k => ?_
    have e1 : (Heap.push s.heap { cls := .type "tuple", data := .seq (ys.map fun (i : Nat) => rawInt i).toArray }).objs.size = s.heap.objs.size + 1 := Heap.size_push _ _
    have hp' := k s.heap.objs.size _ (Heap.get?_push_size _ rfl)
    have ha' := k a _ (Heap.get?_push_of_some _ ho)
    have lts : ∀ j ∈ ys, j < es.size := fun j hj => List.mem_range.mp (hp.mem_iff.mp hj)
    refine ⟨ys.map fun j => (es.toList.map (·.2)).getD j .none, _, _, fun C hC => walks_tup (n := l.length) (pl := ys) (c := 0) (p := s.heap.objs.size) (es := es) (t := t) (ep := ep) (a := a) hC (by rw [e1]; exact Nat.ne_of_lt (Nat.lt_succ_of_lt lt)) (by rw [e1]; exact Nat.ne_of_lt (Nat.lt_succ_self _)) hf hsz (by rw [List.length_map, hyl, hsz]) (by rw [hyl, hsz]) fun i hi => ?_, ⟨by rw [← hsz]; exact hI, ha', hp'⟩, ?_, by simp, ?_⟩
    · have hi' : i < ys.length := by rw [hyl, hsz]; exact hi
      have hk := lts ys[i] (List.getElem_mem hi')
      refine ⟨ys[i], es[ys[i]].1, es[ys[i]].2, List.getElem?_eq_getElem hi', Array.getElem?_eq_getElem hk, ?_⟩
      rw [List.getElem?_map, List.getElem?_eq_getElem hi', Option.map_some, List.getD_eq_getElem?_getD, List.getElem?_map, Array.getElem?_toList, Array.getElem?_eq_getElem hk]
      rfl
    · intro b hb
      simp only [List.mem_cons, List.not_mem_nil, or_false] at hb
      rcases hb with rfl | rfl | rfl
      · exact ⟨Heap.lt_size hI, .inr (by rw [e1]; exact Nat.le_succ _)⟩
      · exact ⟨Heap.lt_size ha', .inl rfl⟩
      · exact ⟨Heap.lt_size hp', .inr (Nat.le_refl _)⟩
    · rw [← hval]
      refine (hp.map _).trans ?_
      rw [show (List.range es.size).map (fun j => (es.toList.map (·.2)).getD j .none) = es.toList.map (·.2) from ?_]
      refine List.ext_getElem? fun i => ?_
      by_cases hi : i < es.size
      · simp [hi]
      · simp [hi]
  · rw [if_neg hd]
    refine wpAny_bind (wpAny_pure ?_)
    refine last (rawInt 0) s ho (fun _ _ e => e) (Nat.le_refl _) rfl rfl fun s' hI k => ?_
    have ha' := k a _ ho
    have fpl : ∀ b ∈ [s.heap.objs.size, a], b < s'.heap.objs.size ∧ (b = a ∨ s.heap.objs.size ≤ b) := fun b hb => by
      simp only [List.mem_cons, List.not_mem_nil, or_false] at hb
      rcases hb with rfl | rfl
      · exact ⟨Heap.lt_size hI, .inr (Nat.le_refl _)⟩
      · exact ⟨Heap.lt_size ha', .inl rfl⟩
    cases hb : byT w with
    | true =>
      refine ⟨(pickOrder (w.params.setOrder a ep) es).toList.map (·.2), _, _, fun C hC => walks_int (n := l.length) (es := es) (t := t) (ep := ep) (a := a) (fun _ => 0) hC (Nat.ne_of_lt lt) hf hsz (by rw [List.length_map, (pick_perm _ es).length_eq, Array.length_toList, hsz]) fun i _ s1 C' E' Q' h1 hq => ?_, ⟨by rw [← hsz]; exact hI, ha'⟩, fpl, by simp, ?_⟩
      · refine next_byText hb h1 hf ?_
        rw [List.getElem?_map, Array.getElem?_toList, Option.map_map] at hq
        exact hq
      · rw [← hval]; exact (pick_perm _ es).map _
    | false =>
      have led : t.led = true := by rw [hled, hb]; rfl
      have hpz : t.place.size = es.size := by
        unfold SetTable.fits at hf
        rw [Bool.and_eq_true] at hf
        exact eq_of_beq hf.1
      have dr : (!t.plain && decide (es.size > 1)) = false := by rw [hb] at hd; simpa using hd
      refine ⟨es.toList.map (·.2), _, _, fun C hC => walks_int (n := l.length) (es := es) (t := t) (ep := ep) (a := a) (slotAtP t.place) hC (Nat.ne_of_lt lt) hf hsz (by rw [List.length_map, Array.length_toList, hsz]) fun i hi s1 C' E' Q' h1 hq => ?_, ⟨by rw [← hsz]; exact hI, ha'⟩, fpl, by simp, by rw [hval]⟩
      refine next_plain hb led dr h1 hf ?_
      rw [below_at hpl (by omega)]
      rw [List.getElem?_map, Array.getElem?_toList] at hq
      by_cases h2 : i < es.size
      · rw [Array.getElem?_eq_getElem h2] at hq ⊢
        rw [Array.getElem?_eq_getElem (show i < t.place.size by omega)]
        have e : slotAtP t.place (i + 1) = t.place[i]'(by omega) + 1 := by
          unfold slotAtP
          rw [if_neg (by omega), Nat.add_sub_cancel, Array.getD_eq_getD_getElem?, Array.getElem?_eq_getElem (show i < t.place.size by omega)]
          rfl
        rw [e] at hq
        exact hq
      · rw [Array.getElem?_eq_none (by omega)] at hq ⊢
        exact hq
end
section
variable {P : Program} {w : World} {A : Around} {E : Value → Shared → Prop} {s : Shared} {a : Addr} {l : List (Int × Tok)}
theorem collect_setI {Q : List Value → Shared → Prop} (hh : A.handled = none) (S : SetI w s.heap a l)
    (q : ∀ (s' : Shared) (vs : List Value), (∀ b o, s.heap.get? b = some o → s'.heap.get? b = some o) → s.heap.objs.size ≤ s'.heap.objs.size → s'.gens = s.gens → s'.os = s.os → vs.Perm (l.map fun p => Value.int p.1 p.2) → Q vs s') : wpAny (model P w) A (collect (.ref a)) Q E s := by
  have lt : a < s.heap.objs.size := let ⟨_, _, _, e, _⟩ := S.ex; Heap.lt_size e
  unfold collect
  refine wpAny_bind (wpAny_runValue (codeAny_builtin entry_proto_collect' ?_))
  rw [Around.under_plainId PySem.F.plain_proto_collect _]
  refine wpAny_bind (m := newList []) (wpAny_newObj_type ?_)
  refine wpAny_pure ⟨plainId_quiet PySem.F.plain_list_iadd _, codeAny_builtin entry_list_iadd' ?_⟩
  rw [Around.under_plainId PySem.F.plain_list_iadd _]
  let L0 : Obj := { cls := .type "list", data := .seq ([] : List Value).toArray }
  have k0 : ∀ b o, s.heap.get? b = some o → (s.heap.push L0).get? b = some o := fun b o e => Heap.get?_push_of_some _ e
  have hL : (s.heap.push L0).get? s.heap.objs.size = some L0 := Heap.get?_push_size _ rfl
  have S0 : SetI w (s.heap.push L0) a l := S.at fun o e => k0 a o e
  show wpAny _ A.in1 (Builtin.List.listExtendWith (.ref s.heap.objs.size) (.ref a) (.ref s.heap.objs.size)) _ _ { s with heap := s.heap.push L0 }
  unfold Builtin.List.listExtendWith
  refine wpAny_bind (wpAny_typeOf (T := "set") (SetI.typeIs (s := { s with heap := s.heap.push L0 }) S0) ?_)
  have h1 : Builtin.List.listSameRef (.ref s.heap.objs.size) (.ref a) = false := by simp [Builtin.List.listSameRef, Nat.ne_of_gt lt]
  have h2 : (Value.type "set" == Value.type "list") = false := by decide
  have h3 : (Value.type "set" == Value.type "tuple") = false := by decide
  simp only [h1, h2, h3, Bool.or_false, Bool.false_eq_true, if_false]
  refine wpAny_bind (set_iterI (s := { s with heap := s.heap.push L0 }) S0 fun I s1 zI k1 g1 o1 W => ?_)
  have S1 : SetI w s1.heap a l := S0.at fun o e => k1 a o e
  have hL1 := k1 _ _ hL
  have hne : s.heap.objs.size ≠ I := by
    have : (s.heap.push L0).objs.size ≤ I := zI
    rw [Heap.size_push] at this
    exact Nat.ne_of_lt this
  refine wpAny_bind (wpAny_holding (set_hint (SetI.typeIs S1) ?_))
  obtain ⟨ord, fp, St, wk, st, fpl, mI, po⟩ := W
  have hlen : l.length ≤ sizeLine := fits_of_scanBound S.sz
  have z1 : (s.heap.push L0).objs.size = s.heap.objs.size + 1 := Heap.size_push _ _
  have nf : s.heap.objs.size ∉ fp := fun z => by
    rcases (fpl _ z).2 with e | e
    · exact absurd e (Nat.ne_of_gt lt)
    · have e' : (s.heap.push L0).objs.size ≤ s.heap.objs.size := e
      rw [z1] at e'
      exact absurd e' (Nat.not_succ_le_self _)
  refine wpAny_ite_split (fun _ => ?_) (fun z => absurd (by decide +kernel) z)
  refine wpAny_bind (wpAny_rule (wpAny_bind ?_))
  show wpAny _ _ (updateSeq s.heap.objs.size (·.push .none) >>= fun _ => updateSeq s.heap.objs.size (·.pop)) _ _ _
  refine wpAny_bind (wpAny_updateSeq hL1 rfl ?_)
  have hL2 := Heap.get?_update_self (Obj.mapSeq (·.push Value.none)) hL1 rfl
  refine wpAny_updateSeq (hz := by seq_fits) hL2 rfl ?_
  have hL3 := Heap.get?_update_self (Obj.mapSeq (·.pop)) hL2 rfl
  have oth : ∀ b o, b ≠ s.heap.objs.size → s1.heap.get? b = some o → ((s1.heap.update s.heap.objs.size (Obj.mapSeq (·.push Value.none))).update s.heap.objs.size (Obj.mapSeq (·.pop))).get? b = some o :=
    fun b o hb e => (Heap.get?_update_other _ _ (Ne.symm hb)).trans ((Heap.get?_update_other _ _ (Ne.symm hb)).trans e)
  have W1 := wk A.in1 hh
  refine wpAny_pure ⟨plainId_quiet PySem.F.plain_extend_loop _, codeAny_extend_loopS W1 hlen _ nf _ l.length 0 _ #[] _ rfl (Nat.zero_le _) (W1.frame 0 s1 _ s1.toks st (Nat.le_refl _) fun b hb o e => oth b o (fun z => nf (z ▸ hb)) e) hL3 (ItemsOf.nil _) fun s2 acc c2 mv hS2 hacc => ?_⟩
  refine wpAny_bind (m := load s.heap.objs.size) (wpAny_load hS2 (wpAny_pure ?_))
  refine q s2 acc.toList (fun b o e => mv.heap b o (fun hm => ?_) (oth b o (Nat.ne_of_lt (Heap.lt_size e)) (k1 b o (k0 b o e)))) (Nat.le_of_lt (Heap.lt_size hS2)) (mv.gens.trans g1) (mv.os.trans o1) ?_
  · have hlt : b < s.heap.objs.size := Heap.lt_size e
    rcases List.mem_cons.mp hm with e1 | e1
    · exact absurd e1 (Nat.ne_of_lt hlt)
    · rw [List.mem_singleton.mp e1] at hlt
      have : (s.heap.push L0).objs.size ≤ I := zI
      rw [z1] at this
      exact absurd (Nat.lt_of_lt_of_le hlt (Nat.le_of_succ_le this)) (Nat.lt_irrefl _)
  · have e : acc.toList = ord := by
      refine List.ext_getElem? fun j => ?_
      by_cases hj : j < l.length
      · have h0 : j < acc.size := by rw [hacc.1]; exact hj
        have h1 : acc[j]? = some acc[j] := Array.getElem?_eq_getElem h0
        rw [Array.getElem?_toList, h1, hacc.2 j _ h1]
      · rw [List.getElem?_eq_none (by rw [Array.length_toList, hacc.1]; omega), List.getElem?_eq_none (by rw [po.length_eq, List.length_map]; omega)]
    rw [e]; exact po
theorem ints_backI {vs : List Value} {l : List (Int × Tok)} (po : vs.Perm (l.map fun p => Value.int p.1 p.2)) : ∃ ts, IntsAre vs ts ∧ ts.Perm (l.map (·.1)) := by
  have : ∃ l' : List (Int × Tok), vs = l'.map (fun p : Int × Tok => Value.int p.1 p.2) ∧ l'.Perm l := by
    let back : Value → Int × Tok := fun e => match e with | .int x t => (x, t) | _ => (default, 0)
    refine ⟨vs.map back, ?_, ?_⟩
    · rw [List.map_map]
      conv => lhs; rw [← List.map_id vs]
      refine List.map_congr_left fun e he => ?_
      obtain ⟨z, _, rfl⟩ := List.mem_map.mp (po.mem_iff.mp he)
      rfl
    · have := po.map back
      rw [List.map_map, show (back ∘ fun p : Int × Tok => Value.int p.1 p.2) = id from rfl, List.map_id] at this
      exact this
  obtain ⟨l', rfl, pl⟩ := this
  refine ⟨l'.map (·.1), ?_, pl.map _⟩
  clear po pl
  induction l' with
  | nil => exact .nil
  | cons p l' ih => exact .cons p.1 p.2 ih
set_option maxHeartbeats 2000000 in
/-- sorted(x), where x gives ints -/
theorem sorted_byI {x : Value} {us : List Int} {Q : Value → Shared → Prop} (h64 : us.length < 64)
    (hc : ∀ (Q' : List Value → Shared → Prop), (∀ (s' : Shared) (vs : List Value) (ts : List Int), (∀ b o, s.heap.get? b = some o → s'.heap.get? b = some o) → s.heap.objs.size ≤ s'.heap.objs.size → s'.gens = s.gens → s'.os = s.os → IntsAre vs ts → ts.Perm us → Q' vs s') → wpAny (model P w) A.in1 (collect x) Q' E s)
    (q : ∀ (s' : Shared) (D c : Nat) (vs : List Value) (ss : List Int), (∀ b o, s.heap.get? b = some o → s'.heap.get? b = some o) → s.heap.objs.size ≤ D → s'.gens = s.gens → s'.os = s.os → s'.heap.get? D = some { cls := .type "list", data := .seq vs.toArray c } → IntsAre vs ss →
      ss.Perm us → ss.Pairwise (· ≤ ·) → Q (.ref D) s') : wpAny (model P w) A (call (.builtin "sorted") [x]) Q E s := by
  refine Calls.call_function_entry kind_sorted plain_sorted entry_sorted (args_sorted1 _) ?_
  unfold Builtin.«sorted»
  refine wpAny_bind (m := checkCount "sorted" 1 1 _) (wpAny_pure ?_)
  refine wpAny_bind (hc _ fun s1 vs ts k1 old g1 o1 hts pts => ?_)
  have hl : vs.length = us.length := by rw [hts.length, pts.length_eq]
  refine wpAny_bind (wpAny_newList ?_ (by rw [hl]; exact small1000' (by omega)))
  have hoL : (s1.heap.push (seqObj "list" vs.toArray 0)).get? s1.heap.objs.size = some (seqObj "list" vs.toArray 0) := Heap.get?_push_size _ rfl
  refine wpAny_bind (wpAny_holding (wpAny_call_entry slot_list_sort ⟨_, hoL, rfl⟩ entry_list_sort (list_sort_tree hoL hts (by omega) fun out ss' e1 e2 e3 => ⟨_, rfl, ?_⟩) (args_list_sort _)))
  obtain ⟨c, hc⟩ := sortedHeap_at (out := out) hoL
  refine wpAny_pure ⟨_, rfl, q _ s1.heap.objs.size c out.toList ss' (fun b o e => ?_) old g1 o1 (by rw [hc]) e1 (e2.trans pts) e3⟩
  have lt := Heap.lt_size (k1 b o e)
  show (sortedHeap _ _ _ _).get? b = some o
  rw [sortedHeap_old (Nat.ne_of_lt lt) (by rw [size_push']; exact Nat.lt_succ_of_lt lt)]
  exact Heap.get?_push_of_some _ (k1 b o e)
end
/-- the set at p holds just these ints -/
def InS (w : World) (p : Addr) (ss : List Int) : HO := .ext fun h => ∃ l, SetI w h p l ∧ ∀ z, z ∈ l.map (·.1) ↔ z ∈ ss
section
variable {X : Cx}
/-- set(xs), a list of ints -/
def rSetI (K : PySem.W.Frag) (w : World) : List V → Hp → VK → Prop := fun vs H Q => ∃ a ss, vs = [.ref a] ∧ SqL K H a (ss.map V.int) ∧ ss.length < 4000 ∧ ∀ p, H p = none → Q (.ref p) (upd H p (InS w p ss))
theorem call_setI (hh : X.A.handled = none) : CallR X (.type "set") (rSetI X.K X.w) := by
  intro pins s σ H vs us Q I rv h
  obtain ⟨a, ss, rfl, hq, hn, q⟩ := h
  obtain ⟨u, rfl, ru⟩ := vals1 rv
  cases ru
  obtain ⟨its, r, pl, hz⟩ := I.list hq
  have hl := r.length
  rw [List.length_map] at hl
  refine set_ints (ss := ss) hh pl.isList (intsAre_of r) (by show its.toArray.size + 1 < 4096; rw [List.size_toArray]; omega) fun h' tk ls hS hm hk => ?_
  have hk' : ∀ b o, s.heap.get? b = some o → h'.get? b = some o := fun b o e => hk b o (Heap.lt_size e) e
  refine ⟨.ref s.heap.objs.size, _, I.laid (t' := tk) (o := InS X.w s.heap.objs.size ss) hk' (Nat.le_refl _) ?_, rfl, q _ I.fresh⟩
  exact ⟨⟨ls, hS, hm⟩, (let ⟨_, _, _, e, _⟩ := hS.ex; ⟨_, e⟩), fun h1 h2 ⟨l1, x1, m1⟩ k => ⟨l1, x1.at k, m1⟩⟩
/-- sorted(s), a set of ints -/
def rSortedSetI (w : World) : List V → Hp → VK → Prop := fun vs H Q => ∃ a ss, vs = [.ref a] ∧ H a = some (InS w a ss) ∧ ss.length < 64 ∧
  ∀ ss' : List Int, (∀ z, z ∈ ss' ↔ z ∈ ss) → ss'.Pairwise (· < ·) → ∀ p, H p = none → Q (.ref p) (upd H p (.lst (ss'.map V.int)))
theorem lt_of_both {l : List Int} (n : l.Nodup) (h : l.Pairwise (· ≤ ·)) : l.Pairwise (· < ·) := (List.Pairwise.and n h).imp fun ⟨a, b⟩ => by omega
theorem call_sortedSetI (hh : X.A.handled = none) : CallR X (.builtin "sorted") (rSortedSetI X.w) := by
  intro pins s σ H vs us Q I rv h
  obtain ⟨a, ss, rfl, hq, hn, q⟩ := h
  obtain ⟨u, rfl, ru⟩ := vals1 rv
  cases ru
  obtain ⟨⟨l, hS, hm⟩, _, _⟩ := I.hok a _ hq
  have hl : (l.map (·.1)).length ≤ ss.length := nodup_sub hS.nd fun x hx => (hm x).mp hx
  refine sorted_byI (us := l.map (·.1)) (by omega) (fun Q' hQ' => collect_setI (A := X.A.in1) hh hS fun s' vs k z g o po => let ⟨ts, h1, h2⟩ := ints_backI po; hQ' s' vs ts k z g o h1 h2) fun s' D c vs ss' k z g o hD hvs pss srt => ?_
  have hn' : H D = none := I.hok.fresh z
  have I1 : Inv X pins σ (upd H D (.lst (ss'.map V.int))) { s with heap := s'.heap, toks := s.toks } := I.laid k z ⟨by rw [List.length_map, pss.length_eq]; exact small1000' (by omega), vs, c, vals_ints hvs, hD⟩
  refine ⟨.ref D, _, I1.same rfl g o, rfl, q ss' (fun z => (pss.mem_iff).trans (hm z)) (lt_of_both (pss.nodup_iff.mpr hS.nd) srt) _ hn'⟩
end
end L2
end

section
set_option Elab.async false
set_option linter.all false
set_option maxRecDepth 100000
set_option maxHeartbeats 4000000
/-! ## set(ints), sorted(a set of ints) as terms -/
namespace L2
open PySem PySem.Spec PyProof.Rows
section
variable {X : Cx}
def qSetI (w : World) : List V → Hp → VK → Prop := fun vs H Q => ∃ a, vs = [.ref a] ∧ ∃ ss : List Int, H a = some (.lst (ss.map V.int)) ∧ ss.length < 4000 ∧ ∀ p, H p = none → Q (.ref p) (upd H p (InS w p ss))
theorem call_setIQ (hh : X.A.handled = none) : CallR X (.type "set") (qSetI X.w) := (call_setI hh).imp fun x H Q ⟨p, e, ss, h, n, q⟩ => ⟨p, ss, e, sqL_of h, n, q⟩
def qSortSetI (w : World) : List V → Hp → VK → Prop := fun vs H Q => ∃ a, vs = [.ref a] ∧ ∃ ss : List Int, H a = some (InS w a ss) ∧ ss.length < 64 ∧
  ∀ ss' : List Int, (∀ z, z ∈ ss' ↔ z ∈ ss) → ss'.Pairwise (· < ·) → ∀ p, H p = none → Q (.ref p) (upd H p (.lst (ss'.map V.int)))
theorem call_sortSetIQ (hh : X.A.handled = none) : CallR X (.builtin "sorted") (qSortSetI X.w) := (call_sortedSetI hh).imp fun x H Q ⟨p, e, ss, h, n, q⟩ => ⟨p, ss, e, h, n, q⟩
end
end L2
end

section
set_option Elab.async false
set_option linter.all false
set_option maxRecDepth 100000
set_option maxHeartbeats 4000000
/-! ## a slice of a tuple that may be the whole: then it is the tuple itself -/
namespace HT
open PySem PyProof.Rows L2
section
variable {prog : Program} {w : World} {A : Around} {E : Value → Shared → Prop} {s : Shared}
end
end HT
namespace L2
open PySem PySem.Spec PyProof.Rows
section
variable {X : Cx}
def qSlT2 : V → Option Int → Option Int → Hp → VK → Prop := fun x lo hi H Q => ∃ a, x = .ref a ∧ ∃ xs, H a = some (.tup xs) ∧
  ((HT.sIx xs.length 0 lo = 0 ∧ HT.sIx xs.length xs.length hi = xs.length) → Q (.ref a) H) ∧ (¬ (HT.sIx xs.length 0 lo = 0 ∧ HT.sIx xs.length xs.length hi = xs.length) → ∀ p, H p = none → Q (.ref p) (upd H p (.tup (cutV xs lo hi))))
end
end L2
end

section
set_option Elab.async false
set_option linter.all false
set_option maxRecDepth 100000
set_option maxHeartbeats 4000000
/-! ## a set in a list of sets -/
namespace L2
open PySem PySem.Spec PyProof.Rows
section
variable {X : Cx} {pins : List (Addr × Obj)} {s : Shared} {σ : St} {H : Hp}
def isAtS (bs : List Addr) (ts : List (List Int)) (x : List Int) : Value → Bool
  | .ref p => (bs.zip ts).any fun q => decide (q.1 = p) && decide (q.2 = x)
  | _ => false
theorem isAtS_eq {bs : List Addr} {ts : List (List Int)} {x : List Int} (a : SetsAt H bs ts) {i : Nat} {p : Addr} {t : List Int} (h1 : bs[i]? = some p) (h2 : ts[i]? = some t) : isAtS bs ts x (.ref p) = decide (t = x) := by
  unfold isAtS
  rw [Bool.eq_iff_iff, List.any_eq_true, decide_eq_true_iff]
  constructor
  · rintro ⟨⟨p', t'⟩, hm, e⟩
    simp only [Bool.and_eq_true, decide_eq_true_eq] at e
    obtain ⟨rfl, rfl⟩ := e
    obtain ⟨j, hj, ej⟩ := List.mem_iff_getElem.mp hm
    rw [List.length_zip] at hj
    rw [List.getElem_zip] at ej
    injection ej with e1 e2
    have g1 := a.2 j _ _ (List.getElem?_eq_getElem (by omega)) (List.getElem?_eq_getElem (by omega))
    rw [e1, e2] at g1
    have g2 := a.2 i _ _ h1 h2
    rw [g1] at g2
    injection g2 with g2
    injection g2 with g2
    exact (ints_inj g2).symm
  · rintro rfl
    refine ⟨(p, t), ?_, by simp⟩
    have i1 := List.getElem?_eq_some_iff.mp h1
    have i2 := List.getElem?_eq_some_iff.mp h2
    refine List.mem_iff_getElem.mpr ⟨i, by rw [List.length_zip]; have := i1.1; have := i2.1; omega, ?_⟩
    rw [List.getElem_zip, i1.2, i2.2]
theorem any_isAtS {bs : List Addr} {ts : List (List Int)} {x : List Int} (a : SetsAt H bs ts) {us : List Value} (r : Vals (List.map V.ref bs) us) : us.any (isAtS bs ts x) = decide (x ∈ ts) := by
  have l := r.length
  rw [List.length_map] at l
  have lt := a.1
  have at_ : ∀ i (hi : i < us.length), isAtS bs ts x us[i] = decide (ts[i]'(by omega) = x) := fun i hi => by
    have e1 : bs[i]? = some (bs[i]'(by omega)) := List.getElem?_eq_getElem (by omega)
    have v : us[i] = .ref (bs[i]'(by omega)) := by
      have := vals_at (x := .ref (bs[i]'(by omega))) r (j := i) (by simpa using hi) (by rw [List.getElem?_map, e1]; rfl)
      simpa [RelV] using this
    rw [v]
    exact isAtS_eq a e1 (List.getElem?_eq_getElem (by omega))
  rw [Bool.eq_iff_iff, List.any_eq_true, decide_eq_true_iff]
  constructor
  · rintro ⟨u, hu, e⟩
    obtain ⟨i, hi, rfl⟩ := List.mem_iff_getElem.mp hu
    rw [at_ i hi, decide_eq_true_iff] at e
    rw [← e]; exact List.getElem_mem _
  · intro h
    obtain ⟨i, hi, rfl⟩ := List.mem_iff_getElem.mp h
    exact ⟨us[i]'(by omega), List.getElem_mem _, by rw [at_ i (by omega), decide_eq_true_iff]⟩
/-- a set in a list of sets -/
def qInS (neg : Bool) : R2 := fun x y H Q => ∃ a L, x = .ref a ∧ y = .ref L ∧ ∃ u bs ts, H a = some (.tup (List.map V.int u)) ∧ H L = some (.lst (List.map V.ref bs)) ∧ SetsAt H bs ts ∧ Q (.bl (if neg then !decide (u ∈ ts) else decide (u ∈ ts))) H
theorem mem_eqS {A : Around} {a : Addr} {u : List Int} {bs : List Addr} {ts : List (List Int)} (I : Inv X pins σ H s) (ha : H a = some (.tup (List.map V.int u))) (sa : SetsAt H bs ts) (hu : A.units < cLine) {us : List Value} (r : Vals (List.map V.ref bs) us) : ∀ z ∈ us, SeqAt.EqAt A s z (.ref a) (isAtS bs ts u z) := fun z hz => by
  obtain ⟨i, hi, rfl⟩ := List.mem_iff_getElem.mp hz
  have l := r.length
  rw [List.length_map] at l
  have lt := sa.1
  have e1 : bs[i]? = some (bs[i]'(by omega)) := List.getElem?_eq_getElem (by omega)
  have e2 : ts[i]? = some (ts[i]'(by omega)) := List.getElem?_eq_getElem (by omega)
  have v : us[i] = .ref (bs[i]'(by omega)) := by
    have := vals_at (x := .ref (bs[i]'(by omega))) r (j := i) (by simpa using hi) (by rw [List.getElem?_map, e1]; rfl)
    simpa [RelV] using this
  rw [v, isAtS_eq sa e1 e2]
  exact eq_set I (sa.2 i _ _ e1 e2) ha hu
theorem op_notInS (hu : X.A.units + 1 < cLine) : OpR X (compareOp .NotIn) (qInS true) := by
  intro pins s σ H x y v u Q I rx ry h
  obtain ⟨a, L, rfl, rfl, w, bs, ts, ha, hL, sa, q⟩ := h
  cases rx; cases ry
  obtain ⟨its, r, pl, hz⟩ := I.list (sqL_of hL)
  refine SeqAt.notIn_listAt (isAtS bs ts w) pl.isList (fun z hz => mem_eqS I ha sa (by first | (rw [Around.in1_units]; omega) | omega) r z (by simpa using hz)) ⟨.bl _, H, I, rfl, ?_⟩
  rw [show its.toArray.any (isAtS bs ts w) = its.any (isAtS bs ts w) by simp, any_isAtS sa r]
  exact q
end
end L2
end

section
set_option Elab.async false
set_option linter.all false
set_option maxRecDepth 100000
set_option maxHeartbeats 4000000
/-! ## comprehensions by what their items are: f i = some d, an item that stands for d; none, no item -/
namespace L2
open PySem PySem.Spec PyProof.Rows
/-- values that stand for data, one for one -/
def RepL {δ : Type} (Rep : Hp → V → δ → Prop) (H : Hp) (vs : List V) (ds : List δ) : Prop := vs.length = ds.length ∧ ∀ (i : Nat) v d, vs[i]? = some v → ds[i]? = some d → Rep H v d
theorem RepL.nil {δ : Type} {Rep : Hp → V → δ → Prop} {H : Hp} : RepL Rep H [] [] := ⟨rfl, fun i v d h => by simp at h⟩
theorem RepL.snoc {δ : Type} {Rep : Hp → V → δ → Prop} {H : Hp} {vs : List V} {ds : List δ} {v : V} {d : δ} (h : RepL Rep H vs ds) (hv : Rep H v d) : RepL Rep H (vs ++ [v]) (ds ++ [d]) := by
  refine ⟨by rw [List.length_append, List.length_append, h.1]; rfl, fun i u e hu he => ?_⟩
  have hl := h.1
  by_cases hi : i < vs.length
  · rw [List.getElem?_append_left hi] at hu
    rw [List.getElem?_append_left (by omega)] at he
    exact h.2 i u e hu he
  · rw [List.getElem?_append_right (by omega)] at hu
    rw [List.getElem?_append_right (by omega), ← hl] at he
    have h0 : i - vs.length = 0 := by
      cases z : i - vs.length with
      | zero => rfl
      | succ n => rw [z] at hu; simp at hu
    rw [h0] at hu he
    cases hu; cases he
    exact hv
theorem RepL.mono {δ : Type} {Rep : Hp → V → δ → Prop} {H H' : Hp} {vs : List V} {ds : List δ} (k : ∀ v d, Rep H v d → Rep H' v d) (h : RepL Rep H vs ds) : RepL Rep H' vs ds := ⟨h.1, fun i v d a b => k v d (h.2 i v d a b)⟩
theorem RepL.app {δ : Type} {Rep : Hp → V → δ → Prop} {H : Hp} {vs us : List V} {ds es : List δ} (h : RepL Rep H vs ds) (g : RepL Rep H us es) : RepL Rep H (vs ++ us) (ds ++ es) := by
  refine ⟨by rw [List.length_append, List.length_append, h.1, g.1], fun i u e hu he => ?_⟩
  have hl := h.1
  by_cases hi : i < vs.length
  · rw [List.getElem?_append_left hi] at hu
    rw [List.getElem?_append_left (by omega)] at he
    exact h.2 i u e hu he
  · rw [List.getElem?_append_right (by omega)] at hu
    rw [List.getElem?_append_right (by omega), ← hl] at he
    exact g.2 _ u e hu he
theorem RepL.at {δ : Type} {Rep : Hp → V → δ → Prop} {H : Hp} {vs : List V} {ds : List δ} (h : RepL Rep H vs ds) {i : Nat} {v : V} (hv : vs[i]? = some v) : ∃ d, ds[i]? = some d ∧ Rep H v d := by
  have hi := (List.getElem?_eq_some_iff.mp hv).1
  have e : ds[i]? = some (ds[i]'(by have := h.1; omega)) := List.getElem?_eq_getElem _
  exact ⟨_, e, h.2 i v _ hv e⟩
/-- a set (tuple of ints) -/
def RSet (H : Hp) (v : V) (x : List Int) : Prop := ∃ b, v = .ref b ∧ H b = some (.tup (List.map V.int x))
theorem sets_of {H : Hp} {vs : List V} {ts : List (List Int)} (h : RepL RSet H vs ts) : ∃ bs, vs = List.map V.ref bs ∧ SetsAt H bs ts := by
  induction vs generalizing ts with
  | nil =>
    have : ts = [] := List.length_eq_zero_iff.mp h.1.symm
    subst this
    exact ⟨[], rfl, rfl, fun i b t e => by simp at e⟩
  | cons v vs ih =>
    cases ts with
    | nil => exact absurd h.1 (by simp)
    | cons t ts =>
      obtain ⟨bs, e1, s1⟩ := ih (ts := ts) ⟨by have := h.1; simpa using this, fun i v d a b => h.2 (i + 1) v d (by simpa using a) (by simpa using b)⟩
      obtain ⟨b, rfl, hb⟩ := h.2 0 v t rfl rfl
      refine ⟨b :: bs, by rw [e1]; rfl, by rw [List.length_cons, List.length_cons, s1.1], fun i c u hc hu => ?_⟩
      cases i with
      | zero => cases hc; cases hu; exact hb
      | succ n => exact s1.2 n c u (by simpa using hc) (by simpa using hu)
theorem take_fm {δ : Type} (f : Nat → Option δ) (i : Nat) : (List.range (i + 1)).filterMap f = (List.range i).filterMap f ++ (f i).toList := by
  rw [List.range_succ, List.filterMap_append]
  cases e : f i <;> simp [e]
theorem fm_len {δ : Type} (f : Nat → Option δ) (i : Nat) : ((List.range i).filterMap f).length ≤ i := Nat.le_trans (List.length_filterMap_le _ _) (by rw [List.length_range]; exact Nat.le_refl _)
theorem compG_list {K : PySem.W.Frag} {a : Addr} {zs : List V} {idx : List Nat} {tt : CB → TT} {te : CB → TE} {σ : St} {Q : VK} {H1 : Hp} {δ : Type} (S : Hp → Hp → Prop) (f : Nat → Option δ) (Rep : Addr → Hp → V → δ → Prop) (sr : S H1 H1) (st : ∀ H H', S H1 H → S H H' → S H1 H')
    (sp : ∀ D H o, H1 D = none → S H1 H → S H1 (upd H D o)) (sk : ∀ D H H' o, H1 D = none → S H1 H → S H H' → H D = some o → H' D = some o)
    (mono : ∀ D H H' v d, S H1 H → S H H' → Rep D H v d → Rep D H' v d) (mput : ∀ D H o v d, H1 D = none → S H1 H → (∃ xs, H D = some (.lst xs)) → Rep D H v d → Rep D (upd H D o) v d)
    (hL : ∀ H, S H1 H → H a = some (.lst zs)) (l9 : zs.length ≤ 900000)
    (hs : ∀ (D : Addr) (c : CB) (H : Hp) (i : Nat) (z : V) (yes : V → Hp → Prop) (no : Hp → Prop), zs[i]? = some z → S H1 H → H1 D = none → (∃ xs, H D = some (.lst xs)) → (∀ d, f i = some d → ∀ v H', S H H' → Rep D H' v d → yes v H') → (f i = none → ∀ H', S H H' → no H') → tt c (some (z) :: subS σ idx) H fun b H4 => if b = true then te c (some (z) :: subS σ idx) H4 yes else no H4)
    (q : ∀ D H' vs, S H1 H' → H1 D = none → H' D = some (.lst vs) → RepL (Rep D) H' vs ((List.range (zs.length)).filterMap f) → Q (.ref D) H') : CompAll (Itl K a) 1 idx (fun _ => gName 0) tt te σ Q H1 := by
  obtain ⟨Pc, hPc⟩ : ∃ Pc : Addr → Nat → List V → Hp → Prop, ∀ Z i ys H', Pc Z i ys H' ↔ S H1 H' ∧ H' Z = some (.lst ys) ∧ RepL (Rep Z) H' ys ((List.range i).filterMap f) := ⟨_, fun _ _ _ _ => Iff.rfl⟩
  refine compAll_list Pc (fun Z hZ => (hPc _ _ _ _).mpr ⟨sp Z _ _ hZ sr, upd_same, .nil⟩) (fun Z hZ i ys H' _ pv => hL H' ((hPc _ _ _ _).mp pv).1) (fun Z hZ i z ys H' hz pv cb => ?_) (fun Z hZ ys H' pv => ?_)
  · obtain ⟨s1, hZ1, rl⟩ := (hPc _ _ _ _).mp pv
    have hi : i < zs.length := (List.getElem?_eq_some_iff.mp hz).1
    refine hs Z cb H' i z _ _ hz s1 hZ ⟨_, hZ1⟩ (fun d hd v H2 s2 hv => ?_) (fun hn H2 s2 => ?_)
    · refine ⟨sk Z _ _ _ hZ s1 s2 hZ1, ?_, (hPc _ _ _ _).mpr ⟨sp Z _ _ hZ (st _ _ s1 s2), upd_same, ?_⟩⟩
      · rw [rl.1]
        have := fm_len f i
        exact Nat.lt_of_le_of_lt (by omega : ((List.range i).filterMap f).length ≤ 1000000) (by decide)
      · rw [take_fm, hd]
        exact (((rl.mono fun v d => mono Z _ _ v d s1 s2)).snoc hv).mono fun v d => mput Z H2 _ v d hZ (st _ _ s1 s2) ⟨_, sk Z _ _ _ hZ s1 s2 hZ1⟩
    · refine (hPc _ _ _ _).mpr ⟨st _ _ s1 s2, sk Z _ _ _ hZ s1 s2 hZ1, ?_⟩
      rw [take_fm, hn, Option.toList_none, List.append_nil]
      exact rl.mono fun v d => mono Z _ _ v d s1 s2
  · obtain ⟨s1, hZ1, rl⟩ := (hPc _ _ _ _).mp pv
    exact q Z H' ys s1 hZ hZ1 rl
theorem compS_list {K : PySem.W.Frag} {a : Addr} {zs : List V} {idx : List Nat} {tt : CB → TT} {te : CB → TE} {σ : St} {Q : VK} {H1 : Hp} {δ : Type} (f : Nat → Option δ) (Rep : Addr → Hp → V → δ → Prop) (mono : ∀ D H H' v d, Same H H' → Rep D H v d → Rep D H' v d) (mput : ∀ D H o v d, (∃ xs, H D = some (.lst xs)) → H1 D = none → Rep D H v d → Rep D (upd H D o) v d)
    (hL : H1 a = some (.lst zs)) (l9 : zs.length ≤ 900000)
    (hs : ∀ (D : Addr) (c : CB) (H : Hp) (i : Nat) (z : V) (yes : V → Hp → Prop) (no : Hp → Prop), zs[i]? = some z → Same H1 H → H1 D = none → (∃ xs, H D = some (.lst xs)) → (∀ d, f i = some d → ∀ v H', Same H H' → Rep D H' v d → yes v H') → (f i = none → ∀ H', Same H H' → no H') → tt c (some (z) :: subS σ idx) H fun b H4 => if b = true then te c (some (z) :: subS σ idx) H4 yes else no H4)
    (q : ∀ D H' vs, Same H1 H' → H1 D = none → H' D = some (.lst vs) → RepL (Rep D) H' vs ((List.range (zs.length)).filterMap f) → Q (.ref D) H') : CompAll (Itl K a) 1 idx (fun _ => gName 0) tt te σ Q H1 :=
  compG_list Same f Rep (fun _ _ e => e) (fun _ _ a b => a.trans b) (fun D H o hD s b u e => by rw [upd_ne (ne_of_none e hD)]; exact s b u e) (fun D H H' o _ _ s e => s D o e) (fun D H H' v d _ s r => mono D H H' v d s r) (fun D H o v d hD _ hl r => mput D H o v d hl hD r) (fun H s => s _ _ hL) l9 hs q
theorem RSet.mono {H H' : Hp} {v : V} {d : List Int} (k : ∀ b xs, H b = some (.tup xs) → H' b = some (.tup xs)) (r : RSet H v d) : RSet H' v d := let ⟨b, e, h⟩ := r; ⟨b, e, k _ _ h⟩
theorem RSet.put {H : Hp} {v : V} {d : List Int} {D : Addr} {o : HO} (hl : ∃ xs, H D = some (.lst xs)) (r : RSet H v d) : RSet (upd H D o) v d := by
  obtain ⟨b, rfl, h⟩ := r
  obtain ⟨xs, hx⟩ := hl
  exact ⟨b, rfl, by rw [upd_ne (ne_of h hx (by intro z; cases z))]; exact h⟩
theorem RSet.same : ∀ (D : Addr) (H H' : Hp) (v : V) (d : List Int), Same H H' → (fun _ => RSet) D H v d → (fun _ => RSet) D H' v d := fun _ _ _ _ _ s r => r.mono fun b xs e => s _ _ e
theorem RSet.puts {H1 : Hp} : ∀ (D : Addr) (H : Hp) (o : HO) (v : V) (d : List Int), (∃ xs, H D = some (.lst xs)) → H1 D = none → (fun _ => RSet) D H v d → (fun _ => RSet) D (upd H D o) v d := fun _ _ _ _ _ hl _ r => r.put hl
theorem fm_filter {δ : Type} {l : List δ} {p : δ → Bool} {f : Nat → Option δ} (h : ∀ i (hi : i < l.length), f i = if p l[i] then some l[i] else none) : (List.range l.length).filterMap f = l.filter p := by
  have : ∀ n, n ≤ l.length → (List.range n).filterMap f = (l.take n).filter p := fun n => by
    induction n with
    | zero => intro _; rfl
    | succ n ih =>
      intro hn
      rw [take_fm, ih (by omega), h n (by omega), List.take_add_one, List.filter_append, List.getElem?_eq_getElem (by omega)]
      cases e : p l[n] <;> simp [e]
  rw [this _ (Nat.le_refl _), List.take_length]
end L2
end

section
set_option Elab.async false
set_option linter.all false
set_option maxRecDepth 100000
set_option maxHeartbeats 2000000
namespace L2
open PySem
theorem SetsAt.mono {H H' : Hp} {bs : List Addr} {ts : List (List Int)} (k : ∀ b xs, H b = some (.tup xs) → H' b = some (.tup xs)) (s : SetsAt H bs ts) : SetsAt H' bs ts := ⟨s.1, fun i b t hb ht => k _ _ (s.2 i b t hb ht)⟩
theorem SetsAt.snoc {H : Hp} {bs : List Addr} {ts : List (List Int)} {b : Addr} {t : List Int} (s : SetsAt H bs ts) (hb : H b = some (.tup (List.map V.int t))) : SetsAt H (bs ++ [b]) (ts ++ [t]) := by
  refine ⟨by rw [List.length_append, List.length_append, s.1]; rfl, fun i c u hc hu => ?_⟩
  by_cases hi : i < bs.length
  · rw [List.getElem?_append_left hi] at hc
    rw [List.getElem?_append_left (by rw [← s.1]; exact hi)] at hu
    exact s.2 i c u hc hu
  · rw [List.getElem?_append_right (by omega)] at hc
    rw [List.getElem?_append_right (by rw [← s.1]; omega), ← s.1] at hu
    have h0 : i - bs.length = 0 := by
      cases z : i - bs.length with
      | zero => rfl
      | succ n => rw [z] at hc; simp at hc
    rw [h0] at hc hu
    cases hc; cases hu
    exact hb
theorem SetsAt.app {H : Hp} {bs cs : List Addr} {ts us : List (List Int)} (s : SetsAt H bs ts) (u : SetsAt H cs us) : SetsAt H (bs ++ cs) (ts ++ us) := by
  refine ⟨by rw [List.length_append, List.length_append, s.1, u.1], fun i c x hc hx => ?_⟩
  by_cases hi : i < bs.length
  · rw [List.getElem?_append_left hi] at hc
    rw [List.getElem?_append_left (by rw [← s.1]; exact hi)] at hx
    exact s.2 i c x hc hx
  · rw [List.getElem?_append_right (by omega)] at hc
    rw [List.getElem?_append_right (by rw [← s.1]; omega), ← s.1] at hx
    exact u.2 _ c x hc hx
theorem kit_same (K : PySem.W.Frag) (T : String) : PySem.W.kitOne K (.type T) (.type T) = some true := by
  unfold PySem.W.kitOne
  rw [if_pos (by simp)]
theorem kit_no {K : PySem.W.Frag} {A B : String} (h : (Value.type A == Value.type B) = false) (e : PySem.W.kitCls K (.type A) (.type B) = some false) : PySem.W.kitOne K (.type A) (.type B) = some false := by
  unfold PySem.W.kitOne
  rw [if_neg (by rw [h]; exact Bool.false_ne_true)]
  exact e
end L2
end

section
set_option Elab.async false
set_option linter.all false
set_option maxRecDepth 100000
set_option maxHeartbeats 4000000
/-! ## set(a tuple of ints) -/
namespace L2
open PySem PySem.Spec PyProof.Rows
section
variable {P : Program} {w : World} {A : Around} {E : Value → Shared → Prop} {s : Shared}
set_option maxHeartbeats 3200000 in
end
section
variable {X : Cx}
def qSetIT (w : World) : List V → Hp → VK → Prop := fun vs H Q => ∃ a, vs = [.ref a] ∧ ∃ ss : List Int, H a = some (.tup (ss.map V.int)) ∧ ss.length < 4000 ∧ ∀ p, H p = none → Q (.ref p) (upd H p (InS w p ss))
end
end L2
end

section
set_option Elab.async false
set_option linter.all false
set_option maxRecDepth 100000
namespace L2
open PySem PySem.Spec PyProof.Rows
section
variable {P : Program} {w : World} {κ : Type} [DecidableEq κ] {knd : PySem.KeyKind P w κ} {A : Around} {E : Value → Shared → Prop} {s : Shared} {a b : Addr} {kvs kvs2 : List (κ × Value)}
theorem same_by {id : String} {Q : Bool → Shared → Prop} (hA : s.heap.DictOf knd a kvs) (hB : s.heap.DictOf knd b kvs2) (la : (a == sysModules) = false) (lb : (b == sysModules) = false) (hl : kvs.length = kvs2.length)
    (hv : ∀ (i : Nat) k v, kvs[i]? = some (k, v) → ∃ (j : Nat) (u : Value), kvs2[j]? = some (k, u) ∧ SeqAt.EqAt A s v u true) (q : Q true s) : wpAny (model P w) A (Builtin.Dict.samePairs id a b) Q E s := by
  obtain ⟨oa, ea, pa, hoa, ca, da, ka, ra, na⟩ := hA
  obtain ⟨ob, eb, pb, hob, cb, db, kb, rb, nb⟩ := hB
  have za : ea.size = kvs.length := by rw [← ra.length, Array.length_toList]
  have zb : eb.size = kvs2.length := by rw [← rb.length, Array.length_toList]
  unfold Builtin.Dict.samePairs Builtin.Dict.showsAll
  rw [la, lb]
  refine wpAny_bind (wpAny_pure (wpAny_bind (wpAny_pure (wpAny_bind (wpAny_dictEntries hoa da (wpAny_bind (wpAny_dictEntries hob db ?_)))))))
  rw [if_neg (by rw [za, zb, hl]; simp)]
  refine wpAny_bind (wpAny_dictEpoch hoa da ?_)
  refine wpAny_bind ?_
  rw [Std.Legacy.Range.forIn_eq_forIn_range']
  refine wpAny_forIn_list _ (fun rest c s' => s' = s ∧ c = (none, ()) ∧ ∀ x ∈ rest, x < ea.size) _ ?_ ?_ _ _ ⟨rfl, rfl, fun x hx => by
    simp only [Std.Legacy.Range.size, Nat.sub_zero, Nat.add_sub_cancel, Nat.div_one] at hx
    have := List.mem_range'_1.mp hx
    omega⟩
  · rintro x rest c s' ⟨rfl, rfl, hx⟩
    have lt := hx x List.mem_cons_self
    refine wpAny_bind (wpAny_dictEntries hoa da ?_)
    have ltk : x < kvs.length := by rw [← za]; exact lt
    have ek : kvs[x]? = some ((kvs[x]).1, (kvs[x]).2) := List.getElem?_eq_getElem ltk
    obtain ⟨j0, u0, e2, ev⟩ := hv x _ _ ek
    have pe := ra.get? (e := ea[x]) (by simp [lt]) ek
    obtain ⟨k', hk', hh⟩ := ka ea[x] (Array.getElem_mem lt)
    have ekk : k' = (kvs[x]).1 := knd.inj _ _ _ hk' pe.1
    rw [Array.getElem?_eq_getElem lt]
    dsimp only
    obtain ⟨j, f, f1, f2, f3⟩ := find_same rb nb e2
    refine wpAny_bind (wpAny_holding (wpAny_bind ?_))
    rw [hh, ekk]
    refine wpAny_dictFind_of (knd := knd) pe.1 hob db kb ?_
    rw [f1]
    dsimp only
    refine wpAny_bind (wpAny_dictEntries hob db ?_)
    rw [f2]
    dsimp only
    rw [pe.2, f3]
    refine wpAny_holding (ev _ _ _ _ (wpAny_bind (wpAny_dictEpoch hoa da ?_)))
    rw [if_neg (by simp)]
    exact wpAny_pure ⟨rfl, rfl, fun y hy => hx y (List.mem_cons_of_mem _ hy)⟩
  · rintro c s' ⟨rfl, rfl, _⟩
    exact wpAny_pure q
theorem dict_eq_by {Q : Value → Shared → Prop} (neg : Bool) (hA : s.heap.DictOf knd a kvs) (hB : s.heap.DictOf knd b kvs2) (la : (a == sysModules) = false) (lb : (b == sysModules) = false) (hl : kvs.length = kvs2.length)
    (hv : ∀ (i : Nat) k v, kvs[i]? = some (k, v) → ∃ (j : Nat) (u : Value), kvs2[j]? = some (k, u) ∧ SeqAt.EqAt A.in1 s v u true) (hu : A.units < cLine) (q : Q (.bool (!neg)) s) : wpAny (model P w) A (compareOp (if neg then .NotEq else .Eq) (.ref a) (.ref b)) Q E s := by
  have body : ∀ (name : String) (wanted : Bool) (Q' : Value → Shared → Prop) (E' : Value → Shared → Prop), Q' (.bool (true == wanted)) s → wpAny (model P w) A.in1 (do
      let (self, other) ← Builtin.Dict.dictSlotArgs name ⟨[.ref a, .ref b], []⟩
      if !(← isInstance other (.type "dict")) then rule s!"dict.{name}.not-a-dict"; return ← ret .notImplemented
      ret (.bool ((← Builtin.Dict.samePairs s!"dict.{name}" (← Builtin.Dict.addrOf self) (← Builtin.Dict.addrOf other)) == wanted))) (fun fin s' => ∃ v, fin = .done (.ret v) ∧ Q' v s') E' s := by
    intro name wanted Q' E' hq
    unfold Builtin.Dict.dictSlotArgs
    refine wpAny_bind (wpAny_bind (wpAny_notOrdered_dict hA.typeIs (wpAny_bind (m := slotArgs _ _ _) (wpAny_pure (wpAny_pure ?_)))))
    dsimp only
    refine wpAny_bind (wpAny_isInstance (T := "dict") (b := true) hB.typeIs isSubtype_dict_dict ?_)
    rw [if_neg (by simp)]
    refine wpAny_bind (m := Builtin.Dict.addrOf (.ref a)) (wpAny_pure (wpAny_bind (m := Builtin.Dict.addrOf (.ref b)) (wpAny_pure (wpAny_bind (same_by hA hB la lb hl hv ?_)))))
    exact wpAny_pure ⟨_, rfl, hq⟩
  cases neg with
  | false =>
    refine wpAny_richCompare_same_room (op := .Eq) hA.typeIs hB.typeIs PySem.F.slot_dict_eq (wpAny_call_entry PySem.F.slot_dict_eq hA.typeIs PySem.F.entry_dict_eq ?_ (PySem.F.args_dict_eq_2 _ _)) hu
    exact body "__eq__" true (fun v s' => v ≠ .notImplemented ∧ Q v s') _ ⟨(fun z => by cases z), q⟩
  | true =>
    refine wpAny_richCompare_same_room (op := .NotEq) hA.typeIs hB.typeIs PySem.F.slot_dict_ne (wpAny_call_entry PySem.F.slot_dict_ne hA.typeIs PySem.F.entry_dict_ne ?_ (PySem.F.args_dict_ne_2 _ _)) hu
    exact body "__ne__" false (fun v s' => v ≠ .notImplemented ∧ Q v s') _ ⟨(fun z => by cases z), q⟩
end
section
variable {X : Cx}
theorem KV.at {kvs : List (Key × V)} {vs : List (Key × Value)} (r : KV kvs vs) {i : Nat} {k : Key} {u : Value} (h : vs[i]? = some (k, u)) : ∃ v, kvs[i]? = some (k, v) ∧ RelV v u := by
  induction r generalizing i with
  | nil => cases i <;> cases h
  | @cons p q ps qs h1 t ih =>
    cases i with
    | zero =>
      cases h
      obtain ⟨p1, p2⟩ := p
      obtain ⟨e1, e2⟩ := h1
      dsimp only at e1
      subst e1
      exact ⟨p2, rfl, e2⟩
    | succ i => exact ih h
theorem KV.to {kvs : List (Key × V)} {vs : List (Key × Value)} (r : KV kvs vs) {i : Nat} {k : Key} {v : V} (h : kvs[i]? = some (k, v)) : ∃ u, vs[i]? = some (k, u) ∧ RelV v u := by
  induction r generalizing i with
  | nil => cases i <;> cases h
  | @cons p q ps qs h1 t ih =>
    cases i with
    | zero =>
      cases h
      obtain ⟨q1, q2⟩ := q
      obtain ⟨e1, e2⟩ := h1
      dsimp only at e1
      subst e1
      exact ⟨q2, rfl, e2⟩
    | succ i => exact ih h
/-- d == e, d != e: dicts of sets that are alike, in whatever order -/
def qEqDS (neg : Bool) : R2 := fun x y H Q => ∃ a b, x = .ref a ∧ y = .ref b ∧ ∃ kvs kvs2, H a = some (.dK kvs) ∧ H b = some (.dK kvs2) ∧ kvs.length = kvs2.length ∧
  (∀ k v, (k, v) ∈ kvs → ∃ p q t, v = .ref p ∧ (k, V.ref q) ∈ kvs2 ∧ H p = some (.tup (List.map V.int t)) ∧ H q = some (.tup (List.map V.int t))) ∧ Q (.bl (!neg)) H
theorem by_sets {A : Around} {pins : List (Addr × Obj)} {s : Shared} {σ : St} {H : Hp} {kvs kvs2 : List (Key × V)} {vs ws : List (Key × Value)} (I : Inv X pins σ H s) (hu : A.units < cLine) (r1 : KV kvs vs) (r2 : KV kvs2 ws)
    (hc : ∀ k v, (k, v) ∈ kvs → ∃ p q t, v = .ref p ∧ (k, V.ref q) ∈ kvs2 ∧ H p = some (.tup (List.map V.int t)) ∧ H q = some (.tup (List.map V.int t))) (i : Nat) (k : Key) (v : Value) (h : vs[i]? = some (k, v)) :
    ∃ (j : Nat) (u : Value), ws[j]? = some (k, u) ∧ SeqAt.EqAt A s v u true := by
  obtain ⟨x, hx, rx⟩ := r1.at h
  obtain ⟨p, q, t, rfl, hm, hp, hq⟩ := hc k x (List.mem_of_getElem? hx)
  cases rx
  obtain ⟨j, hj⟩ := List.mem_iff_getElem?.mp hm
  obtain ⟨u, hu1, ru⟩ := r2.to hj
  cases ru
  have e := eq_set (A := A) I hp hq hu
  rw [decide_eq_true rfl] at e
  exact ⟨j, _, hu1, e⟩
theorem op_neDS (hu : X.A.units + 1 < cLine) : OpR X (compareOp .NotEq) (qEqDS true) := by
  intro pins s σ H x y v u Q I rx ry h
  obtain ⟨a, b, rfl, rfl, kvs, kvs2, ha, hb, hl, hc, q⟩ := h
  cases rx; cases ry
  obtain ⟨_, la, vs, r1, d1⟩ := I.hok a _ ha
  obtain ⟨_, lb, ws, r2, d2⟩ := I.hok b _ hb
  exact dict_eq_by (neg := true) d1 d2 la lb (by rw [← KV.length r1, hl, KV.length r2]) (fun i k v h => by_sets I hu r1 r2 hc i k v h) (by omega) ⟨.bl false, H, I, rfl, q⟩
end
end L2
end

section
set_option Elab.async false
set_option linter.all false
set_option maxRecDepth 100000
set_option maxHeartbeats 4000000
/-! ## a dict walked by its keys -/
namespace L2
open PySem PySem.Spec PyProof.Rows
section
variable {X : Cx} {pins : List (Addr × Obj)} {σ : St} {H : Hp} {s : Shared} {d : Addr} {o : Obj} {kvs : List (Key × V)}
theorem hok_swap {P : Program} {w : World} {h : Heap} {u u' : HO} (hk : HOk P w H h) (hd : H d = some u) (n1 : ∀ y, u ≠ .own y) (n2 : ∀ xs, u ≠ .tup xs) (hn : ∀ H', (∀ b y, H b = some (.own y) → H' b = some (.own y)) → (∀ b xs, H b = some (.tup xs) → H' b = some (.tup xs)) → ObjOk P w H' h d u') :
    HOk P w (upd H d u') h := by
  have a1 : ∀ b y, H b = some (.own y) → upd H d u' b = some (.own y) := fun b y e => by rw [upd_ne (ne_of hd e (n1 y)).symm]; exact e
  have a2 : ∀ b xs, H b = some (.tup xs) → upd H d u' b = some (.tup xs) := fun b xs e => by rw [upd_ne (ne_of hd e (n2 xs)).symm]; exact e
  intro b z q
  by_cases hb : b = d
  · subst hb; rw [upd_same] at q; cases q; exact hn _ a1 a2
  · rw [upd_ne hb] at q
    exact (hk b z q).stay (fun _ _ _ q => q) (fun c q => a1 c _ q) a2
theorem inv_freeze (I : Inv X pins σ H s) (hd : H d = some (.dK kvs)) (ho : s.heap.get? d = some o) : Inv X pins σ (upd H d (.frz o (.dK kvs))) s := by
  have ok : HOk X.prog X.w (upd H d (.frz o (.dK kvs))) s.heap := hok_swap I.hok hd (fun y z => by cases z) (fun xs z => by cases z) fun H' h1 h2 => ⟨ho, (I.hok d _ hd).stay (fun _ _ _ q => q) (fun c q => h1 c _ q) h2⟩
  have ne : ∀ {b : Addr} {u : HO}, H b = some u → (HO.dK kvs ≠ u) → b ≠ d := fun e n => (ne_of hd e n).symm
  exact I.step (g' := s.gens) (t' := s.toks) (d' := s.drawn) (ch := []) (fun _ z => nomatch z) (fun _ _ _ _ _ e _ => e) (fun b o _ _ _ e _ => ⟨o.slots, e⟩) (fun b o _ e n => by rw [upd_ne (ne_of_none hd n).symm]; exact n) (fun b o _ e => ⟨o, e⟩)
    (fun b xs e => by rw [upd_ne (ne e (by intro z; cases z))]; exact e) (fun b o u e => by rw [upd_ne (ne e (by intro z; cases z))]; exact e) (fun b ps e => ⟨#[], by rw [upd_ne (ne e (by intro z; cases z)), e]; simp⟩) (fun m h => h) ok I.bare
theorem inv_thaw (I : Inv X pins σ H s) (hd : H d = some (.frz o (.dK kvs))) (h0 : X.H₀ d = none) : Inv X pins σ (upd H d (.dK kvs)) s := by
  have ok : HOk X.prog X.w (upd H d (.dK kvs)) s.heap := hok_swap I.hok hd (fun y z => by cases z) (fun xs z => by cases z) fun H' h1 h2 => by
    obtain ⟨_, q⟩ := (show ObjOk X.prog X.w H s.heap d (.frz o (.dK kvs)) from I.hok d _ hd)
    exact ObjOk.stay (o := .dK kvs) q (fun _ _ _ q => q) (fun c q => h1 c _ q) h2
  have ne : ∀ {b : Addr} {u : HO}, H b = some u → (HO.frz o (.dK kvs) ≠ u) → b ≠ d := fun e n => (ne_of hd e n).symm
  have nn : ∀ {b : Addr}, H b = none → upd H d (.dK kvs) b = none := fun n => by rw [upd_ne (ne_of_none hd n).symm]; exact n
  refine ⟨I.ok, I.os, I.bare, ⟨I.base.keep, I.base.slot, fun b ob e n hx => nn (I.base.free b ob e n hx), I.base.there, fun b xs e => ?_, fun b ob u e => ?_, fun b ps e => ?_⟩, I.loc, I.cell, nn I.free, fun x c e => nn (I.freeC x c e), fun p hp => ?_, ok, I.len⟩
  · have e1 := I.base.tups b xs e
    rw [upd_ne (ne e1 (by intro z; cases z))]; exact e1
  · have e1 := I.base.frzs b ob u e
    by_cases hb : b = d
    · subst hb; rw [h0] at e; cases e
    · rw [upd_ne hb]; exact e1
  · obtain ⟨m, e1⟩ := I.base.tbls b ps e
    exact ⟨m, by rw [upd_ne (ne e1 (by intro z; cases z))]; exact e1⟩
  · obtain ⟨p1, p2, p3⟩ := I.pin p hp
    exact ⟨p1, nn p2, p3⟩
end
def Itd (d : Addr) (o : Obj) (kvs : List (Key × V)) : It :=
  ⟨fun i H => i < kvs.length ∧ H d = some (.frz o (.dK kvs)), fun i H x H' => H' = H ∧ ∃ k v, kvs[i]? = some (k, v) ∧ x = kV k, fun i H => kvs.length ≤ i ∧ H d = some (.frz o (.dK kvs))⟩
theorem turn_dict {P : Program} {w : World} {K : PySem.W.Frag} {tg : Expr} (d it : Addr) (o : Obj) (kvs : List (Key × V)) (es : Array DictEntry) (ep : Nat) (ne : d ≠ it) (ox : o.ExactDict) (od : o.data = .dict es ep) : Turn P w K tg (Itd d o kvs) [it] it (fun i h => h.IsKeyIter it d i es.size ep) where
  mem := by simp
  obj := fun i h st b hb => by
    have e : b = it := by simpa using hb
    subst e
    obtain ⟨o, e, c, d⟩ := st
    exact ⟨o, e, fun v z => by rw [d] at z; cases z⟩
  keep := fun i h h' st k => st.at fun o e => k it (by simp) o e
  item := by
    intro X hP hw hK hc i pins s σ H E I hf st hg
    subst hP hw hK
    obtain ⟨hi, hd⟩ := hg
    obtain ⟨ho, q⟩ := (show ObjOk X.prog X.w H s.heap d (.frz o (.dK kvs)) from I.hok d _ hd)
    obtain ⟨_, _, vs, rel, o', es', ep', ho', ox', od', ka, ra, na⟩ := q
    rw [ho] at ho'
    cases ho'
    rw [od] at od'
    cases od'
    obtain ⟨f0, f1, f2, f3, f4, f5⟩ := hf it (by simp)
    have zl : es.size = kvs.length := by rw [KV.length rel, ← ra.length, Array.length_toList]
    have hi' : i < es.size := by omega
    have ek : kvs[i]? = some ((kvs[i]).1, (kvs[i]).2) := List.getElem?_eq_getElem hi
    obtain ⟨u, hu, _⟩ := KV.to rel ek
    have pe := ra.get? (e := es[i]) (by simp [hi']) hu
    refine raw_item st ⟨o, ho, ox, od⟩ hi' fun h' st' sb => ?_
    have I1 : Inv X pins σ H { s with heap := h' } := I.turned (t' := s.toks) (fun b o hb e => (sb.2 b hb).trans e) f0 f1 f3 f4 f5
    obtain ⟨oi, e, c, dd⟩ := id st'
    have rk : RelV (kV (kvs[i]).1) es[i].key := by
      rcases keyIs_shape pe.1 with ⟨j, t, e1, e2⟩ | ⟨y, t, e1, e2⟩
      · rw [e1, e2]; exact ⟨t, rfl⟩
      · rw [e1, e2]; exact ⟨t, rfl⟩
    exact ⟨_, rfl, go_of (s := { s with heap := h' }) e c dd (by decide) ⟨kV (kvs[i]).1, H, I1, rk, ⟨rfl, _, _, ek, rfl⟩, st', fun b hb => (hf b hb).1⟩⟩
  done := by
    intro X hP hw hK hc i pins s σ H E I hf st hg
    subst hP hw hK
    obtain ⟨hi, hd⟩ := hg
    obtain ⟨ho, q⟩ := (show ObjOk X.prog X.w H s.heap d (.frz o (.dK kvs)) from I.hok d _ hd)
    obtain ⟨_, _, vs, rel, o', es', ep', ho', ox', od', ka, ra, na⟩ := q
    rw [ho] at ho'
    cases ho'
    rw [od] at od'
    cases od'
    obtain ⟨f0, f1, f2, f3, f4, f5⟩ := hf it (by simp)
    have zl : es.size = kvs.length := by rw [KV.length rel, ← ra.length, Array.length_toList]
    exact raw_end (I.ok.hd hc) st ⟨o, ho, ox, od⟩ (by omega) fun h' eb => ⟨rfl, I.turned (t' := s.toks) (fun b o hb e => eb b o hb e) f0 f1 f3 f4 f5⟩
  self := fun _ _ _ _ _ st h => wpAny_pyIter_keyiter st h
section
variable {X : Cx} {tg : Expr}
def iDict (te : TE) : TI := fun σ H R => te σ H fun v H1 => ∃ a kvs, v = .ref a ∧ H1 a = some (.dK kvs) ∧ ∀ o, R (Itd a o kvs) (upd H1 a (.frz o (.dK kvs)))
theorem pi_dict {l : Expr} {tl : TE} (hl : PE X l tl) : PI X tg l (iDict tl) := by
  intro pins s σ H R I h
  refine thn (hl pins s σ H _ I h) fun v s1 q1 => ?_
  obtain ⟨x, H1, I1, r1, a, kvs, rfl, hd, q⟩ := q1
  cases r1
  obtain ⟨hz, lo, vs, rel, o, es, ep, ho, ox, od, c⟩ := I1.hok a _ hd
  refine raw_iter lo ⟨o, ho, ox, od⟩ ?_
  have I0 := inv_freeze I1 hd ho
  have I2 : Inv X pins σ (upd H1 a (.frz o (.dK kvs))) { s1 with heap := s1.heap.push { cls := .type "dict_keyiterator", data := .fields #[.ref a, .int 0 0, .int es.size 0, .int ep 0] } } := I0.kept (t' := s1.toks) fun b o e => Heap.get?_push_of_some _ e
  refine ⟨s1.heap.objs.size, [s1.heap.objs.size], _, _, _, rfl, I2, turn_dict a _ o kvs es ep (Nat.ne_of_lt (Heap.lt_size ho)) ox od, ⟨_, Heap.get?_push_size _ rfl, rfl, rfl⟩, fun b hb => ?_, q o⟩
  have e : b = s1.heap.objs.size := by simpa using hb
  subst e
  exact I0.fpOk (Nat.le_refl _) (I0.hok.fresh (Nat.le_refl _))
theorem forAll_dict {a : Addr} {o : Obj} {kvs : List (Key × V)} {g : TG} {tb : TS} {D : Ends} {σ : St} {H : Hp} (Pv : Nat → St → Hp → Prop) (h0 : Pv 0 σ H) (hl : ∀ i σ H, i ≤ kvs.length → Pv i σ H → H a = some (.frz o (.dK kvs)))
    (hs : ∀ i k v σ H, kvs[i]? = some (k, v) → Pv i σ H → g (kV k) σ H fun σ2 H2 => tb { D with nx := Pv (i + 1), ct := Pv (i + 1), bk := D.nx } σ2 H2) (hd : ∀ σ H, Pv kvs.length σ H → D.nx σ H) : ForAll (Itd a o kvs) g tb D σ H := by
  refine ⟨fun i m σ H => m = kvs.length - i ∧ i ≤ kvs.length ∧ Pv i σ H, ⟨kvs.length, by simp, Nat.zero_le _, h0⟩, ?_⟩
  rintro i m σ H ⟨rfl, hi, p⟩
  have hL := hl i σ H hi p
  by_cases hlt : i < kvs.length
  · refine .inr ⟨⟨hlt, hL⟩, Pv (i + 1), fun σ' H' p' => ⟨kvs.length - (i + 1), by omega, rfl, hlt, p'⟩, fun x H' yl => ?_⟩
    obtain ⟨rfl, k, v, hk, rfl⟩ := yl
    exact hs i k v σ _ hk p
  · have e : i = kvs.length := by omega
    subst e
    exact .inl ⟨⟨Nat.le_refl _, hL⟩, hd σ H p⟩
theorem zpi_dict {l : Expr} {tl : TE} (h1 : ZE X l tl) : ZI X tg l (iDict tl) := ⟨pi_dict h1.to⟩
/-- a walk is over: the dict may be written again -/
def tThaw (H0 : Hp) (t : TS) : TS := fun D σ H => ∃ d o kvs, H d = some (.frz o (.dK kvs)) ∧ H0 d = none ∧ t D σ (upd H d (.dK kvs))
theorem ps_thaw {st : Stmt} {t : TS} {H0 : Hp} (e : X.H₀ = H0) (h : PS X st t) : PS X st (tThaw H0 t) := fun pins s σ H D I ⟨d, o, kvs, hd, h0, q⟩ => h pins s σ _ D (inv_thaw I hd (by rw [e]; exact h0)) q
theorem zps_thaw {st : Stmt} {t : TS} {H0 : Hp} (e : X.H₀ = H0) (h : ZS X st t) : ZS X st (tThaw H0 t) := ⟨ps_thaw e h.to⟩
end
end L2
end

section
set_option Elab.async false
set_option linter.all false
set_option maxRecDepth 100000
set_option maxHeartbeats 4000000
namespace L2
open PySem PySem.Spec PyProof.Rows
theorem ext_tup (l : Addr) (items : Array Value) (n : Nat) (b : Addr) (items2 : Array Value) (n2 : Nat) (dc : Option Addr) (sl : Array (Option Value)) (hs0 : ¬(!items.isEmpty && Builtin.List.listTooLong (items.size + items2.size)) = true) (hs1 : items.size ≤ sizeLine) (hs2 : items.size + items2.size ≤ sizeLine + 1) :
    Meets (Builtin.«list.extend» ⟨[.ref l, .ref b], []⟩) (fun _ R s => s.heap.get? l = some { cls := .type "list", dict := none, data := .seq items n, slots := #[] } ∧ s.heap.get? b = some { cls := .type "tuple", dict := dc, data := .seq items2 n2, slots := sl } ∧ R (.ok (.ret Value.none)) { s with heap := s.heap.update l (Obj.mapSeq fun x => x ++ items2), toks := s.toks }) :=
  .of_wp fun prog w A R s h => by
    obtain ⟨hp, g, d, tk, os⟩ := s
    obtain ⟨hl, hb, h⟩ := h
    have f2 := sub_tuple_tuple
    have f3 := sub_list_list
    have f4 := sub_tuple_list
    have f5 := sub_list_tuple
    have hz' : (items ++ items2).size ≤ sizeLine + 1 := by rw [Array.size_append]; exact hs2
    wp_walk using (wpAny_updateSeq hl rfl (hz := hs1) (_hz' := hz')), wpAny_loadPart' hl, wpAny_loadPart' hb
    exact ⟨_, rfl, h⟩
section
variable {X : Cx}
/-- d.get(number, else) -/
def rGetDI : V → List V → Hp → VK → Prop := fun x vs H Q => ∃ a n d, x = .ref a ∧ vs = [.int n, d] ∧ ∃ kvs, H a = some (.dK kvs) ∧ Q ((valV kvs (Sum.inl n)).getD d) H
theorem mt_getDI (hu : X.A.units + 1 < cLine) : MtR X "dict.get" rGetDI := by
  intro pins s σ H x vs v us Q I rx rv h
  obtain ⟨a, n, d, rfl, rfl, kvs, hq, q⟩ := h
  cases rx
  obtain ⟨u1, u2, rfl, r1, r2⟩ := rv.two
  exact d_get2 hu I (DGet.k (k := Sum.inl n) hq) r1 r2 fun w' s' I' r => ⟨_, H, I', r, q⟩
/-- l.extend(tuple) -/
def rExtendT : V → List V → Hp → VK → Prop := fun x vs H Q => ∃ l b xs zs, x = .ref l ∧ vs = [.ref b] ∧ H l = some (.lst xs) ∧ H b = some (.tup zs) ∧ xs.length + zs.length ≤ sizeLine ∧ Q .non (upd H l (.lst (xs ++ zs)))
theorem mt_extendT : MtM X "list.extend" rExtendT := by
  intro pins s σ H x vs v us Q I rx rv h
  obtain ⟨l, b, xs, zs, rfl, rfl, hH, hB, hz, q⟩ := h
  cases rx
  obtain ⟨u, rfl, ru⟩ := rv.one
  cases ru
  obtain ⟨z, its, n, r, hl, e⟩ := I.lstM hH
  obtain ⟨its2, r2, t2, _⟩ := I.tuple (sqT_of hB)
  have hl2 := r2.length
  have hsz : its.toArray.size + its2.toArray.size ≤ sizeLine := by rw [List.size_toArray, List.size_toArray]; omega
  have hlong : ¬ (!its.toArray.isEmpty && Builtin.List.listTooLong (its.toArray.size + its2.toArray.size)) = true := by
    rw [notLongL hsz, Bool.and_false]
    exact Bool.false_ne_true
  obtain ⟨⟨c2, d2, a2, s2⟩, e2, hc2, hd2⟩ := t2
  dsimp only at hc2 hd2
  subst hc2
  obtain ⟨n2, hd2⟩ := hd2
  subst hd2
  refine call_meets F.slot_list_extend ⟨_, e, rfl⟩ F.entry_list_extend (F.args_list_extend_2 _ _)
    (ext_tup l its.toArray n b its2.toArray n2 d2 s2 hlong (by rw [List.size_toArray]; omega) (by omega)) ⟨e, e2, ?_⟩
  refine ⟨.non, _, I.lset (its' := its ++ its2) hH e (by simp) (r.append r2) ?_, rfl, q⟩
  rw [List.length_append]
  omega
end
section
variable {X : Cx} {N : List Str} {sc : Scope} {pos : Pos}
theorem psk_par {x y : Str} {a b : Expr} {ta : TA} {px py pt : Pos} {kt k2 pt2} (hc : HC X N sc) (nd : N.Nodup) (hm : X.calm = true) (i j : Nat) (h : okL1 N sc i x = true) (h2 : okL1 N sc j y = true) (hij : i ≠ j) (ha : PA X [a, b] ta)
    (hw : swappedStores [.Tuple [.Name x px, .Name y py] kt pt] (.Tuple [a, b] k2 pt2) X.env = pure (some [x, y]))
    (hs : swapsWithSole [.Tuple [.Name x px, .Name y py] kt pt] (.Tuple [a, b] k2 pt2) pos.line X.env = pure false) :
    PS X (.Assign [.Tuple [.Name x px, .Name y py] kt pt] (.Tuple [a, b] k2 pt2) pos) (tPar i j ta) :=
  ps_par hm (by rw [hc.n]; exact nd) (okL1_loc hc h).1 (okL1_loc hc h2).1 hij (okL1_loc hc h).2 (okL1_loc hc h2).2 ha hw hs
theorem zpsk_par {x y : Str} {a b : Expr} {ta : TA} {px py pt : Pos} {kt k2 pt2} (hc : HC X N sc) (nd : N.Nodup) (hm : X.calm = true) (i j : Nat) (h : okL1 N sc i x = true) (h2 : okL1 N sc j y = true) (hij : i ≠ j) (ha : ZA X [a, b] ta)
    (hw : swappedStores [.Tuple [.Name x px, .Name y py] kt pt] (.Tuple [a, b] k2 pt2) X.env = pure (some [x, y]))
    (hs : swapsWithSole [.Tuple [.Name x px, .Name y py] kt pt] (.Tuple [a, b] k2 pt2) pos.line X.env = pure false) :
    ZS X (.Assign [.Tuple [.Name x px, .Name y py] kt pt] (.Tuple [a, b] k2 pt2) pos) (tPar i j ta) := ⟨psk_par hc nd hm i j h h2 hij ha.to hw hs⟩
end
section
variable {X : Cx}
/-- // by very large numbers -/
def CDivX (i j : Int) : Prop := 0 < j ∧ ∃ n, n < 9000 ∧ j < 2 ^ n
theorem op_fdivX : OpR X (binaryOp .FloorDiv) (rI CDivX fun i j => .int (i / j)) := opI fun i j _ _ _ _ _ hc q => by
  have h1 : (0 : Int) < j := hc.1
  obtain ⟨n, hn, h2⟩ := hc.2
  refine floordiv_int (by omega) (by rw [Int.fdiv_eq_ediv_of_nonneg i (by omega)]; exact q) (.inl (PyProof.noPylong_of_log2 ?_))
  have h3 : j.natAbs < 2 ^ n := by
    have : ((2 ^ n : Nat) : Int) = 2 ^ n := by simp
    omega
  have h4 : j.natAbs ≠ 0 := by omega
  have := (Nat.log2_lt h4).mpr h3
  omega
end
end L2
end

section
set_option Elab.async false
set_option linter.all false
set_option maxRecDepth 100000
set_option maxHeartbeats 2000000
namespace L2
open PySem
theorem same_put' {H H1 : Hp} {p : Addr} {o : HO} (a : Same H H1) (hn : H p = none) : Same H (upd H1 p o) := fun b u e => by rw [upd_ne (ne_of_none e hn)]; exact a b u e
theorem ref_at {qs : List Addr} {i : Nat} {x : V} (h : (List.map V.ref qs)[i]? = some x) : ∃ q, qs[i]? = some q ∧ x = .ref q := by
  rw [List.getElem?_map] at h
  cases e : qs[i]? with
  | none => rw [e] at h; cases h
  | some q => rw [e] at h; exact ⟨q, rfl, (Option.some.inj h).symm⟩
theorem same_new {H : Hp} {p : Addr} (h : H p = none) (o : HO) : Same H (upd H p o) := fun b u q => by rw [upd_ne (ne_of_none q h)]; exact q
theorem inV_ints (m : Int) (y : List Int) : inV (.int m) (List.map V.int y) = decide (m ∈ y) := by
  unfold inV
  rw [List.any_map, Bool.eq_iff_iff, List.any_eq_true, decide_eq_true_eq]
  constructor
  · rintro ⟨z, hz, e⟩
    have : z = m := by simpa [eqV] using e
    rw [← this]; exact hz
  · intro h
    exact ⟨m, h, by simp [eqV]⟩
theorem flat_ints (y : List Int) : (List.map V.int y).all flatV = true := by
  rw [List.all_map, List.all_eq_true]
  intro _ _
  rfl
theorem int_at {ns : List Int} {i : Nat} {x : V} (h : (List.map V.int ns)[i]? = some x) : ∃ n, ns[i]? = some n ∧ x = .int n := by
  rw [List.getElem?_map] at h
  cases e : ns[i]? with
  | none => rw [e] at h; cases h
  | some q => rw [e] at h; exact ⟨q, rfl, (Option.some.inj h).symm⟩
def hv (l : Addr) (a b c d e : Int) : HO := .lst [.ref l, .int a, .int b, .int c, .int d, .int e]
def HdO (l : Addr) (o : HO) : Prop := ∃ a b c d e, o = hv l a b c d e ∧ 0 ≤ a
def spNext : Sp := fun vs H Q _ => ∃ h, vs = [.ref h] ∧ ∃ l a b c d e, H h = some (hv l a b c d e) ∧ Q (.int (d * 48271 % 2147483647 + e * 40693 % 2147483399)) (upd H h (hv l a b c (d * 48271 % 2147483647) (e * 40693 % 2147483399)))
def spTake : Sp := fun vs H Q _ => ∃ h, vs = [.ref h] ∧ ∃ l ns o, H h = some o ∧ HdO l o ∧ H l = some (.lst (List.map V.int ns)) ∧ ∀ o', HdO l o' → Q .non (upd H h o')
def spDraw : Sp := fun vs H Q _ => ∃ h m, vs = [.ref h, .int m] ∧ 1 ≤ m ∧ m < 2 ^ 300 ∧ ∃ l ns o, H h = some o ∧ HdO l o ∧ H l = some (.lst (List.map V.int ns)) ∧ ∀ r o', 0 ≤ r → r < m → HdO l o' → Q (.int r) (upd H h o')
def Hd (H : Hp) (h l : Addr) : Prop := ∃ ns o, H h = some o ∧ HdO l o ∧ H l = some (.lst (List.map V.int ns))
def HandAt (H : Hp) (h : Addr) : Prop := ∃ l, Hd H h l
/-- draws were made and new things: the hand has turned, all else stands -/
structure Dr (h : Addr) (H H' : Hp) : Prop where
  keep : ∀ b o, b ≠ h → H b = some o → H' b = some o
  hand : ∀ l, Hd H h l → Hd H' h l
theorem Dr.refl {h : Addr} {H : Hp} : Dr h H H := ⟨fun _ _ _ e => e, fun _ x => x⟩
theorem Dr.trans {h : Addr} {H H1 H2 : Hp} (a : Dr h H H1) (b : Dr h H1 H2) : Dr h H H2 := ⟨fun c o hc e => b.keep c o hc (a.keep c o hc e), fun l x => b.hand l (a.hand l x)⟩
theorem Dr.handAt {h : Addr} {H H1 : Hp} (a : Dr h H H1) (x : HandAt H h) : HandAt H1 h := let ⟨l, y⟩ := x; ⟨l, a.hand l y⟩
theorem Hd.apart {H : Hp} {h l : Addr} (x : Hd H h l) : l ≠ h := by
  obtain ⟨ns, o, e1, ⟨a, b, c, d, e, rfl, _⟩, e3⟩ := x
  intro z
  rw [z, e1] at e3
  have q := Option.some.inj e3
  unfold hv at q
  injection q with q
  match ns, q with
  | [], q => cases q
  | n :: _, q => injection q with q1 _; cases q1
theorem Dr.new {h p : Addr} {H H1 : Hp} {o : HO} (a : Dr h H H1) (hp : H1 p = none) : Dr h H (upd H1 p o) := by
  refine ⟨fun c o' hc e => ?_, fun l x => ?_⟩
  · rw [upd_ne (ne_of_none (a.keep c o' hc e) hp)]; exact a.keep c o' hc e
  · obtain ⟨ns, oh, e1, e2, e3⟩ := a.hand l x
    exact ⟨ns, oh, by rw [upd_ne (ne_of_none e1 hp)]; exact e1, e2, by rw [upd_ne (ne_of_none e3 hp)]; exact e3⟩
/-- what was not there ahead is written -/
theorem Dr.put {h p : Addr} {H H1 : Hp} {o' : HO} (a : Dr h H H1) (hn : H p = none) : Dr h H (upd H1 p o') := by
  refine ⟨fun c o' hc e => ?_, fun l x => ?_⟩
  · rw [upd_ne (ne_of_none e hn)]; exact a.keep c o' hc e
  · obtain ⟨ns, oh, e1, e2, e3⟩ := a.hand l x
    obtain ⟨_, _, f1, _, f3⟩ := x
    exact ⟨ns, oh, by rw [upd_ne (ne_of_none f1 hn)]; exact e1, e2, by rw [upd_ne (ne_of_none f3 hn)]; exact e3⟩
theorem HandAt.ne {h p : Addr} {H : Hp} (x : HandAt H h) (hp : H p = none) : p ≠ h := by
  obtain ⟨l, ns, oh, e1, _, _⟩ := x
  exact (ne_of_none e1 hp).symm
theorem Dr.free {h p : Addr} {H H1 : Hp} (a : Dr h H H1) (x : HandAt H h) (hp : H1 p = none) : H p = none := by
  cases e : H p with
  | none => rfl
  | some o =>
    have n := (a.handAt x).ne hp
    have := a.keep p o n e
    rw [hp] at this; cases this
/-- what a draw wants and gives, by Dr -/
theorem draw_by {h : Addr} {m : Int} {H0 H : Hp} {Q : VK} {E : XK} (hd : HandAt H0 h) (d : Dr h H0 H) (h1 : 1 ≤ m) (h2 : m < 2 ^ 300) (q : ∀ r H', 0 ≤ r → r < m → Dr h H0 H' → (∀ b, b ≠ h → H' b = H b) → Q (.int r) H') : spDraw [.ref h, .int m] H Q E := by
  obtain ⟨l, x⟩ := hd
  have x' := d.hand l x
  have ap := x'.apart
  obtain ⟨ns, oh, e1, e2, e3⟩ := x'
  refine ⟨h, m, rfl, h1, h2, l, ns, oh, e1, e2, e3, fun r o' r0 r1 ho => q r _ r0 r1 ⟨fun c o hc e => ?_, fun l' x' => ?_⟩ (fun b hb => upd_ne hb)⟩
  · rw [upd_ne hc]; exact d.keep c o hc e
  · have y := d.hand l' x'
    have ap' := y.apart
    obtain ⟨ns', oh', f1, f2, f3⟩ := y
    have el : l' = l := by
      obtain ⟨a, b, c, d, e, rfl, _⟩ := e2
      obtain ⟨a', b', c', d', e', rfl, _⟩ := f2
      rw [e1] at f1
      have := Option.some.inj f1
      unfold hv at this
      injection this with this
      injection this with this _
      exact (V.ref.inj this).symm
    subst el
    exact ⟨ns, o', upd_same, ho, by rw [upd_ne ap]; exact e3⟩
theorem cutV_map {α : Type} (f : α → V) (xs : List α) (lo hi : Option Int) : cutV (xs.map f) lo hi = ((xs.drop (HT.sIx xs.length 0 lo)).take (HT.sIx xs.length xs.length hi - HT.sIx xs.length 0 lo)).map f := by
  unfold cutV; rw [List.length_map, List.map_take, List.map_drop]
def spHand (K : PySem.W.Frag) : Sp := fun vs H Q _ => ∃ a ns, vs = [.ref a] ∧ SqL K H a (List.map V.int ns) ∧ ∀ h H', Same H H' → H h = none → HandAt H' h → Q (.ref h) H'
def Rise (x : List Int) : Prop := x.Pairwise (· < ·)
theorem Rise.nodup {x : List Int} (h : Rise x) : x.Nodup := h.imp fun hab e => by omega
def spWhole : Sp := fun vs H Q _ => ∃ i : Int, vs = [.int i] ∧ Q (.bl true) H
theorem SetsAt.put {H : Hp} {bs : List Addr} {ts : List (List Int)} {b : Addr} {t : List Int} (s : SetsAt H bs ts) (hb : H b = some (.tup (List.map V.int t))) (k : Nat) : SetsAt H (bs.take k ++ b :: bs.drop k) (ts.take k ++ t :: ts.drop k) := by
  have h1 : SetsAt H (bs.take k ++ [b]) (ts.take k ++ [t]) := SetsAt.snoc ⟨by rw [List.length_take, List.length_take, s.1], fun i c u hc hu => by
    rw [List.getElem?_take] at hc hu
    split at hc
    · rename_i hlt
      rw [if_pos hlt] at hu
      exact s.2 i c u hc hu
    · cases hc⟩ hb
  have e1 : bs.take k ++ b :: bs.drop k = (bs.take k ++ [b]) ++ bs.drop k := by simp
  have e2 : ts.take k ++ t :: ts.drop k = (ts.take k ++ [t]) ++ ts.drop k := by simp
  rw [e1, e2]
  refine ⟨by simp [s.1], fun i c u hc hu => ?_⟩
  by_cases hi : i < (bs.take k ++ [b]).length
  · rw [List.getElem?_append_left hi] at hc
    rw [List.getElem?_append_left (by rw [← h1.1]; exact hi)] at hu
    exact h1.2 i c u hc hu
  · rw [List.getElem?_append_right (by omega), List.getElem?_drop] at hc
    rw [List.getElem?_append_right (by rw [← h1.1]; omega), List.getElem?_drop, ← h1.1] at hu
    exact s.2 _ c u hc hu
theorem nat_of {r : Int} {b : Nat} (h0 : 0 ≤ r) (h1 : r < (b : Int)) : ∃ k : Nat, r = (k : Int) ∧ k < b := ⟨r.toNat, by omega, by omega⟩
theorem four_at {a b c d r : Int} (h0 : 0 ≤ r) (h1 : r < 4) : ∃ v, atI [V.int a, V.int b, V.int c, V.int d] r = some (.int v) ∧ (v = a ∨ v = b ∨ v = c ∨ v = d) := by
  have : r = 0 ∨ r = 1 ∨ r = 2 ∨ r = 3 := by omega
  rcases this with e | e | e | e <;> subst e
  · exact ⟨a, atI_0 .., by simp⟩
  · exact ⟨b, atI_1 .., by simp⟩
  · exact ⟨c, atI_2 .., by simp⟩
  · exact ⟨d, atI_3 .., by simp⟩
/-- a thing that the law hands in -/
def Th (H : Hp) : V → Prop
  | .int _ => True
  | .bl _ => True
  | .str _ => True
  | .non => True
  | .ref a => (∃ xs, H a = some (.lst xs)) ∨ (∃ xs, H a = some (.tup xs)) ∨ ∃ kvs, H a = some (.dK kvs)
  | _ => False
theorem Th.mono {H H' : Hp} (s : Same H H') : ∀ {v : V}, Th H v → Th H' v
  | .int _, _ => trivial
  | .bl _, _ => trivial
  | .str _, _ => trivial
  | .non, _ => trivial
  | .ref a, h => by
    rcases h with ⟨xs, e⟩ | ⟨xs, e⟩ | ⟨xs, e⟩
    · exact .inl ⟨xs, s _ _ e⟩
    · exact .inr (.inl ⟨xs, s _ _ e⟩)
    · exact .inr (.inr ⟨xs, s _ _ e⟩)
theorem Dr.on {h : Addr} {H H1 H2 : Hp} (a : Dr h H H1) (s : Same H1 H2) : Dr h H H2 := ⟨fun c o hc e => s _ _ (a.keep c o hc e), fun l x => by
  obtain ⟨ns, oh, e1, e2, e3⟩ := a.hand l x
  exact ⟨ns, oh, s _ _ e1, e2, s _ _ e3⟩⟩
theorem HandAt.ntup {h b : Addr} {H : Hp} {xs : List V} (x : HandAt H h) (e : H b = some (.tup xs)) : b ≠ h := by
  obtain ⟨l, ns, o, e1, ⟨_, _, _, _, _, rfl, _⟩, _⟩ := x
  exact ne_of e e1 (by intro z; cases z)
theorem pow_le10 {n : Nat} (h : n ≤ 10) : 2 ^ n ≤ 1024 := Nat.le_trans (Nat.pow_le_pow_right (by decide) h) (by decide)
def RRow (H : Hp) (v : V) (x : List (List Int)) : Prop := ∃ l bs, v = .ref l ∧ H l = some (.lst (List.map V.ref bs)) ∧ SetsAt H bs x
theorem RRow.mono {H H' : Hp} {v : V} {d : List (List Int)} (s : Same H H') (r : RRow H v d) : RRow H' v d := let ⟨l, bs, e, h, sa⟩ := r; ⟨l, bs, e, s _ _ h, sa.mono fun b xs e => s _ _ e⟩
def RRowD (D : Addr) (H : Hp) (v : V) (x : List (List Int)) : Prop := ∃ l bs, v = .ref l ∧ l ≠ D ∧ H l = some (.lst (List.map V.ref bs)) ∧ SetsAt H bs x
theorem RRowD.same : ∀ (D : Addr) (H H' : Hp) (v : V) (d : List (List Int)), Same H H' → RRowD D H v d → RRowD D H' v d := fun _ _ _ _ _ s ⟨l, bs, e, n, h, sa⟩ => ⟨l, bs, e, n, s _ _ h, sa.mono fun b xs e => s _ _ e⟩
theorem RRowD.puts {H1 : Hp} : ∀ (D : Addr) (H : Hp) (o : HO) (v : V) (d : List (List Int)), (∃ xs, H D = some (.lst xs)) → H1 D = none → RRowD D H v d → RRowD D (upd H D o) v d := fun D H o v d ⟨xs, hx⟩ _ ⟨l, bs, e, n, h, sa⟩ =>
  ⟨l, bs, e, n, by rw [upd_ne n]; exact h, sa.mono fun b ys eb => by rw [upd_ne (ne_of eb hx (by intro z; cases z))]; exact eb⟩
theorem RRowD.row {D : Addr} {H : Hp} {v : V} {d : List (List Int)} (h : RRowD D H v d) : RRow H v d := let ⟨l, bs, e, _, h, sa⟩ := h; ⟨l, bs, e, h, sa⟩
theorem Dr.sets {h : Addr} {H H' : Hp} {bs : List Addr} {ts : List (List Int)} (hd : HandAt H h) (d : Dr h H H') (s : SetsAt H bs ts) : SetsAt H' bs ts := s.mono fun b xs e => d.keep _ _ (hd.ntup e) e
end L2
end

section
set_option Elab.async false
set_option linter.all false
set_option maxRecDepth 100000
set_option maxHeartbeats 2000000
/-! ## crossings -/
namespace L2
open PySem
def IsCr (F : List (List Int)) (x : List Int) : Prop := ∀ s ∈ F, ∃ m, m ∈ x ∧ m ∈ s
/-- a least crossing: each member has a set in which it stands alone -/
structure MinCr (F : List (List Int)) (x : List Int) : Prop where
  rise : Rise x
  cr : IsCr F x
  own : ∀ m ∈ x, ∃ s ∈ F, m ∈ s ∧ ∀ k ∈ x, k ∈ s → k = m
theorem MinCr.congr {F G : List (List Int)} (h1 : ∀ t ∈ G, t ∈ F) (h2 : ∀ s ∈ F, ∃ t ∈ G, ∀ m ∈ t, m ∈ s) (x : List Int) : MinCr G x ↔ MinCr F x := by
  constructor
  · rintro ⟨r, c, o⟩
    refine ⟨r, fun s hs => ?_, fun m hm => ?_⟩
    · obtain ⟨t, ht, sub⟩ := h2 s hs
      obtain ⟨m, a, b⟩ := c t ht
      exact ⟨m, a, sub m b⟩
    · obtain ⟨s, hs, a, b⟩ := o m hm
      exact ⟨s, h1 s hs, a, b⟩
  · rintro ⟨r, c, o⟩
    refine ⟨r, fun t ht => c t (h1 t ht), fun m hm => ?_⟩
    obtain ⟨s, hs, a, b⟩ := o m hm
    obtain ⟨t, ht, sub⟩ := h2 s hs
    obtain ⟨k, k1, k2⟩ := c t (h1 t ht)
    have e := b k k1 (sub k k2)
    subst e
    exact ⟨t, ht, k2, fun j j1 j2 => b j j1 (sub j j2)⟩
abbrev cut (n : Int) (s : List Int) : List Int := s.filter fun m => decide (m ≠ n)
/-- all members of a least crossing stand in the sets -/
theorem MinCr.within {F : List (List Int)} {x U : List Int} (h : MinCr F x) (hU : ∀ s ∈ F, ∀ m ∈ s, m ∈ U) : ∀ m ∈ x, m ∈ U := fun m hm => by
  obtain ⟨s, hs, a, _⟩ := h.own m hm
  exact hU s hs m a
end L2
end

section
set_option Elab.async false
set_option linter.all false
set_option maxRecDepth 100000
set_option maxHeartbeats 2000000
/-! ## crossings by masks -/
namespace L2
open PySem
theorem SetsAt.take {H : Hp} {bs : List Addr} {ts : List (List Int)} (s : SetsAt H bs ts) (n : Nat) : SetsAt H (bs.take n) (ts.take n) := by
  refine ⟨by rw [List.length_take, List.length_take, s.1], fun i b t hb ht => ?_⟩
  rw [List.getElem?_take] at hb ht
  by_cases c : i < n
  · rw [if_pos c] at hb ht; exact s.2 i b t hb ht
  · rw [if_neg c] at hb; cases hb
end L2
end

set_option Elab.async false
set_option linter.all false
set_option maxRecDepth 100000
set_option maxHeartbeats 4000000
namespace My
open PySem L2
def top (i : Nat) : Stmt := PySem.Challenge.pw_truceroll_k74_blames.main.body.getD i (.Pass ⟨0, 0, 0, 0⟩)
abbrev s_set_of : Stmt := top 1
abbrev s_blames_of : Stmt := top 3
abbrev s_blame_of : Stmt := top 4
abbrev s_common_of : Stmt := top 5
abbrev s__law_hand : Stmt := top 7
abbrev s__law_next : Stmt := top 8
abbrev s__law_take : Stmt := top 9
abbrev s__law_draw : Stmt := top 10
abbrev s__law_is_whole : Stmt := top 11
abbrev s__law_members : Stmt := top 12
abbrev s__law_family_by : Stmt := top 13
abbrev s__law_all_of : Stmt := top 14
abbrev s__law_divisor : Stmt := top 15
abbrev s__law_due : Stmt := top 16
abbrev s__law_right : Stmt := top 17
abbrev s_law : Stmt := top 18
abbrev nm_set_of : List Str := ["numbers"]
abbrev nm_blames_of : List Str := ["clashes", "members", "clash", "blames", "member"]
abbrev nm_blame_of : List Str := ["member", "clashes", "top", "bottom", "clash", "common"]
abbrev nm_common_of : List Str := ["one", "other", "rest"]
abbrev nm__law_hand : List Str := ["_law_script"]
abbrev nm__law_next : List Str := ["_law_hand_here"]
abbrev nm__law_take : List Str := ["_law_hand_here", "_law_cell"]
abbrev nm__law_draw : List Str := ["_law_hand_here", "_law_many", "_law_got", "_law_value", "_law_size"]
abbrev nm__law_is_whole : List Str := ["_law_thing"]
abbrev nm__law_members : List Str := ["_law_hand_here", "_law_many", "_law_step", "_law_at", "_law_members_here", "_law_k"]
abbrev nm__law_family_by : List Str := ["_law_hand_here", "_law_members_here", "_law_most", "_law_family", "_law_k", "_law_wide", "_law_part"]
abbrev nm__law_all_of : List Str := ["_law_members_here", "_law_size", "_law_rows", "_law_member"]
abbrev nm__law_divisor : List Str := ["_law_one", "_law_other"]
abbrev nm__law_due : List Str := ["_law_family", "_law_due_here", "_law_part", "_law_member", "_law_by"]
abbrev nm__law_right : List Str := ["_law_family", "_law_handed", "_law_found", "_law_whole", "_law_member", "_law_one"]
abbrev nm_law : List Str := ["_law_script", "_law_hand_here", "_law_members_here", "_law_families", "_law_family"]
structure Adr where
  a_set_of : Addr
  d_set_of : FuncData
  a_blames_of : Addr
  d_blames_of : FuncData
  a_blame_of : Addr
  d_blame_of : FuncData
  a_common_of : Addr
  d_common_of : FuncData
  a__law_hand : Addr
  d__law_hand : FuncData
  a__law_next : Addr
  d__law_next : FuncData
  a__law_take : Addr
  d__law_take : FuncData
  a__law_draw : Addr
  d__law_draw : FuncData
  a__law_is_whole : Addr
  d__law_is_whole : FuncData
  a__law_members : Addr
  d__law_members : FuncData
  a__law_family_by : Addr
  d__law_family_by : FuncData
  a__law_all_of : Addr
  d__law_all_of : FuncData
  a__law_divisor : Addr
  d__law_divisor : FuncData
  a__law_due : Addr
  d__law_due : FuncData
  a__law_right : Addr
  d__law_right : FuncData
  a_law : Addr
  d_law : FuncData
structure Txt (K : PySem.W.Frag) (mg : Str → Option Value) (t : Adr) : Prop where
  F_set_of : Fun K "set_of" "set_of" s_set_of t.a_set_of t.d_set_of
  b_set_of : Binds K t.d_set_of ["numbers"] []
  m_set_of : mg "set_of" = some (.ref t.a_set_of)
  F_blames_of : Fun K "blames_of" "blames_of" s_blames_of t.a_blames_of t.d_blames_of
  b_blames_of : Binds K t.d_blames_of ["clashes"] []
  m_blames_of : mg "blames_of" = some (.ref t.a_blames_of)
  F_blame_of : Fun K "blame_of" "blame_of" s_blame_of t.a_blame_of t.d_blame_of
  b_blame_of : Binds K t.d_blame_of ["member", "clashes"] []
  m_blame_of : mg "blame_of" = some (.ref t.a_blame_of)
  F_common_of : Fun K "common_of" "common_of" s_common_of t.a_common_of t.d_common_of
  b_common_of : Binds K t.d_common_of ["one", "other"] []
  m_common_of : mg "common_of" = some (.ref t.a_common_of)
  F__law_hand : Fun K "_law_hand" "_law_hand" s__law_hand t.a__law_hand t.d__law_hand
  b__law_hand : Binds K t.d__law_hand ["_law_script"] []
  m__law_hand : mg "_law_hand" = some (.ref t.a__law_hand)
  F__law_next : Fun K "_law_next" "_law_next" s__law_next t.a__law_next t.d__law_next
  b__law_next : Binds K t.d__law_next ["_law_hand_here"] []
  m__law_next : mg "_law_next" = some (.ref t.a__law_next)
  F__law_take : Fun K "_law_take" "_law_take" s__law_take t.a__law_take t.d__law_take
  b__law_take : Binds K t.d__law_take ["_law_hand_here"] []
  m__law_take : mg "_law_take" = some (.ref t.a__law_take)
  F__law_draw : Fun K "_law_draw" "_law_draw" s__law_draw t.a__law_draw t.d__law_draw
  b__law_draw : Binds K t.d__law_draw ["_law_hand_here", "_law_many"] []
  m__law_draw : mg "_law_draw" = some (.ref t.a__law_draw)
  F__law_is_whole : Fun K "_law_is_whole" "_law_is_whole" s__law_is_whole t.a__law_is_whole t.d__law_is_whole
  b__law_is_whole : Binds K t.d__law_is_whole ["_law_thing"] []
  m__law_is_whole : mg "_law_is_whole" = some (.ref t.a__law_is_whole)
  F__law_members : Fun K "_law_members" "_law_members" s__law_members t.a__law_members t.d__law_members
  b__law_members : Binds K t.d__law_members ["_law_hand_here", "_law_many"] []
  m__law_members : mg "_law_members" = some (.ref t.a__law_members)
  F__law_family_by : Fun K "_law_family_by" "_law_family_by" s__law_family_by t.a__law_family_by t.d__law_family_by
  b__law_family_by : Binds K t.d__law_family_by ["_law_hand_here", "_law_members_here", "_law_most"] []
  m__law_family_by : mg "_law_family_by" = some (.ref t.a__law_family_by)
  F__law_all_of : Fun K "_law_all_of" "_law_all_of" s__law_all_of t.a__law_all_of t.d__law_all_of
  b__law_all_of : Binds K t.d__law_all_of ["_law_members_here", "_law_size"] []
  m__law_all_of : mg "_law_all_of" = some (.ref t.a__law_all_of)
  F__law_divisor : Fun K "_law_divisor" "_law_divisor" s__law_divisor t.a__law_divisor t.d__law_divisor
  b__law_divisor : Binds K t.d__law_divisor ["_law_one", "_law_other"] []
  m__law_divisor : mg "_law_divisor" = some (.ref t.a__law_divisor)
  F__law_due : Fun K "_law_due" "_law_due" s__law_due t.a__law_due t.d__law_due
  b__law_due : Binds K t.d__law_due ["_law_family"] []
  m__law_due : mg "_law_due" = some (.ref t.a__law_due)
  F__law_right : Fun K "_law_right" "_law_right" s__law_right t.a__law_right t.d__law_right
  b__law_right : Binds K t.d__law_right ["_law_family"] []
  m__law_right : mg "_law_right" = some (.ref t.a__law_right)
  F_law : Fun K "law" "law" s_law t.a_law t.d_law
  b_law : Binds K t.d_law ["_law_script"] []
  m_law : mg "law" = some (.ref t.a_law)
  z_abs : mg "abs" = none
  z_bool : mg "bool" = none
  z_dict : mg "dict" = none
  z_int : mg "int" = none
  z_isinstance : mg "isinstance" = none
  z_len : mg "len" = none
  z_list : mg "list" = none
  z_range : mg "range" = none
  z_set : mg "set" = none
  z_sorted : mg "sorted" = none
  z_tuple : mg "tuple" = none
theorem sc_set_of : FnScope nm_set_of ["numbers"] (defScope s_set_of) := ⟨rfl, rfl, rfl, by decide +kernel, rfl, by decide +kernel, by decide +kernel⟩
theorem sc_blames_of : FnScope nm_blames_of ["clashes"] (defScope s_blames_of) := ⟨rfl, rfl, rfl, by decide +kernel, rfl, by decide +kernel, by decide +kernel⟩
theorem sc_blame_of : FnScope nm_blame_of ["member", "clashes"] (defScope s_blame_of) := ⟨rfl, rfl, rfl, by decide +kernel, rfl, by decide +kernel, by decide +kernel⟩
theorem sc_common_of : FnScope nm_common_of ["one", "other"] (defScope s_common_of) := ⟨rfl, rfl, rfl, by decide +kernel, rfl, by decide +kernel, by decide +kernel⟩
theorem sc__law_hand : FnScope nm__law_hand ["_law_script"] (defScope s__law_hand) := ⟨rfl, rfl, rfl, by decide +kernel, rfl, by decide +kernel, by decide +kernel⟩
theorem sc__law_next : FnScope nm__law_next ["_law_hand_here"] (defScope s__law_next) := ⟨rfl, rfl, rfl, by decide +kernel, rfl, by decide +kernel, by decide +kernel⟩
theorem sc__law_take : FnScope nm__law_take ["_law_hand_here"] (defScope s__law_take) := ⟨rfl, rfl, rfl, by decide +kernel, rfl, by decide +kernel, by decide +kernel⟩
theorem sc__law_draw : FnScope nm__law_draw ["_law_hand_here", "_law_many"] (defScope s__law_draw) := ⟨rfl, rfl, rfl, by decide +kernel, rfl, by decide +kernel, by decide +kernel⟩
theorem sc__law_is_whole : FnScope nm__law_is_whole ["_law_thing"] (defScope s__law_is_whole) := ⟨rfl, rfl, rfl, by decide +kernel, rfl, by decide +kernel, by decide +kernel⟩
theorem sc__law_members : FnScope nm__law_members ["_law_hand_here", "_law_many"] (defScope s__law_members) := ⟨rfl, rfl, rfl, by decide +kernel, rfl, by decide +kernel, by decide +kernel⟩
theorem sc__law_family_by : FnScope nm__law_family_by ["_law_hand_here", "_law_members_here", "_law_most"] (defScope s__law_family_by) := ⟨rfl, rfl, rfl, by decide +kernel, rfl, by decide +kernel, by decide +kernel⟩
theorem sc__law_all_of : FnScope nm__law_all_of ["_law_members_here", "_law_size"] (defScope s__law_all_of) := ⟨rfl, rfl, rfl, by decide +kernel, rfl, by decide +kernel, by decide +kernel⟩
theorem sc__law_divisor : FnScope nm__law_divisor ["_law_one", "_law_other"] (defScope s__law_divisor) := ⟨rfl, rfl, rfl, by decide +kernel, rfl, by decide +kernel, by decide +kernel⟩
theorem sc__law_due : FnScope nm__law_due ["_law_family"] (defScope s__law_due) := ⟨rfl, rfl, rfl, by decide +kernel, rfl, by decide +kernel, by decide +kernel⟩
theorem sc__law_right : FnScope nm__law_right ["_law_family"] (defScope s__law_right) := ⟨rfl, rfl, rfl, by decide +kernel, rfl, by decide +kernel, by decide +kernel⟩
theorem sc_law : FnScope nm_law ["_law_script"] (defScope s_law) := ⟨rfl, rfl, rfl, by decide +kernel, rfl, by decide +kernel, by decide +kernel⟩
theorem b_abs : bootBuiltins "abs" = some (.builtin "abs") := by decide +kernel
theorem b_bool : bootBuiltins "bool" = some (.type "bool") := by decide +kernel
theorem b_dict : bootBuiltins "dict" = some (.type "dict") := by decide +kernel
theorem b_int : bootBuiltins "int" = some (.type "int") := by decide +kernel
theorem b_isinstance : bootBuiltins "isinstance" = some (.builtin "isinstance") := by decide +kernel
theorem b_len : bootBuiltins "len" = some (.builtin "len") := by decide +kernel
theorem b_list : bootBuiltins "list" = some (.type "list") := by decide +kernel
theorem b_set : bootBuiltins "set" = some (.type "set") := by decide +kernel
theorem b_sorted : bootBuiltins "sorted" = some (.builtin "sorted") := by decide +kernel
theorem b_tuple : bootBuiltins "tuple" = some (.type "tuple") := by decide +kernel

local macro_rules | `(tactic| walk_at "rd") => `(tactic| walk_at "rc")
local macro_rules | `(tactic| walk_at "rc") => do
  let ids := ("L2.start tSeq tNext tIfS tTest tB tOp tUn tVar tC tAsg gName gSub tRet tRetN tDrop tCall tCons tNil tCB tTxtsL tDNewK tLst tTup rI0 rI rU rEq rNe scal tAugS ipI qIxL qIxT qIxS qSlL qSlT qSlT2 qLenL qLenT qListL qListT qTupleL qListD qDictD qSorted qSetS qSortSet qAllB qEqD rUpdateD tNever qJoin qInL qInT qInS qEqL qIsi qSet tSl tPart tNoPart rSlS tBM tBM0 rAppend rExtend rReverse rClear rClearD rPopAt rCat tRev tAnd tOr tNot tAndV tOrV tNotV tIf List.map_cons List.map_nil List.cons_append List.nil_append List.append_nil List.length_cons List.length_nil List.replicate List.getElem?_cons_zero List.getElem?_cons_succ List.set_cons_zero List.set_cons_succ Nat.reduceAdd Nat.reduceSub Nat.reduceLeDiff Option.some.injEq V.int.injEq V.ref.injEq V.str.injEq V.bl.injEq V.ty.injEq List.cons.injEq HO.lst.injEq HO.tup.injEq HO.dK.injEq exists_eq_left exists_eq_left' exists_and_left and_true true_and and_assoc exists_const reduceCtorEq upd_same upd_upd decide_eq_true_eq List.length_map ite_true ite_false Bool.false_eq_true Bool.true_and Bool.and_true atI_0 atI_1 atI_2 atI_3 atI_4 atI_5 ixN6_1 ixN6_2 ixN6_3 ixN6_4 ixN6_5 cmul1 cmul2 cmul3 cmul4 cmul5a cmul5b cmul5c cmul5d cpow18 subS Option.join_some Option.join_none tComp_eq tFor_eq iRng1 iRng2 iRng3 qCatT tDNewT tSortK qAnyB qEqTI qEqSL rInsert qIsB rPopAt qSetI qSetIT qSortSetI iList iRev iTup tyV_str tYes Int.zero_add Int.reduceMul Int.reduceAdd Int.reduceSub Int.reduceLT Int.reduceLE Int.reducePow Int.reduceToNat Int.reduceNeg gt_iff_lt ge_iff_le spNext hv".splitOn " ").toArray.map fun x => Lean.mkIdent x.toName
  `(tactic| simp only [$[$ids:ident],*])
section
variable {P : Program} {w : World} {K : PySem.W.Frag} {mg : Str → Option Value} {base : Heap} {t : Adr}
theorem ok_next (T : Txt K mg t) : FnOk P w K mg base CX0 1 t.a__law_next t.d__law_next ["_law_hand_here"] spNext := by
  refine T.F__law_next.okZ sc__law_next (fun vs H Q E h => ?_) (fun cdv A outer s H vs Q E hr h hc hf => ?_)
  · obtain ⟨h, rfl, _⟩ := h; rfl
  obtain ⟨h, rfl, l, a, b, c, d, e, hh, q⟩ := h
  refine ⟨_, (by apply zqss_cons; exact (zps_asg (zpe_op op_mod (zpe_op op_mul (zpe_ix ix_l (zpvk hc 0 (by decide +kernel)) zpe_int (fun _ _ => rfl)) zpe_int) zpe_int) (zpg_sub (zpvk hc 0 (by decide +kernel)) zpe_int set_l)); apply zqss_cons; exact (zps_asg (zpe_op op_mod (zpe_op op_mul (zpe_ix ix_l (zpvk hc 0 (by decide +kernel)) zpe_int (fun _ _ => rfl)) zpe_int) zpe_int) (zpg_sub (zpvk hc 0 (by decide +kernel)) zpe_int set_l)); exact zqss_one (zps_ret (zpe_op op_add (zpe_ix ix_l (zpvk hc 0 (by decide +kernel)) zpe_int (fun _ _ => rfl)) (zpe_ix ix_l (zpvk hc 0 (by decide +kernel)) zpe_int (fun _ _ => rfl))))), ?_⟩
  unfold hv at *
  walk_at "rd"
  simp only [hh]
  walk_at "rd"
  exact q
theorem ok_take (T : Txt K mg t) : FnOk P w K mg base CX0 2 t.a__law_take t.d__law_take ["_law_hand_here"] spTake := by
  have G__law_next := ok_next (P := P) (w := w) (base := base) T
  refine T.F__law_take.okZ sc__law_take (fun vs H Q E h => ?_) (fun cdv A outer s H vs Q E hr h hc hf => ?_)
  · obtain ⟨h, rfl, _⟩ := h; rfl
  obtain ⟨h, rfl, l, ns, o, hh, ⟨a, b, c, d, e, rfl, ha⟩, hl, q⟩ := h
  refine ⟨_, (by apply zqss_cons; exact (zpsk_set hc sc__law_take.nd hf 1 (by decide +kernel) zpe_int); apply zqss_cut; exact (zqs_if (zpt_cmpR op_lt (zpe_ix ix_l (zpvk hc 0 (by decide +kernel)) zpe_int (fun _ _ => rfl)) (zpe_callB call_lenL (glk hc (by decide +kernel)) T.z_len b_len (zpa_cons (zpe_ix ix_l (zpvk hc 0 (by decide +kernel)) zpe_int (fun _ _ => rfl)) zpa_nil)) (nomark _)) (by exact zqss_one (zpsk_set hc sc__law_take.nd hf 1 (by decide +kernel) (zpe_callB call_abs (glk hc (by decide +kernel)) T.z_abs b_abs (zpa_cons (zpe_ix ix_l (zpe_ix ix_l (zpvk hc 0 (by decide +kernel)) zpe_int (fun _ _ => rfl)) (zpe_ix ix_l (zpvk hc 0 (by decide +kernel)) zpe_int (fun _ _ => rfl)) (fun _ _ => rfl)) zpa_nil)))) zqss_nil); apply zqss_cons; exact (zps_augS (zpvk hc 0 (by decide +kernel)) zpe_int get_l zpe_int ip_add set_l); apply zqss_cut; exact (zqs_if (zpt_cmpR op_ge (zpvk hc 1 (by decide +kernel)) (zpe_op op_pow zpe_int zpe_int) (nomark _)) (by exact zqss_one (zps_asg (zpvk hc 1 (by decide +kernel)) (zpg_sub (zpvk hc 0 (by decide +kernel)) zpe_int set_l))) (by exact zqss_one (zps_asg zpe_int (zpg_sub (zpvk hc 0 (by decide +kernel)) zpe_int set_l)))); apply zqss_cons; exact (zps_asg (zpe_op op_add (zpe_op op_mod (zpe_op op_add (zpe_ix ix_l (zpvk hc 0 (by decide +kernel)) zpe_int (fun _ _ => rfl)) (zpe_op op_mod (zpvk hc 1 (by decide +kernel)) zpe_int)) zpe_int) zpe_int) (zpg_sub (zpvk hc 0 (by decide +kernel)) zpe_int set_l)); apply zqss_cons; exact (zps_asg (zpe_op op_add (zpe_op op_mod (zpe_op op_add (zpe_op op_mul (zpe_ix ix_l (zpvk hc 0 (by decide +kernel)) zpe_int (fun _ _ => rfl)) zpe_int) (zpe_op op_mod (zpvk hc 1 (by decide +kernel)) zpe_int)) zpe_int) zpe_int) (zpg_sub (zpvk hc 0 (by decide +kernel)) zpe_int set_l)); apply zqss_cons; exact (zps_expr (zpe_call G__law_next (hr.mono (by omega)) (glk hc (by decide +kernel)) T.m__law_next T.F__law_next.kp T.b__law_next .nil pass0 (zpa_cons (zpvk hc 0 (by decide +kernel)) zpa_nil))); exact zqss_one (zps_expr (zpe_call G__law_next (hr.mono (by omega)) (glk hc (by decide +kernel)) T.m__law_next T.F__law_next.kp T.b__law_next .nil pass0 (zpa_cons (zpvk hc 0 (by decide +kernel)) zpa_nil)))), ?_⟩
  unfold hv at *
  walk_at "rd"
  refine ⟨fun σ' H' => ∃ z, σ' = [some (.ref h), some (.int z)] ∧ H' = H, ?_, ?_⟩
  · repeat (first | walk_at "rd" | simp only [hh, hl])
    split
    · rename_i hlt
      obtain ⟨v, hv'⟩ := atI_ints ha hlt
      rw [hv']
      walk_at "rd"
      exact ⟨_, rfl⟩
    · exact ⟨_, rfl⟩
  · rintro σ' H' ⟨z, e1, e2⟩
    subst e1 e2
    repeat (first | walk_at "rd" | simp only [hh, hl])
    refine ⟨fun σ' H'' => ∃ b' c', σ' = [some (.ref h), some (.int z)] ∧ H'' = upd H' h (.lst [.ref l, .int (a + 1), .int b', .int c', .int d, .int e]), ?_, ?_⟩
    · repeat (first | walk_at "rd" | simp only [hh, hl])
      split
      · exact ⟨_, _, rfl⟩
      · exact ⟨_, _, rfl⟩
    · rintro σ' H'' ⟨b', c', e1, e2⟩
      subst e1 e2
      repeat (first | walk_at "rd" | simp only [hh, hl])
      exact q _ ⟨_, _, _, _, _, rfl, by omega⟩
theorem ok_draw (T : Txt K mg t) : FnOk P w K mg base CX0 3 t.a__law_draw t.d__law_draw ["_law_hand_here", "_law_many"] spDraw := by
  have G__law_next := ok_next (P := P) (w := w) (base := base) T
  have G__law_take := ok_take (P := P) (w := w) (base := base) T
  refine T.F__law_draw.okZ sc__law_draw (fun vs H Q E h => ?_) (fun cdv A outer s H vs Q E hr h hc hf => ?_)
  · obtain ⟨h, m, rfl, _⟩ := h; rfl
  obtain ⟨h, m, rfl, hm, hm2, l, ns, o, hh, ⟨a, b, c, d, e, rfl, ha⟩, hl, q⟩ := h
  refine ⟨_, (by apply zqss_cut; exact (zqs_if (zPWpt (zpw_and (zpt_cmpR op_eq (zpe_ix ix_l (zpvk hc 0 (by decide +kernel)) zpe_int (fun _ _ => rfl)) zpe_int (nomark _)) (zpw_and1 (zpt_cmpR op_eq (zpe_ix ix_l (zpvk hc 0 (by decide +kernel)) zpe_int (fun _ _ => rfl)) zpe_int (nomark _))))) (by exact zqss_one (zps_expr (zpe_call G__law_take (hr.mono (by omega)) (glk hc (by decide +kernel)) T.m__law_take T.F__law_take.kp T.b__law_take .nil pass0 (zpa_cons (zpvk hc 0 (by decide +kernel)) zpa_nil)))) zqss_nil); apply zqss_cons; exact (zqs_if (zpt_cmpR op_gt (zpe_ix ix_l (zpvk hc 0 (by decide +kernel)) zpe_int (fun _ _ => rfl)) zpe_int (nomark _)) (by apply zqss_cons; exact (zpsk_set hc sc__law_draw.nd hf 2 (by decide +kernel) (zpe_op op_mod (zpe_ix ix_l (zpvk hc 0 (by decide +kernel)) zpe_int (fun _ _ => rfl)) (zpvk hc 1 (by decide +kernel)))); apply zqss_cons; exact (zps_asg (zpe_op op_fdivB (zpe_ix ix_l (zpvk hc 0 (by decide +kernel)) zpe_int (fun _ _ => rfl)) (zpvk hc 1 (by decide +kernel))) (zpg_sub (zpvk hc 0 (by decide +kernel)) zpe_int set_l)); exact zqss_one (zps_ret (zpvk hc 2 (by decide +kernel)))) zqss_nil); apply zqss_cons; exact (zps_augS (zpvk hc 0 (by decide +kernel)) zpe_int get_l zpe_int ip_sub set_l); apply zqss_cons; exact (zpsk_set hc sc__law_draw.nd hf 3 (by decide +kernel) (zpe_call G__law_next (hr.mono (by omega)) (glk hc (by decide +kernel)) T.m__law_next T.F__law_next.kp T.b__law_next .nil pass0 (zpa_cons (zpvk hc 0 (by decide +kernel)) zpa_nil))); apply zqss_cons; exact (zpsk_set hc sc__law_draw.nd hf 4 (by decide +kernel) zpe_int); apply zqss_cons; exact (zqs_while PassesOwn.never (zpt_cmpR op_lt (zpvk hc 4 (by decide +kernel)) (zpvk hc 1 (by decide +kernel)) (nomark _)) (by apply zqss_cons; exact (zpsk_set hc sc__law_draw.nd hf 3 (by decide +kernel) (zpe_op op_add (zpe_op op_mul (zpvk hc 3 (by decide +kernel)) zpe_int) (zpe_call G__law_next (hr.mono (by omega)) (glk hc (by decide +kernel)) T.m__law_next T.F__law_next.kp T.b__law_next .nil pass0 (zpa_cons (zpvk hc 0 (by decide +kernel)) zpa_nil)))); exact zqss_one (zpsk_set hc sc__law_draw.nd hf 4 (by decide +kernel) (zpe_op op_mul (zpvk hc 4 (by decide +kernel)) zpe_int)))); exact zqss_one (zps_ret (zpe_op op_mod (zpvk hc 3 (by decide +kernel)) (zpvk hc 1 (by decide +kernel))))), ?_⟩
  unfold hv at *
  walk_at "rd"
  refine ⟨fun σ' H' => ∃ a b c d e, σ' = [some (.ref h), some (.int m), none, none, none] ∧ H' = upd H h (hv l a b c d e) ∧ 0 ≤ a, ?_, ?_⟩
  · have same : H = upd H h (hv l a b c d e) := by
      funext x; unfold upd; split
      · rename_i e; rw [e, hh]; rfl
      · rfl
    repeat (first | walk_at "rd" | simp only [hh, hl])
    by_cases hb : b = 0
    · by_cases hc : c = 0
      · simp only [hb, hc, if_true]
        repeat (first | walk_at "rd" | simp only [hh, hl])
        refine ⟨h, rfl, l, ns, _, hh, ⟨a, b, c, d, e, by rw [hb, hc]; rfl, ha⟩, hl, ?_⟩
        rintro o' ⟨a', b', c', d', e', rfl, ha'⟩
        exact ⟨a', b', c', d', e', rfl, ha'⟩
      · simp only [hb, hc, if_true, if_false, Bool.false_eq_true]
        exact ⟨a, b, c, d, e, same, ha⟩
    · simp only [hb, if_false, Bool.false_eq_true]
      exact ⟨a, b, c, d, e, same, ha⟩
  · rintro σ' H' ⟨a, b, c, d, e, e1, e2, ha⟩
    subst e1 e2
    repeat (first | walk_at "rd" | simp only [hh, hl])
    split
    · rename_i hb
      refine ⟨by omega, ⟨by omega, hm2⟩, q _ _ (Int.emod_nonneg _ (by omega)) (Int.emod_lt_of_pos _ (by omega)) ⟨_, _, _, _, _, rfl, ha⟩⟩
    · rename_i hb
      obtain ⟨W, hW⟩ : ∃ W : Nat → St → Hp → Prop, ∀ μ σ' H', W μ σ' H' ↔ ∃ v z a b c d e : Int, μ = (m - z).toNat ∧ σ' = [some (.ref h), some (.int m), none, some (.int v), some (.int z)] ∧ H' = upd H h (hv l a b c d e) ∧ 0 ≤ a ∧ 1 ≤ z := ⟨_, fun _ _ _ => Iff.rfl⟩
      refine ⟨W, ⟨_, (hW _ _ _).mpr ⟨_, _, _, _, _, _, _, rfl, rfl, rfl, ha, by omega⟩⟩, ?_⟩
      intro μ σ' H' hw'
      obtain ⟨v, z, a, b, c, d, e, rfl, e1, e2, ha, hz⟩ := (hW _ _ _).mp hw'
      subst e1 e2
      walk_at "rd"
      split
      · rename_i hlt
        obtain ⟨N, hN⟩ : ∃ N : St → Hp → Prop, ∀ σ' H', N σ' H' ↔ ∃ v z' a b c d e : Int, σ' = [some (.ref h), some (.int m), none, some (.int v), some (.int z')] ∧ H' = upd H h (hv l a b c d e) ∧ 0 ≤ a ∧ z' = z * 4294967296 := ⟨_, fun _ _ => Iff.rfl⟩
        refine ⟨N, fun σ' H' hn => ?_, ?_⟩
        · obtain ⟨v, z', a, b, c, d, e, e1, e2, ha, e3⟩ := (hN _ _).mp hn
          exact ⟨(m - z').toNat, by omega, (hW _ _ _).mpr ⟨v, z', a, b, c, d, e, rfl, e1, e2, ha, by omega⟩⟩
        · repeat (first | walk_at "rd" | simp only [hh, hl])
          exact (hN _ _).mpr ⟨_, _, _, _, _, _, _, rfl, rfl, ha, rfl⟩
      · refine ⟨by omega, q _ _ (Int.emod_nonneg _ (by omega)) (Int.emod_lt_of_pos _ (by omega)) ⟨_, _, _, _, _, rfl, ha⟩⟩
end

/-! ### the hand is made -/
section
variable {P : Program} {w : World} {K : PySem.W.Frag} {mg : Str → Option Value} {base : Heap} {t : Adr}
theorem ok_hand (T : Txt K mg t) : FnOk P w K mg base CX0 1 t.a__law_hand t.d__law_hand ["_law_script"] (spHand K) := by
  refine T.F__law_hand.okZ sc__law_hand (fun vs H Q E h => ?_) (fun cdv A outer s H vs Q E hr h hc hf => ?_)
  · obtain ⟨a, ns, rfl, _⟩ := h; rfl
  obtain ⟨a, ns, rfl, hS, q⟩ := h
  refine ⟨_, (by exact zqss_one (zps_ret (zpe_lst (zpa_cons (zpe_callTy call_listL (glk hc (by decide +kernel)) T.z_list b_list (zpa_cons (zpe_slice sl_list (zpvk hc 0 (by decide +kernel)) zpo_none (zpo_some zpe_int)) zpa_nil)) (zpa_cons zpe_int (zpa_cons zpe_int (zpa_cons zpe_int (zpa_cons zpe_int (zpa_cons zpe_int zpa_nil))))))))), ?_⟩
  walk_at "rd"
  refine ⟨a, List.map V.int ns, rfl, hS, fun p hp => ?_⟩
  rw [cutV_map]
  walk_at "rd"
  refine fun l hl => ⟨by decide, fun h hh => ?_⟩
  have s1 := same_new hp (.lst (List.map V.int ((ns.drop (HT.sIx ns.length 0 none)).take (HT.sIx ns.length ns.length (some 63) - HT.sIx ns.length 0 none))))
  have s2 := same_new hl (.lst (List.map V.int ((ns.drop (HT.sIx ns.length 0 none)).take (HT.sIx ns.length ns.length (some 63) - HT.sIx ns.length 0 none))))
  have s3 := same_new hh (hv l 0 0 0 20011 40009)
  exact q h _ (s1.trans (s2.trans s3)) ((s1.trans s2).free hh) ⟨l, _, _, upd_same, ⟨_, _, _, _, _, rfl, Int.le_refl 0⟩, s3 _ _ upd_same⟩
end

local macro_rules | `(tactic| walk_at "rd") => `(tactic| walk_at "rc")
local macro_rules | `(tactic| walk_at "rc") => do
  let ids := ("L2.start tSeq tNext tIfS tTest tB tOp tUn tVar tC tAsg gName gSub tRet tRetN tDrop tCall tCons tNil tCB tTxtsL tDNewK tLst tTup rI0 rI rU rEq rNe scal tAugS ipI qIxL qIxT qIxS qSlL qSlT qSlT2 qLenL qLenT qListL qListT qTupleL qListD qDictD qSorted qSetS qSortSet qAllB qEqD rUpdateD tNever qJoin qInL qInT qInS qEqL qIsi qSet tSl tPart tNoPart rSlS tBM tBM0 rAppend rExtend rReverse rClear rClearD rPopAt rCat tRev tAnd tOr tNot tAndV tOrV tNotV tIf List.map_cons List.map_nil List.cons_append List.nil_append List.append_nil List.length_cons List.length_nil List.replicate List.getElem?_cons_zero List.getElem?_cons_succ List.set_cons_zero List.set_cons_succ Nat.reduceAdd Nat.reduceSub Nat.reduceLeDiff Option.some.injEq V.int.injEq V.ref.injEq V.str.injEq V.bl.injEq V.ty.injEq List.cons.injEq HO.lst.injEq HO.tup.injEq HO.dK.injEq exists_eq_left exists_eq_left' exists_and_left and_true true_and and_assoc exists_const reduceCtorEq upd_same upd_upd decide_eq_true_eq List.length_map ite_true ite_false Bool.false_eq_true Bool.true_and Bool.and_true atI_0 atI_1 atI_2 atI_3 atI_4 atI_5 ixN6_1 ixN6_2 ixN6_3 ixN6_4 ixN6_5 cmul1 cmul2 cmul3 cmul4 cmul5a cmul5b cmul5c cmul5d cpow18 subS Option.join_some Option.join_none tComp_eq tFor_eq iRng1 iRng2 iRng3 qCatT tDNewT tSortK qAnyB qEqTI qEqSL rInsert qIsB rPopAt qSetI qSetIT qSortSetI iList iRev iTup tyV_str tYes Int.zero_add Int.reduceMul Int.reduceAdd Int.reduceSub Int.reduceLT Int.reduceLE Int.reducePow Int.reduceToNat Int.reduceNeg gt_iff_lt ge_iff_le spNext hv tPar iDict tThaw qEqDS rGetDI rExtendT".splitOn " ").toArray.map fun x => Lean.mkIdent x.toName
  `(tactic| simp only [$[$ids:ident],*])

/-! ### greatest common divisors -/
def spCommon : Sp := fun vs H Q _ => ∃ a b : Nat, vs = [.int a, .int b] ∧ Q (.int (Nat.gcd a b)) H
theorem gcd_step (x m : Nat) : Nat.gcd m (x % m) = Nat.gcd x m := by
  rw [Nat.gcd_comm x m, Nat.gcd_rec m x, Nat.gcd_comm]
section
variable {P : Program} {w : World} {K : PySem.W.Frag} {mg : Str → Option Value} {base : Heap} {t : Adr}
theorem ok_common (T : Txt K mg t) : FnOk P w K mg base CX0 1 t.a_common_of t.d_common_of ["one", "other"] spCommon := by
  refine T.F_common_of.okZ sc_common_of (fun vs H Q E h => ?_) (fun cdv A outer s H vs Q E hr h hc hf => ?_)
  · obtain ⟨a, b, rfl, _⟩ := h; rfl
  obtain ⟨a, b, rfl, q⟩ := h
  have hu := hu_of hr
  have hu0 := hr.units0
  refine ⟨_, (by apply zqss_cons; exact (zqs_while PassesOwn.never (zpt_cmpR op_ne (zpvk hc 1 (by decide +kernel)) zpe_int (nomark _)) (by apply zqss_cons; exact (zpsk_set hc sc_common_of.nd hf 2 (by decide +kernel) (zpe_op op_mod (zpvk hc 0 (by decide +kernel)) (zpvk hc 1 (by decide +kernel)))); apply zqss_cons; exact (zpsk_set hc sc_common_of.nd hf 0 (by decide +kernel) (zpvk hc 1 (by decide +kernel))); exact zqss_one (zpsk_set hc sc_common_of.nd hf 1 (by decide +kernel) (zpvk hc 2 (by decide +kernel))))); exact zqss_one (zps_ret (zpvk hc 0 (by decide +kernel)))), ?_⟩
  repeat (walk_at "rd")
  refine ⟨fun m σ' H' => ∃ (x y : Nat) (z : Option V), σ' = [some (.int x), some (.int y), z] ∧ H' = H ∧ Nat.gcd x y = Nat.gcd a b ∧ m = y, ⟨b, a, b, none, rfl, rfl, rfl, rfl⟩, ?_⟩
  rintro m σ' H' ⟨x, y, z, rfl, rfl, e, rfl⟩
  repeat (walk_at "rd")
  split
  · rename_i hm
    have hm' : 0 < m := by
      rcases Nat.eq_zero_or_pos m with z | z
      · subst z; simp at hm
      · exact z
    refine ⟨fun σ' H'' => σ' = [some (.int m), some (.int ((x % m : Nat) : Int)), some (.int ((x % m : Nat) : Int))] ∧ H'' = H', ?_, by omega, ?_⟩
    · rintro σ' H'' ⟨rfl, rfl⟩
      exact ⟨x % m, Nat.mod_lt _ hm', m, x % m, _, rfl, rfl, by rw [gcd_step, e], rfl⟩
    · rw [Int.natCast_emod]; exact ⟨rfl, rfl⟩
  · rename_i hm
    have hm' : m = 0 := by
      rcases Nat.eq_zero_or_pos m with z | z
      · exact z
      · exfalso; apply hm; simp; omega
    subst hm'
    rw [Nat.gcd_zero_right] at e
    rw [e]; exact q
theorem ok_divisor (T : Txt K mg t) : FnOk P w K mg base CX0 1 t.a__law_divisor t.d__law_divisor ["_law_one", "_law_other"] spCommon := by
  refine T.F__law_divisor.okZ sc__law_divisor (fun vs H Q E h => ?_) (fun cdv A outer s H vs Q E hr h hc hf => ?_)
  · obtain ⟨a, b, rfl, _⟩ := h; rfl
  obtain ⟨a, b, rfl, q⟩ := h
  have hu := hu_of hr
  have hu0 := hr.units0
  refine ⟨_, (by apply zqss_cons; exact (zqs_while PassesOwn.never (zpt_cmpR op_gt (zpvk hc 1 (by decide +kernel)) zpe_int (nomark _)) (by exact zqss_one (zpsk_par hc sc__law_divisor.nd rfl 0 1 (by decide +kernel) (by decide +kernel) (by decide) (zpa_cons (zpvk hc 1 (by decide +kernel)) (zpa_cons (zpe_op op_mod (zpvk hc 0 (by decide +kernel)) (zpvk hc 1 (by decide +kernel))) zpa_nil)) rfl rfl))); exact zqss_one (zps_ret (zpvk hc 0 (by decide +kernel)))), ?_⟩
  repeat (walk_at "rd")
  refine ⟨fun m σ' H' => ∃ (x y : Nat), σ' = [some (.int x), some (.int y)] ∧ H' = H ∧ Nat.gcd x y = Nat.gcd a b ∧ m = y, ⟨b, a, b, rfl, rfl, rfl, rfl⟩, ?_⟩
  rintro m σ' H' ⟨x, y, rfl, rfl, e, rfl⟩
  repeat (walk_at "rd")
  split
  · rename_i hm
    have hm' : 0 < m := by
      rcases Nat.eq_zero_or_pos m with z | z
      · subst z; simp at hm
      · exact z
    refine ⟨fun σ' H'' => σ' = [some (.int m), some (.int ((x % m : Nat) : Int))] ∧ H'' = H', ?_, by omega, ?_⟩
    · rintro σ' H'' ⟨rfl, rfl⟩
      exact ⟨x % m, Nat.mod_lt _ hm', m, x % m, rfl, rfl, by rw [gcd_step, e], rfl⟩
    · rw [Int.natCast_emod]; exact ⟨rfl, rfl⟩
  · rename_i hm
    have hm' : m = 0 := by
      rcases Nat.eq_zero_or_pos m with z | z
      · exact z
      · exfalso; apply hm; simp; omega
    subst hm'
    rw [Nat.gcd_zero_right] at e
    rw [e]; exact q
end

local macro_rules | `(tactic| walk_at "rd") => `(tactic| walk_at "rc")

/-! ### how much a member bears -/
def blS (m : Int) (p : Nat × Nat) (t : List Int) : Nat × Nat := if m ∈ t then (p.1 * t.length + p.2, p.2 * t.length) else p
def blF (m : Int) (ts : List (List Int)) : Nat × Nat := ts.foldl (blS m) (0, 1)
def blV (m : Int) (ts : List (List Int)) : List Int := [(((blF m ts).1 / Nat.gcd (blF m ts).1 (blF m ts).2 : Nat) : Int), (((blF m ts).2 / Nat.gcd (blF m ts).1 (blF m ts).2 : Nat) : Int)]
theorem blS_pos (m : Int) {p : Nat × Nat} {t : List Int} (h : 0 < p.2) : 0 < (blS m p t).2 := by
  unfold blS
  split
  · rename_i hm
    exact Nat.mul_pos h (List.length_pos_of_mem hm)
  · exact h
theorem blF_pos (m : Int) (ts : List (List Int)) : 0 < (blF m ts).2 := by
  unfold blF
  have : ∀ (ts : List (List Int)) (p : Nat × Nat), 0 < p.2 → 0 < (ts.foldl (blS m) p).2 := by
    intro ts
    induction ts with
    | nil => exact fun p h => h
    | cons t ts ih => exact fun p h => ih _ (blS_pos m h)
  exact this ts (0, 1) Nat.one_pos
theorem blF_next (m : Int) (ts : List (List Int)) {i : Nat} {t : List Int} (h : ts[i]? = some t) : blF m (ts.take (i + 1)) = blS m (blF m (ts.take i)) t := by
  unfold blF
  rw [List.take_add_one, h, List.foldl_append]
  rfl
theorem blF_lim (m : Int) (ts : List (List Int)) (h : ∀ t ∈ ts, t.length ≤ 100) : (blF m ts).2 ≤ 2 ^ (7 * ts.length) := by
  unfold blF
  have : ∀ (ts : List (List Int)) (p : Nat × Nat), (∀ t ∈ ts, t.length ≤ 100) → (ts.foldl (blS m) p).2 ≤ p.2 * 2 ^ (7 * ts.length) := by
    intro ts
    induction ts with
    | nil => intro p _; simp
    | cons t ts ih =>
      intro p h
      refine Nat.le_trans (ih (blS m p t) fun u hu => h u (List.mem_cons_of_mem _ hu)) ?_
      have e : 2 ^ (7 * (t :: ts).length) = 128 * 2 ^ (7 * ts.length) := by
        rw [List.length_cons, show 7 * (ts.length + 1) = 7 + 7 * ts.length by omega, Nat.pow_add]
      rw [e, ← Nat.mul_assoc]
      refine Nat.mul_le_mul_right _ ?_
      unfold blS
      split
      · exact Nat.mul_le_mul_left _ (Nat.le_trans (h t List.mem_cons_self) (by decide))
      · omega
  have := this ts (0, 1) h
  simpa using this
def spBlame : Sp := fun vs H Q _ => ∃ m L, vs = [.int m, .ref L] ∧ ∃ bs ts, H L = some (.lst (List.map V.ref bs)) ∧ SetsAt H bs ts ∧ (∀ t ∈ ts, t.length ≤ 100) ∧ ts.length ≤ 1000 ∧ ∀ p, H p = none → Q (.ref p) (upd H p (.tup (List.map V.int (blV m ts))))
section
variable {P : Program} {w : World} {K : PySem.W.Frag} {mg : Str → Option Value} {base : Heap} {t : Adr}
theorem ok_blame (T : Txt K mg t) : FnOk P w K mg base CX0 2 t.a_blame_of t.d_blame_of ["member", "clashes"] spBlame := by
  have G_common_of := ok_common (P := P) (w := w) (base := base) T
  refine T.F_blame_of.okZ sc_blame_of (fun vs H Q E h => ?_) (fun cdv A outer s H vs Q E hr h hc hf => ?_)
  · obtain ⟨a, L, rfl, _⟩ := h; rfl
  obtain ⟨m, L, rfl, bs, ts, hL, st, l100, l1000, q⟩ := h
  have hu := hu_of hr
  have hu0 := hr.units0
  refine ⟨_, (by apply zqss_cons; exact (zpsk_set hc sc_blame_of.nd hf 2 (by decide +kernel) zpe_int); apply zqss_cons; exact (zpsk_set hc sc_blame_of.nd hf 3 (by decide +kernel) zpe_int); apply zqss_cons; exact (zqs_for PassesOwn.never rfl (zpi_list (zpvk hc 1 (by decide +kernel))) (zpgk hc sc_blame_of.nd hf 4 (by decide +kernel)) (by exact zqss_one (zqs_if (zpt_cmpR op_inT (zpvk hc 0 (by decide +kernel)) (zpvk hc 4 (by decide +kernel)) (by with_unfolding_all rfl)) (by apply zqss_cons; exact (zpsk_set hc sc_blame_of.nd hf 2 (by decide +kernel) (zpe_op op_add (zpe_op op_mul (zpvk hc 2 (by decide +kernel)) (zpe_callB call_lenT (glk hc (by decide +kernel)) T.z_len b_len (zpa_cons (zpvk hc 4 (by decide +kernel)) zpa_nil))) (zpvk hc 3 (by decide +kernel)))); exact zqss_one (zpsk_set hc sc_blame_of.nd hf 3 (by decide +kernel) (zpe_op op_mul (zpvk hc 3 (by decide +kernel)) (zpe_callB call_lenT (glk hc (by decide +kernel)) T.z_len b_len (zpa_cons (zpvk hc 4 (by decide +kernel)) zpa_nil))))) zqss_nil))); apply zqss_cons; exact (zpsk_set hc sc_blame_of.nd hf 5 (by decide +kernel) (zpe_call G_common_of (hr.mono (by omega)) (glk hc (by decide +kernel)) T.m_common_of T.F_common_of.kp T.b_common_of .nil pass0 (zpa_cons (zpvk hc 2 (by decide +kernel)) (zpa_cons (zpvk hc 3 (by decide +kernel)) zpa_nil)))); exact zqss_one (zps_ret (zpe_tup (zpa_cons (zpe_op op_fdivX (zpvk hc 2 (by decide +kernel)) (zpvk hc 5 (by decide +kernel))) (zpa_cons (zpe_op op_fdivX (zpvk hc 3 (by decide +kernel)) (zpvk hc 5 (by decide +kernel))) zpa_nil))))), ?_⟩
  repeat (walk_at "rd")
  refine ⟨⟨_, sqL_of hL⟩, ?_⟩
  obtain ⟨Pv, hPv⟩ : ∃ Pv : Nat → St → Hp → Prop, ∀ i σ' H', Pv i σ' H' ↔ ∃ z : Option V, σ' = [some (.int m), some (.ref L), some (.int ((blF m (ts.take i)).1 : Int)), some (.int ((blF m (ts.take i)).2 : Int)), z, none] ∧ H' = H := ⟨_, fun _ _ _ => Iff.rfl⟩
  refine forAll_list (xs := List.map V.ref bs) Pv ((hPv _ _ _).mpr ⟨none, rfl, rfl⟩) (fun i σ' H1 _ pv => ?_) (fun i z σ' H1 hz pv => ?_) (fun σ' H1 pv => ?_)
  · obtain ⟨_, _, rfl⟩ := (hPv _ _ _).mp pv
    exact hL
  · obtain ⟨z', rfl, rfl⟩ := (hPv _ _ _).mp pv
    obtain ⟨b, eb, rfl⟩ := ref_at hz
    have hi : i < bs.length := (List.getElem?_eq_some_iff.mp eb).1
    have hi2 : i < ts.length := by have := st.1; omega
    have et : ts[i]? = some ts[i] := List.getElem?_eq_getElem hi2
    have hb := st.2 i b _ eb et
    have nx := blF_next m ts et
    generalize blF m (ts.take i) = p at nx ⊢
    repeat (first | walk_at "rd" | simp only [hb])
    refine ⟨rfl, flat_ints _, ?_⟩
    rw [inV_ints]
    by_cases hm : m ∈ ts[i]
    · rw [if_pos (by simp [hm])]
      have lt := l100 _ (List.getElem_mem hi2)
      have e1 : blS m p ts[i] = (p.1 * ts[i].length + p.2, p.2 * ts[i].length) := if_pos hm
      rw [e1] at nx
      refine ⟨.inr ⟨by omega, by omega⟩, .inr ⟨by omega, by omega⟩, (hPv _ _ _).mpr ⟨some (.ref b), ?_, rfl⟩⟩
      rw [nx]
      simp only [Int.natCast_add, Int.natCast_mul]
    · rw [if_neg (by simp [hm])]
      have e1 : blS m p ts[i] = p := if_neg hm
      rw [e1] at nx
      exact (hPv _ _ _).mpr ⟨some (.ref b), by rw [nx], rfl⟩
  · obtain ⟨z', rfl, rfl⟩ := (hPv _ _ _).mp pv
    rw [List.length_map, st.1, List.take_length]
    repeat (walk_at "rd")
    have p0 := blF_pos m ts
    have lim := blF_lim m ts l100
    have g0 : 0 < Nat.gcd (blF m ts).1 (blF m ts).2 := Nat.gcd_pos_of_pos_right _ p0
    have g1 : Nat.gcd (blF m ts).1 (blF m ts).2 ≤ (blF m ts).2 := Nat.gcd_le_right _ p0
    have g2 : ((Nat.gcd (blF m ts).1 (blF m ts).2 : Nat) : Int) < 2 ^ (7 * ts.length + 1) := by
      have e : ((2 ^ (7 * ts.length + 1) : Nat) : Int) = 2 ^ (7 * ts.length + 1) := by simp
      rw [← e]
      have := Nat.pow_lt_pow_right (a := 2) (by decide) (Nat.lt_succ_self (7 * ts.length))
      omega
    refine ⟨_, _, rfl, _, rfl, ⟨by omega, _, ?_, g2⟩, _, rfl, ⟨by omega, _, ?_, g2⟩, by decide, fun p hp => ?_⟩
    · omega
    · omega
    · have := q p hp
      unfold blV at this
      simpa using this
end

local macro_rules | `(tactic| walk_at "rd") => `(tactic| walk_at "rc")

/-! ### a set of many numbers, few of them unlike -/
theorem inS_same {w : World} {p : Addr} {a b : List Int} (h : ∀ z, z ∈ a ↔ z ∈ b) : InS w p a = InS w p b := by
  unfold InS
  congr 1
  funext hp
  simp only [h]
def spSetOfM : Sp := fun vs H Q _ => ∃ L, vs = [.ref L] ∧ ∃ ns few : List Int, H L = some (.lst (List.map V.int ns)) ∧ ns.length < 4000 ∧ (∀ z, z ∈ ns ↔ z ∈ few) ∧ few.length < 64 ∧ ∀ p ms H', Same H H' → H p = none → H' p = some (.tup (List.map V.int ms)) → Rise ms → (∀ x, x ∈ ms ↔ x ∈ ns) → Q (.ref p) H'
section
variable {P : Program} {w : World} {K : PySem.W.Frag} {mg : Str → Option Value} {base : Heap} {t : Adr}
theorem ok_setofM (T : Txt K mg t) : FnOk P w K mg base CX0 1 t.a_set_of t.d_set_of ["numbers"] spSetOfM := by
  refine T.F_set_of.okZ sc_set_of (fun vs H Q E h => ?_) (fun cdv A outer s H vs Q E hr h hc hf => ?_)
  · obtain ⟨L, rfl, _⟩ := h; rfl
  obtain ⟨L, rfl, ns, few, hL, l4000, hfew, l64, q⟩ := h
  refine ⟨_, (by exact zqss_one (zps_ret (zpe_callTy call_tupleL (glk hc (by decide +kernel)) T.z_tuple b_tuple (zpa_cons (zpe_callB (call_sortSetIQ hr.hd) (glk hc (by decide +kernel)) T.z_sorted b_sorted (zpa_cons (zpe_callTy (call_setIQ hr.hd) (glk hc (by decide +kernel)) T.z_set b_set (zpa_cons (zpvk hc 0 (by decide +kernel)) zpa_nil)) zpa_nil)) zpa_nil)))), ?_⟩
  repeat (first | walk_at "rd" | simp only [hL])
  refine ⟨ns, rfl, by omega, fun p hp => ⟨few, inS_same hfew, l64, fun ss' mem up p1 hp1 l hl => ?_⟩⟩
  exact q l ss' _ (((same_new hp _).trans (same_new hp1 _)).trans (same_new hl _)) (((same_new hp _).trans (same_new hp1 _)).free hl) upd_same up fun x => (mem x).trans (hfew x).symm
end

local macro_rules | `(tactic| walk_at "rd") => `(tactic| walk_at "rc")

/-! ### what all members bear -/
def blK (ms : List Int) (ps : List Addr) : List (Key × V) := List.zipWith (fun z p => (Sum.inl z, V.ref p)) ms ps
theorem blK_len {ms : List Int} {ps : List Addr} (h : ps.length = ms.length) : (blK ms ps).length = ms.length := by unfold blK; rw [List.length_zipWith, h]; omega
theorem blK_snoc {ms : List Int} {ps : List Addr} (h : ps.length = ms.length) (z : Int) (p : Addr) : blK (ms ++ [z]) (ps ++ [p]) = blK ms ps ++ [(Sum.inl z, V.ref p)] := by
  unfold blK
  rw [List.zipWith_append h.symm]
  rfl
theorem blK_key : ∀ {ms : List Int} {ps : List Addr} {k : Key} {v : V}, (k, v) ∈ blK ms ps → ∃ z ∈ ms, k = Sum.inl z
  | [], ps, k, v, h => by simp [blK] at h
  | z :: ms, [], k, v, h => by simp [blK] at h
  | z :: ms, p :: ps, k, v, h => by
    rcases List.mem_cons.mp (show (k, v) ∈ (Sum.inl z, V.ref p) :: blK ms ps from h) with e | e
    · cases e; exact ⟨z, List.mem_cons_self, rfl⟩
    · obtain ⟨y, hy, e⟩ := blK_key e
      exact ⟨y, List.mem_cons_of_mem _ hy, e⟩
theorem blK_put {ms : List Int} {ps : List Addr} (h : ps.length = ms.length) {z : Int} (hz : z ∉ ms) (p : Addr) : putK (blK ms ps) (Sum.inl z) (V.ref p) = blK (ms ++ [z]) (ps ++ [p]) := by
  rw [blK_snoc h]
  unfold putK
  rw [if_neg]
  intro a
  obtain ⟨⟨k, v⟩, hk, e⟩ := List.any_eq_true.mp a
  obtain ⟨y, hy, e2⟩ := blK_key hk
  have e3 := of_decide_eq_true e
  dsimp only at e3
  rw [e2] at e3
  cases e3
  exact hz hy
theorem not_take {ms : List Int} (nd : ms.Nodup) {i : Nat} {n : Int} (h : ms[i]? = some n) : n ∉ ms.take i := by
  intro hm
  obtain ⟨j, hj, e⟩ := List.mem_iff_getElem.mp hm
  rw [List.length_take] at hj
  rw [List.getElem_take] at e
  obtain ⟨hi, e2⟩ := List.getElem?_eq_some_iff.mp h
  have := (List.getElem_inj nd).mp (e.trans e2.symm)
  omega
def spBlames : Sp := fun vs H Q _ => ∃ L, vs = [.ref L] ∧ ∃ (bs : List Addr) (ts : List (List Int)) (few : List Int), H L = some (.lst (List.map V.ref bs)) ∧ SetsAt H bs ts ∧ (∀ t ∈ ts, t.length ≤ 10) ∧ ts.length ≤ 390 ∧ (∀ t ∈ ts, ∀ z ∈ t, z ∈ few) ∧ few.length < 64 ∧
  ∀ D ps ms H', Same H H' → H D = none → H' D = some (.dK (blK ms ps)) → SetsAt H' ps (ms.map fun z => blV z ts) → Rise ms → (∀ z, z ∈ ms ↔ ∃ t ∈ ts, z ∈ t) → Q (.ref D) H'
section
variable {P : Program} {w : World} {K : PySem.W.Frag} {mg : Str → Option Value} {base : Heap} {t : Adr}
theorem ok_blames (T : Txt K mg t) : FnOk P w K mg base CX0 3 t.a_blames_of t.d_blames_of ["clashes"] spBlames := by
  have G_set_of := ok_setofM (P := P) (w := w) (base := base) T
  have G_blame_of := ok_blame (P := P) (w := w) (base := base) T
  refine T.F_blames_of.okZ sc_blames_of (fun vs H Q E h => ?_) (fun cdv A outer s H vs Q E hr h hc hf => ?_)
  · obtain ⟨L, rfl, _⟩ := h; rfl
  obtain ⟨L, rfl, bs, ts, few, hL, st, l10, l390, hfew, l64, q⟩ := h
  have hu := hu_of hr
  have hu0 := hr.units0
  refine ⟨_, (by apply zqss_cons; exact (zpsk_set hc sc_blames_of.nd hf 1 (by decide +kernel) (zpe_lst zpa_nil)); apply zqss_cons; exact (zqs_for PassesOwn.never rfl (zpi_list (zpvk hc 0 (by decide +kernel))) (zpgk hc sc_blames_of.nd hf 2 (by decide +kernel)) (by exact zqss_one (zps_expr (zpe_bm PySem.F.plainAttrs_list PySem.F.slot_list_extend PySem.F.type_list_extend mt_extendT (zpvk hc 1 (by decide +kernel)) (zpa_cons (zpvk hc 2 (by decide +kernel)) zpa_nil))))); apply zqss_cons; exact (zpsk_set hc sc_blames_of.nd hf 3 (by decide +kernel) zpe_dnewK); apply zqss_cons; exact (zqs_for PassesOwn.never rfl (zpi_tup (zpe_call G_set_of (hr.mono (by omega)) (glk hc (by decide +kernel)) T.m_set_of T.F_set_of.kp T.b_set_of .nil pass0 (zpa_cons (zpvk hc 1 (by decide +kernel)) zpa_nil))) (zpgk hc sc_blames_of.nd hf 4 (by decide +kernel)) (by exact zqss_one (zps_dput hu (zpvk hc 3 (by decide +kernel)) (zpvk hc 4 (by decide +kernel)) (zpe_call G_blame_of (hr.mono (by omega)) (glk hc (by decide +kernel)) T.m_blame_of T.F_blame_of.kp T.b_blame_of .nil pass0 (zpa_cons (zpvk hc 4 (by decide +kernel)) (zpa_cons (zpvk hc 0 (by decide +kernel)) zpa_nil))) rfl))); exact zqss_one (zps_ret (zpvk hc 3 (by decide +kernel)))), ?_⟩
  repeat (walk_at "rd")
  refine ⟨by decide, fun M hM => ?_⟩
  have s0 := same_new hM (.lst [])
  refine ⟨⟨_, sqL_of (s0 _ _ hL)⟩, ?_⟩
  obtain ⟨Pv, hPv⟩ : ∃ Pv : Nat → St → Hp → Prop, ∀ i σ' H', Pv i σ' H' ↔ ∃ z : Option V, σ' = [some (.ref L), some (.ref M), z, none, none] ∧ Same H H' ∧ H' M = some (.lst (List.map V.int (ts.take i).flatten)) ∧ (ts.take i).flatten.length ≤ 10 * i := ⟨_, fun _ _ _ => Iff.rfl⟩
  refine forAll_list (xs := List.map V.ref bs) Pv ((hPv _ _ _).mpr ⟨none, rfl, s0, upd_same, Nat.le_refl _⟩) (fun i σ' H1 _ pv => ?_) (fun i z σ' H1 hz pv => ?_) (fun σ' H1 pv => ?_)
  · obtain ⟨_, _, s1, _⟩ := (hPv _ _ _).mp pv
    exact s1 _ _ hL
  · obtain ⟨z', rfl, s1, hM1, ln⟩ := (hPv _ _ _).mp pv
    obtain ⟨b, eb, rfl⟩ := ref_at hz
    have hi : i < bs.length := (List.getElem?_eq_some_iff.mp eb).1
    have hi2 : i < ts.length := by have := st.1; omega
    have et : ts[i]? = some ts[i] := List.getElem?_eq_getElem hi2
    have hb := s1 _ _ (st.2 i b _ eb et)
    have lt := l10 _ (List.getElem_mem hi2)
    repeat (walk_at "rd")
    refine ⟨.inl ⟨rfl, _, sqL_of hM1⟩, _, hM1, _, hb, (by rw [List.length_map, List.length_map]; exact smallB (by omega)), (hPv _ _ _).mpr ⟨some (.ref b), rfl, same_put' s1 hM, ?_, ?_⟩⟩
    · rw [upd_same, List.take_add_one, et, List.flatten_append, List.map_append]
      simp
    · rw [List.take_add_one, et, List.flatten_append, List.length_append]
      simp only [Option.toList_some, List.flatten_cons, List.flatten_nil, List.append_nil]
      omega
  · obtain ⟨z', rfl, s1, hM1, ln⟩ := (hPv _ _ _).mp pv
    rw [List.length_map, st.1, List.take_length] at hM1 ln
    repeat (walk_at "rd")
    intro D hD
    have sD := s1.trans (same_new hD (.dK []))
    have hfl : ∀ z, z ∈ ts.flatten ↔ z ∈ few.filter fun z => decide (z ∈ ts.flatten) := fun z => by
      rw [List.mem_filter, decide_eq_true_iff]
      refine ⟨fun hz => ⟨?_, hz⟩, fun hz => hz.2⟩
      obtain ⟨t, ht, hz⟩ := List.mem_flatten.mp hz
      exact hfew t ht z hz
    have lfl : (few.filter fun z => decide (z ∈ ts.flatten)).length < 64 := Nat.lt_of_le_of_lt (List.length_filter_le _ _) l64
    refine ⟨M, rfl, ts.flatten, few.filter fun z => decide (z ∈ ts.flatten), same_new hD _ _ _ hM1, by omega, hfl, lfl, fun p ms H2 s2 hp hp2 up mem => ?_⟩
    have hD2 := s2 _ _ (upd_same (H := H1) (a := D) (o := .dK []))
    have sH := sD.trans s2
    have hDH : H D = none := s1.free hD
    have lms : ms.length ≤ 64 := by
      have := nodup_le up.nodup fun x hx => (hfl x).mp ((mem x).mp hx)
      omega
    have st2 : SetsAt H2 bs ts := st.mono fun b xs e => sH _ _ e
    repeat (walk_at "rd")
    refine ⟨⟨_, sqT_of hp2⟩, ?_⟩
    obtain ⟨Pw, hPw⟩ : ∃ Pw : Nat → St → Hp → Prop, ∀ i σ' H', Pw i σ' H' ↔ ∃ (z : Option V) (ps : List Addr), σ' = [some (.ref L), some (.ref M), z', some (.ref D), z] ∧ Same H H' ∧ H' p = some (.tup (List.map V.int ms)) ∧ H' D = some (.dK (blK (ms.take i) ps)) ∧ SetsAt H' ps ((ms.take i).map fun z => blV z ts) := ⟨_, fun _ _ _ => Iff.rfl⟩
    refine forAll_tup (xs := List.map V.int ms) Pw ((hPw _ _ _).mpr ⟨none, [], rfl, sH, hp2, hD2, ⟨rfl, fun i b t e => by simp at e⟩⟩) (fun i σ' H3 _ pv => ?_) (fun i z σ' H3 hz pv => ?_) (fun σ' H3 pv => ?_)
    · obtain ⟨_, _, _, _, h, _⟩ := (hPw _ _ _).mp pv
      exact h
    · obtain ⟨z2, ps, rfl, s3, hp3, hD3, sa⟩ := (hPw _ _ _).mp pv
      obtain ⟨n, en, rfl⟩ := int_at hz
      simp only [sDPut]
      repeat (walk_at "rd")
      refine ⟨n, L, rfl, bs, ts, s3 _ _ hL, st.mono fun b xs e => s3 _ _ e, fun t ht => Nat.le_trans (l10 t ht) (by decide), by omega, fun b hb => ?_⟩
      have hDb : D ≠ b := ne_of_none hD3 hb
      have lps : ps.length = (ms.take i).length := by rw [sa.1, List.length_map]
      have et : ms.take (i + 1) = ms.take i ++ [n] := by rw [List.take_add_one, en]; rfl
      refine ⟨_, DPut.k (k := Sum.inl n) (by rw [upd_ne hDb]; exact hD3) (smallB1 (by rw [blK_len lps, List.length_take]; omega)), (hPw _ _ _).mpr ⟨_, ps ++ [b], rfl, ?_, ?_, ?_, ?_⟩⟩
      · exact same_put' (s3.trans (same_new hb _)) hDH
      · rw [upd_ne (ne_of hD3 hp3 (by intro z; cases z)).symm, upd_ne (ne_of_none hp3 hb)]; exact hp3
      · rw [upd_same, blK_put lps (not_take up.nodup en), et]
      · rw [et, List.map_append]
        have k : ∀ b' xs, H3 b' = some (.tup xs) → upd (upd H3 b (HO.tup (List.map V.int (blV n ts)))) D (HO.dK (putK (blK (List.take i ms) ps) (Sum.inl n) (V.ref b))) b' = some (.tup xs) := fun b' xs e => by
          rw [upd_ne (ne_of hD3 e (by intro z; cases z)).symm, upd_ne (ne_of_none e hb)]; exact e
        exact (sa.mono k).snoc (by rw [upd_ne hDb.symm]; exact upd_same)
    · obtain ⟨z2, ps, rfl, s3, hp3, hD3, sa⟩ := (hPw _ _ _).mp pv
      rw [List.length_map, List.take_length] at hD3 sa
      repeat (walk_at "rd")
      exact q D ps ms H3 s3 hDH hD3 sa up fun z => (mem z).trans ⟨fun hz => List.mem_flatten.mp hz, fun hz => List.mem_flatten.mpr hz⟩
end

local macro_rules | `(tactic| walk_at "rd") => `(tactic| walk_at "rc")

/-! ### a family is drawn -/
def spFamilyS : Sp := fun vs H Q _ => ∃ h W most, vs = [.ref h, .ref W, .int most] ∧ 0 ≤ most ∧ most ≤ 14 ∧ HandAt H h ∧ ∃ x : List Int, H W = some (.tup (List.map V.int x)) ∧ x.length ≤ 11 ∧
  ∀ D bs ts H', Dr h H H' → H D = none → H' D = some (.lst (List.map V.ref bs)) → SetsAt H' bs ts → bs.length ≤ 14 → (∀ t ∈ ts, t.Sublist x) → Q (.ref D) H'
section
variable {P : Program} {w : World} {K : PySem.W.Frag} {mg : Str → Option Value} {base : Heap} {t : Adr}
theorem ok_familyS (T : Txt K mg t) : FnOk P w K mg base CX0 4 t.a__law_family_by t.d__law_family_by ["_law_hand_here", "_law_members_here", "_law_most"] spFamilyS := by
  have G__law_draw := ok_draw (P := P) (w := w) (base := base) T
  refine T.F__law_family_by.okZ sc__law_family_by (fun vs H Q E h => ?_) (fun cdv A outer s H vs Q E hr h hc hf => ?_)
  · obtain ⟨a, b, c, rfl, _⟩ := h; rfl
  obtain ⟨h, W, most, rfl, m0, m14, hd, x, hW, lx, q⟩ := h
  have hu := hu_of hr
  have hu0 := hr.units0
  have hWh : W ≠ h := hd.ntup hW
  refine ⟨_, (by apply zqss_cons; exact (zpsk_set hc sc__law_family_by.nd hf 3 (by decide +kernel) (zpe_lst zpa_nil)); apply zqss_cons; exact (zqs_for PassesOwn.never rfl (zpi_range1 (glk hc (by decide +kernel)) T.z_range (zpa_cons (zpe_call G__law_draw (hr.mono (by omega)) (glk hc (by decide +kernel)) T.m__law_draw T.F__law_draw.kp T.b__law_draw .nil pass0 (zpa_cons (zpvk hc 0 (by decide +kernel)) (zpa_cons (zpe_op op_add (zpvk hc 2 (by decide +kernel)) zpe_int) zpa_nil))) zpa_nil)) (zpgk hc sc__law_family_by.nd hf 4 (by decide +kernel)) (by apply zqss_cons; exact (zpsk_set hc sc__law_family_by.nd hf 5 (by decide +kernel) (zpe_ix ix_l (zpe_lst (zpa_cons zpe_int (zpa_cons zpe_int (zpa_cons zpe_int (zpa_cons zpe_int zpa_nil))))) (zpe_call G__law_draw (hr.mono (by omega)) (glk hc (by decide +kernel)) T.m__law_draw T.F__law_draw.kp T.b__law_draw .nil pass0 (zpa_cons (zpvk hc 0 (by decide +kernel)) (zpa_cons zpe_int zpa_nil))) (fun _ _ => rfl))); apply zqss_cons; exact (zpsk_set hc sc__law_family_by.nd hf 6 (by decide +kernel) (zpe_callTy call_tupleL (glk hc (by decide +kernel)) T.z_tuple b_tuple (zpa_cons (zpek_comp hc ["_law_member"] [0, 5] rfl (by decide +kernel) (zpi_tup (zpvk hc 1 (by decide +kernel))) (fun _ hc => zpgb hc (by decide +kernel) 0 (by decide +kernel)) (fun _ hc => zpifs_one (zpt_cmpR op_eq (zpe_call G__law_draw (hr.mono (by omega)) (glk hc (by decide +kernel)) T.m__law_draw T.F__law_draw.kp T.b__law_draw .nil pass0 (zpa_cons (zpvk hc 1 (by decide +kernel)) (zpa_cons (zpvk hc 2 (by decide +kernel)) zpa_nil))) zpe_int (nomark _))) (fun _ hc => (zpvk hc 0 (by decide +kernel)))) zpa_nil))); exact zqss_one (zqs_if (zPWpt (zpw_and (zpt_cmpR (op_notInS hu) (zpvk hc 6 (by decide +kernel)) (zpvk hc 3 (by decide +kernel)) (by with_unfolding_all rfl)) (zpw_and1 (zPWpt (zpw_or (zpt_cmpR (op_neTI hu) (zpvk hc 6 (by decide +kernel)) (zpe_tup zpa_nil) (nomark _)) (zpw_or1 (zpt_cmpR op_eq (zpe_call G__law_draw (hr.mono (by omega)) (glk hc (by decide +kernel)) T.m__law_draw T.F__law_draw.kp T.b__law_draw .nil pass0 (zpa_cons (zpvk hc 0 (by decide +kernel)) (zpa_cons zpe_int zpa_nil))) zpe_int (nomark _)))))))) (by exact zqss_one (zps_expr (zpe_bm PySem.F.plainAttrs_list PySem.F.slot_list_append PySem.F.type_list_append mt_append (zpvk hc 3 (by decide +kernel)) (zpa_cons (zpvk hc 6 (by decide +kernel)) zpa_nil)))) zqss_nil))); exact zqss_one (zps_ret (zpvk hc 3 (by decide +kernel)))), ?_⟩
  repeat (walk_at "rd")
  refine ⟨by decide, fun F hF => ?_⟩
  have hFh : F ≠ h := hd.ne hF
  refine draw_by hd (Dr.refl.new hF) (by omega) (by omega) fun c H1 c0 c1 d1 k1 => ?_
  have hF1 : H1 F = some (.lst []) := by rw [k1 F hFh]; exact upd_same
  repeat (walk_at "rd")
  refine ⟨by omega, by omega, ?_⟩
  obtain ⟨Pv, hPv⟩ : ∃ Pv : Nat → St → Hp → Prop, ∀ i σ' H', Pv i σ' H' ↔ ∃ (y1 y2 y3 : Option V) (bs : List Addr) (ts : List (List Int)), σ' = [some (.ref h), some (.ref W), some (.int most), some (.ref F), y1, y2, y3] ∧ Dr h H H' ∧ H' F = some (.lst (List.map V.ref bs)) ∧ SetsAt H' bs ts ∧ bs.length ≤ i ∧ (∀ t ∈ ts, t.Sublist x) := ⟨_, fun _ _ _ => Iff.rfl⟩
  refine forAll_rng Pv ((hPv _ _ _).mpr ⟨none, none, none, [], [], rfl, d1, hF1, ⟨rfl, fun i b t e => by simp at e⟩, Nat.le_refl _, fun t ht => by cases ht⟩) (fun i σ' H2 hi pv => ?_) (fun σ' H2 pv => ?_)
  · obtain ⟨y1, y2, y3, bs, ts, rfl, d2, hF2, sa, lb, sub⟩ := (hPv _ _ _).mp pv
    repeat (walk_at "rd")
    refine ⟨by decide, fun p hp => ?_⟩
    have hph : p ≠ h := (d2.handAt hd).ne hp
    refine draw_by hd (d2.new hp) (by decide) (by decide) fun r H3 r0 r1 d3 k3 => ?_
    obtain ⟨wd, ew, hw⟩ := four_at (a := 2) (b := 2) (c := 3) (d := 4) r0 r1
    refine ⟨_, rfl, _, by rw [k3 p hph]; exact upd_same, _, ew, ?_⟩
    have hF3 : H3 F = some (.lst (List.map V.ref bs)) := by rw [k3 F hFh, upd_ne (ne_of_none hF2 hp)]; exact hF2
    have sa3 : SetsAt H3 bs ts := sa.mono fun b xs e => by
      rw [k3 b ((d2.handAt hd).ntup e), upd_ne (ne_of_none e hp)]; exact e
    repeat (walk_at "rd")
    refine ⟨⟨_, sqT_of (d3.keep _ _ hWh hW)⟩, ?_⟩
    obtain ⟨Pc, hPc⟩ : ∃ Pc : Addr → Nat → List V → Hp → Prop, ∀ Z i ys H', Pc Z i ys H' ↔ Dr h H3 H' ∧ ∃ ns : List Int, ys = List.map V.int ns ∧ H' Z = some (.lst ys) ∧ ns.length ≤ i ∧ ns.Sublist (x.take i) := ⟨_, fun _ _ _ _ => Iff.rfl⟩
    have hd3 := d3.handAt hd
    refine compAll_tup (zs := List.map V.int x) Pc (fun Z hZ => (hPc _ _ _ _).mpr ⟨Dr.refl.new hZ, [], rfl, upd_same, Nat.le_refl _, List.nil_sublist _⟩) (fun Z hZ j ys H' _ pv => ?_) (fun Z hZ j z ys H' hz pv cb => ?_) (fun Z hZ ys H' pv => ?_)
    · obtain ⟨d4, _⟩ := (hPc _ _ _ _).mp pv
      exact (d3.trans d4).keep _ _ hWh hW
    · obtain ⟨d4, ns, rfl, hZ4, ln, hs⟩ := (hPc _ _ _ _).mp pv
      obtain ⟨n, en, rfl⟩ := int_at hz
      have hj : j < x.length := (List.getElem?_eq_some_iff.mp en).1
      have hZh : Z ≠ h := hd3.ne hZ
      walk_at "rc"
      repeat (walk_at "rd")
      refine draw_by hd3 d4 (by omega) (by omega) fun r5 H5 r50 r51 d5 k5 => ?_
      have hZ5 : H5 Z = some (.lst (List.map V.int ns)) := by rw [k5 Z hZh]; exact hZ4
      repeat (walk_at "rd")
      split
      · refine ⟨hZ5, small1000 (by omega), (hPc _ _ _ _).mpr ⟨d5.put hZ, ns ++ [n], by rw [List.map_append]; rfl, upd_same, by rw [List.length_append]; simp; omega, by rw [List.take_add_one, en]; exact hs.append (List.Sublist.refl _)⟩⟩
      · exact (hPc _ _ _ _).mpr ⟨d5, ns, rfl, hZ5, by omega, hs.trans (by rw [List.take_add_one]; exact List.sublist_append_left _ _)⟩
    · obtain ⟨d4, ns, rfl, hZ4, ln, hs⟩ := (hPc _ _ _ _).mp pv
      rw [List.length_map] at ln hs
      rw [List.take_length] at hs
      repeat (first | walk_at "rd" | simp only [hZ4])
      intro l hl
      have d6 := (d3.trans d4).new (o := .tup (List.map V.int ns)) hl
      have hF4 : H' F = some (.lst (List.map V.ref bs)) := d4.keep _ _ hFh hF3
      have hF6 := (same_new hl (.tup (List.map V.int ns))) _ _ hF4
      have sa6 : SetsAt (upd H' l (.tup (List.map V.int ns))) bs ts := (Dr.sets hd3 d4 sa3).mono fun b xs e => (same_new hl _) _ _ e
      have hl6 : upd H' l (.tup (List.map V.int ns)) l = some (.tup (List.map V.int ns)) := upd_same
      generalize upd H' l (.tup (List.map V.int ns)) = H6 at d6 hF6 sa6 hl6 ⊢
      have hlb := sa6.1
      refine ⟨ns, rfl, bs, hF6, ts, sa6, ?_⟩
      have no : ∀ H7 y, Dr h H H7 → H7 F = some (.lst (List.map V.ref bs)) → SetsAt H7 bs ts → Pv (i + 1) [some (.ref h), some (.ref W), some (.int most), some (.ref F), some (.int (i : Int)), some (.int wd), some (.ref y)] H7 := fun H7 y a b c => (hPv _ _ _).mpr ⟨_, _, _, bs, ts, rfl, a, b, c, by omega, sub⟩
      have yes : ∀ H7, Dr h H H7 → H7 F = some (.lst (List.map V.ref bs)) → SetsAt H7 bs ts → H7 l = some (.tup (List.map V.int ns)) → Pv (i + 1) [some (.ref h), some (.ref W), some (.int most), some (.ref F), some (.int (i : Int)), some (.int wd), some (.ref l)] (upd H7 F (.lst (List.map V.ref bs ++ [V.ref l]))) := fun H7 a b c e => by
        have k : ∀ b' xs, H7 b' = some (.tup xs) → upd H7 F (.lst (List.map V.ref bs ++ [V.ref l])) b' = some (.tup xs) := fun b' xs eb => by
          rw [upd_ne (ne_of eb b (by intro z; cases z))]; exact eb
        exact (hPv _ _ _).mpr ⟨_, _, _, bs ++ [l], ts ++ [ns], rfl, a.put hF, by rw [upd_same, List.map_append]; rfl, (c.mono k).snoc (k _ _ e), by rw [List.length_append]; simp; omega, fun t ht => (List.mem_append.mp ht).elim (sub t) fun ht => by rw [List.mem_singleton.mp ht]; exact hs⟩
      split
      · refine ⟨by decide, fun p2 hp2 => ?_⟩
        have s7 := same_new hp2 (.tup [])
        refine ⟨ns, s7 _ _ hl6, [], rfl, ?_⟩
        have d7 := d6.new (o := .tup []) hp2
        split
        · exact ⟨.inl ⟨rfl, _, sqL_of (s7 _ _ hF6)⟩, _, s7 _ _ hF6, small1000 (by rw [List.length_map]; omega), yes _ d7 (s7 _ _ hF6) (sa6.mono fun b xs e => s7 _ _ e) (s7 _ _ hl6)⟩
        · refine draw_by hd d7 (by decide) (by decide) fun r8 H8 r80 r81 d8 k8 => ⟨rfl, ?_⟩
          have hF8 : H8 F = some (.lst (List.map V.ref bs)) := by rw [k8 F hFh]; exact s7 _ _ hF6
          have hh7 := d7.handAt hd
          have t8 : ∀ b xs, upd H6 p2 (.tup []) b = some (.tup xs) → H8 b = some (.tup xs) := fun b xs e => by rw [k8 b (hh7.ntup e)]; exact e
          have sa8 := (sa6.mono fun b xs e => s7 _ _ e).mono t8
          split
          · exact ⟨.inl ⟨rfl, _, sqL_of hF8⟩, _, hF8, small1000 (by rw [List.length_map]; omega), yes _ d8 hF8 sa8 (t8 _ _ (s7 _ _ hl6))⟩
          · exact no _ _ d8 hF8 sa8
      · exact no _ _ d6 hF6 sa6
  · obtain ⟨y1, y2, y3, bs, ts, rfl, d2, hF2, sa, lb, sub⟩ := (hPv _ _ _).mp pv
    repeat (walk_at "rd")
    exact q F bs ts H2 d2 hF hF2 sa (by omega) sub
end

/-! ### all rows of so many members -/
def stR (sz : Int) (R : List (List Int)) (m : Int) : List (List Int) := R ++ (R.filter fun t => decide ((t.length : Int) < sz)).map (· ++ [m])
def allR (sz : Int) (x : List Int) : List (List Int) := x.foldl (stR sz) [[]]
theorem allR_next (sz : Int) (x : List Int) {i : Nat} {m : Int} (h : x[i]? = some m) : allR sz (x.take (i + 1)) = stR sz (allR sz (x.take i)) m := by
  unfold allR
  rw [List.take_add_one, h, List.foldl_append]
  rfl
theorem allR_sub (sz : Int) (x : List Int) : ∀ i, i ≤ x.length → ∀ t ∈ allR sz (x.take i), t.Sublist (x.take i)
  | 0, _, t, ht => by
    have : t = [] := by simpa [allR] using ht
    rw [this]; exact List.nil_sublist _
  | i + 1, hi, t, ht => by
    have e : x[i]? = some x[i] := List.getElem?_eq_getElem hi
    rw [allR_next sz x e] at ht
    rw [List.take_add_one, e]
    rcases List.mem_append.mp ht with ht | ht
    · exact (allR_sub sz x i (by omega) t ht).trans (List.sublist_append_left _ _)
    · obtain ⟨u, hu, rfl⟩ := List.mem_map.mp ht
      exact (allR_sub sz x i (by omega) u (List.mem_filter.mp hu).1).append (List.Sublist.refl _)
def bin : Nat → Nat → Nat
  | _, 0 => 1
  | 0, _ + 1 => 0
  | n + 1, k + 1 => bin n k + bin n (k + 1)
def cntR (j : Nat) (R : List (List Int)) : Nat := (R.filter fun t => decide (t.length = j)).length
theorem cnt_step (sz : Int) (R : List (List Int)) (m : Int) (j : Nat) : cntR j (stR sz R m) ≤ cntR j R + (match j with | 0 => 0 | k + 1 => cntR k R) := by
  unfold cntR stR
  rw [List.filter_append, List.length_append]
  refine Nat.add_le_add_left ?_ _
  rw [List.filter_map, List.length_map]
  cases j with
  | zero =>
    refine Nat.le_of_eq (List.length_eq_zero_iff.mpr (List.filter_eq_nil_iff.mpr fun u _ => ?_))
    simp
  | succ k =>
    refine Nat.le_trans ((List.filter_sublist (l := R)).filter _).length_le (Nat.le_of_eq ?_)
    congr 1
    refine List.filter_congr fun u _ => ?_
    simp
theorem cnt_bin (sz : Int) (x : List Int) : ∀ i, i ≤ x.length → ∀ j, cntR j (allR sz (x.take i)) ≤ bin i j
  | 0, _, j => by
    cases j with
    | zero => simp [allR, cntR, bin]
    | succ k => simp [allR, cntR]
  | i + 1, hi, j => by
    have e : x[i]? = some x[i] := List.getElem?_eq_getElem hi
    rw [allR_next sz x e]
    refine Nat.le_trans (cnt_step sz _ _ j) ?_
    cases j with
    | zero => have := cnt_bin sz x i (by omega) 0; simpa [bin] using this
    | succ k =>
      have a := cnt_bin sz x i (by omega) k
      have b := cnt_bin sz x i (by omega) (k + 1)
      simp only [bin]
      omega
theorem bin_252 : ∀ n, n ≤ 10 → ∀ k, k ≤ 10 → bin n k ≤ 252 := by decide

local macro_rules | `(tactic| walk_at "rd") => `(tactic| walk_at "rc")

theorem fm_mf {α δ : Type} {l : List α} {p : α → Bool} {g : α → δ} {f : Nat → Option δ} (h : ∀ i (hi : i < l.length), f i = if p l[i] then some (g l[i]) else none) : (List.range l.length).filterMap f = (l.filter p).map g := by
  have : ∀ n, n ≤ l.length → (List.range n).filterMap f = ((l.take n).filter p).map g := fun n => by
    induction n with
    | zero => intro _; rfl
    | succ n ih =>
      intro hn
      rw [List.range_succ, List.filterMap_append, ih (by omega), List.take_add_one, List.getElem?_eq_getElem (by omega), List.filter_append, List.map_append]
      congr 1
      simp only [List.filterMap_cons, List.filterMap_nil, h n (by omega), Option.toList_some, List.filter_cons, List.filter_nil]
      by_cases hp : p (l[n]'(by omega)) = true
      · simp [hp]
      · simp [hp]
  have := this l.length (Nat.le_refl _)
  rwa [List.take_length] at this
/-! ### all sets of so many -/
def spAllOfR : Sp := fun vs H Q _ => ∃ W sz, vs = [.ref W, .int sz] ∧ ∃ x : List Int, H W = some (.tup (List.map V.int x)) ∧ x.length ≤ 10 ∧
  ∀ D bs ts H', Same H H' → H D = none → H' D = some (.lst (List.map V.ref bs)) → SetsAt H' bs ts → ts = (allR sz x).filter (fun t => decide ((t.length : Int) = sz)) → Q (.ref D) H'
section
variable {P : Program} {w : World} {K : PySem.W.Frag} {mg : Str → Option Value} {base : Heap} {t : Adr}
theorem ok_allofR (T : Txt K mg t) : FnOk P w K mg base CX0 1 t.a__law_all_of t.d__law_all_of ["_law_members_here", "_law_size"] spAllOfR := by
  refine T.F__law_all_of.okZ sc__law_all_of (fun vs H Q E h => ?_) (fun cdv A outer s H vs Q E hr h hc hf => ?_)
  · obtain ⟨a, b, rfl, _⟩ := h; rfl
  obtain ⟨W, sz, rfl, x, hW, lx, q⟩ := h
  refine ⟨_, (by apply zqss_cons; exact (zpsk_set hc sc__law_all_of.nd hf 2 (by decide +kernel) (zpe_lst (zpa_cons (zpe_tup zpa_nil) zpa_nil))); apply zqss_cons; exact (zqs_for PassesOwn.never rfl (zpi_tup (zpvk hc 0 (by decide +kernel))) (zpgk hc sc__law_all_of.nd hf 3 (by decide +kernel)) (by exact zqss_one (zpsk_set hc sc__law_all_of.nd hf 2 (by decide +kernel) (zpe_op op_cat (zpvk hc 2 (by decide +kernel)) (zpek_comp hc ["_law_row"] [3, 1] rfl (by decide +kernel) (zpi_list (zpvk hc 2 (by decide +kernel))) (fun _ hc => zpgb hc (by decide +kernel) 0 (by decide +kernel)) (fun _ hc => zpifs_one (zpt_cmpR op_lt (zpe_callB call_lenT (glk hc (by decide +kernel)) T.z_len b_len (zpa_cons (zpvk hc 0 (by decide +kernel)) zpa_nil)) (zpvk hc 2 (by decide +kernel)) (nomark _))) (fun _ hc => (zpe_op op_catTQ (zpvk hc 0 (by decide +kernel)) (zpe_tup (zpa_cons (zpvk hc 1 (by decide +kernel)) zpa_nil))))))))); exact zqss_one (zps_ret (zpek_comp hc ["_law_row"] [1] rfl (by decide +kernel) (zpi_list (zpvk hc 2 (by decide +kernel))) (fun _ hc => zpgb hc (by decide +kernel) 0 (by decide +kernel)) (fun _ hc => zpifs_one (zpt_cmpR op_eq (zpe_callB call_lenT (glk hc (by decide +kernel)) T.z_len b_len (zpa_cons (zpvk hc 0 (by decide +kernel)) zpa_nil)) (zpvk hc 1 (by decide +kernel)) (nomark _))) (fun _ hc => (zpvk hc 0 (by decide +kernel)))))), ?_⟩
  repeat (walk_at "rd")
  refine ⟨by decide, fun p hp => ⟨by decide, fun L0 hL0 => ?_⟩⟩
  have s0 := (same_new hp (.tup [])).trans (same_new hL0 (.lst [V.ref p]))
  have hp0 : upd (upd H p (.tup [])) L0 (.lst [V.ref p]) p = some (.tup []) := (same_new hL0 _) _ _ upd_same
  have hl0 : upd (upd H p (.tup [])) L0 (.lst [V.ref p]) L0 = some (.lst [V.ref p]) := upd_same
  generalize upd (upd H p (.tup [])) L0 (.lst [V.ref p]) = H0 at s0 hp0 hl0 ⊢
  refine ⟨⟨_, sqT_of (s0 _ _ hW)⟩, ?_⟩
  obtain ⟨Pv, hPv⟩ : ∃ Pv : Nat → St → Hp → Prop, ∀ i σ' H', Pv i σ' H' ↔ ∃ (L : Addr) (z : Option V) (bs : List Addr) (ts : List (List Int)), σ' = [some (.ref W), some (.int sz), some (.ref L), z] ∧ Same H H' ∧ H' L = some (.lst (List.map V.ref bs)) ∧ SetsAt H' bs ts ∧ bs.length ≤ 2 ^ i ∧ (∀ t ∈ ts, t.length ≤ i) ∧ ts = allR sz (x.take i) := ⟨_, fun _ _ _ => Iff.rfl⟩
  refine forAll_tup (xs := List.map V.int x) Pv ((hPv _ _ _).mpr ⟨L0, none, [p], [[]], rfl, s0, hl0, ⟨rfl, fun i b t h1 h2 => ?_⟩, Nat.le_refl _, (fun t ht => by rw [List.mem_singleton.mp ht]; exact Nat.le_refl _), rfl⟩) (fun i σ' H1 _ pv => ?_) (fun i z σ' H1 hz pv => ?_) (fun σ' H1 pv => ?_)
  · cases i with
    | zero => cases h1; cases h2; exact hp0
    | succ n => simp at h1
  · obtain ⟨_, _, _, _, _, s1, _⟩ := (hPv _ _ _).mp pv
    exact s1 _ _ hW
  · obtain ⟨L, z', bs, ts, rfl, s1, hL, sa, lb, lt, eR⟩ := (hPv _ _ _).mp pv
    obtain ⟨m, em, rfl⟩ := int_at hz
    have hi : i < x.length := (List.getElem?_eq_some_iff.mp em).1
    have pw := pow_le10 (n := i) (by omega)
    have ls := sa.1
    repeat (walk_at "rd")
    refine ⟨⟨_, sqL_of hL⟩, ?_⟩
    refine compS_list (zs := List.map V.ref bs) (fun j => if (ts[j]?.any fun t => decide ((t.length : Int) < sz)) then ts[j]?.map (· ++ [m]) else none) (fun _ => RSet) RSet.same RSet.puts hL (by rw [List.length_map]; omega) (fun DD c H2 j z yes no hj s2 hDD hDx hyes hno => ?_) (fun D H2 vs s2 hD hD2 rl => ?_)
    · obtain ⟨b, eb, rfl⟩ := ref_at hj
      have hj1 : j < bs.length := (List.getElem?_eq_some_iff.mp eb).1
      have es : ts[j]? = some (ts[j]'(by omega)) := List.getElem?_eq_getElem _
      have hb := s2 _ _ (sa.2 j b _ eb es)
      have ly := lt _ (List.getElem_mem (l := ts) (n := j) (by omega))
      rw [es] at hyes hno
      generalize ts[j]'(by omega) = y at hb hyes hno ly
      walk_at "rc"
      repeat (first | walk_at "rd" | simp only [hb])
      by_cases hs : (y.length : Int) < sz
      · rw [if_pos (by simpa using hs)]
        refine ⟨by decide, fun p1 hp1 => ⟨_, (same_new hp1 _) _ _ hb, by rw [List.length_map]; exact smallB (by omega), fun p2 H3 s3 _ hp2 => hyes (y ++ [m]) (by simp [hs]) _ _ ((same_new hp1 _).trans s3) ⟨p2, rfl, by rw [hp2, List.map_append]; rfl⟩⟩⟩
      · rw [if_neg (by simpa using hs)]
        exact hno (by simp [hs]) _ fun _ _ e => e
    · obtain ⟨cs, rfl, sc⟩ := sets_of rl
      have hcs : cs.length ≤ bs.length := by rw [sc.1]; exact Nat.le_trans (fm_len _ _) (by rw [List.length_map]; exact Nat.le_refl _)
      have hL2 := s2 _ _ hL
      repeat (first | walk_at "rd" | simp only [hL2, hD2])
      refine ⟨smallB (by omega), fun p1 hp1 => (hPv _ _ _).mpr ⟨p1, _, bs ++ cs, _, rfl, (s1.trans s2).trans (same_new hp1 _), by rw [upd_same, List.map_append], ((sa.mono fun b xs e => s2 _ _ e).app sc).mono fun b xs e => (same_new hp1 _) _ _ e, ?_, fun t ht => ?_, ?_⟩⟩
      · rw [List.length_append, Nat.pow_succ]; omega
      · rcases List.mem_append.mp ht with ht | ht
        · have := lt t ht; omega
        · obtain ⟨j, _, ej⟩ := List.mem_filterMap.mp ht
          cases e : ts[j]? with
          | none => rw [e] at ej; simp at ej
          | some u =>
            rw [e] at ej
            have lu := lt u (List.mem_of_getElem? e)
            by_cases hs : (u.length : Int) < sz
            · simp [hs] at ej
              rw [← ej, List.length_append]; simp; omega
            · simp [hs] at ej
      · rw [List.length_map, ls, fm_mf (p := fun t : List Int => decide ((t.length : Int) < sz)) (g := (· ++ [m])) (fun j hj => by rw [List.getElem?_eq_getElem hj]; rfl), allR_next sz x em, ← eR]
        rfl
  · obtain ⟨L, z', bs, ts, rfl, s1, hL, sa, lb, lt, eR⟩ := (hPv _ _ _).mp pv
    rw [List.length_map] at lb eR
    rw [List.take_length] at eR
    have pw := pow_le10 lx
    have ls := sa.1
    repeat (walk_at "rd")
    refine ⟨⟨_, sqL_of hL⟩, ?_⟩
    refine compS_list (zs := List.map V.ref bs) (fun j => if (ts[j]?.any fun t => decide ((t.length : Int) = sz)) then ts[j]? else none) (fun _ => RSet) RSet.same RSet.puts hL (by rw [List.length_map]; omega) (fun DD c H2 j z yes no hj s2 hDD hDx hyes hno => ?_) (fun D H2 vs s2 hD hD2 rl => ?_)
    · obtain ⟨b, eb, rfl⟩ := ref_at hj
      have hj1 : j < bs.length := (List.getElem?_eq_some_iff.mp eb).1
      have es : ts[j]? = some (ts[j]'(by omega)) := List.getElem?_eq_getElem _
      have hb := s2 _ _ (sa.2 j b _ eb es)
      rw [es] at hyes hno
      generalize ts[j]'(by omega) = y at hb hyes hno
      walk_at "rc"
      repeat (first | walk_at "rd" | simp only [hb])
      by_cases hs : (y.length : Int) = sz
      · rw [if_pos (by simpa using hs)]
        exact hyes y (by simp [hs]) _ _ (fun _ _ e => e) ⟨b, rfl, hb⟩
      · rw [if_neg (by simpa using hs)]
        exact hno (by simp [hs]) _ fun _ _ e => e
    · obtain ⟨cs, rfl, sc⟩ := sets_of rl
      have hcs : cs.length ≤ bs.length := by rw [sc.1]; exact Nat.le_trans (fm_len _ _) (by rw [List.length_map]; exact Nat.le_refl _)
      exact q D cs _ H2 (s1.trans s2) (s1.free hD) hD2 sc (by
        rw [List.length_map, ls, ← eR]
        exact fm_filter fun j hj => by rw [List.getElem?_eq_getElem hj]; rfl)
end

/-! ### two fractions of the same worth -/
theorem red_eq {a b c d : Nat} (hb : 0 < b) (hd : 0 < d) (h : a * d = c * b) : a / Nat.gcd a b = c / Nat.gcd c d ∧ b / Nat.gcd a b = d / Nat.gcd c d := by
  have g0 : 0 < Nat.gcd a b := Nat.gcd_pos_of_pos_right _ hb
  have k0 : 0 < Nat.gcd c d := Nat.gcd_pos_of_pos_right _ hd
  have c1 : Nat.Coprime (a / Nat.gcd a b) (b / Nat.gcd a b) := Nat.coprime_div_gcd_div_gcd g0
  have c2 : Nat.Coprime (c / Nat.gcd c d) (d / Nat.gcd c d) := Nat.coprime_div_gcd_div_gcd k0
  have ea : a = Nat.gcd a b * (a / Nat.gcd a b) := (Nat.mul_div_cancel' (Nat.gcd_dvd_left a b)).symm
  have eb : b = Nat.gcd a b * (b / Nat.gcd a b) := (Nat.mul_div_cancel' (Nat.gcd_dvd_right a b)).symm
  have ec : c = Nat.gcd c d * (c / Nat.gcd c d) := (Nat.mul_div_cancel' (Nat.gcd_dvd_left c d)).symm
  have ed : d = Nat.gcd c d * (d / Nat.gcd c d) := (Nat.mul_div_cancel' (Nat.gcd_dvd_right c d)).symm
  generalize Nat.gcd a b = g at *
  generalize Nat.gcd c d = k at *
  generalize a / g = a' at *
  generalize b / g = b' at *
  generalize c / k = c' at *
  generalize d / k = d' at *
  subst ea eb ec ed
  have e : a' * d' = c' * b' := by
    have h1 : (g * k) * (a' * d') = (g * k) * (c' * b') := by
      have e1 : (g * k) * (a' * d') = g * a' * (k * d') := by simp only [Nat.mul_assoc, Nat.mul_left_comm, Nat.mul_comm]
      have e2 : (g * k) * (c' * b') = k * c' * (g * b') := by simp only [Nat.mul_assoc, Nat.mul_left_comm, Nat.mul_comm]
      rw [e1, e2]; exact h
    exact Nat.eq_of_mul_eq_mul_left (Nat.mul_pos g0 k0) h1
  have b1 : b' ∣ d' := c1.symm.dvd_of_dvd_mul_left (by rw [e]; exact Nat.dvd_mul_left _ _)
  have d1 : d' ∣ b' := c2.symm.dvd_of_dvd_mul_left (by rw [← e]; exact Nat.dvd_mul_left _ _)
  have bd : b' = d' := Nat.dvd_antisymm b1 d1
  subst bd
  have pb : 0 < b' := Nat.pos_of_mul_pos_left hb
  exact ⟨Nat.eq_of_mul_eq_mul_right pb e, rfl⟩
theorem div_2520 {n : Nat} (h0 : 0 < n) (h : n ≤ 10) : 2520 / n * n = 2520 := by
  have : ∀ n, n ≤ 10 → 0 < n → 2520 / n * n = 2520 := by decide
  exact this n h h0
def nOf (m : Int) (ts : List (List Int)) : Nat := (ts.map fun t => if m ∈ t then 2520 / t.length else 0).sum
theorem blF_num (m : Int) : ∀ (ts : List (List Int)) (p : Nat × Nat) (N : Nat), (∀ t ∈ ts, t.length ≤ 10) → p.1 * 2520 = N * p.2 → (ts.foldl (blS m) p).1 * 2520 = (N + nOf m ts) * (ts.foldl (blS m) p).2
  | [], p, N, _, h => by simpa [nOf] using h
  | t :: ts, p, N, hl, h => by
    have ih := blF_num m ts (blS m p t) (N + if m ∈ t then 2520 / t.length else 0) (fun u hu => hl u (List.mem_cons_of_mem _ hu)) (by
      unfold blS
      split
      · rename_i hm
        have e := div_2520 (List.length_pos_of_mem hm) (hl t List.mem_cons_self)
        show (p.1 * t.length + p.2) * 2520 = (N + 2520 / t.length) * (p.2 * t.length)
        have e1 : (p.1 * t.length + p.2) * 2520 = (p.1 * 2520) * t.length + p.2 * 2520 := by
          rw [Nat.add_mul, Nat.mul_right_comm]
        have e2 : (N + 2520 / t.length) * (p.2 * t.length) = (N * p.2) * t.length + p.2 * (2520 / t.length * t.length) := by
          rw [Nat.add_mul, ← Nat.mul_assoc, Nat.mul_left_comm]
        rw [e1, e2, h, e]
      · simpa using h)
    have e : nOf m (t :: ts) = (if m ∈ t then 2520 / t.length else 0) + nOf m ts := by simp [nOf]
    rw [List.foldl_cons, ih, e, Nat.add_assoc]
theorem blV_due (m : Int) (ts : List (List Int)) (hl : ∀ t ∈ ts, t.length ≤ 10) : blV m ts = [((nOf m ts / Nat.gcd (nOf m ts) 2520 : Nat) : Int), ((2520 / Nat.gcd (nOf m ts) 2520 : Nat) : Int)] := by
  have h := blF_num m ts (0, 1) 0 hl (by simp)
  rw [Nat.zero_add] at h
  have e := red_eq (a := (blF m ts).1) (b := (blF m ts).2) (c := nOf m ts) (d := 2520) (blF_pos m ts) (by decide) h
  unfold blV
  rw [e.1, e.2]

/-! ### a dict of numbers by its keys -/
def dkG (ks : List Int) (g : Int → V) : List (Key × V) := ks.map fun z => (Sum.inl z, g z)
theorem dkG_val (ks : List Int) (g : Int → V) (m : Int) : valV (dkG ks g) (Sum.inl m) = if m ∈ ks then some (g m) else none := by
  induction ks with
  | nil => rfl
  | cons k ks ih =>
    by_cases e : k = m
    · subst e
      rw [if_pos List.mem_cons_self]
      exact valV_pos (p := ((Sum.inl k : Key), g k)) rfl
    · have e2 : valV (dkG (k :: ks) g) (Sum.inl m) = valV (dkG ks g) (Sum.inl m) := valV_neg (p := ((Sum.inl k : Key), g k)) (fun z => e (Sum.inl.inj z))
      rw [e2, ih]
      by_cases hm : m ∈ ks
      · rw [if_pos hm, if_pos (List.mem_cons_of_mem _ hm)]
      · rw [if_neg hm, if_neg (fun z => (List.mem_cons.mp z).elim (fun z => e z.symm) hm)]
theorem dkG_congr {ks : List Int} {g g' : Int → V} (h : ∀ z ∈ ks, g z = g' z) : dkG ks g = dkG ks g' := List.map_congr_left fun z hz => by rw [h z hz]
theorem dkG_put {ks : List Int} (g : Int → V) {m : Int} (v : V) (h : m ∈ ks) : putK (dkG ks g) (Sum.inl m) v = dkG ks (fun z => if z = m then v else g z) := by
  unfold putK
  rw [if_pos (by rw [valV_any, dkG_val, if_pos h]; rfl)]
  unfold dkG
  rw [List.map_map]
  refine List.map_congr_left fun z _ => ?_
  by_cases e : z = m
  · simp [e]
  · simp [e]
theorem dkG_new {ks : List Int} (g : Int → V) {m : Int} (v : V) (h : m ∉ ks) : putK (dkG ks g) (Sum.inl m) v = dkG (ks ++ [m]) (fun z => if z = m then v else g z) := by
  rw [putK_new v (by rw [dkG_val, if_neg h])]
  unfold dkG
  rw [List.map_append]
  refine congr (congrArg _ (List.map_congr_left fun z hz => ?_)) ?_
  · dsimp only
    rw [if_neg (show ¬ z = m from fun e => h (by rw [← e]; exact hz))]
  · simp
theorem dkG_any {ks : List Int} (nd : ks.Nodup) (g : Int → V) (m : Int) (v : V) : ∃ ks', ks'.Nodup ∧ (∀ z, z ∈ ks' ↔ z ∈ ks ∨ z = m) ∧ putK (dkG ks g) (Sum.inl m) v = dkG ks' (fun z => if z = m then v else g z) := by
  by_cases h : m ∈ ks
  · exact ⟨ks, nd, fun z => ⟨.inl, fun z => z.elim id fun e => e ▸ h⟩, dkG_put g v h⟩
  · refine ⟨ks ++ [m], nd_snoc nd h, fun z => ?_, dkG_new g v h⟩
    rw [List.mem_append, List.mem_singleton]
theorem dkG_keys (ks : List Int) (g : Int → V) : (dkG ks g).map (fun kv => kV kv.1) = ks.map V.int := by
  unfold dkG
  rw [List.map_map]
  rfl
theorem dkG_len (ks : List Int) (g : Int → V) : (dkG ks g).length = ks.length := List.length_map _
theorem nOf_zero {m : Int} {ts : List (List Int)} (h : ¬ ∃ t ∈ ts, m ∈ t) : nOf m ts = 0 := by
  unfold nOf
  induction ts with
  | nil => rfl
  | cons t ts ih =>
    rw [List.map_cons, List.sum_cons, if_neg (fun z => h ⟨t, List.mem_cons_self, z⟩), ih fun ⟨u, hu, z⟩ => h ⟨u, List.mem_cons_of_mem _ hu, z⟩]
theorem nOf_next (m : Int) (ts : List (List Int)) {i : Nat} {t : List Int} (h : ts[i]? = some t) : nOf m (ts.take (i + 1)) = nOf m (ts.take i) + if m ∈ t then 2520 / t.length else 0 := by
  unfold nOf
  rw [List.take_add_one, h, List.map_append, List.sum_append]
  simp
def dueV (m : Int) (ts : List (List Int)) : List Int := [((nOf m ts / Nat.gcd (nOf m ts) 2520 : Nat) : Int), ((2520 / Nat.gcd (nOf m ts) 2520 : Nat) : Int)]
theorem sum_add {α : Type} (f g : α → Nat) : ∀ l : List α, (l.map fun z => f z + g z).sum = (l.map f).sum + (l.map g).sum
  | [] => rfl
  | z :: l => by
    rw [List.map_cons, List.map_cons, List.map_cons, List.sum_cons, List.sum_cons, List.sum_cons, sum_add f g l]
    omega
theorem sum_if (p : Int → Prop) [DecidablePred p] (c : Nat) : ∀ l : List Int, (l.map fun z => if p z then c else 0).sum = c * (l.filter fun z => decide (p z)).length
  | [] => rfl
  | z :: l => by
    rw [List.map_cons, List.sum_cons, sum_if p c l, List.filter_cons]
    by_cases h : p z
    · simp only [h, if_true, decide_true, List.length_cons, Nat.mul_add]
      omega
    · simp [h]
theorem whole_sum {ms : List Int} (nd : ms.Nodup) : ∀ ts : List (List Int), (∀ t ∈ ts, t.Nodup) → (∀ t ∈ ts, t.length ≤ 10) → (∀ t ∈ ts, ∀ z ∈ t, z ∈ ms) → (ms.map fun z => nOf z ts).sum = 2520 * (ts.filter fun t => decide (¬ t = [])).length
  | [], _, _, _ => by
    have : ms.map (fun z => nOf z []) = ms.map fun _ => 0 := rfl
    rw [this]
    have : ∀ l : List Int, (l.map fun _ => 0).sum = 0 := fun l => by
      induction l with
      | nil => rfl
      | cons z l ih => rw [List.map_cons, List.sum_cons, ih]
    exact this ms
  | t :: ts, h1, h2, h3 => by
    have ih := whole_sum nd ts (fun u hu => h1 u (List.mem_cons_of_mem _ hu)) (fun u hu => h2 u (List.mem_cons_of_mem _ hu)) (fun u hu => h3 u (List.mem_cons_of_mem _ hu))
    have e : (fun z => nOf z (t :: ts)) = fun z => (if z ∈ t then 2520 / t.length else 0) + nOf z ts := by
      funext z; unfold nOf; rw [List.map_cons, List.sum_cons]
    have l : (ms.filter fun z => decide (z ∈ t)).length = t.length :=
      Nat.le_antisymm (nodup_le (nd.filter _) fun z hz => of_decide_eq_true (List.mem_filter.mp hz).2) (nodup_le (h1 t List.mem_cons_self) fun z hz => List.mem_filter.mpr ⟨h3 t List.mem_cons_self z hz, decide_eq_true hz⟩)
    rw [e, sum_add, sum_if (fun z => z ∈ t), ih, l, List.filter_cons]
    cases t with
    | nil => simp
    | cons z r =>
      have := div_2520 (n := (z :: r).length) (Nat.zero_lt_succ _) (h2 _ List.mem_cons_self)
      rw [this, if_pos (by simp), List.length_cons]
      omega
theorem due_back (m : Int) (ts : List (List Int)) : nOf m ts / Nat.gcd (nOf m ts) 2520 * 2520 / (2520 / Nat.gcd (nOf m ts) 2520) = nOf m ts := by
  have h0 : 0 < Nat.gcd (nOf m ts) 2520 := Nat.gcd_pos_of_pos_right _ (by decide)
  obtain ⟨a, ha⟩ := Nat.gcd_dvd_left (nOf m ts) 2520
  obtain ⟨b, hb⟩ := Nat.gcd_dvd_right (nOf m ts) 2520
  generalize Nat.gcd (nOf m ts) 2520 = g at *
  have e1 : nOf m ts / g = a := by rw [ha, Nat.mul_div_cancel_left _ h0]
  have e2 : 2520 / g = b := by rw [hb, Nat.mul_div_cancel_left _ h0]
  rw [e1, e2]
  have b0 : 0 < b := by
    rcases Nat.eq_zero_or_pos b with z | z
    · subst z; simp at hb
    · exact z
  rw [show a * 2520 = (g * a) * b by rw [show 2520 = g * b from hb]; simp only [Nat.mul_left_comm, Nat.mul_comm, Nat.mul_assoc], Nat.mul_div_cancel _ b0, ← ha]

local macro_rules | `(tactic| walk_at "rd") => `(tactic| walk_at "rc")

/-! ### what is due -/
def spDue : Sp := fun vs H Q _ => ∃ L, vs = [.ref L] ∧ ∃ (bs : List Addr) (ts : List (List Int)) (few : List Int), H L = some (.lst (List.map V.ref bs)) ∧ SetsAt H bs ts ∧ (∀ t ∈ ts, t.length ≤ 10) ∧ (∀ t ∈ ts, t.Nodup) ∧ (∀ t ∈ ts, ∀ z ∈ t, z ∈ few) ∧ few.length < 64 ∧
  ∀ D ks g H', Same H H' → H D = none → H' D = some (.dK (dkG ks g)) → ks.Nodup → (∀ z, z ∈ ks ↔ ∃ t ∈ ts, z ∈ t) → (∀ z ∈ ks, ∃ p, g z = .ref p ∧ H' p = some (.tup (List.map V.int (dueV z ts)))) → Q (.ref D) H'
section
variable {P : Program} {w : World} {K : PySem.W.Frag} {mg : Str → Option Value} {base : Heap} {t : Adr}
theorem ok_due (T : Txt K mg t) : FnOk P w K mg base CX0 2 t.a__law_due t.d__law_due ["_law_family"] spDue := by
  have G__law_divisor := ok_divisor (P := P) (w := w) (base := base) T
  refine T.F__law_due.okZ sc__law_due (fun vs H Q E h => ?_) (fun cdv A outer s H vs Q E hr h hc hf => ?_)
  · obtain ⟨L, rfl, _⟩ := h; rfl
  obtain ⟨L, rfl, bs, ts, few, hL, st, l10, nds, hfew, l64, q⟩ := h
  have hu := hu_of hr
  have hu0 := hr.units0
  refine ⟨_, (by apply zqss_cons; exact (zpsk_set hc sc__law_due.nd hf 1 (by decide +kernel) zpe_dnewK); apply zqss_cons; exact (zqs_for PassesOwn.never rfl (zpi_list (zpvk hc 0 (by decide +kernel))) (zpgk hc sc__law_due.nd hf 2 (by decide +kernel)) (by exact zqss_one (zqs_for PassesOwn.never rfl (zpi_tup (zpvk hc 2 (by decide +kernel))) (zpgk hc sc__law_due.nd hf 3 (by decide +kernel)) (by exact zqss_one (zps_dput hu (zpvk hc 1 (by decide +kernel)) (zpvk hc 3 (by decide +kernel)) (zpe_op op_add (zpe_bm PySem.F.plainAttrs_dict PySem.F.slot_dict_get PySem.F.type_dict_get (mt_getDI hu) (zpvk hc 1 (by decide +kernel)) (zpa_cons (zpvk hc 3 (by decide +kernel)) (zpa_cons zpe_int zpa_nil))) (zpe_op op_fdivB zpe_int (zpe_callB call_lenT (glk hc (by decide +kernel)) T.z_len b_len (zpa_cons (zpvk hc 2 (by decide +kernel)) zpa_nil)))) rfl))))); apply zqss_cons; exact (zqs_for PassesOwn.never rfl (zpi_list (zpe_callTy (call_listDK hr.hd) (glk hc (by decide +kernel)) T.z_list b_list (zpa_cons (zpvk hc 1 (by decide +kernel)) zpa_nil))) (zpgk hc sc__law_due.nd hf 3 (by decide +kernel)) (by apply zqss_cons; exact (zpsk_set hc sc__law_due.nd hf 4 (by decide +kernel) (zpe_call G__law_divisor (hr.mono (by omega)) (glk hc (by decide +kernel)) T.m__law_divisor T.F__law_divisor.kp T.b__law_divisor .nil pass0 (zpa_cons zpe_int (zpa_cons (zpe_dget hu (zpvk hc 1 (by decide +kernel)) (zpvk hc 3 (by decide +kernel)) (fun _ _ => rfl)) zpa_nil)))); exact zqss_one (zps_dput hu (zpvk hc 1 (by decide +kernel)) (zpvk hc 3 (by decide +kernel)) (zpe_tup (zpa_cons (zpe_op op_fdivB (zpe_dget hu (zpvk hc 1 (by decide +kernel)) (zpvk hc 3 (by decide +kernel)) (fun _ _ => rfl)) (zpvk hc 4 (by decide +kernel))) (zpa_cons (zpe_op op_fdivB zpe_int (zpvk hc 4 (by decide +kernel))) zpa_nil))) rfl))); exact zqss_one (zps_ret (zpvk hc 1 (by decide +kernel)))), ?_⟩
  repeat (walk_at "rd")
  intro D hD
  have s0 := same_new hD (.dK [])
  refine ⟨⟨_, sqL_of (s0 _ _ hL)⟩, ?_⟩
  obtain ⟨Pv, hPv⟩ : ∃ Pv : Nat → St → Hp → Prop, ∀ i σ' H', Pv i σ' H' ↔ ∃ (z y : Option V) (ks : List Int), σ' = [some (.ref L), some (.ref D), z, y, none] ∧ Same H H' ∧ H' D = some (.dK (dkG ks fun z => V.int ((nOf z (ts.take i) : Nat) : Int))) ∧ ks.Nodup ∧ (∀ z, z ∈ ks ↔ ∃ t ∈ ts.take i, z ∈ t) := ⟨_, fun _ _ _ => Iff.rfl⟩
  refine forAll_list (xs := List.map V.ref bs) Pv ((hPv _ _ _).mpr ⟨none, none, [], rfl, s0, upd_same, List.nodup_nil, fun z => ⟨(fun y => absurd y List.not_mem_nil), (fun ⟨t, ht, _⟩ => by simp at ht)⟩⟩) (fun i σ' H1 _ pv => ?_) (fun i z σ' H1 hz pv => ?_) (fun σ' H1 pv => ?_)
  · obtain ⟨_, _, _, _, s1, _⟩ := (hPv _ _ _).mp pv
    exact s1 _ _ hL
  · obtain ⟨z', y', ks, rfl, s1, hD1, nd, mem⟩ := (hPv _ _ _).mp pv
    obtain ⟨b, eb, rfl⟩ := ref_at hz
    have hi : i < bs.length := (List.getElem?_eq_some_iff.mp eb).1
    have hi2 : i < ts.length := by have := st.1; omega
    have et : ts[i]? = some ts[i] := List.getElem?_eq_getElem hi2
    have hb := st.2 i b _ eb et
    have lt := l10 _ (List.getElem_mem hi2)
    have ndt := nds _ (List.getElem_mem hi2)
    have nx := fun m => nOf_next m ts et
    have mt : ts[i] ∈ ts := List.getElem_mem hi2
    have tk : ∀ z, (∃ t ∈ ts.take (i + 1), z ∈ t) ↔ (∃ t ∈ ts.take i, z ∈ t) ∨ z ∈ ts[i] := fun z => by
      rw [List.take_add_one, et]
      constructor
      · rintro ⟨t, ht, hz⟩
        rcases List.mem_append.mp ht with h | h
        · exact .inl ⟨t, h, hz⟩
        · have : t = ts[i] := by simpa using h
          exact .inr (this ▸ hz)
      · rintro (⟨t, ht, hz⟩ | hz)
        · exact ⟨t, List.mem_append_left _ ht, hz⟩
        · exact ⟨ts[i], List.mem_append_right _ (by simp), hz⟩
    generalize ts[i] = u at et hb lt ndt nx mt tk
    repeat (walk_at "rd")
    refine ⟨⟨_, sqT_of (s1 _ _ hb)⟩, ?_⟩
    obtain ⟨Pw, hPw⟩ : ∃ Pw : Nat → St → Hp → Prop, ∀ j σ' H', Pw j σ' H' ↔ ∃ (y : Option V) (ks : List Int), σ' = [some (.ref L), some (.ref D), some (.ref b), y, none] ∧ Same H H' ∧ H' D = some (.dK (dkG ks fun z => V.int ((nOf z (ts.take i) + (if z ∈ u.take j then 2520 / u.length else 0) : Nat) : Int))) ∧ ks.Nodup ∧ (∀ z, z ∈ ks ↔ (∃ t ∈ ts.take i, z ∈ t) ∨ z ∈ u.take j) := ⟨_, fun _ _ _ => Iff.rfl⟩
    refine forAll_tup (xs := List.map V.int u) Pw ((hPw _ _ _).mpr ⟨_, ks, rfl, s1, by simpa using hD1, nd, fun z => by rw [mem z]; simp⟩) (fun j σ' H2 _ pv => ?_) (fun j z σ' H2 hz pv => ?_) (fun σ' H2 pv => ?_)
    · obtain ⟨_, _, _, s2, _⟩ := (hPw _ _ _).mp pv
      exact s2 _ _ hb
    · obtain ⟨y2, ks2, rfl, s2, hD2, nd2, mem2⟩ := (hPw _ _ _).mp pv
      obtain ⟨m, em, rfl⟩ := int_at hz
      have hm := not_take ndt em
      have hj : j < u.length := (List.getElem?_eq_some_iff.mp em).1
      have etk : u.take (j + 1) = u.take j ++ [m] := by rw [List.take_add_one, em]; rfl
      have hb2 := s2 _ _ hb
      have lks : ks2.length ≤ 64 := by
        have := nodup_le nd2 (r := few) fun x hx => by
          rcases (mem2 x).mp hx with ⟨t, ht, hz⟩ | hz
          · exact hfew t (List.mem_of_mem_take ht) x hz
          · exact hfew u mt x (List.mem_of_mem_take hz)
        omega
      have vl : (valV (dkG ks2 fun z => V.int ((nOf z (ts.take i) + (if z ∈ u.take j then 2520 / u.length else 0) : Nat) : Int)) (Sum.inl m)).getD (.int 0) = .int ((nOf m (ts.take i) : Nat) : Int) := by
        rw [dkG_val]
        by_cases hk : m ∈ ks2
        · rw [if_pos hk]
          simp [hm]
        · rw [if_neg hk, nOf_zero (fun z => hk ((mem2 m).mpr (.inl z)))]
          rfl
      simp only [sDPut]
      repeat (first | walk_at "rd" | simp only [hD2, hb2, vl])
      refine ⟨.inr (.inr (.inl ⟨rfl, .inl ⟨_, hD2⟩⟩)), ?_⟩
      repeat (first | walk_at "rd" | simp only [hD2, hb2, vl])
      refine ⟨⟨by omega, by omega⟩, _, DPut.k (k := Sum.inl m) hD2 (smallB1 (by rw [dkG_len]; omega)), ?_⟩
      obtain ⟨ks3, nd3, mem3, e3⟩ := dkG_any nd2 (fun z => V.int ((nOf z (ts.take i) + (if z ∈ u.take j then 2520 / u.length else 0) : Nat) : Int)) m (.int ((nOf m (ts.take i) : Nat) + 2520 / (u.length : Int)))
      refine (hPw _ _ _).mpr ⟨_, ks3, rfl, same_put' s2 hD, ?_, nd3, fun z => ?_⟩
      · rw [upd_same, e3]
        congr 2
        refine dkG_congr fun z _ => ?_
        by_cases e : z = m
        · subst e
          rw [if_pos rfl, if_pos (by rw [etk]; simp)]
          simp
        · rw [if_neg e]
          have : z ∈ u.take (j + 1) ↔ z ∈ u.take j := by rw [etk]; simp [e]
          simp only [this]
      · rw [mem3, mem2, etk, List.mem_append, List.mem_singleton, or_assoc]
    · obtain ⟨y2, ks2, rfl, s2, hD2, nd2, mem2⟩ := (hPw _ _ _).mp pv
      rw [List.length_map, List.take_length] at hD2 mem2
      repeat (walk_at "rd")
      refine (hPv _ _ _).mpr ⟨_, _, ks2, rfl, s2, ?_, nd2, fun z => by rw [mem2, tk]⟩
      rw [hD2]
      congr 2
      exact dkG_congr fun z _ => by rw [nx]
  · obtain ⟨z', y', ks, rfl, s1, hD1, nd, mem⟩ := (hPv _ _ _).mp pv
    rw [List.length_map, st.1, List.take_length] at hD1 mem
    have lks : ks.length ≤ 64 := by
      have := nodup_le nd (r := few) fun x hx => by
        obtain ⟨t, ht, hz⟩ := (mem x).mp hx
        exact hfew t ht x hz
      omega
    repeat (first | walk_at "rd" | simp only [hD1])
    intro M hM
    rw [dkG_keys]
    have s2 := s1.trans (same_new hM (.lst (ks.map V.int)))
    have hD2 : upd H1 M (.lst (ks.map V.int)) D = some _ := (same_new hM _) _ _ hD1
    refine ⟨⟨_, sqL_of upd_same⟩, ?_⟩
    obtain ⟨Pu, hPu⟩ : ∃ Pu : Nat → St → Hp → Prop, ∀ i σ' H', Pu i σ' H' ↔ ∃ (z y : Option V) (g : Int → V), σ' = [some (.ref L), some (.ref D), z', z, y] ∧ Same H H' ∧ H' M = some (.lst (ks.map V.int)) ∧ H' D = some (.dK (dkG ks g)) ∧ ∀ k z, ks[k]? = some z → (k < i → ∃ p, g z = .ref p ∧ H' p = some (.tup (List.map V.int (dueV z ts)))) ∧ (i ≤ k → g z = V.int ((nOf z ts : Nat) : Int)) := ⟨_, fun _ _ _ => Iff.rfl⟩
    refine forAll_list (xs := ks.map V.int) Pu ((hPu _ _ _).mpr ⟨_, _, _, rfl, s2, upd_same, hD2, fun k z _ => ⟨fun z => absurd z (Nat.not_lt_zero _), fun _ => rfl⟩⟩) (fun i σ' H3 _ pv => ?_) (fun i z σ' H3 hz pv => ?_) (fun σ' H3 pv => ?_)
    · obtain ⟨_, _, _, _, _, h, _⟩ := (hPu _ _ _).mp pv
      exact h
    · obtain ⟨z2, y2, g, rfl, s3, hM3, hD3, hg⟩ := (hPu _ _ _).mp pv
      obtain ⟨m, em, rfl⟩ := int_at hz
      have mk : m ∈ ks := List.mem_of_getElem? em
      have gm := (hg i m em).2 (Nat.le_refl _)
      have vl : valV (dkG ks g) (Sum.inl m) = some (.int ((nOf m ts : Nat) : Int)) := by rw [dkG_val, if_pos mk, gm]
      have dg : DGet H3 D (.int m) (some (.int ((nOf m ts : Nat) : Int))) := by rw [← vl]; exact DGet.k (k := Sum.inl m) hD3
      repeat (first | walk_at "rd" | simp only [tDGet, sDPut])
      refine ⟨_, dg, 2520, nOf m ts, rfl, ?_⟩
      have g0 : 0 < Nat.gcd 2520 (nOf m ts) := Nat.gcd_pos_of_pos_left _ (by decide)
      have g1 : Nat.gcd 2520 (nOf m ts) ≤ 2520 := Nat.gcd_le_left _ (by decide)
      repeat (first | walk_at "rd" | simp only [tDGet, sDPut])
      refine ⟨_, dg, _, rfl, ⟨by omega, by omega⟩, ⟨by omega, by omega⟩, by decide, fun p hp => ?_⟩
      have hDp : D ≠ p := ne_of_none hD3 hp
      refine ⟨_, DPut.k (k := Sum.inl m) (by rw [upd_ne hDp]; exact hD3) (smallB1 (by rw [dkG_len]; omega)), ?_⟩
      have ev : [V.int (((nOf m ts : Nat) : Int) / (Nat.gcd 2520 (nOf m ts) : Nat)), V.int (2520 / ((Nat.gcd 2520 (nOf m ts) : Nat) : Int))] = List.map V.int (dueV m ts) := by
        unfold dueV
        rw [Nat.gcd_comm]
        simp
      rw [ev]
      have hp3 : upd H3 p (.tup (List.map V.int (dueV m ts))) p = some (.tup (List.map V.int (dueV m ts))) := upd_same
      have sp := s3.trans (same_new hp (.tup (List.map V.int (dueV m ts))))
      have kp := same_new hp (.tup (List.map V.int (dueV m ts)))
      have hD4 : upd H3 p (.tup (List.map V.int (dueV m ts))) D = some (.dK (dkG ks g)) := kp _ _ hD3
      have hM4 := kp _ _ hM3
      generalize upd H3 p (.tup (List.map V.int (dueV m ts))) = H4 at hp3 sp kp hD4 hM4
      rw [dkG_put g _ mk]
      refine (hPu _ _ _).mpr ⟨_, _, fun z => if z = m then V.ref p else g z, rfl, same_put' sp hD, ?_, upd_same, fun k z hk => ⟨fun hlt => ?_, fun hge => ?_⟩⟩
      · rw [upd_ne (ne_of hD4 hM4 (by intro z; cases z)).symm]; exact hM4
      · dsimp only
        by_cases e : z = m
        · rw [if_pos e, e]
          exact ⟨p, rfl, by rw [upd_ne hDp.symm]; exact hp3⟩
        · rw [if_neg e]
          have : k < i := by
            rcases Nat.lt_or_ge k i with h | h
            · exact h
            · have ek : k = i := by omega
              subst ek
              rw [em] at hk; cases hk; exact absurd rfl e
          obtain ⟨p', e1, e2⟩ := (hg k z hk).1 this
          exact ⟨p', e1, by rw [upd_ne (ne_of hD3 e2 (by intro z; cases z)).symm]; exact kp _ _ e2⟩
      · have hne : z ≠ m := fun e => by
          subst e
          obtain ⟨h1, e1⟩ := List.getElem?_eq_some_iff.mp hk
          obtain ⟨h2, e2⟩ := List.getElem?_eq_some_iff.mp em
          have := (List.getElem_inj nd).mp (e1.trans e2.symm)
          omega
        dsimp only
        rw [if_neg hne]
        exact (hg k z hk).2 (by omega)
    · obtain ⟨z2, y2, g, rfl, s3, hM3, hD3, hg⟩ := (hPu _ _ _).mp pv
      repeat (walk_at "rd")
      refine q D ks g H3 s3 hD hD3 nd mem fun z hz => ?_
      obtain ⟨k, hk⟩ := List.mem_iff_getElem?.mp hz
      refine (hg k z hk).1 ?_
      rw [List.length_map]
      exact (List.getElem?_eq_some_iff.mp hk).1
end

local macro_rules | `(tactic| walk_at "rd") => `(tactic| walk_at "rc")

/-! ### members are drawn -/
def spMembers : Sp := fun vs H Q _ => ∃ h many, vs = [.ref h, .int many] ∧ ∃ n : Nat, many = (n : Int) ∧ n ≤ 11 ∧ HandAt H h ∧ ∀ R ms H', Dr h H H' → H R = none → H' R = some (.tup (List.map V.int ms)) → ms.length = n → Rise ms → Q (.ref R) H'
section
variable {P : Program} {w : World} {K : PySem.W.Frag} {mg : Str → Option Value} {base : Heap} {t : Adr}
theorem ok_members (T : Txt K mg t) : FnOk P w K mg base CX0 4 t.a__law_members t.d__law_members ["_law_hand_here", "_law_many"] spMembers := by
  have G__law_draw := ok_draw (P := P) (w := w) (base := base) T
  refine T.F__law_members.okZ sc__law_members (fun vs H Q E h => ?_) (fun cdv A outer s H vs Q E hr h hc hf => ?_)
  · obtain ⟨h, m, rfl, _⟩ := h; rfl
  obtain ⟨h, _, rfl, n, rfl, hn, hd, q⟩ := h
  refine ⟨_, (by apply zqss_cons; exact (zpsk_set hc sc__law_members.nd hf 2 (by decide +kernel) (zpe_ix ix_l (zpe_lst (zpa_cons zpe_int (zpa_cons zpe_int (zpa_cons (zpe_op op_pow zpe_int zpe_int) (zpa_cons (zpe_op op_pow zpe_int zpe_int) zpa_nil))))) (zpe_call G__law_draw (hr.mono (by omega)) (glk hc (by decide +kernel)) T.m__law_draw T.F__law_draw.kp T.b__law_draw .nil pass0 (zpa_cons (zpvk hc 0 (by decide +kernel)) (zpa_cons zpe_int zpa_nil))) (fun _ _ => rfl))); apply zqss_cons; exact (zpsk_set hc sc__law_members.nd hf 3 (by decide +kernel) (zpe_op op_sub (zpe_call G__law_draw (hr.mono (by omega)) (glk hc (by decide +kernel)) T.m__law_draw T.F__law_draw.kp T.b__law_draw .nil pass0 (zpa_cons (zpvk hc 0 (by decide +kernel)) (zpa_cons (zpe_op op_add (zpe_op op_mul zpe_int (zpvk hc 2 (by decide +kernel))) zpe_int) zpa_nil))) (zpvk hc 2 (by decide +kernel)))); apply zqss_cons; exact (zpsk_set hc sc__law_members.nd hf 4 (by decide +kernel) (zpe_lst zpa_nil)); apply zqss_cons; exact (zqs_for PassesOwn.never rfl (zpi_range1 (glk hc (by decide +kernel)) T.z_range (zpa_cons (zpvk hc 1 (by decide +kernel)) zpa_nil)) (zpgk hc sc__law_members.nd hf 5 (by decide +kernel)) (by apply zqss_cons; exact (zps_expr (zpe_bm PySem.F.plainAttrs_list PySem.F.slot_list_append PySem.F.type_list_append mt_append (zpvk hc 4 (by decide +kernel)) (zpa_cons (zpvk hc 3 (by decide +kernel)) zpa_nil))); exact zqss_one (zpsk_aug hc sc__law_members.nd hf 3 (by decide +kernel) (zpe_op op_add zpe_int (zpe_call G__law_draw (hr.mono (by omega)) (glk hc (by decide +kernel)) T.m__law_draw T.F__law_draw.kp T.b__law_draw .nil pass0 (zpa_cons (zpvk hc 0 (by decide +kernel)) (zpa_cons (zpvk hc 2 (by decide +kernel)) zpa_nil)))) ip_add))); exact zqss_one (zps_ret (zpe_callTy call_tupleL (glk hc (by decide +kernel)) T.z_tuple b_tuple (zpa_cons (zpvk hc 4 (by decide +kernel)) zpa_nil)))), ?_⟩
  repeat (walk_at "rd")
  refine ⟨⟨by decide, by decide, by decide⟩, ⟨by decide, by decide, by decide⟩, by decide, fun p hp => ?_⟩
  have d0 := (Dr.refl (h := h) (H := H)).new (o := .lst [V.int 1, V.int 5, V.int 1000000000, V.int 100000000000000000000000000000000000000000000000000]) hp
  have hph : p ≠ h := hd.ne hp
  refine draw_by hd d0 (by decide) (by decide) fun r H1 r0 r1 d1 k1 => ?_
  obtain ⟨z, ez, hz⟩ := four_at (a := 1) (b := 5) (c := 1000000000) (d := 100000000000000000000000000000000000000000000000000) r0 r1
  have hz1 : 1 ≤ z ∧ z ≤ 100000000000000000000000000000000000000000000000000 := by omega
  refine ⟨_, rfl, _, by rw [k1 p hph]; exact upd_same, _, ez, ?_⟩
  repeat (walk_at "rd")
  refine ⟨.inl (by decide), draw_by hd d1 (by omega) (by omega) fun at0 H3 a0 a1 d4 k4 => ⟨_, rfl, by decide, fun R hR3 => ?_⟩⟩
  have hR : H R = none := d4.free hd hR3
  have hRh : R ≠ h := hd.ne hR
  refine ⟨by omega, by omega, ?_⟩
  obtain ⟨Pv, hPv⟩ : ∃ Pv : Nat → St → Hp → Prop, ∀ i σ' H', Pv i σ' H' ↔ ∃ (v : Int) (y : Option V) (ms : List Int), σ' = [some (.ref h), some (.int (n : Int)), some (.int z), some (.int v), some (.ref R), y] ∧ Dr h H H' ∧ H' R = some (.lst (List.map V.int ms)) ∧ ms.length = i ∧ Rise ms ∧ ∀ m ∈ ms, m < v := ⟨_, fun _ _ _ => Iff.rfl⟩
  refine forAll_rng Pv ((hPv _ _ _).mpr ⟨_, none, [], rfl, d4.new hR3, upd_same, rfl, List.Pairwise.nil, fun k hk => by cases hk⟩) (fun i σ' H4 hi pv => ?_) (fun σ' H4 pv => ?_)
  · obtain ⟨v, y, ms, rfl, d5, hR5, lm, rise, below⟩ := (hPv _ _ _).mp pv
    repeat (first | walk_at "rd" | simp only [hR5])
    refine ⟨.inl ⟨rfl, _, sqL_of hR5⟩, small1000 (by omega), ?_⟩
    simp only [tAug, ipI]
    repeat (walk_at "rd")
    refine draw_by hd (d5.put hR) (by omega) (by omega) fun r H6 r0 r1 d6 k6 => ?_
    refine ⟨_, rfl, (hPv _ _ _).mpr ⟨_, _, ms ++ [v], rfl, d6, by rw [k6 R hRh, upd_same, List.map_append]; rfl, by rw [List.length_append]; simp; omega, ?_, fun m hm => ?_⟩⟩
    · unfold Rise
      rw [List.pairwise_append]
      exact ⟨rise, by simp, fun a ha b hb => by rw [show b = v by simpa using hb]; exact below a ha⟩
    · rcases List.mem_append.mp hm with u | u
      · have := below m u; omega
      · have : m = v := by simpa using u
        omega
  · obtain ⟨v, y, ms, rfl, d5, hR5, lm, rise, below⟩ := (hPv _ _ _).mp pv
    repeat (first | walk_at "rd" | simp only [hR5])
    intro p hp
    exact q p ms _ (d5.new hp) (d5.free hd hp) upd_same (by omega) rise
end

/-! ### one asking -/
def spWhole : Sp := fun vs H Q _ => ∃ i : Int, vs = [.int i] ∧ Q (.bl true) H
def spRight : Sp := fun vs H Q _ => ∃ L, vs = [.ref L] ∧ ∃ (bs : List Addr) (ts : List (List Int)) (few : List Int), H L = some (.lst (List.map V.ref bs)) ∧ SetsAt H bs ts ∧ (∀ t ∈ ts, t.length ≤ 10) ∧ ts.length ≤ 390 ∧ (∀ t ∈ ts, t.Nodup) ∧ (∀ t ∈ ts, ∀ z ∈ t, z ∈ few) ∧ few.length < 64 ∧ ∀ H', Same H H' → Q (.bl true) H'
theorem blK_mem : ∀ {ms : List Int} {ps : List Addr} {k : Key} {v : V}, (k, v) ∈ blK ms ps → ∃ (i : Nat) (z : Int) (p : Addr), ms[i]? = some z ∧ ps[i]? = some p ∧ k = Sum.inl z ∧ v = .ref p
  | [], ps, k, v, h => by simp [blK] at h
  | z :: ms, [], k, v, h => by simp [blK] at h
  | z :: ms, p :: ps, k, v, h => by
    rcases List.mem_cons.mp (show (k, v) ∈ (Sum.inl z, V.ref p) :: blK ms ps from h) with e | e
    · cases e; exact ⟨0, z, p, rfl, rfl, rfl, rfl⟩
    · obtain ⟨i, y, r, h1, h2, h3, h4⟩ := blK_mem e
      exact ⟨i + 1, y, r, h1, h2, h3, h4⟩
theorem blK_at {ms : List Int} {ps : List Addr} {i : Nat} {k : Key} {v : V} (h : (blK ms ps)[i]? = some (k, v)) : ∃ z p, ms[i]? = some z ∧ ps[i]? = some p ∧ k = Sum.inl z ∧ v = .ref p := by
  unfold blK at h
  rw [List.getElem?_zipWith] at h
  cases e1 : ms[i]? with
  | none => rw [e1] at h; simp at h
  | some z =>
    cases e2 : ps[i]? with
    | none => rw [e1, e2] at h; simp at h
    | some p =>
      rw [e1, e2] at h
      simp only [Option.some.injEq, Prod.mk.injEq] at h
      exact ⟨z, p, rfl, rfl, h.1.symm, h.2.symm⟩
theorem blK_val : ∀ {ms : List Int} {ps : List Addr} {i : Nat} {z : Int} {p : Addr}, ms.Nodup → ms[(i : Nat)]? = some z → ps[(i : Nat)]? = some p → valV (blK ms ps) (Sum.inl z) = some (.ref p)
  | [], ps, i, z, p, _, h, _ => by simp at h
  | y :: ms, [], i, z, p, _, _, h => by simp at h
  | y :: ms, r :: ps, 0, z, p, _, h1, h2 => by
    cases h1; cases h2
    exact valV_pos (p := ((Sum.inl y : Key), V.ref r)) rfl
  | y :: ms, r :: ps, i + 1, z, p, nd, h1, h2 => by
    rw [List.nodup_cons] at nd
    rw [List.getElem?_cons_succ] at h1 h2
    have : valV (blK (y :: ms) (r :: ps)) (Sum.inl z) = valV (blK ms ps) (Sum.inl z) := valV_neg (p := ((Sum.inl y : Key), V.ref r)) fun e => nd.1 (Sum.inl.inj e ▸ List.mem_of_getElem? h1)
    rw [this]
    exact blK_val nd.2 h1 h2
section
variable {P : Program} {w : World} {K : PySem.W.Frag} {mg : Str → Option Value} {base : Heap} {t : Adr}
theorem ok_whole (T : Txt K mg t) : FnOk P w K mg base CX0 1 t.a__law_is_whole t.d__law_is_whole ["_law_thing"] spWhole := by
  refine T.F__law_is_whole.okZ sc__law_is_whole (fun vs H Q E h => ?_) (fun cdv A outer s H vs Q E hr h hc hf => ?_)
  · obtain ⟨i, rfl, _⟩ := h; rfl
  obtain ⟨i, rfl, q⟩ := h
  refine ⟨_, (by exact zqss_one (zps_ret (zpe_and (zpe_callB call_isiT (glk hc (by decide +kernel)) T.z_isinstance b_isinstance (zpa_cons (zpvk hc 0 (by decide +kernel)) (zpa_cons (zpe_bltn (v := V.ty "int") (glk hc (by decide +kernel)) T.z_int b_int rfl) zpa_nil))) (zpe_one (zpe_not (zpe_callB call_isiT (glk hc (by decide +kernel)) T.z_isinstance b_isinstance (zpa_cons (zpvk hc 0 (by decide +kernel)) (zpa_cons (zpe_bltn (v := V.ty "bool") (glk hc (by decide +kernel)) T.z_bool b_bool rfl) zpa_nil)))))))), ?_⟩
  repeat (walk_at "rd")
  refine ⟨_, .int i, true, kit_same _ _, ?_⟩
  repeat (walk_at "rd")
  refine ⟨_, .int i, false, kit_no (by decide) rfl, ?_⟩
  repeat (walk_at "rd")
  exact q
theorem ok_right (T : Txt K mg t) : FnOk P w K mg base CX0 4 t.a__law_right t.d__law_right ["_law_family"] spRight := by
  have G_blames_of := ok_blames (P := P) (w := w) (base := base) T
  have G__law_due := ok_due (P := P) (w := w) (base := base) T
  have G__law_is_whole := ok_whole (P := P) (w := w) (base := base) T
  refine T.F__law_right.okZ sc__law_right (fun vs H Q E h => ?_) (fun cdv A outer s H vs Q E hr h hc hf => ?_)
  · obtain ⟨L, rfl, _⟩ := h; rfl
  obtain ⟨L, rfl, bs, ts, few, hL, st, l10, l390, nds, hfew, l64, q⟩ := h
  have hu := hu_of hr
  have hu0 := hr.units0
  refine ⟨_, (by apply zqss_cons; exact (zpsk_set hc sc__law_right.nd hf 1 (by decide +kernel) (zpe_callTy call_listL (glk hc (by decide +kernel)) T.z_list b_list (zpa_cons (zpvk hc 0 (by decide +kernel)) zpa_nil))); apply zqss_cons; exact (zpsk_set hc sc__law_right.nd hf 2 (by decide +kernel) (zpe_call G_blames_of (hr.mono (by omega)) (glk hc (by decide +kernel)) T.m_blames_of T.F_blames_of.kp T.b_blames_of .nil pass0 (zpa_cons (zpvk hc 1 (by decide +kernel)) zpa_nil))); apply zqss_cons; exact (zqs_if (zPWpt (zpw_or (zpt_not (zpt_val (zpe_callB call_isiT (glk hc (by decide +kernel)) T.z_isinstance b_isinstance (zpa_cons (zpvk hc 2 (by decide +kernel)) (zpa_cons (zpe_bltn (v := V.ty "dict") (glk hc (by decide +kernel)) T.z_dict b_dict rfl) zpa_nil))))) (zpw_or (zpt_cmpR (op_neSL hu) (zpvk hc 1 (by decide +kernel)) (zpvk hc 0 (by decide +kernel)) (nomark _)) (zpw_or1 (zpt_cmpR (op_neDS hu) (zpvk hc 2 (by decide +kernel)) (zpe_call G__law_due (hr.mono (by omega)) (glk hc (by decide +kernel)) T.m__law_due T.F__law_due.kp T.b__law_due .nil pass0 (zpa_cons (zpvk hc 0 (by decide +kernel)) zpa_nil)) (nomark _)))))) (by exact zqss_one (zps_ret zpe_bl)) zqss_nil); apply zqss_cons; exact (zpsk_set hc sc__law_right.nd hf 3 (by decide +kernel) zpe_int); apply zqss_cons; exact (zqs_for PassesOwn.never rfl (zpi_dict (zpvk hc 2 (by decide +kernel))) (zpgk hc sc__law_right.nd hf 4 (by decide +kernel)) (by apply zqss_cons; exact (zpsk_set hc sc__law_right.nd hf 5 (by decide +kernel) (zpe_dget hu (zpvk hc 2 (by decide +kernel)) (zpvk hc 4 (by decide +kernel)) (fun _ _ => rfl))); apply zqss_cons; exact (zqs_if (zPWpt (zpw_or (zpt_not (zpt_val (zpe_call G__law_is_whole (hr.mono (by omega)) (glk hc (by decide +kernel)) T.m__law_is_whole T.F__law_is_whole.kp T.b__law_is_whole .nil pass0 (zpa_cons (zpvk hc 4 (by decide +kernel)) zpa_nil)))) (zpw_or (zpt_not (zpt_val (zpe_callB call_isiT (glk hc (by decide +kernel)) T.z_isinstance b_isinstance (zpa_cons (zpvk hc 5 (by decide +kernel)) (zpa_cons (zpe_bltn (v := V.ty "tuple") (glk hc (by decide +kernel)) T.z_tuple b_tuple rfl) zpa_nil))))) (zpw_or1 (zpt_cmpR op_ne (zpe_callB call_lenT (glk hc (by decide +kernel)) T.z_len b_len (zpa_cons (zpvk hc 5 (by decide +kernel)) zpa_nil)) zpe_int (nomark _)))))) (by exact zqss_one (zps_ret zpe_bl)) zqss_nil); apply zqss_cons; exact (zqs_if (zPWpt (zpw_or (zpt_not (zpt_val (zpe_call G__law_is_whole (hr.mono (by omega)) (glk hc (by decide +kernel)) T.m__law_is_whole T.F__law_is_whole.kp T.b__law_is_whole .nil pass0 (zpa_cons (zpe_ix ix_t (zpvk hc 5 (by decide +kernel)) zpe_int (fun _ _ => rfl)) zpa_nil)))) (zpw_or1 (zpt_not (zpt_val (zpe_call G__law_is_whole (hr.mono (by omega)) (glk hc (by decide +kernel)) T.m__law_is_whole T.F__law_is_whole.kp T.b__law_is_whole .nil pass0 (zpa_cons (zpe_ix ix_t (zpvk hc 5 (by decide +kernel)) zpe_int (fun _ _ => rfl)) zpa_nil))))))) (by exact zqss_one (zps_ret zpe_bl)) zqss_nil); exact zqss_one (zpsk_aug hc sc__law_right.nd hf 3 (by decide +kernel) (zpe_op op_fdivB (zpe_op op_mul (zpe_ix ix_t (zpvk hc 5 (by decide +kernel)) zpe_int (fun _ _ => rfl)) zpe_int) (zpe_ix ix_t (zpvk hc 5 (by decide +kernel)) zpe_int (fun _ _ => rfl))) ip_add))); apply zqss_cons; exact (zps_thaw (H0 := H) rfl (zps_expr (zpe_bm0 PySem.F.plainAttrs_dict PySem.F.slot_dict_clear PySem.F.type_dict_clear mt_clearD (zpvk hc 2 (by decide +kernel)) ))); exact zqss_one (zps_ret (zpe_cmpR op_eq (zpvk hc 3 (by decide +kernel)) (zpe_op op_mul zpe_int (zpe_callB call_lenL (glk hc (by decide +kernel)) T.z_len b_len (zpa_cons (zpek_comp hc ["_law_part"] [] rfl (by decide +kernel) (zpi_list (zpvk hc 0 (by decide +kernel))) (fun _ hc => zpgb hc (by decide +kernel) 0 (by decide +kernel)) (fun _ hc => zpifs_one (zpt_cmpR (op_neTI hu) (zpvk hc 0 (by decide +kernel)) (zpe_tup zpa_nil) (nomark _))) (fun _ hc => (zpvk hc 0 (by decide +kernel)))) zpa_nil))) (nomark _)))), ?_⟩
  repeat (first | walk_at "rd" | simp only [hL])
  intro l hl
  have s1 := same_new hl (.lst (List.map V.ref bs))
  have hl1 : upd H l (.lst (List.map V.ref bs)) l = some (.lst (List.map V.ref bs)) := upd_same
  generalize upd H l (.lst (List.map V.ref bs)) = H1 at s1 hl1 ⊢
  refine ⟨l, rfl, bs, ts, few, hl1, st.mono fun b xs e => s1 _ _ e, l10, l390, hfew, l64, fun F ps ms H2 s2 hF hF2 sp up mem => ?_⟩
  have g2 := s1.trans s2
  have hF0 : H F = none := s1.free hF
  repeat (walk_at "rd")
  refine ⟨_, .dK hF2, true, kit_same _ _, ?_⟩
  repeat (walk_at "rd")
  rw [if_neg (by decide)]
  refine ⟨bs, s2 _ _ hl1, bs, g2 _ _ hL, ts, st.mono fun b xs e => g2 _ _ e, ts, st.mono fun b xs e => g2 _ _ e, ?_⟩
  rw [if_neg (by simp)]
  refine ⟨L, rfl, bs, ts, few, g2 _ _ hL, st.mono fun b xs e => g2 _ _ e, l10, nds, hfew, l64, fun G ks g H3 s3 hG hG3 nd memk hg => ?_⟩
  have hF3 := s3 _ _ hF2
  have lps : ps.length = ms.length := by rw [sp.1, List.length_map]
  have sp3 : SetsAt H3 ps (ms.map fun z => blV z ts) := sp.mono fun b xs e => s3 _ _ e
  refine ⟨G, rfl, _, hF3, _, hG3, ?_, fun k v hkv => ?_, ?_⟩
  · rw [blK_len lps, dkG_len]
    exact Nat.le_antisymm (nodup_le up.nodup fun z hz => (memk z).mpr ((mem z).mp hz)) (nodup_le nd fun z hz => (mem z).mpr ((memk z).mp hz))
  · obtain ⟨i, z, p, e1, e2, rfl, rfl⟩ := blK_mem hkv
    have hzk : z ∈ ks := (memk z).mpr ((mem z).mp (List.mem_of_getElem? e1))
    obtain ⟨p', e3, e4⟩ := hg z hzk
    refine ⟨p, rfl, p', ?_, blV z ts, sp3.2 i p _ e2 (by rw [List.getElem?_map, e1]; rfl), by rw [blV_due z ts l10]; exact e4⟩
    rw [← e3]
    exact List.mem_map.mpr ⟨z, hzk, rfl⟩
  rw [if_neg (by decide)]
  refine ⟨_, hF3, fun o => ?_⟩
  have sp4 : SetsAt (upd H3 F (.frz o (.dK (blK ms ps)))) ps (ms.map fun z => blV z ts) := sp3.mono fun b xs e => by rw [upd_ne (ne_of hF3 e (by intro z; cases z)).symm]; exact e
  have g3 := g2.trans s3
  have hLF : L ≠ F := ne_of_none hL hF0
  have hL4 : upd H3 F (.frz o (.dK (blK ms ps))) L = some (.lst (List.map V.ref bs)) := by rw [upd_ne hLF]; exact g3 _ _ hL
  have st4 : SetsAt (upd H3 F (.frz o (.dK (blK ms ps)))) bs ts := (st.mono fun b xs e => g3 _ _ e).mono fun b xs e => by rw [upd_ne (ne_of hF3 e (by intro z; cases z)).symm]; exact e
  have hF4 : upd H3 F (.frz o (.dK (blK ms ps))) F = some (.frz o (.dK (blK ms ps))) := upd_same
  have s4 : ∀ (o' o'' : HO), Same H (upd (upd (upd H3 F (.frz o (.dK (blK ms ps)))) F o') F o'') := fun o' o'' => by
    rw [upd_upd, upd_upd]; exact same_put' g3 hF0
  generalize upd H3 F (.frz o (.dK (blK ms ps))) = H4 at sp4 hL4 st4 hF4 s4 ⊢
  obtain ⟨Pv, hPv⟩ : ∃ Pv : Nat → St → Hp → Prop, ∀ i σ' H', Pv i σ' H' ↔ ∃ y1 y2 : Option V, σ' = [some (.ref L), some (.ref l), some (.ref F), some (.int ((((ms.take i).map fun z => nOf z ts).sum : Nat) : Int)), y1, y2] ∧ H' = H4 := ⟨_, fun _ _ _ => Iff.rfl⟩
  refine forAll_dict Pv ((hPv _ _ _).mpr ⟨none, none, rfl, rfl⟩) (fun i σ' H5 _ pv => ?_) (fun i k v σ' H5 hkv pv => ?_) (fun σ' H5 pv => ?_)
  · obtain ⟨_, _, _, rfl⟩ := (hPv _ _ _).mp pv
    exact hF4
  · obtain ⟨y1, y2, rfl, rfl⟩ := (hPv _ _ _).mp pv
    obtain ⟨z, p, e1, e2, rfl, rfl⟩ := blK_at hkv
    have dg : DGet H5 F (.int z) (some (.ref p)) := .inl ⟨_, Sum.inl z, .inr ⟨o, hF4⟩, rfl, (blK_val up.nodup e1 e2).symm⟩
    have hp5 := sp4.2 i p _ e2 (by rw [List.getElem?_map, e1]; rfl)
    dsimp only at hp5
    rw [blV_due z ts l10] at hp5
    rw [show kV (Sum.inl z) = V.int z from rfl]
    have g0 : 0 < Nat.gcd (nOf z ts) 2520 := Nat.gcd_pos_of_pos_right _ (by decide)
    have g1 : Nat.gcd (nOf z ts) 2520 ≤ 2520 := Nat.gcd_le_right _ (by decide)
    have bk := due_back z ts
    have nx : ((ms.take (i + 1)).map fun z => nOf z ts).sum = ((ms.take i).map fun z => nOf z ts).sum + nOf z ts := by
      rw [List.take_add_one, e1, List.map_append, List.sum_append]; simp
    repeat (first | walk_at "rd" | simp only [tDGet])
    refine ⟨_, dg, z, rfl, ?_⟩
    repeat (first | walk_at "rd" | simp only [tDGet])
    rw [if_neg (by decide)]
    refine ⟨_, .tup hp5, true, kit_same _ _, ?_⟩
    repeat (first | walk_at "rd" | simp only [tDGet, hp5])
    rw [if_neg (by decide), if_neg (by simp)]
    refine ⟨_, rfl, true, rfl, ?_⟩
    rw [if_neg (by decide)]
    refine ⟨_, hp5, _, rfl, _, rfl, true, rfl, ?_⟩
    rw [if_neg (by decide)]
    simp only [tAug, ipI]
    repeat (first | walk_at "rd" | simp only [hp5])
    have g2 : 0 < 2520 / Nat.gcd (nOf z ts) 2520 := Nat.div_pos g1 g0
    have g3 : 2520 / Nat.gcd (nOf z ts) 2520 ≤ 2520 := Nat.div_le_self _ _
    have ez : ((nOf z ts / Nat.gcd (nOf z ts) 2520 : Nat) : Int) * 2520 / ((2520 / Nat.gcd (nOf z ts) 2520 : Nat) : Int) = ((nOf z ts : Nat) : Int) := by
      have e := congrArg (fun n : Nat => (n : Int)) bk
      rw [Int.natCast_ediv, Int.natCast_mul] at e
      exact e
    refine ⟨.inr ⟨by decide, by decide⟩, ⟨by omega, by omega⟩, (hPv _ _ _).mpr ⟨some (.int z), some (.ref p), ?_, rfl⟩⟩
    rw [ez, nx, Int.natCast_add]
  · obtain ⟨y1, y2, rfl, rfl⟩ := (hPv _ _ _).mp pv
    rw [blK_len lps, List.take_length]
    repeat (first | walk_at "rd" | simp only [tDGet])
    have k6 : ∀ b, b ≠ F → upd (upd H5 F (.dK (blK ms ps))) F (.dK []) b = H5 b := fun b hb => by rw [upd_ne hb, upd_ne hb]
    have hL6 : upd (upd H5 F (.dK (blK ms ps))) F (.dK []) L = some (.lst (List.map V.ref bs)) := by rw [k6 L hLF]; exact hL4
    have st6 : SetsAt (upd (upd H5 F (.dK (blK ms ps))) F (.dK [])) bs ts := st4.mono fun b xs e => by rw [k6 b (ne_of hF4 e (by intro z; cases z)).symm]; exact e
    have s6 := s4 (.dK (blK ms ps)) (.dK [])
    refine ⟨F, o, _, hF4, hF0, .inr (.inr (.inl ⟨rfl, .inl ⟨_, upd_same⟩⟩)), _, upd_same, ⟨_, sqL_of hL6⟩, ?_⟩
    generalize upd (upd H5 F (.dK (blK ms ps))) F (.dK []) = H6 at hL6 st6 s6 ⊢
    have ls := st6.1
    refine compS_list (zs := List.map V.ref bs) (fun j => if (ts[j]?.any fun t => decide (¬ t = [])) then ts[j]? else none) (fun _ => RSet) RSet.same RSet.puts hL6 (by rw [List.length_map]; omega) (fun DD c H7 j z yes no hj s7 hDD hDx hyes hno => ?_) (fun D H7 vs s7 hD hD7 rl => ?_)
    · obtain ⟨b, eb, rfl⟩ := ref_at hj
      have hj1 : j < bs.length := (List.getElem?_eq_some_iff.mp eb).1
      have es : ts[j]? = some (ts[j]'(by omega)) := List.getElem?_eq_getElem _
      have hb := s7 _ _ (st6.2 j b _ eb es)
      rw [es] at hyes hno
      generalize ts[j]'(by omega) = y at hb hyes hno
      walk_at "rc"
      repeat (first | walk_at "rd" | simp only [hb])
      refine ⟨by decide, fun p1 hp1 => ⟨y, (same_new hp1 _) _ _ hb, [], rfl, ?_⟩⟩
      by_cases hs : y = []
      · rw [if_neg (by simp [hs])]
        exact hno (by simp [hs]) _ (same_new hp1 _)
      · rw [if_pos (by simp [hs])]
        exact hyes y (by simp [hs]) _ _ (same_new hp1 _) ⟨b, rfl, (same_new hp1 _) _ _ hb⟩
    · obtain ⟨cs, rfl, sc⟩ := sets_of rl
      have ec : cs.length = (ts.filter fun t => decide (¬ t = [])).length := by
        rw [sc.1, List.length_map, ls]
        exact congrArg _ (fm_filter fun j hj => by rw [List.getElem?_eq_getElem hj]; rfl)
      have ws := whole_sum up.nodup ts nds l10 fun t ht z hz => (mem z).mpr ⟨t, ht, hz⟩
      repeat (first | walk_at "rd" | simp only [hD7])
      refine ⟨.inl ⟨by decide, by decide⟩, ?_⟩
      rw [decide_eq_true (by rw [ws, ec]; simp)]
      exact q _ (s6.trans s7)
end

local macro_rules | `(tactic| walk_at "rd") => `(tactic| walk_at "rc")

/-! ### the law -/
def spLaw (K : PySem.W.Frag) : Sp := fun vs H Q _ => ∃ (a : Addr) (ns : List Int), vs = [.ref a] ∧ SqL K H a (List.map V.int ns) ∧ ns.length ≤ 63 ∧ ∀ H', Q (.bl true) H'
/-- a list of sets of some members -/
def LS (x : List Int) (m : Nat) (H : Hp) (A : Addr) : Prop := ∃ bs ts, H A = some (.lst (List.map V.ref bs)) ∧ SetsAt H bs ts ∧ ts.length ≤ m ∧ ∀ t ∈ ts, t.Sublist x
theorem LS.mono {x : List Int} {m n : Nat} {H H' : Hp} {A : Addr} (hmn : m ≤ n) (k : ∀ o, H A = some o → H' A = some o) (kt : ∀ b xs, H b = some (.tup xs) → H' b = some (.tup xs)) (y : LS x m H A) : LS x n H' A :=
  let ⟨bs, ts, h, s, l, u⟩ := y; ⟨bs, ts, k _ h, s.mono kt, Nat.le_trans l hmn, u⟩
structure FamAt (x : List Int) (h F A B : Addr) (H : Hp) : Prop where
  at_ : H F = some (.lst [.ref A, .ref B])
  af : A ≠ F
  bf : B ≠ F
  ah : A ≠ h
  bh : B ≠ h
  fh : F ≠ h
  one : LS x 390 H A
  two : LS x 390 H B
theorem FamAt.keep {x : List Int} {h F A B : Addr} {H H' : Hp} (hd : HandAt H h) (k : ∀ c o, c ≠ h → H c = some o → H' c = some o) (y : FamAt x h F A B H) : FamAt x h F A B H' :=
  ⟨k _ _ y.fh y.at_, y.af, y.bf, y.ah, y.bh, y.fh, y.one.mono (Nat.le_refl _) (fun o e => k _ _ y.ah e) (fun b xs e => k _ _ (hd.ntup e) e), y.two.mono (Nat.le_refl _) (fun o e => k _ _ y.bh e) (fun b xs e => k _ _ (hd.ntup e) e)⟩
theorem all_few {x : List Int} (hx : x.length ≤ 10) {v : Int} (hv : v = 1 ∨ v = 2 ∨ v = 3 ∨ v = 5) : ((allR v x).filter fun t => decide ((t.length : Int) = v)).length ≤ 390 := by
  obtain ⟨k, rfl, hk⟩ : ∃ k : Nat, v = (k : Int) ∧ k ≤ 10 := by
    rcases hv with h | h | h | h
    · exact ⟨1, h, by decide⟩
    · exact ⟨2, h, by decide⟩
    · exact ⟨3, h, by decide⟩
    · exact ⟨5, h, by decide⟩
  have c := cnt_bin (k : Int) x x.length (Nat.le_refl _) k
  rw [List.take_length] at c
  have b := bin_252 x.length hx k hk
  have e : ((allR (k : Int) x).filter fun t => decide ((t.length : Int) = (k : Int))).length = cntR k (allR (k : Int) x) := by
    unfold cntR
    congr 1
    refine List.filter_congr fun u _ => decide_eq_decide.mpr ⟨fun h => by omega, fun h => by omega⟩
  omega
section
variable {P : Program} {w : World} {K : PySem.W.Frag} {mg : Str → Option Value} {base : Heap} {t : Adr}
theorem ok_law (T : Txt K mg t) : FnOk P w K mg base CX0 9 t.a_law t.d_law ["_law_script"] (spLaw K) := by
  have G__law_draw := ok_draw (P := P) (w := w) (base := base) T
  have G__law_hand := ok_hand (P := P) (w := w) (base := base) T
  have G__law_members := ok_members (P := P) (w := w) (base := base) T
  have G__law_family_by := ok_familyS (P := P) (w := w) (base := base) T
  have G__law_all_of := ok_allofR (P := P) (w := w) (base := base) T
  have G__law_right := ok_right (P := P) (w := w) (base := base) T
  refine T.F_law.okZ sc_law (fun vs H Q E h => ?_) (fun cdv A outer s H vs Q E hr h hc hf => ?_)
  · obtain ⟨a, ns, rfl, _⟩ := h; rfl
  obtain ⟨a, ns, rfl, hS, h63, q⟩ := h
  have hu := hu_of hr
  have hu0 := hr.units0
  refine ⟨_, (by apply zqss_cons; exact (zpsk_set hc sc_law.nd hf 1 (by decide +kernel) (zpe_call G__law_hand (hr.mono (by omega)) (glk hc (by decide +kernel)) T.m__law_hand T.F__law_hand.kp T.b__law_hand .nil pass0 (zpa_cons (zpvk hc 0 (by decide +kernel)) zpa_nil))); apply zqss_cons; exact (zpsk_set hc sc_law.nd hf 2 (by decide +kernel) (zpe_call G__law_members (hr.mono (by omega)) (glk hc (by decide +kernel)) T.m__law_members T.F__law_members.kp T.b__law_members .nil pass0 (zpa_cons (zpvk hc 1 (by decide +kernel)) (zpa_cons (zpe_call G__law_draw (hr.mono (by omega)) (glk hc (by decide +kernel)) T.m__law_draw T.F__law_draw.kp T.b__law_draw .nil pass0 (zpa_cons (zpvk hc 1 (by decide +kernel)) (zpa_cons zpe_int zpa_nil))) zpa_nil)))); apply zqss_cons; exact (zpsk_comp hc sc_law.nd 3 (by decide +kernel) ["_law_k"] [1, 2] rfl (by decide +kernel) (zpi_range1 (glk hc (by decide +kernel)) T.z_range (zpa_cons zpe_int zpa_nil)) (fun _ hc => zpgb hc (by decide +kernel) 0 (by decide +kernel)) (fun _ _ => zpifs_nil) (fun _ hc => (zpe_call G__law_family_by (hr.mono (by omega)) (glk hc (by decide +kernel)) T.m__law_family_by T.F__law_family_by.kp T.b__law_family_by .nil pass0 (zpa_cons (zpvk hc 1 (by decide +kernel)) (zpa_cons (zpvk hc 2 (by decide +kernel)) (zpa_cons zpe_int zpa_nil))))) (by rfl)); apply zqss_cut; exact (zqs_if (zpt_cmpR op_eq (zpe_call G__law_draw (hr.mono (by omega)) (glk hc (by decide +kernel)) T.m__law_draw T.F__law_draw.kp T.b__law_draw .nil pass0 (zpa_cons (zpvk hc 1 (by decide +kernel)) (zpa_cons zpe_int zpa_nil))) zpe_int (nomark _)) (by exact zqss_one (zps_asg (zpe_call G__law_all_of (hr.mono (by omega)) (glk hc (by decide +kernel)) T.m__law_all_of T.F__law_all_of.kp T.b__law_all_of .nil pass0 (zpa_cons (zpvk hc 2 (by decide +kernel)) (zpa_cons (zpe_ix ix_l (zpe_lst (zpa_cons zpe_int (zpa_cons zpe_int (zpa_cons zpe_int (zpa_cons zpe_int zpa_nil))))) (zpe_call G__law_draw (hr.mono (by omega)) (glk hc (by decide +kernel)) T.m__law_draw T.F__law_draw.kp T.b__law_draw .nil pass0 (zpa_cons (zpvk hc 1 (by decide +kernel)) (zpa_cons zpe_int zpa_nil))) (fun _ _ => rfl)) zpa_nil))) (zpg_sub (zpvk hc 3 (by decide +kernel)) zpe_int set_l))) zqss_nil); apply zqss_cons; exact (zqs_for PassesOwn.never rfl (zpi_list (zpe_op op_cat (zpvk hc 3 (by decide +kernel)) (zpe_rev (zpvk hc 3 (by decide +kernel)) (zpe_un un_neg zpe_int)))) (zpgk hc sc_law.nd hf 4 (by decide +kernel)) (by exact zqss_one (zqs_if (zpt_not (zpt_val (zpe_call G__law_right (hr.mono (by omega)) (glk hc (by decide +kernel)) T.m__law_right T.F__law_right.kp T.b__law_right .nil pass0 (zpa_cons (zpvk hc 4 (by decide +kernel)) zpa_nil)))) (by exact zqss_one (zps_ret zpe_bl)) zqss_nil))); exact zqss_one (zps_ret zpe_bl)), ?_⟩
  repeat (walk_at "rd")
  refine ⟨a, ns, rfl, hS, fun h H1 s1 h0 hd => ?_⟩
  refine draw_by hd .refl (by decide) (by decide) fun r H2 r0 r9 d2 k2 => ?_
  obtain ⟨n, rfl, hn⟩ := nat_of (b := 11) r0 r9
  repeat (walk_at "rd")
  refine ⟨h, _, rfl, n, rfl, by omega, d2.handAt hd, fun W x H3 d3 hW2 hW3 lx rise => ?_⟩
  have d3' := d2.trans d3
  repeat (walk_at "rd")
  have hd3 := d3'.handAt hd
  have hWh : W ≠ h := hd3.ntup hW3
  obtain ⟨Pc, hPc⟩ : ∃ Pc : Addr → Nat → List V → Hp → Prop, ∀ Z i ys H', Pc Z i ys H' ↔ Dr h H3 H' ∧ H' Z = some (.lst ys) ∧ ∃ Ls : List Addr, ys = List.map V.ref Ls ∧ Ls.length = i ∧ ∀ A ∈ Ls, A ≠ Z ∧ A ≠ h ∧ LS x 390 H' A := ⟨_, fun _ _ _ _ => Iff.rfl⟩
  refine compAll_rng Pc (fun Z hZ => (hPc _ _ _ _).mpr ⟨Dr.refl.new hZ, upd_same, [], rfl, rfl, fun A hA => by cases hA⟩) (fun Z hZ i ys H4 hi pv cb => ?_) (fun F hF ys H4 pv => ?_)
  · obtain ⟨d4, hZ4, Ls, rfl, lL, al⟩ := (hPc _ _ _ _).mp pv
    have hZh : Z ≠ h := hd3.ne hZ
    have hd4 := d4.handAt hd3
    walk_at "rc"
    repeat (walk_at "rd")
    refine ⟨h, W, 14, rfl, by decide, by decide, hd4, x, d4.keep _ _ hWh hW3, by omega, fun D bs ts H5 d5 hD hD5 sa lb sub => ?_⟩
    have hDh : D ≠ h := hd4.ne hD
    have hDZ : D ≠ Z := (ne_of_none hZ4 hD).symm
    have hZ5 := d5.keep _ _ hZh hZ4
    have kt : ∀ (o : HO) b xs, H5 b = some (.tup xs) → upd H5 Z o b = some (.tup xs) := fun o b xs e => by rw [upd_ne (ne_of e hZ5 (by intro z; cases z))]; exact e
    refine ⟨hZ5, small1000 (by omega), (hPc _ _ _ _).mpr ⟨(d4.trans d5).put hZ, upd_same, Ls ++ [D], by rw [List.map_append]; rfl, by rw [List.length_append]; simp; omega, fun A hA => ?_⟩⟩
    rcases List.mem_append.mp hA with hA | hA
    · obtain ⟨z1, z2, z3⟩ := al A hA
      exact ⟨z1, z2, z3.mono (Nat.le_refl _) (fun o e => by rw [upd_ne z1]; exact d5.keep _ _ z2 e) fun b xs e => kt _ _ _ (d5.keep _ _ (hd4.ntup e) e)⟩
    · rw [List.mem_singleton.mp hA]
      exact ⟨hDZ, hDh, bs, ts, by rw [upd_ne hDZ]; exact hD5, sa.mono (kt _), by have := sa.1; omega, sub⟩
  · obtain ⟨d4, hF4, Ls, rfl, lL, al⟩ := (hPc _ _ _ _).mp pv
    have hFh : F ≠ h := hd3.ne hF
    have hd4 := d4.handAt hd3
    match Ls, lL, al, hF4 with
    | [A, B], _, al, hF4 =>
      obtain ⟨a1, a2, a3⟩ := al A (by simp)
      obtain ⟨b1, b2, b3⟩ := al B (by simp)
      have fa : FamAt x h F A B H4 := ⟨hF4, a1, b1, a2, b2, hFh, a3, b3⟩
      obtain ⟨M, hM⟩ : ∃ M : St → Hp → Prop, ∀ σ' H', M σ' H' ↔ ∃ A', σ' = [some (.ref a), some (.ref h), some (.ref W), some (.ref F), none] ∧ Dr h H3 H' ∧ FamAt x h F A' B H' := ⟨_, fun _ _ => Iff.rfl⟩
      refine ⟨M, ?_, fun σ' H5 m5 => ?_⟩
      · repeat (walk_at "rd")
        refine draw_by hd3 d4 (by decide) (by decide) fun r6 H6 r60 r61 d6 k6 => ⟨rfl, ?_⟩
        have fa6 : FamAt x h F A B H6 := fa.keep hd4 (fun c o n e => by rw [k6 c n]; exact e)
        split
        · refine ⟨by decide, fun p1 hp1 => ?_⟩
          have hp1h : p1 ≠ h := (d6.handAt hd3).ne hp1
          refine draw_by hd3 (d6.new hp1) (by decide) (by decide) fun r7 H7 r70 r71 d7 k7 => ?_
          obtain ⟨v, ev, hv⟩ := four_at (a := 1) (b := 2) (c := 3) (d := 5) r70 r71
          have kk7 : ∀ c o, c ≠ h → H6 c = some o → H7 c = some o := fun c o n e => by rw [k7 c n, upd_ne (ne_of_none e hp1)]; exact e
          have fa7 := fa6.keep (d6.handAt hd3) kk7
          refine ⟨_, rfl, _, by rw [k7 p1 hp1h]; exact upd_same, _, ev, ?_⟩
          refine ⟨W, v, rfl, x, d7.keep _ _ hWh hW3, by omega, fun D bs ts H8 s8 hD hD8 sa ets => ?_⟩
          have hF8 : H8 F = some (.lst [.ref A, .ref B]) := s8 _ _ fa7.at_
          have hDF : D ≠ F := (ne_of_none fa7.at_ hD).symm
          have hDh : D ≠ h := (d7.handAt hd3).ne hD
          have kt : ∀ (o : HO) b xs, H8 b = some (.tup xs) → upd H8 F o b = some (.tup xs) := fun o b xs e => by rw [upd_ne (ne_of e hF8 (by intro z; cases z))]; exact e
          refine ⟨_, hF8, 0, rfl, (hM _ _).mpr ⟨D, rfl, (d7.on s8).put hF, ⟨upd_same, hDF, b1, hDh, b2, hFh, ⟨bs, ts, by rw [upd_ne hDF]; exact hD8, sa.mono (kt _), ?_, fun t ht => ?_⟩, fa7.two.mono (Nat.le_refl _) (fun o e => by rw [upd_ne b1]; exact s8 _ _ e) (fun b xs e => kt _ _ _ (s8 _ _ e))⟩⟩⟩
          · rw [ets]; exact all_few (by omega) hv
          · rw [ets] at ht
            have := allR_sub v x x.length (Nat.le_refl _) t (by rw [List.take_length]; exact (List.mem_filter.mp ht).1)
            rwa [List.take_length] at this
        · exact (hM _ _).mpr ⟨A, rfl, d6, fa6⟩
      · obtain ⟨A', rfl, d6, fa6⟩ := (hM _ _).mp m5
        repeat (walk_at "rd")
        refine ⟨_, sqL_of fa6.at_, fun p1 hp1 => ?_⟩
        have s1 := same_new hp1 (.lst [V.ref A', V.ref B].reverse)
        have e1 := upd_same (H := H5) (a := p1) (o := .lst [V.ref A', V.ref B].reverse)
        generalize upd H5 p1 (.lst [V.ref A', V.ref B].reverse) = G1 at s1 e1 ⊢
        refine ⟨_, s1 _ _ fa6.at_, (by show 4 ≤ sizeLine; decide), fun p2 hp2 => ?_⟩
        have s2 := same_new hp2 (.lst ([V.ref A', V.ref B] ++ [V.ref A', V.ref B].reverse))
        have e2 := upd_same (H := G1) (a := p2) (o := .lst ([V.ref A', V.ref B] ++ [V.ref A', V.ref B].reverse))
        have g0 := s1.trans s2
        generalize upd G1 p2 (.lst ([V.ref A', V.ref B] ++ [V.ref A', V.ref B].reverse)) = G2 at s2 e2 g0 ⊢
        have lsA : LS x 390 G2 A' := fa6.one.mono (by decide) (fun o e => g0 _ _ e) (fun _ _ e => g0 _ _ e)
        have lsB : LS x 390 G2 B := fa6.two.mono (by decide) (fun o e => g0 _ _ e) (fun _ _ e => g0 _ _ e)
        have all : ∀ z ∈ ([V.ref A', V.ref B] ++ [V.ref A', V.ref B].reverse), ∃ L, z = .ref L ∧ LS x 390 G2 L := fun z hz => by
          have : z = .ref A' ∨ z = .ref B := by
            simp only [List.mem_append, List.mem_reverse, List.mem_cons, List.not_mem_nil, or_false] at hz
            rcases hz with (e | e) | (e | e) <;> simp [e]
          rcases this with rfl | rfl
          · exact ⟨_, rfl, lsA⟩
          · exact ⟨_, rfl, lsB⟩
        generalize [V.ref A', V.ref B] ++ [V.ref A', V.ref B].reverse = zs at e2 all
        refine ⟨⟨_, sqL_of e2⟩, ?_⟩
        obtain ⟨Pv, hPv⟩ : ∃ Pv : Nat → St → Hp → Prop, ∀ i σ' H', Pv i σ' H' ↔ ∃ y : Option V, σ' = [some (.ref a), some (.ref h), some (.ref W), some (.ref F), y] ∧ Same G2 H' := ⟨_, fun _ _ _ => Iff.rfl⟩
        refine forAll_list (xs := zs) Pv ((hPv _ _ _).mpr ⟨none, rfl, fun _ _ e => e⟩) (fun i σ' H' _ pv => ?_) (fun i z σ' H' hz pv => ?_) (fun σ' H' pv => ?_)
        · obtain ⟨_, _, sv⟩ := (hPv _ _ _).mp pv
          exact sv _ _ e2
        · obtain ⟨y, rfl, sv⟩ := (hPv _ _ _).mp pv
          obtain ⟨L, rfl, bs, ts, hL, sa, lb, sub⟩ := all z (List.mem_of_getElem? hz)
          repeat (walk_at "rd")
          refine ⟨L, rfl, bs, ts, x, sv _ _ hL, sa.mono fun b xs e => sv _ _ e, fun t ht => ?_, lb, fun t ht => rise.nodup.sublist (sub t ht), fun t ht z hz => (sub t ht).subset hz, by omega, fun H9 s9 => ⟨_, rfl, ?_⟩⟩
          · have := (sub t ht).length_le; omega
          rw [if_neg (by decide)]
          exact (hPv _ _ _).mpr ⟨_, rfl, sv.trans s9⟩
        · obtain ⟨y, rfl, sv⟩ := (hPv _ _ _).mp pv
          repeat (walk_at "rd")
          exact q _
end

theorem all_mk {l : PySem.W.OpenLaw} {w : World} {K : PySem.W.Frag} {h : Heap} {mg : Str → Option Value} {fa f0 f1 f2 f3 f4 f5 f6 f7 f8 f9 f10 f11 f12 f13 f14 f15 : Addr} (X : K.In h) (G : h.Ns mainGlobals mg) (hfa : mg "law" = some (.ref fa))
    {od0 an0 od1 an1 od2 an2 od3 an3 od4 an4 od5 an5 od6 an6 od7 an7 od8 an8 od9 an9 od10 an10 od11 an11 od12 an12 od13 an13 od14 an14 od15 an15 : Option Addr} {sl0 sl1 sl2 sl3 sl4 sl5 sl6 sl7 sl8 sl9 sl10 sl11 sl12 sl13 sl14 sl15 : Array (Option Value)} {oc0 kV0 dc0 pm0 cd0 ct0 oc1 kV1 dc1 pm1 cd1 ct1 oc2 kV2 dc2 pm2 cd2 ct2 oc3 kV3 dc3 pm3 cd3 ct3 oc4 kV4 dc4 pm4 cd4 ct4 oc5 kV5 dc5 pm5 cd5 ct5 oc6 kV6 dc6 pm6 cd6 ct6 oc7 kV7 dc7 pm7 cd7 ct7 oc8 kV8 dc8 pm8 cd8 ct8 oc9 kV9 dc9 pm9 cd9 ct9 oc10 kV10 dc10 pm10 cd10 ct10 oc11 kV11 dc11 pm11 cd11 ct11 oc12 kV12 dc12 pm12 cd12 ct12 oc13 kV13 dc13 pm13 cd13 ct13 oc14 kV14 dc14 pm14 cd14 ct14 oc15 kV15 dc15 pm15 cd15 ct15 : Value}
    (a0 : PySem.W.nsIn K mainGlobals "set_of" = some (some (.ref f0))) (l0 : K.lookup f0 = some ⟨oc0, od0, .func (PySem.W.fnOf "set_of" "set_of" (defArgs s_set_of) (defBody s_set_of) (defScope s_set_of) .none kV0 dc0 pm0 an0 cd0 ct0), sl0⟩) (c0 : PySem.W.codeIn K cd0 "set_of" = true) (k0 : PySem.W.keepIn K (.ref f0) = true)
    (a1 : PySem.W.nsIn K mainGlobals "blames_of" = some (some (.ref f1))) (l1 : K.lookup f1 = some ⟨oc1, od1, .func (PySem.W.fnOf "blames_of" "blames_of" (defArgs s_blames_of) (defBody s_blames_of) (defScope s_blames_of) .none kV1 dc1 pm1 an1 cd1 ct1), sl1⟩) (c1 : PySem.W.codeIn K cd1 "blames_of" = true) (k1 : PySem.W.keepIn K (.ref f1) = true)
    (a2 : PySem.W.nsIn K mainGlobals "blame_of" = some (some (.ref f2))) (l2 : K.lookup f2 = some ⟨oc2, od2, .func (PySem.W.fnOf "blame_of" "blame_of" (defArgs s_blame_of) (defBody s_blame_of) (defScope s_blame_of) .none kV2 dc2 pm2 an2 cd2 ct2), sl2⟩) (c2 : PySem.W.codeIn K cd2 "blame_of" = true) (k2 : PySem.W.keepIn K (.ref f2) = true)
    (a3 : PySem.W.nsIn K mainGlobals "common_of" = some (some (.ref f3))) (l3 : K.lookup f3 = some ⟨oc3, od3, .func (PySem.W.fnOf "common_of" "common_of" (defArgs s_common_of) (defBody s_common_of) (defScope s_common_of) .none kV3 dc3 pm3 an3 cd3 ct3), sl3⟩) (c3 : PySem.W.codeIn K cd3 "common_of" = true) (k3 : PySem.W.keepIn K (.ref f3) = true)
    (a4 : PySem.W.nsIn K mainGlobals "_law_hand" = some (some (.ref f4))) (l4 : K.lookup f4 = some ⟨oc4, od4, .func (PySem.W.fnOf "_law_hand" "_law_hand" (defArgs s__law_hand) (defBody s__law_hand) (defScope s__law_hand) .none kV4 dc4 pm4 an4 cd4 ct4), sl4⟩) (c4 : PySem.W.codeIn K cd4 "_law_hand" = true) (k4 : PySem.W.keepIn K (.ref f4) = true)
    (a5 : PySem.W.nsIn K mainGlobals "_law_next" = some (some (.ref f5))) (l5 : K.lookup f5 = some ⟨oc5, od5, .func (PySem.W.fnOf "_law_next" "_law_next" (defArgs s__law_next) (defBody s__law_next) (defScope s__law_next) .none kV5 dc5 pm5 an5 cd5 ct5), sl5⟩) (c5 : PySem.W.codeIn K cd5 "_law_next" = true) (k5 : PySem.W.keepIn K (.ref f5) = true)
    (a6 : PySem.W.nsIn K mainGlobals "_law_take" = some (some (.ref f6))) (l6 : K.lookup f6 = some ⟨oc6, od6, .func (PySem.W.fnOf "_law_take" "_law_take" (defArgs s__law_take) (defBody s__law_take) (defScope s__law_take) .none kV6 dc6 pm6 an6 cd6 ct6), sl6⟩) (c6 : PySem.W.codeIn K cd6 "_law_take" = true) (k6 : PySem.W.keepIn K (.ref f6) = true)
    (a7 : PySem.W.nsIn K mainGlobals "_law_draw" = some (some (.ref f7))) (l7 : K.lookup f7 = some ⟨oc7, od7, .func (PySem.W.fnOf "_law_draw" "_law_draw" (defArgs s__law_draw) (defBody s__law_draw) (defScope s__law_draw) .none kV7 dc7 pm7 an7 cd7 ct7), sl7⟩) (c7 : PySem.W.codeIn K cd7 "_law_draw" = true) (k7 : PySem.W.keepIn K (.ref f7) = true)
    (a8 : PySem.W.nsIn K mainGlobals "_law_is_whole" = some (some (.ref f8))) (l8 : K.lookup f8 = some ⟨oc8, od8, .func (PySem.W.fnOf "_law_is_whole" "_law_is_whole" (defArgs s__law_is_whole) (defBody s__law_is_whole) (defScope s__law_is_whole) .none kV8 dc8 pm8 an8 cd8 ct8), sl8⟩) (c8 : PySem.W.codeIn K cd8 "_law_is_whole" = true) (k8 : PySem.W.keepIn K (.ref f8) = true)
    (a9 : PySem.W.nsIn K mainGlobals "_law_members" = some (some (.ref f9))) (l9 : K.lookup f9 = some ⟨oc9, od9, .func (PySem.W.fnOf "_law_members" "_law_members" (defArgs s__law_members) (defBody s__law_members) (defScope s__law_members) .none kV9 dc9 pm9 an9 cd9 ct9), sl9⟩) (c9 : PySem.W.codeIn K cd9 "_law_members" = true) (k9 : PySem.W.keepIn K (.ref f9) = true)
    (a10 : PySem.W.nsIn K mainGlobals "_law_family_by" = some (some (.ref f10))) (l10 : K.lookup f10 = some ⟨oc10, od10, .func (PySem.W.fnOf "_law_family_by" "_law_family_by" (defArgs s__law_family_by) (defBody s__law_family_by) (defScope s__law_family_by) .none kV10 dc10 pm10 an10 cd10 ct10), sl10⟩) (c10 : PySem.W.codeIn K cd10 "_law_family_by" = true) (k10 : PySem.W.keepIn K (.ref f10) = true)
    (a11 : PySem.W.nsIn K mainGlobals "_law_all_of" = some (some (.ref f11))) (l11 : K.lookup f11 = some ⟨oc11, od11, .func (PySem.W.fnOf "_law_all_of" "_law_all_of" (defArgs s__law_all_of) (defBody s__law_all_of) (defScope s__law_all_of) .none kV11 dc11 pm11 an11 cd11 ct11), sl11⟩) (c11 : PySem.W.codeIn K cd11 "_law_all_of" = true) (k11 : PySem.W.keepIn K (.ref f11) = true)
    (a12 : PySem.W.nsIn K mainGlobals "_law_divisor" = some (some (.ref f12))) (l12 : K.lookup f12 = some ⟨oc12, od12, .func (PySem.W.fnOf "_law_divisor" "_law_divisor" (defArgs s__law_divisor) (defBody s__law_divisor) (defScope s__law_divisor) .none kV12 dc12 pm12 an12 cd12 ct12), sl12⟩) (c12 : PySem.W.codeIn K cd12 "_law_divisor" = true) (k12 : PySem.W.keepIn K (.ref f12) = true)
    (a13 : PySem.W.nsIn K mainGlobals "_law_due" = some (some (.ref f13))) (l13 : K.lookup f13 = some ⟨oc13, od13, .func (PySem.W.fnOf "_law_due" "_law_due" (defArgs s__law_due) (defBody s__law_due) (defScope s__law_due) .none kV13 dc13 pm13 an13 cd13 ct13), sl13⟩) (c13 : PySem.W.codeIn K cd13 "_law_due" = true) (k13 : PySem.W.keepIn K (.ref f13) = true)
    (a14 : PySem.W.nsIn K mainGlobals "_law_right" = some (some (.ref f14))) (l14 : K.lookup f14 = some ⟨oc14, od14, .func (PySem.W.fnOf "_law_right" "_law_right" (defArgs s__law_right) (defBody s__law_right) (defScope s__law_right) .none kV14 dc14 pm14 an14 cd14 ct14), sl14⟩) (c14 : PySem.W.codeIn K cd14 "_law_right" = true) (k14 : PySem.W.keepIn K (.ref f14) = true)
    (a15 : PySem.W.nsIn K mainGlobals "law" = some (some (.ref f15))) (l15 : K.lookup f15 = some ⟨oc15, od15, .func (PySem.W.fnOf "law" "law" (defArgs s_law) (defBody s_law) (defScope s_law) .none kV15 dc15 pm15 an15 cd15 ct15), sl15⟩) (c15 : PySem.W.codeIn K cd15 "law" = true) (k15 : PySem.W.keepIn K (.ref f15) = true)
    (z_abs : PySem.W.nsIn K mainGlobals "abs" = some none)
    (z_bool : PySem.W.nsIn K mainGlobals "bool" = some none)
    (z_dict : PySem.W.nsIn K mainGlobals "dict" = some none)
    (z_int : PySem.W.nsIn K mainGlobals "int" = some none)
    (z_isinstance : PySem.W.nsIn K mainGlobals "isinstance" = some none)
    (z_len : PySem.W.nsIn K mainGlobals "len" = some none)
    (z_list : PySem.W.nsIn K mainGlobals "list" = some none)
    (z_range : PySem.W.nsIn K mainGlobals "range" = some none)
    (z_set : PySem.W.nsIn K mainGlobals "set" = some none)
    (z_sorted : PySem.W.nsIn K mainGlobals "sorted" = some none)
    (z_tuple : PySem.W.nsIn K mainGlobals "tuple" = some none)
    : ∃ fd : FuncData, (∀ (s : Shared) (v : Value), BindsTo s fd ⟨[v], []⟩ [("_law_script", v)]) ∧ ∀ base : Heap, K.In base → base.Ns mainGlobals mg → FnOk l.prog w K mg base CX0 9 fa fd ["_law_script"] (spLaw K) := by
  have e := hfa.symm.trans (PySem.W.mg_of X G a15)
  cases e
  have F0 := fun_mk (st := s_set_of) l0 c0 k0
  have b0 := F0.binds (ps := ["numbers"]) fun _ _ _ _ _ _ => of1 fun _ => rfl
  have F1 := fun_mk (st := s_blames_of) l1 c1 k1
  have b1 := F1.binds (ps := ["clashes"]) fun _ _ _ _ _ _ => of1 fun _ => rfl
  have F2 := fun_mk (st := s_blame_of) l2 c2 k2
  have b2 := F2.binds (ps := ["member", "clashes"]) fun _ _ _ _ _ _ => of2 fun _ _ => rfl
  have F3 := fun_mk (st := s_common_of) l3 c3 k3
  have b3 := F3.binds (ps := ["one", "other"]) fun _ _ _ _ _ _ => of2 fun _ _ => rfl
  have F4 := fun_mk (st := s__law_hand) l4 c4 k4
  have b4 := F4.binds (ps := ["_law_script"]) fun _ _ _ _ _ _ => of1 fun _ => rfl
  have F5 := fun_mk (st := s__law_next) l5 c5 k5
  have b5 := F5.binds (ps := ["_law_hand_here"]) fun _ _ _ _ _ _ => of1 fun _ => rfl
  have F6 := fun_mk (st := s__law_take) l6 c6 k6
  have b6 := F6.binds (ps := ["_law_hand_here"]) fun _ _ _ _ _ _ => of1 fun _ => rfl
  have F7 := fun_mk (st := s__law_draw) l7 c7 k7
  have b7 := F7.binds (ps := ["_law_hand_here", "_law_many"]) fun _ _ _ _ _ _ => of2 fun _ _ => rfl
  have F8 := fun_mk (st := s__law_is_whole) l8 c8 k8
  have b8 := F8.binds (ps := ["_law_thing"]) fun _ _ _ _ _ _ => of1 fun _ => rfl
  have F9 := fun_mk (st := s__law_members) l9 c9 k9
  have b9 := F9.binds (ps := ["_law_hand_here", "_law_many"]) fun _ _ _ _ _ _ => of2 fun _ _ => rfl
  have F10 := fun_mk (st := s__law_family_by) l10 c10 k10
  have b10 := F10.binds (ps := ["_law_hand_here", "_law_members_here", "_law_most"]) fun _ _ _ _ _ _ => of3 fun _ _ _ => rfl
  have F11 := fun_mk (st := s__law_all_of) l11 c11 k11
  have b11 := F11.binds (ps := ["_law_members_here", "_law_size"]) fun _ _ _ _ _ _ => of2 fun _ _ => rfl
  have F12 := fun_mk (st := s__law_divisor) l12 c12 k12
  have b12 := F12.binds (ps := ["_law_one", "_law_other"]) fun _ _ _ _ _ _ => of2 fun _ _ => rfl
  have F13 := fun_mk (st := s__law_due) l13 c13 k13
  have b13 := F13.binds (ps := ["_law_family"]) fun _ _ _ _ _ _ => of1 fun _ => rfl
  have F14 := fun_mk (st := s__law_right) l14 c14 k14
  have b14 := F14.binds (ps := ["_law_family"]) fun _ _ _ _ _ _ => of1 fun _ => rfl
  have F15 := fun_mk (st := s_law) l15 c15 k15
  have b15 := F15.binds (ps := ["_law_script"]) fun _ _ _ _ _ _ => of1 fun _ => rfl
  have T : Txt K mg ⟨_, _, _, _, _, _, _, _, _, _, _, _, _, _, _, _, _, _, _, _, _, _, _, _, _, _, _, _, _, _, _, _⟩ := ⟨F0, b0, PySem.W.mg_of X G a0, F1, b1, PySem.W.mg_of X G a1, F2, b2, PySem.W.mg_of X G a2, F3, b3, PySem.W.mg_of X G a3, F4, b4, PySem.W.mg_of X G a4, F5, b5, PySem.W.mg_of X G a5, F6, b6, PySem.W.mg_of X G a6, F7, b7, PySem.W.mg_of X G a7, F8, b8, PySem.W.mg_of X G a8, F9, b9, PySem.W.mg_of X G a9, F10, b10, PySem.W.mg_of X G a10, F11, b11, PySem.W.mg_of X G a11, F12, b12, PySem.W.mg_of X G a12, F13, b13, PySem.W.mg_of X G a13, F14, b14, PySem.W.mg_of X G a14, F15, b15, PySem.W.mg_of X G a15, PySem.W.mg_none_of X G z_abs, PySem.W.mg_none_of X G z_bool, PySem.W.mg_none_of X G z_dict, PySem.W.mg_none_of X G z_int, PySem.W.mg_none_of X G z_isinstance, PySem.W.mg_none_of X G z_len, PySem.W.mg_none_of X G z_list, PySem.W.mg_none_of X G z_range, PySem.W.mg_none_of X G z_set, PySem.W.mg_none_of X G z_sorted, PySem.W.mg_none_of X G z_tuple⟩
  exact ⟨PySem.W.fnOf "law" "law" (defArgs s_law) (defBody s_law) (defScope s_law) .none kV15 dc15 pm15 an15 cd15 ct15, fun s v => .of_eq rfl, fun base _ _ => ok_law (P := l.prog) (w := w) (base := base) T⟩
theorem walk {l : PySem.W.OpenLaw} {q : Program} {loose : List Str} {XP : (Str → Option Value) → Heap → Prop} {YP : World → Heap → Prop} {d : DefRec} {K : Params → PySem.W.Frag} (hn : l.most = some 63) (hdf : d.params.defaults = [])
    (hY : ∀ (w : World) (h : Heap), YP w h → (K w.params).In h)
    (F : ∀ (w : World) (mg : Str → Option Value) (fa : Addr) (h : Heap), (K w.params).In h → h.Ns mainGlobals mg → mg d.name = some (.ref fa) →
      ∃ fd : FuncData, (∀ (s : Shared) (u : Value), BindsTo s fd ⟨[u], []⟩ [("_law_script", u)]) ∧ ∀ base : Heap, (K w.params).In base → base.Ns mainGlobals mg → FnOk l.prog w (K w.params) mg base CX0 9 fa fd ["_law_script"] (spLaw (K w.params))) :
    PySem.W.WalkO q loose XP YP l.row.toRowW d [] (fun f vs => PySem.call f vs) :=
  L2.walk_of (n := 63) (k := 9) (x := "_law_script") (CX := fun _ => CX0) (sp := fun w => spLaw (K w.params)) hn (by decide) hdf ⟨rfl, by decide, by decide⟩ hY F (fun _ _ a ns hl _ hS => ⟨a, ns, rfl, hS, hl, fun _ => rfl⟩) fun _ _ _ _ _ z => z
end My
open PySem PySem.W PyProof.Rows
set_option maxRecDepth 100000 in
set_option maxHeartbeats 0 in
theorem PySem.Challenge.cw_truceroll_k74_blames_holds : PySem.Challenge.rw_truceroll_k74_blames.Holds := by
  w_on; o_law; k_head; (case hw => w_witness2)
  k_fill
  refine My.walk (l := PySem.Challenge.rw_truceroll_k74_blames) rfl rfl (fun w h Y => PySem.W.kIn_of Y) ?F
  case F =>
    intro w mg fa h KX G hmg
    refine' My.all_mk KX G hmg ?a0 ?l0 ?c0 ?k0 ?a1 ?l1 ?c1 ?k1 ?a2 ?l2 ?c2 ?k2 ?a3 ?l3 ?c3 ?k3 ?a4 ?l4 ?c4 ?k4 ?a5 ?l5 ?c5 ?k5 ?a6 ?l6 ?c6 ?k6 ?a7 ?l7 ?c7 ?k7 ?a8 ?l8 ?c8 ?k8 ?a9 ?l9 ?c9 ?k9 ?a10 ?l10 ?c10 ?k10 ?a11 ?l11 ?c11 ?k11 ?a12 ?l12 ?c12 ?k12 ?a13 ?l13 ?c13 ?k13 ?a14 ?l14 ?c14 ?k14 ?a15 ?l15 ?c15 ?k15 ?z_abs ?z_bool ?z_dict ?z_int ?z_isinstance ?z_len ?z_list ?z_range ?z_set ?z_sorted ?z_tuple
    (case a0 => k_is)
    (case l0 => k_is)
    (case c0 => k_is)
    (case k0 => k_is)
    (case a1 => k_is)
    (case l1 => k_is)
    (case c1 => k_is)
    (case k1 => k_is)
    (case a2 => k_is)
    (case l2 => k_is)
    (case c2 => k_is)
    (case k2 => k_is)
    (case a3 => k_is)
    (case l3 => k_is)
    (case c3 => k_is)
    (case k3 => k_is)
    (case a4 => k_is)
    (case l4 => k_is)
    (case c4 => k_is)
    (case k4 => k_is)
    (case a5 => k_is)
    (case l5 => k_is)
    (case c5 => k_is)
    (case k5 => k_is)
    (case a6 => k_is)
    (case l6 => k_is)
    (case c6 => k_is)
    (case k6 => k_is)
    (case a7 => k_is)
    (case l7 => k_is)
    (case c7 => k_is)
    (case k7 => k_is)
    (case a8 => k_is)
    (case l8 => k_is)
    (case c8 => k_is)
    (case k8 => k_is)
    (case a9 => k_is)
    (case l9 => k_is)
    (case c9 => k_is)
    (case k9 => k_is)
    (case a10 => k_is)
    (case l10 => k_is)
    (case c10 => k_is)
    (case k10 => k_is)
    (case a11 => k_is)
    (case l11 => k_is)
    (case c11 => k_is)
    (case k11 => k_is)
    (case a12 => k_is)
    (case l12 => k_is)
    (case c12 => k_is)
    (case k12 => k_is)
    (case a13 => k_is)
    (case l13 => k_is)
    (case c13 => k_is)
    (case k13 => k_is)
    (case a14 => k_is)
    (case l14 => k_is)
    (case c14 => k_is)
    (case k14 => k_is)
    (case a15 => k_is)
    (case l15 => k_is)
    (case c15 => k_is)
    (case k15 => k_is)
    (case z_abs => k_is)
    (case z_bool => k_is)
    (case z_dict => k_is)
    (case z_int => k_is)
    (case z_isinstance => k_is)
    (case z_len => k_is)
    (case z_list => k_is)
    (case z_range => k_is)
    (case z_set => k_is)
    (case z_sorted => k_is)
    (case z_tuple => k_is)
