import PyProof.Rows.All
import Wide.All
import OpenK.AllK
import Wide.FinOn
import Lean
import PyProof.EqAt
import PyProof.EqKinds
import PyProof.TupleCall
import PySem.Challenge.RW_rowsmith_k54_columns
import KE.KRevIter
import PyProof.ListRange
import PyProof.CollectIter
import PyProof.Rows.SortWalk
import PyProof.ListMulRoad
import PyProof.AutoListH
set_option Elab.async false
set_option linter.all false
set_option maxRecDepth 100000
/-! THE HAND LAYER, for ints, bools, texts, own classes, LISTS and tuples (index, slices, in, append, pop ..), calls, loops. Paste it whole ahead of your own text; what your proof does not reach may be deleted. -/
namespace L2
open PySem PySem.Spec PyProof.Rows

/-- a key: an int or a str -/
abbrev Key := Sum Int Str
def keyIs : Key → Value → Bool
  | .inl k, v => Value.isInt k v
  | .inr x, v => Value.isStrOf x v
def keyH (w : World) : Key → Int
  | .inl k => hashInt k
  | .inr x => hashStr w x
theorem keyIs_shape : ∀ {k : Key} {v : Value}, keyIs k v = true → (∃ i t, k = Sum.inl i ∧ v = Value.int i t) ∨ (∃ x t, k = Sum.inr x ∧ v = Value.str x t)
  | .inl i, v, h => by
    obtain ⟨t, e⟩ := Value.isInt_shape (k := i) (v := v) h
    exact .inl ⟨i, t, rfl, e⟩
  | .inr x, v, h => by
    obtain ⟨t, e⟩ := Value.isStrOf_shape (x := x) (v := v) h
    exact .inr ⟨x, t, rfl, e⟩
theorem key_ll (a b : Int) : decide ((Sum.inl a : Key) = Sum.inl b) = (a == b) := by
  by_cases e : a = b
  · subst e; simp
  · have h : ¬ (Sum.inl a : Key) = Sum.inl b := fun q => e (Sum.inl.inj q)
    rw [decide_eq_false h]
    exact (beq_eq_false_iff_ne.mpr e).symm
theorem key_rr (a b : Str) : decide ((Sum.inr a : Key) = Sum.inr b) = decide (a = b) := by
  by_cases e : a = b
  · subst e; simp
  · have h : ¬ (Sum.inr a : Key) = Sum.inr b := fun q => e (Sum.inr.inj q)
    rw [decide_eq_false h, decide_eq_false e]
theorem key_lr (a : Int) (b : Str) : decide ((Sum.inl a : Key) = Sum.inr b) = false := decide_eq_false (fun q => nomatch q)
theorem key_rl (a : Str) (b : Int) : decide ((Sum.inr a : Key) = Sum.inl b) = false := decide_eq_false (fun q => nomatch q)

def mixKind (prog : Program) (w : World) : PySem.KeyKind prog w Key where
  is := keyIs
  hash := keyH w
  inj := fun v a b ha hb => by
    rcases keyIs_shape ha with ⟨i, t, rfl, rfl⟩ | ⟨x, t, rfl, rfl⟩
    · rcases keyIs_shape hb with ⟨j, u, rfl, e⟩ | ⟨y, u, rfl, e⟩
      · injection e with e1 _; rw [e1]
      · exact nomatch e
    · rcases keyIs_shape hb with ⟨j, u, rfl, e⟩ | ⟨y, u, rfl, e⟩
      · exact nomatch e
      · injection e with e1 _; rw [e1]
  byValue := fun k v h => by
    rcases keyIs_shape h with ⟨i, t, rfl, rfl⟩ | ⟨x, t, rfl, rfl⟩ <;> rfl
  pyHash := fun hv h => by
    rcases keyIs_shape hv with ⟨i, t, rfl, rfl⟩ | ⟨x, t, rfl, rfl⟩
    · exact wpAny_pyHash_int h
    · exact wpAny_pyHash_str h
  eqBool := fun hu hv h => by
    rcases keyIs_shape hu with ⟨i, t, rfl, rfl⟩ | ⟨x, t, rfl, rfl⟩
    · rcases keyIs_shape hv with ⟨j, u, rfl, rfl⟩ | ⟨y, u, rfl, rfl⟩
      · rw [key_ll] at h; exact wpAny_eqBool_int h
      · rw [key_lr] at h; exact SeqAt.EqAt.int_str i t y u _ _ _ _ h
    · rcases keyIs_shape hv with ⟨j, u, rfl, rfl⟩ | ⟨y, u, rfl, rfl⟩
      · rw [key_rl] at h; exact SeqAt.EqAt.str_int x t j u _ _ _ _ h
      · rw [key_rr] at h; exact wpAny_eqBool_str h
  «strs» := fun k x t v h => by
    rcases keyIs_shape h with ⟨i, u, rfl, e⟩ | ⟨y, u, rfl, e⟩
    · exact nomatch e
    · injection e with e1 _
      subst e1
      cases v <;> rfl

end L2

namespace L2
open PySem PySem.Spec PyProof.Rows

/-- a value, without the heap -/
inductive V where
  | non | bl (b : Bool) | int (i : Int) | str (x : Str) | byt (b : Array UInt8) | flt (b : UInt64) | ref (a : Addr) | ty (n : String)
  deriving DecidableEq

def RelV : V → Value → Prop
  | .non, u => u = Value.none
  | .bl b, u => u = Value.bool b
  | .int i, u => ∃ t, u = Value.int i t
  | .str x, u => ∃ t, u = Value.str x t
  | .byt b, u => ∃ t, u = Value.bytes b t
  | .flt b, u => ∃ t, u = Value.float b t
  | .ref a, u => u = Value.ref a
  | .ty n, u => u = Value.type n

abbrev Vals : List V → List Value → Prop := Paired RelV
theorem Vals.length {xs : List V} {us : List Value} (r : Vals xs us) : xs.length = us.length := Paired.length r
theorem Vals.get : ∀ {xs : List V} {us : List Value} {i : Nat} {x : V}, Vals xs us → xs[i]? = some x → ∃ u, us[i]? = some u ∧ RelV x u
  | _, _, _, _, .nil, e => by simp at e
  | _, _, 0, _, .cons r _, e => by simp at e; subst e; exact ⟨_, rfl, r⟩
  | _, _, i + 1, x, .cons _ t, e => by
    obtain ⟨u, h1, h2⟩ := Vals.get (i := i) (x := x) t (by simpa using e)
    exact ⟨u, by simpa using h1, h2⟩
theorem Vals.set {x : V} {u : Value} (r : RelV x u) : ∀ {xs : List V} {us : List Value} (i : Nat), Vals xs us → Vals (xs.set i x) (us.set i u)
  | _, _, _, .nil => .nil
  | _, _, 0, .cons _ t => .cons r t
  | _, _, i + 1, .cons q t => .cons q (Vals.set r i t)
theorem Vals.append : ∀ {xs ys : List V} {us ws : List Value}, Vals xs us → Vals ys ws → Vals (xs ++ ys) (us ++ ws)
  | _, _, _, _, .nil, s => s
  | _, _, _, _, .cons r t, s => .cons r (Vals.append t s)
theorem Vals.take : ∀ {xs : List V} {us : List Value} (n : Nat), Vals xs us → Vals (xs.take n) (us.take n)
  | _, _, 0, _ => .nil
  | _, _, _ + 1, .nil => .nil
  | _, _, n + 1, .cons r t => .cons r (Vals.take n t)
theorem Vals.drop : ∀ {xs : List V} {us : List Value} (n : Nat), Vals xs us → Vals (xs.drop n) (us.drop n)
  | _, _, 0, r => r
  | _, _, _ + 1, .nil => .nil
  | _, _, n + 1, .cons _ t => Vals.drop n t
def RelO : Option V → Option Value → Prop
  | some v, some u => RelV v u
  | none, none => True
  | _, _ => False
def KV {κ : Type} : List (κ × V) → List (κ × Value) → Prop := Paired fun (p : κ × V) (q : κ × Value) => p.1 = q.1 ∧ RelV p.2 q.2

/-- a key of a dict (00_mix): an int or a text -/
def kV : Key → V
  | .inl i => .int i
  | .inr x => .str x

/-- what stands at a tracked address -/
inductive HO where
  /-- a list -/
  | lst (xs : List V)
  /-- a tuple (never changes) -/
  | tup (xs : List V)
  /-- a dict whose keys are ints and texts; one whose keys are tuples of ints and texts (the empty one is both) -/
  | dK (kvs : List (Key × V)) | dT (kvs : List (List Key × V))
  /-- a set of ints: its members, its size -/
  | set (S : Int → Bool) (n : Nat)
  /-- an instance of the class at C, its dict at dx, its attributes -/
  | ins (C dx : Addr) (fs : List (Str × V))
  /-- the dict of the instance at x -/
  | own (x : Addr)
  /-- the dict of an exception -/
  | xd (fs : List (Str × V))
  /-- a bound method, f of x -/
  | met (f x : Addr)
  /-- a range object lo, lo + 1, .. below hi -/
  | rng (lo hi : Int)
  /-- a thing that is known to the object (the script; a dict while a loop walks it): read, never written while it is so -/
  | frz (o : Obj) (u : HO)
  /-- a code object's table -/
  | tbl (ps : Array Value)
  /-- any other thing, by what is true of its one object (a def of one's own: SetO a S n := HO.ext fun h => ..) -/
  | ext (φ : Heap → Prop)

abbrev Hp := Addr → Option HO
def upd (H : Hp) (a : Addr) (o : HO) : Hp := fun b => if b = a then some o else H b
theorem upd_same {H : Hp} {a : Addr} {o : HO} : upd H a o a = some o := by unfold upd; rw [if_pos rfl]
theorem upd_ne {H : Hp} {a b : Addr} {o : HO} (h : b ≠ a) : upd H a o b = H b := by unfold upd; rw [if_neg h]
theorem ne_of_none {H : Hp} {a b : Addr} {o : HO} (h : H a = some o) (h' : H b = none) : a ≠ b := by
  intro e; subst e; rw [h] at h'; cases h'

section
variable (P : Program) (w : World)
def ObjOk (H : Hp) (h : Heap) (a : Addr) : HO → Prop
  | .lst xs => xs.length ≤ sizeLine ∧ ∃ (its : List Value) (n : Nat), Vals xs its ∧ h.get? a = some { cls := .type "list", data := .seq its.toArray n }
  | .tup xs => xs.length ≤ sizeLine ∧ ∃ its : List Value, Vals xs its ∧ IsTup h a its.toArray
  | .dK kvs => kvs.length ≤ sizeLine ∧ (a == sysModules) = false ∧ ∃ vs, KV kvs vs ∧ h.DictOf (mixKind P w) a vs
  | .dT kvs => kvs.length ≤ sizeLine ∧ (a == sysModules) = false ∧ ∃ xs : List (List Key × Addr × Value),
      Paired (fun (p : List Key × V) (q : List Key × Addr × Value) => p.1 = q.1 ∧ H q.2.1 = some (.tup (p.1.map kV)) ∧ RelV p.2 q.2.2) kvs xs ∧
      ∃ o es ep, h.get? a = some o ∧ o.ExactDict ∧ o.data = .dict es ep ∧ es.toList = xs.map (entryOfKey (tupleKind (mixKind P w))) ∧ (xs.map (·.1)).Nodup
  | .set S n => h.SetOf (intKind P w) a S n
  | .ins C dx fs => H dx = some (.own a) ∧ fs.length ≤ 1000 ∧ dx ≠ a ∧ h.get? a = some (PySem.W.instObj C dx) ∧
      ∃ mA, h.Ns1 dx mA ∧ (∀ f, RelO (fs.lookup f) (mA f)) ∧ PySem.Within mA (fs.map (·.1))
  | .own _ => ∃ o, h.get? a = some o
  | .xd fs => ∃ mA, h.Ns1 a mA ∧ ∀ f, RelO (fs.lookup f) (mA f)
  | .rng lo hi => ∃ t u v, h.get? a = some { cls := .type "range", data := .fields #[.int lo t, .int hi u, .int 1 v] }
  | .frz o u => h.get? a = some o ∧ ObjOk H h a u
  | .tbl ps => h.get? a = some { cls := .none, data := .fields ps }
  | .met f x => h.get? a = some (PySem.W.methodObj (.ref f) (.ref x))
  | .ext φ => φ h ∧ (∃ o, h.get? a = some o) ∧ ∀ h1 h2 : Heap, φ h1 → (∀ o, h1.get? a = some o → h2.get? a = some o) → φ h2
/-- the abstract heap is held -/
def HOk (H : Hp) (h : Heap) : Prop := ∀ a o, H a = some o → ObjOk P w H h a o
end

section
variable {P : Program} {w : World} {H H' : Hp} {h h' : Heap} {a : Addr} {o : HO}
theorem ObjOk.lt (x : ObjOk P w H h a o) : a < h.objs.size := by
  cases o with
  | lst xs => obtain ⟨_, _, _, _, e⟩ := x; exact Heap.lt_size e
  | tup xs => obtain ⟨_, _, _, p⟩ := x; exact p.lt
  | dK kvs => obtain ⟨_, _, _, _, o, _, _, e, _⟩ := x; exact Heap.lt_size e
  | dT kvs => obtain ⟨_, _, _, _, o, _, _, e, _⟩ := x; exact Heap.lt_size e
  | set S n => obtain ⟨o, _, _, _, e, _⟩ := x; exact Heap.lt_size e
  | ins C dx fs => obtain ⟨_, _, _, e, _⟩ := x; exact Heap.lt_size e
  | own y => obtain ⟨_, e⟩ := x; exact Heap.lt_size e
  | xd fs => obtain ⟨_, ⟨_, _, _, e, _⟩, _⟩ := x; exact Heap.lt_size e
  | rng lo hi => obtain ⟨_, _, _, e⟩ := x; exact Heap.lt_size e
  | frz ob u => obtain ⟨e, _⟩ := x; exact Heap.lt_size e
  | tbl ps => exact Heap.lt_size (show h.get? a = some _ from x)
  | met f y => exact Heap.lt_size (show h.get? a = some _ from x)
  | ext φ => obtain ⟨_, ⟨_, e⟩, _⟩ := x; exact Heap.lt_size e
theorem Paired.mapP {α β : Type} {F G : α → β → Prop} : ∀ {l₁ : List α} {l₂ : List β}, Paired F l₁ l₂ → (∀ a b, F a b → G a b) → Paired G l₁ l₂
  | _, _, .nil, _ => .nil
  | _, _, .cons r t, f => .cons (f _ _ r) (Paired.mapP t f)
/-- what an object's description leans on: its own object, its own dict, the tuples -/
theorem ObjOk.stay (x : ObjOk P w H h a o) (k : ∀ b u, (b = a ∨ H b = some (.own a)) → h.get? b = some u → h'.get? b = some u)
    (ho : ∀ b, H b = some (.own a) → H' b = some (.own a)) (ht : ∀ b xs, H b = some (.tup xs) → H' b = some (.tup xs)) : ObjOk P w H' h' a o := by
  induction o with
  | lst xs => obtain ⟨z, its, n, r, e⟩ := x; exact ⟨z, its, n, r, k _ _ (.inl rfl) e⟩
  | tup xs => obtain ⟨z, its, r, ob, e, c⟩ := x; exact ⟨z, its, r, ob, k _ _ (.inl rfl) e, c⟩
  | dK kvs => obtain ⟨z, y, vs, r, ob, es, ep, e, c⟩ := x; exact ⟨z, y, vs, r, ob, es, ep, k _ _ (.inl rfl) e, c⟩
  | dT kvs =>
    obtain ⟨z, y, xs, r, ob, es, ep, e, c⟩ := x
    exact ⟨z, y, xs, Paired.mapP r fun p q z => ⟨z.1, ht _ _ z.2.1, z.2.2⟩, ob, es, ep, k _ _ (.inl rfl) e, c⟩
  | set S n => obtain ⟨ob, es, ep, t, e, c⟩ := x; exact ⟨ob, es, ep, t, k _ _ (.inl rfl) e, c⟩
  | ins C dx fs =>
    obtain ⟨d, z, ne, e, mA, ⟨od, es, ep, e2, c⟩, r⟩ := x
    exact ⟨ho _ d, z, ne, k _ _ (.inl rfl) e, mA, ⟨od, es, ep, k _ _ (.inr d) e2, c⟩, r⟩
  | own y => obtain ⟨ob, e⟩ := x; exact ⟨ob, k _ _ (.inl rfl) e⟩
  | xd fs => obtain ⟨mA, ⟨od, es, ep, e, c⟩, r⟩ := x; exact ⟨mA, ⟨od, es, ep, k _ _ (.inl rfl) e, c⟩, r⟩
  | rng lo hi => obtain ⟨t, u, v, e⟩ := x; exact ⟨t, u, v, k _ _ (.inl rfl) e⟩
  | frz ob u ih => obtain ⟨e, q⟩ := x; exact ⟨k _ _ (.inl rfl) e, ih q⟩
  | tbl ps =>
    have e : h.get? a = some { cls := .none, data := .fields ps } := x
    show h'.get? a = some { cls := .none, data := .fields ps }
    exact k a _ (.inl rfl) e
  | met f y =>
    have e : h.get? a = some (PySem.W.methodObj (.ref f) (.ref y)) := x
    show h'.get? a = some (PySem.W.methodObj (.ref f) (.ref y))
    exact k a _ (.inl rfl) e
  | ext φ => obtain ⟨p, ⟨o, e⟩, st⟩ := x; exact ⟨st _ _ p fun o q => k _ _ (.inl rfl) q, ⟨o, k _ _ (.inl rfl) e⟩, st⟩
theorem HOk.lt (x : HOk P w H h) (e : H a = some o) : a < h.objs.size := (x a o e).lt
theorem HOk.fresh (x : HOk P w H h) (e : h.objs.size ≤ a) : H a = none := by
  cases q : H a with
  | none => rfl
  | some u => exact absurd (Nat.lt_of_lt_of_le (x.lt q) e) (Nat.lt_irrefl _)
/-- every object of the heap is kept -/
theorem HOk.kept (x : HOk P w H h) (k : ∀ b u, h.get? b = some u → h'.get? b = some u) : HOk P w H h' := fun a o e =>
  (x a o e).stay (fun b u _ q => k b u q) (fun _ q => q) fun _ _ q => q
/-- a new object is laid and tracked -/
theorem HOk.laid (x : HOk P w H h) (k : ∀ b u, h.get? b = some u → h'.get? b = some u) (hp : h.objs.size ≤ a) (new : ObjOk P w (upd H a o) h' a o) : HOk P w (upd H a o) h' := fun b u e => by
  have hn := x.fresh hp
  by_cases hb : b = a
  · subst hb; rw [upd_same] at e; cases e; exact new
  · rw [upd_ne hb] at e
    exact (x b u e).stay (fun c v _ q => k c v q) (fun c q => by rw [upd_ne (ne_of_none q hn)]; exact q) fun c xs q => by rw [upd_ne (ne_of_none q hn)]; exact q
end

/-- what may be read as u: it is u, or a known u -/
def Rd (H : Hp) (a : Addr) (u : HO) : Prop := H a = some u ∨ ∃ o, H a = some (.frz o u)
theorem Rd.ok {P : Program} {w : World} {H : Hp} {h : Heap} {a : Addr} {u : HO} (r : Rd H a u) (x : HOk P w H h) : ObjOk P w H h a u := by
  rcases r with r | ⟨o, r⟩
  · exact x a u r
  · obtain ⟨_, q⟩ := x a _ r
    exact q
/-- what may be written -/
def Mut : Option HO → Prop
  | some (.lst _) => True
  | some (.dK _) => True
  | some (.dT _) => True
  | some (.set _ _) => True
  | some (.ins _ _ _) => True
  | some (.ext _) => True
  | _ => False
section
variable {P : Program} {w : World} {H : Hp} {h h' : Heap} {x e : Addr} {o' : HO}
/-- the object at e is changed: x itself, or the dict of the instance x -/
theorem HOk.write (ok : HOk P w H h) (mu : Mut (H x)) (he : e = x ∨ H e = some (.own x)) (k : ∀ b u, b ≠ e → h.get? b = some u → h'.get? b = some u) (heo : ∃ u, h'.get? e = some u)
    (new : ObjOk P w (upd H x o') h' x o') : HOk P w (upd H x o') h' := fun b u q => by
  have nown : ∀ c y, H c = some (.own y) → c ≠ x := fun c y r z => by subst z; rw [r] at mu; exact mu
  have ntup : ∀ c xs, H c = some (.tup xs) → c ≠ x := fun c xs r z => by subst z; rw [r] at mu; exact mu
  by_cases hb : b = x
  · subst hb; rw [upd_same] at q; cases q; exact new
  · rw [upd_ne hb] at q
    by_cases hbe : b = e
    · have q' : H b = some (.own x) := by
        rcases he with z | z
        · exact absurd (hbe.trans z) hb
        · rw [hbe]; exact z
      rw [q] at q'; cases q'
      obtain ⟨v, hv⟩ := heo
      exact ⟨v, by rw [hbe]; exact hv⟩
    · refine (ok b u q).stay (fun c v hc r => k c v ?_ r) (fun c r => by rw [upd_ne (nown c b r)]; exact r) fun c xs r => by rw [upd_ne (ntup c xs r)]; exact r
      rcases hc with rfl | hc
      · exact hbe
      · rintro rfl
        rcases he with z | z
        · exact nown c b hc z
        · rw [hc] at z; cases z; exact hb rfl
end

/-! ### kept unless tracked; of the frames at fs (the callers') the slots may change (an exception that passes writes there); of the records at ex (iterators) nothing is said -/
structure Un (fs ex : List Addr) (H H' : Hp) (h h' : Heap) : Prop where
  keep : ∀ b o, h.get? b = some o → H b = none → b ∉ fs → b ∉ ex → h'.get? b = some o
  slot : ∀ b o, h.get? b = some o → H b = none → b ∈ fs → b ∉ ex → ∃ sl, h'.get? b = some { o with slots := sl }
  free : ∀ b o, h.get? b = some o → H b = none → b ∉ ex → H' b = none
  there : ∀ b o, h.get? b = some o → b ∉ ex → ∃ o', h'.get? b = some o'
  tups : ∀ b xs, H b = some (.tup xs) → H' b = some (.tup xs)
  frzs : ∀ b o u, H b = some (.frz o u) → H' b = some (.frz o u)
  tbls : ∀ b ps, H b = some (.tbl ps) → ∃ more, H' b = some (.tbl (ps ++ more))
section
variable {fs fs' ex ex' : List Addr} {H H1 H2 : Hp} {h h1 h2 h' : Heap} {a x e : Addr} {o : HO}
theorem Un.any (u : Un fs ex H H1 h h1) {b : Addr} {ob : Obj} (q : h.get? b = some ob) (n : H b = none) (hx : b ∉ ex) : ∃ sl, h1.get? b = some { ob with slots := sl } := by
  by_cases hb : b ∈ fs
  · exact u.slot b ob q n hb hx
  · exact ⟨ob.slots, u.keep b ob q n hb hx⟩
theorem Un.kept (k : ∀ b u, h.get? b = some u → h'.get? b = some u) : Un fs ex H H h h' :=
  ⟨fun b ob q _ _ _ => k b ob q, fun b ob q _ _ _ => ⟨ob.slots, k b ob q⟩, fun _ _ _ n _ => n, fun b ob q _ => ⟨ob, k b ob q⟩, fun _ _ q => q, fun _ _ _ q => q, fun _ ps q => ⟨#[], by rw [q]; simp⟩⟩
theorem Un.refl : Un fs ex H H h h := Un.kept fun _ _ q => q
theorem Un.laid (k : ∀ b u, h.get? b = some u → h'.get? b = some u) (hp : h.objs.size ≤ a) (hn : H a = none) : Un fs ex H (upd H a o) h h' where
  keep := fun b u q _ _ _ => k b u q
  slot := fun b u q _ _ _ => ⟨u.slots, k b u q⟩
  free := fun b u q n _ => by rw [upd_ne (Nat.ne_of_lt (Nat.lt_of_lt_of_le (Heap.lt_size q) hp))]; exact n
  there := fun b u q _ => ⟨u, k b u q⟩
  tups := fun b xs q => by rw [upd_ne (ne_of_none q hn)]; exact q
  frzs := fun b u xs q => by rw [upd_ne (ne_of_none q hn)]; exact q
  tbls := fun b ps q => ⟨#[], by rw [upd_ne (ne_of_none q hn), q]; simp⟩
theorem Un.write (mu : Mut (H x)) (he : e = x ∨ H e = some (.own x)) (k : ∀ b u, b ≠ e → h.get? b = some u → h'.get? b = some u) (heo : ∃ u, h'.get? e = some u) : Un fs ex H (upd H x o) h h' := by
  have hx : ∀ b, H b = none → b ≠ x := fun b n z => by subst z; rw [n] at mu; exact mu
  have hb : ∀ b, H b = none → b ≠ e := fun b n z => by
    subst z
    rcases he with r | r
    · exact hx b n r
    · rw [n] at r; cases r
  have hm : ∀ b u, H b = some u → ¬ Mut (some u) → b ≠ x := fun b u q nm z => by subst z; rw [q] at mu; exact nm mu
  refine ⟨fun b u q n _ _ => k b u (hb b n) q, fun b u q n _ _ => ⟨u.slots, k b u (hb b n) q⟩, fun b u q n _ => by rw [upd_ne (hx b n)]; exact n, fun b u q _ => ?_,
    fun b xs q => by rw [upd_ne (hm b _ q fun z => z)]; exact q, fun b u xs q => by rw [upd_ne (hm b _ q fun z => z)]; exact q, fun b ps q => ⟨#[], by rw [upd_ne (hm b _ q fun z => z), q]; simp⟩⟩
  by_cases hbe : b = e
  · subst hbe; exact heo
  · exact ⟨u, k b u hbe q⟩
end

/-! ### the heap without what is tracked -/
def trk (h : Heap) (H : Hp) : List Addr := (List.range h.objs.size).filter fun a => (H a).isSome
def hidT (h : Heap) (H : Hp) : Heap := PySem.W.hideAll h (trk h H)
theorem hidT_size (h : Heap) (H : Hp) : (hidT h H).objs.size = h.objs.size := PySem.W.hideAll_size _ _
theorem hidT_get {h : Heap} {H : Hp} {b : Addr} {o : Obj} (e : h.get? b = some o) (n : H b = none) : (hidT h H).get? b = some o :=
  PySem.W.hideAll_get _ e fun hm => by
    have q : (H b).isSome = true := (List.mem_filter.mp hm).2
    rw [n] at q; simp at q
theorem of_hidT {h : Heap} {H : Hp} {b : Addr} {o : Obj} (e : (hidT h H).get? b = some o) : h.get? b = some o ∧ H b = none := by
  have e' : h.get? b = some o := PySem.W.of_hideAll (trk h H) e
  refine ⟨e', ?_⟩
  cases q : H b with
  | none => rfl
  | some x =>
    have hm : b ∈ trk h H := List.mem_filter.mpr ⟨List.mem_range.mpr (Heap.lt_size e'), by simp [q]⟩
    have z : (hidT h H).get? b = none := PySem.W.hideAll_none (trk h H) hm
    rw [z] at e; cases e

/-! ### OpenK's ledger, filled with every new object but one -/
end L2

namespace L2
open PySem PySem.Spec PyProof.Rows

/-- the module's facts, over the base: the heap at the law's entry without what is tracked there -/
structure Mod (K : PySem.W.Frag) (mg : Str → Option Value) (base : Heap) : Prop where
  kin : K.In base
  glob : base.Ns mainGlobals mg
  blt : ∃ mb, base.Ns builtinsNs mb ∧ ∀ x : Str, x ≠ "__name__" → mb x = bootBuiltins x
  nolimit : base.NoLimit

/-- the context: a def's body (or a comprehension's block) running. base: fixed through the whole law; s₀, H₀: the entry; outer: the frames whose slots others may change (a def's callers); stack: all frames that run;
   ex: iterators that were made ahead of the entry and are walked here (a comprehension's); fn: the names whose cells were made at the entry (a def: all; a comprehension's block: its own); calm: not within an except suite; pn: pins that every state bears; xe: what is wanted of an exception that leaves the code -/
structure Cx where
  prog : Program
  w : World
  K : PySem.W.Frag
  mg : Str → Option Value
  base : Heap
  A : Around
  N : List Str
  s₀ : Shared
  H₀ : Hp
  env : Env
  outer : List Env
  stack : List Env
  ex : List Addr
  fn : Str → Bool
  calm : Bool
  pn : List (Addr × Obj)
  xe : Value → Shared → Prop
/-- the callers' frames -/
def frs (l : List Env) : List Addr := l.filterMap (·.frame)
abbrev Cx.fs (X : Cx) : List Addr := frs X.outer

def Vis (sc : Scope) (x : Str) : Prop := sc.names.lookup x = some .local ∨ sc.names.lookup x = some .cell ∨ sc.names.lookup x = some .free
def Loc (sc : Scope) (x : Str) : Prop := sc.names.lookup x = some .local ∨ sc.names.lookup x = some .cell
def Look (env : Env) (h : Heap) (m : Str → Option Value) (x : Str) (u : Value) : Prop :=
  (env.kindOf x = some .local ∧ m x = some u) ∨ ((env.kindOf x = some .cell ∨ env.kindOf x = some .free) ∧ ∃ c, env.cells.lookup x = some c ∧ h.IsCell c (some u))

structure Cx.Ok (X : Cx) : Prop where
  mod : Mod X.K X.mg X.base
  kind : X.env.scope.kind = .function
  glob : X.env.globals = mainGlobals
  blt : X.env.builtins = builtinsNs
  above : X.s₀.heap.objs.size ≤ X.env.locals
  inj : ∀ x y c, X.env.cells.lookup x = some c → X.env.cells.lookup y = some c → x = y
  has : ∀ x, (X.env.kindOf x = some .cell ∨ X.env.kindOf x = some .free) → ∃ c, X.env.cells.lookup x = some c
  cab : ∀ x c, X.fn x = true → X.env.cells.lookup x = some c → X.s₀.heap.objs.size ≤ c
  hd : X.calm = true → X.A.handled = none
  frames : X.A.frames = some X.stack
  stk : X.stack = X.outer ∨ (X.stack = X.env :: X.outer ∧ X.env.frame = some X.env.locals)
  exf : ∀ b ∈ X.ex, b ≠ X.env.locals ∧ ∀ x c, X.env.cells.lookup x = some c → c ≠ b
  bs : ∀ b o, X.base.get? b = some o → X.s₀.heap.get? b = some o ∧ X.H₀ b = none
  bsz : X.base.objs.size ≤ X.s₀.heap.objs.size
  noex : ∀ b o, X.base.get? b = some o → b ∉ X.ex
  exfs : ∀ b ∈ X.ex, b ∉ X.fs
  funs : X.s₀.heap.FunFrames X.base X.outer
  frf : ∀ b ∈ X.fs, X.H₀ b = none

structure Inv (X : Cx) (pins : List (Addr × Obj)) (σ : List (Option V)) (H : Hp) (s : Shared) : Prop where
  ok : X.Ok
  os : s.os = X.s₀.os
  bare : AllBare s.gens
  base : Un X.fs X.ex X.H₀ H X.s₀.heap s.heap
  loc : ∃ m, s.heap.Ns X.env.locals m ∧ ∀ (i : Nat) (x : Str) (v : V), X.N[i]? = some x → σ[i]? = some (some v) → Vis X.env.scope x → ∃ u, RelV v u ∧ Look X.env s.heap m x u
  cell : ∀ x c, X.env.cells.lookup x = some c → ∃ v, s.heap.IsCell c v
  free : H X.env.locals = none
  freeC : ∀ x c, X.env.cells.lookup x = some c → H c = none
  pin : ∀ p ∈ X.pn ++ pins, s.heap.get? p.1 = some p.2 ∧ H p.1 = none ∧ p.1 ≠ X.env.locals ∧ p.1 ∉ X.fs ∧ ∀ v, p.2.data ≠ .cell v
  hok : HOk X.prog X.w H s.heap
  len : σ.length = X.N.length

section
variable {X : Cx} {pins : List (Addr × Obj)} {σ : List (Option V)} {H H' : Hp} {s : Shared} {h' : Heap}

theorem Cx.Ok.nofr (ok : X.Ok) {b : Addr} {o : Obj} (e : X.base.get? b = some o) : b ∉ X.fs := fun hb => by
  have := (ok.funs.mem hb).1
  rw [e] at this; cases this
theorem Inv.bs (I : Inv X pins σ H s) : ∀ b o, X.base.get? b = some o → s.heap.get? b = some o ∧ H b = none := fun b o e =>
  ⟨I.base.keep b o (I.ok.bs b o e).1 (I.ok.bs b o e).2 (I.ok.nofr e) (I.ok.noex b o e), I.base.free b o (I.ok.bs b o e).1 (I.ok.bs b o e).2 (I.ok.noex b o e)⟩
theorem Inv.bk (I : Inv X pins σ H s) : ∀ b o, X.base.get? b = some o → s.heap.get? b = some o := fun b o e => (I.bs b o e).1
theorem Inv.mod (I : Inv X pins σ H s) : Mod X.K X.mg X.base := I.ok.mod
theorem Inv.kIn (I : Inv X pins σ H s) : X.K.In s.heap := I.ok.mod.kin.keeps I.bk
/-- the frame over the base: for OpenK's rules (K.In X.base is I.mod.kin) -/
theorem Inv.fr (I : Inv X pins σ H s) : ∃ m, Fr X.base X.env.locals s.heap m :=
  let ⟨m, hn, _⟩ := I.loc
  ⟨m, hn, I.bk, Nat.le_trans I.ok.bsz I.ok.above⟩
theorem Inv.lt (I : Inv X pins σ H s) : X.env.locals < s.heap.objs.size := let ⟨_, hn, _⟩ := I.loc; hn.lt
theorem Inv.sz (I : Inv X pins σ H s) : X.s₀.heap.objs.size ≤ s.heap.objs.size := Nat.le_trans I.ok.above (Nat.le_of_lt I.lt)
theorem Inv.nofs (I : Inv X pins σ H s) {a : Addr} (h : s.heap.objs.size ≤ a) : a ∉ X.fs := fun hb => by
  obtain ⟨_, o, ho, _⟩ := I.ok.funs.mem hb
  exact absurd (Nat.lt_of_lt_of_le (Heap.lt_size ho) (Nat.le_trans I.sz h)) (Nat.lt_irrefl _)
theorem Inv.cne (I : Inv X pins σ H s) : ∀ x c, X.env.cells.lookup x = some c → c ≠ X.env.locals := fun x c e z => by
  obtain ⟨v, o, ho, hd⟩ := I.cell x c e
  obtain ⟨m, ⟨o', es, ep, ho', hd', _⟩, _⟩ := I.loc
  rw [z, ho'] at ho; cases ho; rw [hd'] at hd; cases hd
theorem Inv.funs (I : Inv X pins σ H s) : s.heap.FunFrames X.base X.outer := by
  have all : ∀ (l : List Env), (∀ b ∈ frs l, b ∈ X.fs) → X.s₀.heap.FunFrames X.base l → s.heap.FunFrames X.base l := by
    intro l
    induction l with
    | nil => intro _ _; trivial
    | cons env r ih =>
      intro hs hl
      obtain ⟨hk, ⟨L, o, hf, hn, ho, hd⟩, hr⟩ := hl
      have hL : L ∈ X.fs := hs L (by unfold frs; rw [List.filterMap_cons, hf]; exact List.mem_cons_self)
      obtain ⟨sl, e⟩ := I.base.slot L o ho (I.ok.frf L hL) hL fun z => I.ok.exfs L z hL
      exact ⟨hk, ⟨L, _, hf, hn, e, hd⟩, ih (fun b hb => hs b (by unfold frs; rw [List.filterMap_cons, hf]; exact List.mem_cons_of_mem _ hb)) hr⟩
  exact all X.outer (fun _ hb => hb) I.ok.funs

/-- the frames that run, for a call -/
theorem Inv.stack (I : Inv X pins σ H s) : s.heap.FunFrames X.base X.stack := by
  rcases I.ok.stk with e | ⟨e, hf⟩
  · rw [e]; exact I.funs
  · rw [e]
    obtain ⟨m, hn, _⟩ := I.loc
    refine .cons (by rw [I.ok.kind]; decide) hf hn ?_ I.funs
    exact Heap.get?_none_of_le (Nat.le_trans I.ok.bsz I.ok.above)
theorem Inv.stkSub (I : Inv X pins σ H s) : ∀ b ∈ frs X.stack, b ∈ X.env.locals :: X.fs := fun b hb => by
  rcases I.ok.stk with e | ⟨e, hf⟩
  · rw [e] at hb; exact List.mem_cons_of_mem _ hb
  · rw [e] at hb
    unfold frs at hb
    rw [List.filterMap_cons, hf] at hb
    exact hb
theorem Inv.stkFree (I : Inv X pins σ H s) : ∀ b ∈ frs X.stack, H b = none := fun b hb => by
  rcases List.mem_cons.mp (I.stkSub b hb) with e | hb
  · rw [e]; exact I.free
  · obtain ⟨_, o, ho, _⟩ := I.ok.funs.mem hb
    exact I.base.free b o ho (I.ok.frf b hb) fun z => I.ok.exfs b z hb

/-- THE STEP: the untracked objects but the frame and the records at ch are kept (the callers' frames up to slots), the frame's map is kept, the new abstract heap is held -/
theorem Inv.step {g' : Array GenState} {t' : Nat} {d' : Drawn} {ch : List Addr} (I : Inv X pins σ H s)
    (hch : ∀ b ∈ ch, (b ∈ X.ex ∨ X.s₀.heap.objs.size ≤ b) ∧ b ≠ X.env.locals ∧ (∀ x c, X.env.cells.lookup x = some c → c ≠ b) ∧ ∀ p ∈ X.pn ++ pins, p.1 ≠ b)
    (keep : ∀ b o, b ≠ X.env.locals → b ∉ X.fs → b ∉ ch → s.heap.get? b = some o → H b = none → h'.get? b = some o)
    (slot : ∀ b o, b ≠ X.env.locals → b ∈ X.fs → b ∉ ch → s.heap.get? b = some o → H b = none → ∃ sl, h'.get? b = some { o with slots := sl }) (free : ∀ b o, b ∉ ch → s.heap.get? b = some o → H b = none → H' b = none)
    (there : ∀ b o, b ∉ ch → s.heap.get? b = some o → ∃ o', h'.get? b = some o')
    (tups : ∀ b xs, H b = some (.tup xs) → H' b = some (.tup xs)) (frzs : ∀ b o u, H b = some (.frz o u) → H' b = some (.frz o u)) (tbls : ∀ b ps, H b = some (.tbl ps) → ∃ more, H' b = some (.tbl (ps ++ more)))
    (ns : ∀ m, s.heap.Ns X.env.locals m → h'.Ns X.env.locals m) (hok : HOk X.prog X.w H' h') (hg : AllBare g') :
    Inv X pins σ H' { s with heap := h', gens := g', drawn := d', toks := t' } := by
  have neL : ∀ b o, X.s₀.heap.get? b = some o → b ≠ X.env.locals := fun b o e => Nat.ne_of_lt (Nat.lt_of_lt_of_le (Heap.lt_size e) I.ok.above)
  have neC : ∀ b o, X.s₀.heap.get? b = some o → b ∉ X.ex → b ∉ ch := fun b o e hx hb => by
    rcases (hch b hb).1 with z | z
    · exact hx z
    · exact absurd (Nat.lt_of_lt_of_le (Heap.lt_size e) z) (Nat.lt_irrefl _)
  have cellK : ∀ x c, X.env.cells.lookup x = some c → ∀ v, s.heap.IsCell c v → h'.IsCell c v := fun x c e v ⟨o, ho, hd⟩ => by
    have nch : c ∉ ch := fun z => (hch c z).2.2.1 x c e rfl
    by_cases hc : c ∈ X.fs
    · obtain ⟨sl, q⟩ := slot c o (I.cne x c e) hc nch ho (I.freeC x c e)
      exact ⟨_, q, hd⟩
    · exact ⟨o, keep c o (I.cne x c e) hc nch ho (I.freeC x c e), hd⟩
  refine ⟨I.ok, I.os, hg, ⟨fun b o e n hb hx => ?_, fun b o e n hb hx => ?_, fun b o e n hx => ?_, fun b o e hx => ?_, fun b xs e => tups b xs (I.base.tups b xs e), fun b o xs e => frzs b o xs (I.base.frzs b o xs e), fun b ps e => ?_⟩, ?_, fun x c e => ?_, ?_, fun x c e => ?_, fun p hp => ?_, hok, I.len⟩
  · exact keep b o (neL b o e) hb (neC b o e hx) (I.base.keep b o e n hb hx) (I.base.free b o e n hx)
  · obtain ⟨sl, e1⟩ := I.base.slot b o e n hb hx
    obtain ⟨sl', e2⟩ := slot b _ (neL b o e) hb (neC b o e hx) e1 (I.base.free b o e n hx)
    exact ⟨sl', e2⟩
  · obtain ⟨o', e1⟩ := I.base.there b o e hx
    exact free b o' (neC b o e hx) e1 (I.base.free b o e n hx)
  · obtain ⟨o', e1⟩ := I.base.there b o e hx
    exact there b o' (neC b o e hx) e1
  · obtain ⟨m1, e1⟩ := I.base.tbls b ps e
    obtain ⟨m2, e2⟩ := tbls b _ e1
    exact ⟨m1 ++ m2, by rw [e2, Array.append_assoc]⟩
  · obtain ⟨m, hn, hl⟩ := I.loc
    refine ⟨m, ns m hn, fun i x v e1 e2 e3 => ?_⟩
    obtain ⟨u, r, l⟩ := hl i x v e1 e2 e3
    refine ⟨u, r, ?_⟩
    rcases l with l | ⟨k, c, e, z⟩
    · exact .inl l
    · exact .inr ⟨k, c, e, cellK x c e _ z⟩
  · obtain ⟨v, z⟩ := I.cell x c e
    exact ⟨v, cellK x c e v z⟩
  · obtain ⟨m, ⟨o, _, _, ho, _⟩, _⟩ := I.loc
    exact free _ o (fun z => (hch _ z).2.1 rfl) ho I.free
  · obtain ⟨v, o, ho, hd⟩ := I.cell x c e
    exact free c o (fun z => (hch c z).2.2.1 x c e rfl) ho (I.freeC x c e)
  · obtain ⟨e, n, ne, nf, d⟩ := I.pin p hp
    have nch : p.1 ∉ ch := fun z => (hch p.1 z).2.2.2 p hp rfl
    exact ⟨keep p.1 p.2 ne nf nch e n, free p.1 p.2 nch e n, ne, nf, d⟩
/-- .. where the frame's own object is kept too -/
theorem Inv.un {t' : Nat} (I : Inv X pins σ H s) (u : Un X.fs [] H H' s.heap h') (hok : HOk X.prog X.w H' h') : Inv X pins σ H' { s with heap := h', toks := t' } := by
  obtain ⟨m, ⟨o, es, ep, ho, r⟩, _⟩ := id I.loc
  obtain ⟨sl, hL⟩ := u.any ho I.free (by simp)
  exact I.step (g' := s.gens) (d' := s.drawn) (ch := []) (fun _ z => nomatch z) (fun b o _ hb _ e n => u.keep b o e n hb (by simp)) (fun b o _ hb _ e n => u.slot b o e n hb (by simp)) (fun b o _ e n => u.free b o e n (by simp)) (fun b o _ e => u.there b o e (by simp)) u.tups u.frzs u.tbls (fun m' hm => by
    obtain ⟨o', es', ep', ho', r'⟩ := hm
    rw [ho] at ho'; cases ho'
    exact ⟨_, es', ep', hL, r'⟩) hok I.bare
/-- behind a call (or a comprehension's block): the slots of this frame may have changed too, the records at ch may have turned -/
theorem Inv.call {g' : Array GenState} {t' : Nat} {d' : Drawn} {ch : List Addr} (I : Inv X pins σ H s) (u : Un (frs X.stack) ch H H' s.heap h') (hok : HOk X.prog X.w H' h') (hg : AllBare g')
    (hch : ∀ b ∈ ch, (b ∈ X.ex ∨ X.s₀.heap.objs.size ≤ b) ∧ b ≠ X.env.locals ∧ (∀ x c, X.env.cells.lookup x = some c → c ≠ b) ∧ ∀ p ∈ X.pn ++ pins, p.1 ≠ b) :
    Inv X pins σ H' { s with heap := h', gens := g', drawn := d', toks := t' } := by
  obtain ⟨m, ⟨o, es, ep, ho, r⟩, _⟩ := id I.loc
  obtain ⟨sl, hL⟩ := u.any ho I.free fun z => (hch _ z).2.1 rfl
  exact I.step (ch := ch) hch (fun b o hL hb hc e n => u.keep b o e n (fun z => (List.mem_cons.mp (I.stkSub b z)).elim hL hb) hc) (fun b o _ _ hc e n => u.any e n hc) (fun b o hc e n => u.free b o e n hc) (fun b o hc e => u.there b o e hc) u.tups u.frzs u.tbls (fun m' hm => by
    obtain ⟨o', es', ep', ho', r'⟩ := hm
    rw [ho] at ho'; cases ho'
    exact ⟨_, es', ep', hL, r'⟩) hok hg
/-- an untracked record of ours (an iterator) has turned -/
theorem Inv.turned {t' : Nat} {it : Addr} (I : Inv X pins σ H s) (k : ∀ b o, b ≠ it → s.heap.get? b = some o → h'.get? b = some o) (hn : H it = none) (hL : it ≠ X.env.locals)
    (h1 : it ∈ X.ex ∨ X.s₀.heap.objs.size ≤ it) (h2 : ∀ x c, X.env.cells.lookup x = some c → c ≠ it) (h3 : ∀ p ∈ X.pn ++ pins, p.1 ≠ it) : Inv X pins σ H { s with heap := h', toks := t' } := by
  have nit : ∀ b u, H b = some u → b ≠ it := fun b u e z => by rw [z, hn] at e; cases e
  refine I.step (g' := s.gens) (d' := s.drawn) (ch := [it]) (fun b hb => ?_) (fun b o _ _ hc e _ => k b o (fun z => hc (by simp [z])) e) (fun b o _ _ hc e _ => ⟨o.slots, k b o (fun z => hc (by simp [z])) e⟩) (fun _ _ _ _ n => n)
    (fun b o hc e => ⟨o, k b o (fun z => hc (by simp [z])) e⟩) (fun _ _ e => e) (fun _ _ _ e => e) (fun b ps e => ⟨#[], by rw [e]; simp⟩) (fun m hm => ?_) (fun b u e => ?_) I.bare
  · have e : b = it := by simpa using hb
    subst e
    exact ⟨h1, hL, h2, h3⟩
  · obtain ⟨o, es, ep, ho, r⟩ := hm
    exact ⟨o, es, ep, k _ o (Ne.symm hL) ho, r⟩
  · refine (I.hok b u e).stay (fun c v hc q => k c v ?_ q) (fun _ q => q) fun _ _ q => q
    rcases hc with z | z
    · rw [z]; exact nit b u e
    · exact nit c _ z
theorem Inv.tok (I : Inv X pins σ H s) (t : Nat) : Inv X pins σ H { s with toks := t } := I.un (h' := s.heap) (t' := t) Un.refl I.hok
/-- all objects kept -/
theorem Inv.kept {t' : Nat} (I : Inv X pins σ H s) (k : ∀ b u, s.heap.get? b = some u → h'.get? b = some u) : Inv X pins σ H { s with heap := h', toks := t' } := I.un (Un.kept k) (I.hok.kept k)
/-- a new object laid and tracked -/
theorem Inv.laid {a : Addr} {o : HO} {t' : Nat} (I : Inv X pins σ H s) (k : ∀ b u, s.heap.get? b = some u → h'.get? b = some u) (hp : s.heap.objs.size ≤ a) (new : ObjOk X.prog X.w (upd H a o) h' a o) :
    Inv X pins σ (upd H a o) { s with heap := h', toks := t' } := I.un (Un.laid k hp (I.hok.fresh hp)) (I.hok.laid k hp new)
/-- an object written -/
theorem Inv.write {x e : Addr} {o : HO} {t' : Nat} (I : Inv X pins σ H s) (mu : Mut (H x)) (he : e = x ∨ H e = some (.own x)) (k : ∀ b u, b ≠ e → s.heap.get? b = some u → h'.get? b = some u) (heo : ∃ u, h'.get? e = some u)
    (new : ObjOk X.prog X.w (upd H x o) h' x o) : Inv X pins σ (upd H x o) { s with heap := h', toks := t' } := I.un (Un.write mu he k heo) (I.hok.write mu he k heo new)
/-- forgetting slots, pins -/
theorem Inv.weak {σ' : List (Option V)} (I : Inv X pins σ H s) (hl : σ'.length = σ.length) (w : ∀ (i : Nat) v, σ'[i]? = some (some v) → σ[i]? = some (some v)) : Inv X pins σ' H s :=
  ⟨I.ok, I.os, I.bare, I.base, let ⟨m, hn, hl'⟩ := I.loc; ⟨m, hn, fun i x v e1 e2 e3 => hl' i x v e1 (w i v e2) e3⟩, I.cell, I.free, I.freeC, I.pin, I.hok, hl.trans I.len⟩
theorem Inv.pins_of {pins' : List (Addr × Obj)} (I : Inv X pins σ H s) (h : ∀ p ∈ pins', s.heap.get? p.1 = some p.2 ∧ H p.1 = none ∧ p.1 ≠ X.env.locals ∧ p.1 ∉ X.fs ∧ ∀ v, p.2.data ≠ .cell v) : Inv X pins' σ H s :=
  ⟨I.ok, I.os, I.bare, I.base, I.loc, I.cell, I.free, I.freeC, fun p hp => (List.mem_append.mp hp).elim (fun z => I.pin p (List.mem_append_left _ z)) (h p), I.hok, I.len⟩

theorem nodup_ix {N : List Str} (hN : N.Nodup) {i j : Nat} {x : Str} (a : N[i]? = some x) (b : N[j]? = some x) : i = j := by
  obtain ⟨h1, e1⟩ := List.getElem?_eq_some_iff.mp a
  obtain ⟨h2, e2⟩ := List.getElem?_eq_some_iff.mp b
  exact (List.getElem_inj hN).mp (e1.trans e2.symm)

/-- a name is stored; what changed -/
theorem store_ok2 {M : Model} {A : Around} {E : Value → Shared → Prop} {i : Nat} {x : Str} {v : V} {u : Value} {Q : Unit → Shared → Prop} (I : Inv X pins σ H s) (hN : X.N.Nodup) (hi : X.N[i]? = some x) (hx : Loc X.env.scope x) (r : RelV v u)
    (h : ∀ s', Inv X pins (σ.set i (some v)) H s' → (∃ a, Heap.SameBut a s.heap s'.heap ∧ (a = X.env.locals ∨ X.env.cells.lookup x = some a)) → Q () s') (hf : X.fn x = true ∨ X.env.scope.names.lookup x = some .local := by first | exact .inl rfl | exact .inr rfl | assumption) : wpAny M A (storeName X.env x u) Q E s := by
  obtain ⟨m, hn, hl⟩ := id I.loc
  have hcls : (X.env.scope.kind == .class || (X.env.scope.kind == .module && X.env.locals != X.env.globals)) = false := by rw [I.ok.kind]; rfl
  have hiσ : i < σ.length := by rw [I.len]; exact (List.getElem?_eq_some_iff.mp hi).1
  have cne := I.cne
  have tracked : ∀ {a : Addr} {h' : Heap}, (∃ o, s.heap.get? a = some o ∧ H a = none) → Heap.SameBut a s.heap h' → HOk X.prog X.w H h' := fun {a h'} ha hs b ob e => by
    obtain ⟨_, _, hfree⟩ := ha
    refine (I.hok b ob e).stay (fun c w' hc q => (hs.2 c ?_).trans q) (fun _ q => q) fun _ _ q => q
    rintro rfl
    rcases hc with rfl | hc
    · rw [hfree] at e; cases e
    · rw [hfree] at hc; cases hc
  rcases hx with hk | hk
  · refine wpAny_storeName_local hk hn (fun h' hn' hs => ?_) hcls
    obtain ⟨oL, _, _, hoL, _⟩ := id hn
    refine h _ ⟨I.ok, I.os, I.bare, ⟨fun b o e n hb hx => ?_, fun b o e n hb hx => ?_, I.base.free, fun b o e hx => ?_, I.base.tups, I.base.frzs, I.base.tbls⟩, ⟨_, hn', fun j y v' e1 e2 e3 => ?_⟩, fun y c e => ?_, I.free, I.freeC, fun p hp => ?_, tracked ⟨oL, hoL, I.free⟩ hs, by simpa using I.len⟩ ⟨_, hs, .inl rfl⟩
    · exact (hs.2 b (Nat.ne_of_lt (Nat.lt_of_lt_of_le (Heap.lt_size e) I.ok.above))).trans (I.base.keep b o e n hb hx)
    · obtain ⟨sl, e1⟩ := I.base.slot b o e n hb hx
      exact ⟨sl, (hs.2 b (Nat.ne_of_lt (Nat.lt_of_lt_of_le (Heap.lt_size e) I.ok.above))).trans e1⟩
    · obtain ⟨o', e1⟩ := I.base.there b o e hx
      exact ⟨o', (hs.2 b (Nat.ne_of_lt (Nat.lt_of_lt_of_le (Heap.lt_size e) I.ok.above))).trans e1⟩
    · by_cases hj : j = i
      · subst hj
        rw [hi] at e1; cases e1
        rw [List.getElem?_set_self hiσ] at e2
        cases e2
        exact ⟨u, r, .inl ⟨hk, by simp⟩⟩
      · rw [List.getElem?_set_ne (Ne.symm hj)] at e2
        obtain ⟨u', r', q⟩ := hl j y v' e1 e2 e3
        refine ⟨u', r', ?_⟩
        rcases q with ⟨k, e⟩ | ⟨k, c, e, z⟩
        · refine .inl ⟨k, ?_⟩
          have : y ≠ x := fun e => hj (nodup_ix hN e1 (e ▸ hi))
          simp [this, e]
        · exact .inr ⟨k, c, e, z.sameBut hs (cne y c e)⟩
    · obtain ⟨w', z⟩ := I.cell y c e
      exact ⟨w', z.sameBut hs (cne y c e)⟩
    · obtain ⟨e, n, ne, nf, d⟩ := I.pin p hp
      exact ⟨(hs.2 p.1 ne).trans e, n, ne, nf, d⟩
  · have hfn : X.fn x = true := by
      rcases hf with z | z
      · exact z
      · rw [z] at hk; cases hk
    obtain ⟨c, hc⟩ := I.ok.has x (.inl hk)
    obtain ⟨w', z⟩ := I.cell x c hc
    refine wpAny_storeName_cell I.ok.kind hk hc z (fun h' hc' hs => ?_)
    obtain ⟨oc, hoc, hocd⟩ := id z
    refine h { s with heap := h' } ⟨I.ok, I.os, I.bare, ⟨fun b o e n hb hx => ?_, fun b o e n hb hx => ?_, I.base.free, fun b o e hx => ?_, I.base.tups, I.base.frzs, I.base.tbls⟩, ⟨m, hn.sameBut hs (Ne.symm (cne x c hc)), fun j y v' e1 e2 e3 => ?_⟩, fun y c' e => ?_, I.free, I.freeC, fun p hp => ?_, tracked ⟨oc, hoc, I.freeC x c hc⟩ hs, by simpa using I.len⟩ ⟨c, hs, .inr hc⟩
    · exact (hs.2 b (Nat.ne_of_lt (Nat.lt_of_lt_of_le (Heap.lt_size e) (I.ok.cab x c hfn hc)))).trans (I.base.keep b o e n hb hx)
    · obtain ⟨sl, e1⟩ := I.base.slot b o e n hb hx
      exact ⟨sl, (hs.2 b (Nat.ne_of_lt (Nat.lt_of_lt_of_le (Heap.lt_size e) (I.ok.cab x c hfn hc)))).trans e1⟩
    · obtain ⟨o', e1⟩ := I.base.there b o e hx
      exact ⟨o', (hs.2 b (Nat.ne_of_lt (Nat.lt_of_lt_of_le (Heap.lt_size e) (I.ok.cab x c hfn hc)))).trans e1⟩
    · by_cases hj : j = i
      · subst hj
        rw [hi] at e1; cases e1
        rw [List.getElem?_set_self hiσ] at e2
        cases e2
        exact ⟨u, r, .inr ⟨.inl hk, c, hc, hc'⟩⟩
      · rw [List.getElem?_set_ne (Ne.symm hj)] at e2
        obtain ⟨u', r', q⟩ := hl j y v' e1 e2 e3
        refine ⟨u', r', ?_⟩
        rcases q with q | ⟨k, c', e, z'⟩
        · exact .inl q
        · refine .inr ⟨k, c', e, z'.sameBut hs ?_⟩
          rintro rfl
          exact hj (nodup_ix hN e1 (I.ok.inj _ _ _ e hc ▸ hi))
    · by_cases hcc : c' = c
      · subst hcc; exact ⟨_, hc'⟩
      · obtain ⟨w2, z2⟩ := I.cell y c' e
        exact ⟨w2, z2.sameBut hs hcc⟩
    · obtain ⟨e, n, ne, nf, d⟩ := I.pin p hp
      refine ⟨(hs.2 p.1 ?_).trans e, n, ne, nf, d⟩
      intro q
      rw [q, hoc] at e
      have q' : oc = p.2 := Option.some.inj e
      exact d w' (by rw [← q']; exact hocd)
theorem store_ok {M : Model} {A : Around} {E : Value → Shared → Prop} {i : Nat} {x : Str} {v : V} {u : Value} {Q : Unit → Shared → Prop} (I : Inv X pins σ H s) (hN : X.N.Nodup) (hi : X.N[i]? = some x) (hx : Loc X.env.scope x) (r : RelV v u)
    (h : ∀ s', Inv X pins (σ.set i (some v)) H s' → Q () s') (hf : X.fn x = true ∨ X.env.scope.names.lookup x = some .local := by first | exact .inl rfl | exact .inr rfl | assumption) : wpAny M A (storeName X.env x u) Q E s :=
  store_ok2 I hN hi hx r (fun s' I' _ => h s' I') hf
/-- behind a call or a block, the state as it is -/
theorem Inv.call' {s' : Shared} {ch : List Addr} (I : Inv X pins σ H s) (ho : s'.os = s.os) (u : Un (frs X.stack) ch H H' s.heap s'.heap) (hok : HOk X.prog X.w H' s'.heap) (hg : AllBare s'.gens)
    (hch : ∀ b ∈ ch, (b ∈ X.ex ∨ X.s₀.heap.objs.size ≤ b) ∧ b ≠ X.env.locals ∧ (∀ x c, X.env.cells.lookup x = some c → c ≠ b) ∧ ∀ p ∈ X.pn ++ pins, p.1 ≠ b) : Inv X pins σ H' s' := by
  obtain ⟨h', g', d', t', o'⟩ := s'
  have e : o' = s.os := ho
  subst e
  exact I.call (g' := g') (t' := t') (d' := d') u hok hg hch
end

/-! ### the judgements -/
/-- an exception: its class, its own dict's address (where it has one), the abstract heap behind it -/
abbrev XK := Value → Option Addr → Hp → Prop
abbrev St := List (Option V)
abbrev VK := V → Hp → Prop
/-- an expression's reading; a test's; an argument list's -/
abbrev TE := St → Hp → VK → Prop
abbrev TT := St → Hp → (Bool → Hp → Prop) → Prop
abbrev TA := St → Hp → (List V → Hp → Prop) → Prop
/-- what is wanted behind a statement -/
structure Ends where
  nx : St → Hp → Prop
  rt : VK
  bk : St → Hp → Prop := fun _ _ => False
  ct : St → Hp → Prop := fun _ _ => False
abbrev TS := Ends → St → Hp → Prop

def EP (X : Cx) (pins : List (Addr × Obj)) (σ : St) (Q : VK) (u : Value) (s' : Shared) : Prop := ∃ v H', Inv X pins σ H' s' ∧ RelV v u ∧ Q v H'
def TP (X : Cx) (pins : List (Addr × Obj)) (σ : St) (Q : Bool → Hp → Prop) (b : Bool) (s' : Shared) : Prop := ∃ H', Inv X pins σ H' s' ∧ Q b H'
def AP (X : Cx) (pins : List (Addr × Obj)) (σ : St) (Q : List V → Hp → Prop) (us : List Value) (s' : Shared) : Prop := ∃ vs H', Inv X pins σ H' s' ∧ Vals vs us ∧ Q vs H'
def SP (X : Cx) (pins : List (Addr × Obj)) (D : Ends) (f : Flow) (s' : Shared) : Prop :=
  match f with
  | .next => ∃ σ' H', Inv X pins σ' H' s' ∧ D.nx σ' H'
  | .brk => ∃ σ' H', Inv X pins σ' H' s' ∧ D.bk σ' H'
  | .cont => ∃ σ' H', Inv X pins σ' H' s' ∧ D.ct σ' H'
  | .ret u => ∃ v σ' H', Inv X pins σ' H' s' ∧ RelV v u ∧ D.rt v H'

def PE (X : Cx) (e : Expr) (t : TE) : Prop :=
  ∀ (pins : List (Addr × Obj)) (s : Shared) (σ : St) (H : Hp) (Q : VK), Inv X pins σ H s → t σ H Q → wpAny (model X.prog X.w) X.A (eval e X.env) (EP X pins σ Q) X.xe s
def PT (X : Cx) (e : Expr) (t : TT) : Prop :=
  ∀ (pins : List (Addr × Obj)) (s : Shared) (σ : St) (H : Hp) (Q : Bool → Hp → Prop), Inv X pins σ H s → t σ H Q → wpAny (model X.prog X.w) X.A (isTrue e X.env (eval e X.env)) (TP X pins σ Q) X.xe s
/-- a test whatever its 'whole' is (and, or) -/
def PW (X : Cx) (e : Expr) (t : TT) : Prop :=
  ∀ (whole : Sem Value) (pins : List (Addr × Obj)) (s : Shared) (σ : St) (H : Hp) (Q : Bool → Hp → Prop), Inv X pins σ H s → t σ H Q → wpAny (model X.prog X.w) X.A (isTrue e X.env whole) (TP X pins σ Q) X.xe s
theorem PW.pt {X : Cx} {e : Expr} {t : TT} (h : PW X e t) : PT X e t := h _
/-- an argument list (no star), from the left -/
def PA (X : Cx) (es : List Expr) (t : TA) : Prop :=
  ∀ (pos : Pos) (pins : List (Addr × Obj)) (s : Shared) (σ : St) (H : Hp) (Q : List V → Hp → Prop), Inv X pins σ H s → t σ H Q → wpAny (model X.prog X.w) X.A (spliced (backTo pos (starEach es X.env))) (AP X pins σ Q) X.xe s
def PS (X : Cx) (st : Stmt) (t : TS) : Prop :=
  ∀ (pins : List (Addr × Obj)) (s : Shared) (σ : St) (H : Hp) (D : Ends), Inv X pins σ H s → t D σ H → wpAny (model X.prog X.w) X.A (exec st X.env) (SP X pins D) X.xe s
def PSs (X : Cx) (st : List Stmt) (t : TS) : Prop :=
  ∀ (pins : List (Addr × Obj)) (s : Shared) (σ : St) (H : Hp) (D : Ends), Inv X pins σ H s → t D σ H → wpAny (model X.prog X.w) X.A (execs st X.env) (SP X pins D) X.xe s
/-- weaken the end -/
theorem thn {α : Type} {t : Sem α} {Q Q' : α → Shared → Prop} {M : Model} {A : Around} {E : Value → Shared → Prop} {s : Shared} (h : wpAny M A t Q E s) (hQ : ∀ a s, Q a s → Q' a s) : wpAny M A t Q' E s := wpAny_mono h hQ fun _ _ x => x
end L2

namespace L2
open PySem PySem.Spec PyProof.Rows
section
variable {X : Cx}

/-- two expressions in a row -/
theorem bin {a b : Expr} {ta tb : TE} (ha : PE X a ta) (hb : PE X b tb) {pins : List (Addr × Obj)} {s : Shared} {σ : St} {H : Hp} {R : V → V → Hp → Prop} (I : Inv X pins σ H s) (h : ta σ H fun x H1 => tb σ H1 fun y H2 => R x y H2)
    {α : Type} {Q : α → Shared → Prop} {f : Value → Value → Sem α}
    (hf : ∀ v u s2 x y H2, Inv X pins σ H2 s2 → RelV x v → RelV y u → R x y H2 → wpAny (model X.prog X.w) X.A (f v u) Q X.xe s2) :
    wpAny (model X.prog X.w) X.A (eval a X.env) (fun v s₁ => wpAny (model X.prog X.w) X.A (eval b X.env) (fun u s₂ => wpAny (model X.prog X.w) X.A (f v u) Q X.xe s₂) X.xe s₁) X.xe s := by
  refine thn (ha pins s σ H _ I h) fun v s1 ⟨x, H1, I1, r1, q1⟩ => ?_
  refine thn (hb pins s1 σ H1 _ I1 q1) fun u s2 ⟨y, H2, I2, r2, q2⟩ => ?_
  exact hf v u s2 x y H2 I2 r1 r2 q2

/-! ### names and constants -/
def tVar (i : Nat) : TE := fun σ H Q => ∃ v, σ[i]? = some (some v) ∧ Q v H
def tC (v : V) : TE := fun _ H Q => Q v H
theorem pe_var {i : Nat} {x : Str} {pos : Pos} (hN : X.N[i]? = some x) (hv : Vis X.env.scope x) (hd : (x == ("__debug__" : Str)) = false := by decide) (hcd : (x == ("__classdict__" : Str)) = false := by decide) : PE X (.Name x pos) (tVar i) := by
  intro pins s σ H Q I h
  obtain ⟨v, e, h⟩ := h
  obtain ⟨m, hn, hl⟩ := I.loc
  obtain ⟨u, r, l⟩ := hl i x v hN e hv
  have fin : EP X pins σ Q u s := ⟨v, H, I, r, h⟩
  rcases l with ⟨hk, hm⟩ | ⟨hk, c, hc, hcell⟩
  · exact wpAny_Name (wpAny_loadName_local I.ok.kind hk hn hm fin) hd
  · rcases hk with hk | hk
    · exact wpAny_Name (wpAny_loadName_cell I.ok.kind hk hc hcell fin) hd
    · exact wpAny_Name (wpAny_loadName_free I.ok.kind hk hc hcell fin hcd) hd
theorem pe_int {i j pos} : PE X (.Constant (.int i) j pos) (tC (.int i)) := fun _ _ _ H _ I h => wpAny_Constant_int ⟨.int i, H, I.tok _, ⟨_, rfl⟩, h⟩
theorem pe_bl {b j pos} : PE X (.Constant (.bool b) j pos) (tC (.bl b)) := fun _ _ _ H _ I h => Constant_bool ⟨.bl b, H, I, rfl, h⟩
theorem pe_str {x j pos} : PE X (.Constant (.str x) j pos) (tC (.str x)) := fun _ _ _ H _ I h => Calls.Constant_str ⟨.str x, H, I.tok _, ⟨_, rfl⟩, h⟩

/-- a global name of the def -/
def Gl (X : Cx) (x : Str) : Prop := X.env.kindOf x = some .globalImplicit
theorem ld_glob {E : Value → Shared → Prop} {pins : List (Addr × Obj)} {s : Shared} {σ : St} {H : Hp} {x : Str} {u : Value} {pos : Pos} {Q : Value → Shared → Prop} (I : Inv X pins σ H s) (hg : Gl X x) (hm : X.mg x = some u) (h : Q u s)
    (hd : (x == ("__debug__" : Str)) = false := by decide) : wpAny (model X.prog X.w) X.A (eval (.Name x pos) X.env) Q E s :=
  Calls.Name_function_global I.ok.kind hg (Calls.loadGlobal_global (by rw [I.ok.glob]; exact I.mod.glob.keeps I.bk) hm h) hd
theorem ld_blt {E : Value → Shared → Prop} {pins : List (Addr × Obj)} {s : Shared} {σ : St} {H : Hp} {x : Str} {u : Value} {pos : Pos} {Q : Value → Shared → Prop} (I : Inv X pins σ H s) (hg : Gl X x) (hm : X.mg x = none) (hv : bootBuiltins x = some u) (h : Q u s)
    (hn : x ≠ "__name__" := by decide) (hd : (x == ("__debug__" : Str)) = false := by decide) : wpAny (model X.prog X.w) X.A (eval (.Name x pos) X.env) Q E s := by
  obtain ⟨mb, h1, h2⟩ := I.mod.blt
  exact Calls.Name_function_global I.ok.kind hg (Calls.loadGlobal_builtin (by rw [I.ok.glob]; exact I.mod.glob.keeps I.bk) hm (by rw [I.ok.blt]; exact h1.keeps I.bk) ((h2 x hn).trans hv) h) hd
/-- a module's constant, a class, a function, as a value -/
theorem pe_glob {x : Str} {v : V} {u : Value} {pos : Pos} (hg : Gl X x) (hm : X.mg x = some u) (r : RelV v u) (hd : (x == ("__debug__" : Str)) = false := by decide) : PE X (.Name x pos) (tC v) :=
  fun _ _ _ H _ I h => ld_glob I hg hm ⟨v, H, I, r, h⟩ hd
theorem pe_bltn {x : Str} {v : V} {u : Value} {pos : Pos} (hg : Gl X x) (hm : X.mg x = none) (hv : bootBuiltins x = some u) (r : RelV v u) (hn : x ≠ "__name__" := by decide) (hd : (x == ("__debug__" : Str)) = false := by decide) : PE X (.Name x pos) (tC v) :=
  fun _ _ _ H _ I h => ld_blt I hg hm hv ⟨v, H, I, r, h⟩ hn hd

/-! ### arithmetic -/
/-- two ints -/
def t2I (ta tb : TE) (k : Int → Int → Hp → Prop) : St → Hp → Prop := fun σ H => ta σ H fun x H1 => tb σ H1 fun y H2 => ∃ i j, x = .int i ∧ y = .int j ∧ k i j H2
variable {a b : Expr} {ta tb : TE} {pos : Pos}
/-! ### comparisons -/
def tCmp (p : Int → Int → Bool) (ta tb : TE) : TE := fun σ H Q => t2I ta tb (fun i j H2 => Q (.bl (p i j)) H2) σ H
abbrev tLt : TE → TE → TE := tCmp fun i j => decide (i < j)
abbrev tLe : TE → TE → TE := tCmp fun i j => decide (i ≤ j)
abbrev tGt : TE → TE → TE := tCmp fun i j => decide (j < i)
abbrev tGe : TE → TE → TE := tCmp fun i j => decide (j ≤ i)
abbrev tEqI : TE → TE → TE := tCmp fun i j => decide (i = j)
abbrev tNeI : TE → TE → TE := tCmp fun i j => !decide (i = j)
/-! ### and, or, not -/
variable {tA tB' : TT} {rest : List Expr}
def tAnd (t u : TT) : TT := fun σ H Q => t σ H fun c H1 => if c = true then u σ H1 Q else Q false H1
def tOr (t u : TT) : TT := fun σ H Q => t σ H fun c H1 => if c = true then Q true H1 else u σ H1 Q
def tNot (t : TT) : TT := fun σ H Q => t σ H fun c H1 => Q (!c) H1
theorem pw_and1 (ha : PT X a tA) : PW X (.BoolOp .And [a] pos) tA := by
  intro wh pins s σ H Q I h
  refine isTrue_and (thn (ha pins s σ H Q I h) fun c s1 e => ?_)
  cases c with
  | true => exact isTrue_and_nil e
  | false => exact e
theorem pw_or1 (ha : PT X a tA) : PW X (.BoolOp .Or [a] pos) tA := by
  intro wh pins s σ H Q I h
  refine isTrue_or (thn (ha pins s σ H Q I h) fun c s1 e => ?_)
  cases c with
  | false => exact isTrue_or_nil e
  | true => exact e
theorem pw_and (ha : PT X a tA) (hb : PW X (.BoolOp .And (b :: rest) pos) tB') : PW X (.BoolOp .And (a :: b :: rest) pos) (tAnd tA tB') := by
  intro wh pins s σ H Q I h
  refine isTrue_and (thn (ha pins s σ H _ I h) fun c s1 ⟨H1, I1, q1⟩ => ?_)
  cases c with
  | true => exact hb wh pins s1 σ H1 Q I1 q1
  | false => exact ⟨H1, I1, q1⟩
theorem pw_or (ha : PT X a tA) (hb : PW X (.BoolOp .Or (b :: rest) pos) tB') : PW X (.BoolOp .Or (a :: b :: rest) pos) (tOr tA tB') := by
  intro wh pins s σ H Q I h
  refine isTrue_or (thn (ha pins s σ H _ I h) fun c s1 ⟨H1, I1, q1⟩ => ?_)
  cases c with
  | true => exact ⟨H1, I1, q1⟩
  | false => exact hb wh pins s1 σ H1 Q I1 q1
theorem pt_not (ha : PT X a tA) : PT X (.UnaryOp .Not a pos) (tNot tA) := by
  intro pins s σ H Q I h
  exact isTrue_not (ha pins s σ H (fun c H1 => Q (!c) H1) I h)
/-- a if t else b -/
def tIf (t : TT) (ta tb : TE) : TE := fun σ H Q => t σ H fun c H1 => if c = true then ta σ H1 Q else tb σ H1 Q
theorem pe_ifExp {c : Expr} (hc : PT X c tA) (ha : PE X a ta) (hb : PE X b tb) : PE X (.IfExp c a b pos) (tIf tA ta tb) := by
  intro pins s σ H Q I h
  refine wpAny_IfExp (thn (hc pins s σ H _ I h) fun d s1 ⟨H1, I1, q1⟩ => ?_)
  cases d with
  | true => exact ha pins s1 σ H1 Q I1 q1
  | false => exact hb pins s1 σ H1 Q I1 q1
end
end L2

namespace L2
open PySem PySem.Spec PyProof.Rows

/-! ### a list, a tuple that is read: tracked, frozen, or an object of the module -/
def SqL (K : PySem.W.Frag) (H : Hp) (a : Addr) (xs : List V) : Prop :=
  Rd H a (.lst xs) ∨
    ∃ (o : Obj) (its : Array Value) (n : Nat), K.lookup a = some o ∧ o.cls = .type "list" ∧ o.dict = none ∧ o.data = .seq its n ∧ its.size ≤ sizeLine ∧ Vals xs its.toList
def SqT (K : PySem.W.Frag) (H : Hp) (a : Addr) (xs : List V) : Prop :=
  Rd H a (.tup xs) ∨
    ∃ (o : Obj) (its : Array Value) (n : Nat), K.lookup a = some o ∧ o.cls = .type "tuple" ∧ o.data = .seq its n ∧ its.size ≤ sizeLine ∧ Vals xs its.toList
def absV : Value → Option V
  | .none => some .non
  | .bool b => some (.bl b)
  | .int i _ => some (.int i)
  | .str x _ => some (.str x)
  | .bytes b _ => some (.byt b)
  | .float b _ => some (.flt b)
  | .ref a => some (.ref a)
  | .type n => some (.ty n)
  | _ => none
theorem RelV.abs {x : V} {u : Value} (r : RelV x u) : absV u = some x := by
  cases x with
  | non => cases r; rfl
  | bl _ => cases r; rfl
  | int _ => obtain ⟨t, rfl⟩ := r; rfl
  | str _ => obtain ⟨t, rfl⟩ := r; rfl
  | byt _ => obtain ⟨t, rfl⟩ := r; rfl
  | flt _ => obtain ⟨t, rfl⟩ := r; rfl
  | ref _ => cases r; rfl
  | ty _ => cases r; rfl
theorem RelV.inj {x y : V} {u : Value} (r : RelV x u) (q : RelV y u) : x = y := Option.some.inj (r.abs.symm.trans q.abs)
theorem Vals.inj : ∀ {xs ys : List V} {us : List Value}, Vals xs us → Vals ys us → xs = ys
  | _, _, _, .nil, .nil => rfl
  | _, _, _, .cons r t, .cons r' t' => by rw [r.inj r', Vals.inj t t']
section
variable {X : Cx} {pins : List (Addr × Obj)} {σ : St} {H : Hp} {s : Shared} {a : Addr} {xs ys : List V}
theorem Inv.list (I : Inv X pins σ H s) (h : SqL X.K H a xs) : ∃ its : List Value, Vals xs its ∧ PlainL s.heap a its.toArray ∧ xs.length ≤ sizeLine := by
  rcases h with h | ⟨o, its, n, hk, hc, hd, hs, hz, r⟩
  · obtain ⟨z, its, n, r, e⟩ := h.ok I.hok
    exact ⟨its, r, ⟨_, n, e, rfl, rfl, rfl⟩, z⟩
  · refine ⟨its.toList, r, ⟨o, n, I.kIn a o hk, hc, hd, by simpa using hs⟩, ?_⟩
    have e := r.length
    simp only [Array.length_toList] at e
    omega
theorem Inv.tuple (I : Inv X pins σ H s) (h : SqT X.K H a xs) : ∃ its : List Value, Vals xs its ∧ IsTup s.heap a its.toArray ∧ xs.length ≤ sizeLine := by
  rcases h with h | ⟨o, its, n, hk, hc, hs, hz, r⟩
  · obtain ⟨z, its, r, p⟩ := h.ok I.hok
    exact ⟨its, r, p, z⟩
  · refine ⟨its.toList, r, ⟨o, I.kIn a o hk, hc, n, by simpa using hs⟩, ?_⟩
    have e := r.length
    simp only [Array.length_toList] at e
    omega
theorem Inv.list_inj (I : Inv X pins σ H s) (h : SqL X.K H a xs) (h' : SqL X.K H a ys) : xs = ys := by
  obtain ⟨its, r, ⟨o, n, e, _, _, d⟩, _⟩ := I.list h
  obtain ⟨its', r', ⟨o', n', e', _, _, d'⟩, _⟩ := I.list h'
  rw [e] at e'; cases e'
  rw [d] at d'
  injection d' with d1 _
  have : its = its' := by simpa using congrArg Array.toList d1
  subst this
  exact r.inj r'
theorem Inv.tuple_inj (I : Inv X pins σ H s) (h : SqT X.K H a xs) (h' : SqT X.K H a ys) : xs = ys := by
  obtain ⟨its, r, ⟨o, e, _, n, d⟩, _⟩ := I.tuple h
  obtain ⟨its', r', ⟨o', e', _, n', d'⟩, _⟩ := I.tuple h'
  rw [e] at e'; cases e'
  rw [d] at d'
  injection d' with d1 _
  have : its = its' := by simpa using congrArg Array.toList d1
  subst this
  exact r.inj r'
end

/-! ### another wish about exceptions -/
abbrev Cx.wish (X : Cx) (E : Value → Shared → Prop) : Cx := { X with xe := E }
/-- no exception leaves -/
abbrev Cx.nox (X : Cx) : Cx := X.wish fun _ _ => False
theorem Cx.Ok.wish {X : Cx} (ok : X.Ok) (E : Value → Shared → Prop) : (X.wish E).Ok :=
  ⟨ok.mod, ok.kind, ok.glob, ok.blt, ok.above, ok.inj, ok.has, ok.cab, ok.hd, ok.frames, ok.stk, ok.exf, ok.bs, ok.bsz, ok.noex, ok.exfs, ok.funs, ok.frf⟩
theorem Cx.Ok.unwish {X : Cx} {E : Value → Shared → Prop} (ok : (X.wish E).Ok) : X.Ok :=
  ⟨ok.mod, ok.kind, ok.glob, ok.blt, ok.above, ok.inj, ok.has, ok.cab, ok.hd, ok.frames, ok.stk, ok.exf, ok.bs, ok.bsz, ok.noex, ok.exfs, ok.funs, ok.frf⟩
section
variable {X : Cx} {pins : List (Addr × Obj)} {σ : St} {H : Hp} {s : Shared} {E : Value → Shared → Prop}
theorem Inv.wish (I : Inv X pins σ H s) (E : Value → Shared → Prop) : Inv (X.wish E) pins σ H s := ⟨I.ok.wish E, I.os, I.bare, I.base, I.loc, I.cell, I.free, I.freeC, I.pin, I.hok, I.len⟩
theorem Inv.unwish (I : Inv (X.wish E) pins σ H s) : Inv X pins σ H s := ⟨I.ok.unwish, I.os, I.bare, I.base, I.loc, I.cell, I.free, I.freeC, I.pin, I.hok, I.len⟩
theorem SP.unwish {D : Ends} {f : Flow} {s' : Shared} (h : SP (X.wish E) pins D f s') : SP X pins D f s' := by
  cases f with
  | next => obtain ⟨σ', H', I, q⟩ := h; exact ⟨σ', H', I.unwish, q⟩
  | brk => obtain ⟨σ', H', I, q⟩ := h; exact ⟨σ', H', I.unwish, q⟩
  | cont => obtain ⟨σ', H', I, q⟩ := h; exact ⟨σ', H', I.unwish, q⟩
  | ret u => obtain ⟨v, σ', H', I, r, q⟩ := h; exact ⟨v, σ', H', I.unwish, r, q⟩
theorem PSs.nox {st : List Stmt} {t : TS} (h : PSs X.nox st t) : PSs X st t := fun pins s σ H D I hw =>
  wpAny_mono (h pins s σ H D (I.wish _) hw) (fun _ _ q => q.unwish) fun _ _ z => False.elim z
end

/-! ### blocks and small statements -/
section
variable {X : Cx} {st : Stmt} {rest : List Stmt} {t u : TS} {e : Expr} {te : TE} {pos : Pos}
def tNext : TS := fun D σ H => D.nx σ H
def tSeq (t u : TS) : TS := fun D σ H => t { D with nx := u D } σ H
theorem pss_nil : PSs X [] tNext := fun _ _ σ H _ I h => wpAny_execs_nil ⟨σ, H, I, h⟩
theorem pss_cons (h1 : PS X st t) (h2 : PSs X rest u) : PSs X (st :: rest) (tSeq t u) := by
  intro pins s σ H D I h
  refine wpAny_execs_cons (thn (h1 pins s σ H { D with nx := u D } I h) fun f s1 q => ?_)
  cases f with
  | next =>
    obtain ⟨σ', H', I', q⟩ := q
    exact h2 pins s1 σ' H' D I' q
  | ret v => exact q
  | brk => exact q
  | cont => exact q
theorem pss_one (h1 : PS X st t) : PSs X [st] t := by
  intro pins s σ H D I h
  refine wpAny_execs_cons (thn (h1 pins s σ H D I h) fun f s1 q => ?_)
  cases f with
  | next => exact wpAny_execs_nil q
  | ret v => exact q
  | brk => exact q
  | cont => exact q
/-- in a def's body nothing is shown -/
theorem Inv.quiet {pins : List (Addr × Obj)} {σ : St} {H : Hp} {s : Shared} (I : Inv X pins σ H s) : interactive X.env = false := by simp [interactive, I.ok.kind]
/-- an expression whose value is dropped -/
def tDrop (te : TE) : TS := fun D σ H => te σ H fun _ H1 => D.nx σ H1
theorem ps_expr (he : PE X e te) (hs : swapsWith e none pos.line X.env = pure false := by rfl) : PS X (.Expr e pos) (tDrop te) := by
  intro pins s σ H D I h
  exact wpAny_Expr_any (thn (he pins s σ H _ I h) fun v s1 ⟨x, H1, I1, r1, q1⟩ => ⟨σ, H1, I1, q1⟩) I.quiet hs
def tRet (te : TE) : TS := fun D σ H => te σ H D.rt
theorem ps_ret (he : PE X e te) : PS X (.Return (some e) pos) (tRet te) := by
  intro pins s σ H D I h
  exact wpAny_Return_some (thn (he pins s σ H _ I h) fun v s1 ⟨x, H1, I1, r1, q1⟩ => ⟨x, σ, H1, I1, r1, q1⟩)
def tIfS (c : TT) (t u : TS) : TS := fun D σ H => c σ H fun b H1 => if b = true then t D σ H1 else u D σ H1
theorem ps_if {c : Expr} {a b : List Stmt} {tc : TT} (hc : PT X c tc) (ha : PSs X a t) (hb : PSs X b u) : PS X (.If c a b pos) (tIfS tc t u) := by
  intro pins s σ H D I h
  refine wpAny_If (thn (hc pins s σ H _ I h) fun d s1 ⟨H1, I1, q1⟩ => ?_)
  cases d with
  | true => exact ha pins s1 σ H1 D I1 q1
  | false => exact hb pins s1 σ H1 D I1 q1
end

/-! ### targets -/
abbrev TG := V → St → Hp → (St → Hp → Prop) → Prop
abbrev TGs := List V → St → Hp → (St → Hp → Prop) → Prop
def PG (X : Cx) (target : Expr) (t : TG) : Prop :=
  ∀ (pins : List (Addr × Obj)) (s : Shared) (σ : St) (H : Hp) (v : V) (u : Value) (Q : St → Hp → Prop), Inv X pins σ H s → RelV v u → t v σ H Q →
    wpAny (model X.prog X.w) X.A (assign target X.env u) (fun _ s' => ∃ σ' H', Inv X pins σ' H' s' ∧ Q σ' H') X.xe s
/-- several targets, one after another -/
def PGs (X : Cx) (ts : List Expr) (t : TGs) : Prop :=
  ∀ (pins : List (Addr × Obj)) (s : Shared) (σ : St) (H : Hp) (vs : List V) (us : List Value) (Q : St → Hp → Prop), Inv X pins σ H s → Vals vs us → t vs σ H Q →
    wpAny (model X.prog X.w) X.A (assignInOrder ((assignEach ts X.env).map (·.2)) us) (fun _ s' => ∃ σ' H', Inv X pins σ' H' s' ∧ Q σ' H') X.xe s
/-- o[i] = v, by values -/
abbrev TSet := V → V → V → Hp → (Hp → Prop) → Prop
def PSet (X : Cx) (t : TSet) : Prop :=
  ∀ (pins : List (Addr × Obj)) (s : Shared) (σ : St) (H : Hp) (o i v : V) (ov iv u : Value) (Q : Hp → Prop), Inv X pins σ H s → RelV o ov → RelV i iv → RelV v u → t o i v H Q →
    wpAny (model X.prog X.w) X.A (setItem ov iv u) (fun _ s' => ∃ H', Inv X pins σ H' s' ∧ Q H') X.xe s
/-- a op= b, by values -/
abbrev TIp := V → V → Hp → VK → Prop
section
variable {X : Cx} {pos : Pos}
def gName (i : Nat) : TG := fun v σ H Q => Q (σ.set i (some v)) H
theorem pg_name {i : Nat} {x : Str} (hN : X.N.Nodup) (hi : X.N[i]? = some x) (hx : Loc X.env.scope x) (hf : X.fn x = true ∨ X.env.scope.names.lookup x = some .local := by first | exact .inl rfl | exact .inr rfl | assumption) : PG X (.Name x pos) (gName i) := by
  intro pins s σ H v u Q I r h
  exact wpAny_assign_Name (store_ok I hN hi hx r (fun s' I' => ⟨_, H, I', h⟩) hf)
def gNil : TGs := fun vs σ H Q => vs = [] ∧ Q σ H
def gCons (t : TG) (u : TGs) : TGs := fun vs σ H Q => ∃ v r, vs = v :: r ∧ t v σ H fun σ' H' => u r σ' H' Q
theorem pgs_nil : PGs X [] gNil := by
  intro pins s σ H vs us Q I r h
  obtain ⟨e, h⟩ := h
  subst e
  cases r
  exact assignInOrder_nil ⟨σ, H, I, h⟩
theorem pgs_cons {e : Expr} {es : List Expr} {t : TG} {u : TGs} (h1 : PG X e t) (h2 : PGs X es u)
    (hs : (assignEach (e :: es) X.env).map (·.2) = assign e X.env :: (assignEach es X.env).map (·.2) := by rfl) : PGs X (e :: es) (gCons t u) := by
  intro pins s σ H vs us Q I r h
  obtain ⟨v, vr, e1, h⟩ := h
  subst e1
  cases r with
  | cons r rr =>
    rw [hs]
    refine assignInOrder_cons (thn (h1 pins s σ H _ _ _ I r h) fun _ s1 ⟨σ1, H1, I1, q1⟩ => ?_)
    exact h2 pins s1 σ1 H1 _ _ Q I1 rr q1
/-- (a, b, ..) = a tuple of that length -/
def gTup (K : PySem.W.Frag) (n : Nat) (t : TGs) : TG := fun v σ H Q => ∃ a xs, v = .ref a ∧ SqT K H a xs ∧ xs.length = n ∧ t xs σ H Q
theorem pg_tup {es : List Expr} {k : Nat} {t : TGs} {n : Nat} (hc : X.calm = true) (h : PGs X es t)
    (hn : (assignEach es X.env).length = n := by rfl) (hst : (assignEach es X.env).findIdx? (·.1) = none := by rfl) : PG X (.Tuple es k pos) (gTup X.K n t) := by
  intro pins s σ H v u Q I r hw
  obtain ⟨a, xs, e1, hq, hl, hw⟩ := hw
  subst e1
  cases r
  obtain ⟨its, rv, ht, hz⟩ := I.tuple hq
  refine assign_Tuple_tuple (I.ok.hd hc) ht (by simp [hn, ← hl, rv.length]) hst fun h' hx => ?_
  have I1 : Inv X pins σ H { s with heap := h' } := I.kept (t' := s.toks) fun b o e => hx b o (Nat.ne_of_lt (Heap.lt_size e)) e
  exact h pins _ σ H xs _ Q I1 (by simpa using rv) hw
/-- o[i] = .. -/
def gSub (to ti : TE) (t : TSet) : TG := fun v σ H Q => to σ H fun o H1 => ti σ H1 fun i H2 => t o i v H2 fun H3 => Q σ H3
theorem pg_sub {o i : Expr} {to ti : TE} {t : TSet} (ho : PE X o to) (hi : PE X i ti) (hs : PSet X t)
    (ha : ∀ v, assign (.Subscript o i pos) X.env v = (do
      let ov ← holding [v] (eval o X.env)
      let iv ← holding [v, ov] (eval i X.env)
      standAt pos
      holding [v, ov, iv] (setItem ov iv v)
      release [v, ov, iv] []) := by intro _; rfl) : PG X (.Subscript o i pos) (gSub to ti t) := by
  intro pins s σ H v u Q I r h
  rw [ha]
  refine wpAny_bind (wpAny_holding (thn (ho pins s σ H _ I h) fun ov s1 ⟨x, H1, I1, r1, q1⟩ => ?_))
  refine wpAny_bind (wpAny_holding (thn (hi pins s1 σ H1 _ I1 q1) fun iv s2 ⟨y, H2, I2, r2, q2⟩ => ?_))
  refine wpAny_bind (wpAny_standAt (wpAny_bind (wpAny_holding (thn (hs pins s2 σ H2 x y v ov iv u _ I2 r1 r2 r q2) fun _ s3 ⟨H3, I3, q3⟩ => ?_))))
  exact wpAny_release ⟨σ, H3, I3, q3⟩
/-- target = value -/
def tAsg (te : TE) (g : TG) : TS := fun D σ H => te σ H fun x H1 => g x σ H1 D.nx
theorem ps_asg {tg e : Expr} {te : TE} {g : TG} (he : PE X e te) (hg : PG X tg g) (hs : swapsWithSole [tg] e pos.line X.env = pure false := by rfl) (hw : swappedStores [tg] e X.env = pure none := by rfl)
    (h1 : (assignEach [tg] X.env).map (·.2) = [assign tg X.env] := by rfl) : PS X (.Assign [tg] e pos) (tAsg te g) := by
  intro pins s σ H D I h
  refine wpAny_Assign_stores (thn (he pins s σ H _ I h) fun v s1 ⟨x, H1, I1, r1, q1⟩ => ?_) hs hw
  rw [h1]
  exact thn (hg pins s1 σ H1 x v _ I1 r1 q1) fun _ s2 q => q
/-- name = value -/
theorem ps_set {i : Nat} {x : Str} {e : Expr} {te : TE} {pos' : Pos} (hN : X.N.Nodup) (hi : X.N[i]? = some x) (hx : Loc X.env.scope x) (he : PE X e te) (hs : swapsWith e (some (.Name x pos')) pos.line X.env = pure false := by rfl) (hf : X.fn x = true ∨ X.env.scope.names.lookup x = some .local := by first | exact .inl rfl | exact .inr rfl | assumption) :
    PS X (.Assign [.Name x pos'] e pos) (tAsg te (gName i)) := by
  intro pins s σ H D I h
  refine wpAny_Assign_Name (thn (he pins s σ H _ I h) fun v s1 ⟨y, H1, I1, r1, q1⟩ => ?_) hs
  exact store_ok I1 hN hi hx r1 (fun s2 I2 => ⟨_, H1, I2, q1⟩) hf
end

/-! ### while -/
section
variable {X : Cx} {pos : Pos}
end

/-! ### what a loop or a comprehension walks -/
/-- at turn i: it yields x (the heap may grow), or it stops -/
structure It where
  go : Nat → Hp → Prop
  yld : Nat → Hp → V → Hp → Prop
  stop : Nat → Hp → Prop
/-- the iterator's own objects may turn: they are not the frame's, not pinned, younger than the entry (or a comprehension's own) -/
def FpOk (X : Cx) (pins : List (Addr × Obj)) (H : Hp) (b : Addr) : Prop :=
  H b = none ∧ b ≠ X.env.locals ∧ b ∉ X.fs ∧ (b ∈ X.ex ∨ X.s₀.heap.objs.size ≤ b) ∧ (∀ x c, X.env.cells.lookup x = some c → c ≠ b) ∧ ∀ p ∈ X.pn ++ pins, p.1 ≠ b
theorem Inv.fpOk {X : Cx} {pins : List (Addr × Obj)} {σ : St} {H H' : Hp} {s : Shared} {b : Addr} (I : Inv X pins σ H s) (hb : s.heap.objs.size ≤ b) (hn : H' b = none) : FpOk X pins H' b := by
  refine ⟨hn, Nat.ne_of_gt (Nat.lt_of_lt_of_le I.lt hb), I.nofs hb, .inr (Nat.le_trans I.sz hb), fun x c e z => ?_, fun p hp z => ?_⟩
  · obtain ⟨v, q⟩ := I.cell x c e
    exact absurd (Nat.lt_of_lt_of_le q.lt (by rw [z]; exact hb)) (Nat.lt_irrefl _)
  · exact absurd (Nat.lt_of_lt_of_le (Heap.lt_size (I.pin p hp).1) (by rw [z]; exact hb)) (Nat.lt_irrefl _)
structure Turn (P : Program) (w : World) (K : PySem.W.Frag) (tg : Expr) (J : It) (fp : List Addr) (it : Addr) (tn : Nat → Heap → Prop) : Prop where
  mem : it ∈ fp
  obj : ∀ i h, tn i h → ∀ b ∈ fp, ∃ o, h.get? b = some o ∧ ∀ v, o.data ≠ .cell v
  keep : ∀ i h h', tn i h → (∀ b ∈ fp, ∀ o, h.get? b = some o → h'.get? b = some o) → tn i h'
  item : ∀ (X : Cx), X.prog = P → X.w = w → X.K = K → X.calm = true → ∀ (i : Nat) (pins : List (Addr × Obj)) (s : Shared) (σ : St) (H : Hp) (E : Value → Shared → Prop), Inv X pins σ H s → (∀ b ∈ fp, FpOk X pins H b) → tn i s.heap → J.go i H →
    wpAny (model P w) X.A (pyNext (.ref it)) (fun r s1 => ∃ u, r = some u ∧
      wpAny (model P w) X.A (letOwnedTupleGo tg (.ref it) u) (fun _ s2 => ∃ x H', Inv X pins σ H' s2 ∧ RelV x u ∧ J.yld i H x H' ∧ tn (i + 1) s2.heap ∧ ∀ b ∈ fp, H' b = none) E s1) E s
  done : ∀ (X : Cx), X.prog = P → X.w = w → X.K = K → X.calm = true → ∀ (i : Nat) (pins : List (Addr × Obj)) (s : Shared) (σ : St) (H : Hp) (E : Value → Shared → Prop), Inv X pins σ H s → (∀ b ∈ fp, FpOk X pins H b) → tn i s.heap → J.stop i H →
    wpAny (model P w) X.A (pyNext (.ref it)) (fun r s1 => r = none ∧ Inv X pins σ H s1) E s
  self : ∀ (A : Around) (i : Nat) (s : Shared) (Q : Value → Shared → Prop) (E : Value → Shared → Prop), tn i s.heap → Q (.ref it) s → wpAny (model P w) A (pyIter (.ref it)) Q E s
abbrev TI := St → Hp → (It → Hp → Prop) → Prop
/-- an iterator has come -/
def PIE (X : Cx) (pins : List (Addr × Obj)) (σ : St) (tg : Expr) (R : It → Hp → Prop) (itv : Value) (s2 : Shared) : Prop :=
  ∃ (it : Addr) (fp : List Addr) (tn : Nat → Heap → Prop) (J : It) (H' : Hp), itv = .ref it ∧ Inv X pins σ H' s2 ∧ Turn X.prog X.w X.K tg J fp it tn ∧ tn 0 s2.heap ∧ (∀ b ∈ fp, FpOk X pins H' b) ∧ R J H'
def PI (X : Cx) (tg iter : Expr) (wi : TI) : Prop :=
  ∀ (pins : List (Addr × Obj)) (s : Shared) (σ : St) (H : Hp) (R : It → Hp → Prop), Inv X pins σ H s → wi σ H R →
    wpAny (model X.prog X.w) X.A (eval iter X.env) (fun v s1 => wpAny (model X.prog X.w) X.A (pyIter v) (PIE X pins σ tg R) X.xe s1) X.xe s

/-- the step ahead of the store is nothing for an iterator that keeps no tuple -/
theorem go_of {M : Model} {A : Around} {E : Value → Shared → Prop} {s : Shared} {tg : Expr} {it : Addr} {u : Value} {o : Obj} {n : String} {vs : Array Value} {Q : Unit → Shared → Prop} (ho : s.heap.get? it = some o) (hc : o.cls = .type n) (hd : o.data = .fields vs)
    (hn : ["enumerate", "zip", "dict_itemiterator", "dict_reverseitemiterator", "odict_iterator", "itertools.zip_longest", "itertools.pairwise"].contains n = false) (hQ : Q () s) : wpAny M A (letOwnedTupleGo tg (.ref it) u) Q E s := by
  unfold letOwnedTupleGo
  cases tg <;> first
    | exact wpAny_pure hQ
    | (cases u <;> first
        | exact wpAny_pure hQ
        | (refine wpAny_bind (wpAny_load ho ?_)
           rw [hc, hd]
           show wpAny M A (if (["enumerate", "zip", "dict_itemiterator", "dict_reverseitemiterator", "odict_iterator", "itertools.zip_longest", "itertools.pairwise"].contains n && vs[0]? == some (rawInt _)) = true then _ else _) Q E s
           rw [if_neg (by intro h; rw [hn, Bool.false_and] at h; cases h)]
           exact wpAny_pure hQ))

/-- the list at a, as it stands at each turn (a loop may append to it) -/
def Itl (K : PySem.W.Frag) (a : Addr) : It :=
  ⟨fun i H => ∃ xs x, SqL K H a xs ∧ xs[i]? = some x, fun i H x H' => H' = H ∧ ∀ xs, SqL K H a xs → xs[i]? = some x, fun i H => ∃ xs, SqL K H a xs ∧ xs.length ≤ i⟩
def Itt (K : PySem.W.Frag) (a : Addr) : It :=
  ⟨fun i H => ∃ xs x, SqT K H a xs ∧ xs[i]? = some x, fun i H x H' => H' = H ∧ ∀ xs, SqT K H a xs → xs[i]? = some x, fun i H => ∃ xs, SqT K H a xs ∧ xs.length ≤ i⟩
/-- lo, lo + 1, .. (n of them) -/
def Itr (lo : Int) (n : Nat) : It := ⟨fun i _ => i < n, fun i H x H' => H' = H ∧ x = .int (lo + i), fun i _ => n ≤ i⟩
theorem turn_list {P : Program} {w : World} {K : PySem.W.Frag} {tg : Expr} (a it : Addr) : Turn P w K tg (Itl K a) [it] it (fun i h => h.IsListIter it a i) where
  mem := by simp
  obj := fun i h st b hb => by
    have e : b = it := by simpa using hb
    subst e
    obtain ⟨o, e, c, d⟩ := st
    exact ⟨o, e, fun v z => by rw [d] at z; cases z⟩
  keep := fun i h h' st k => st.at fun o e => k it (by simp) o e
  item := by
    intro X hP hw hK hc i pins s σ H E I hf st hg
    subst hP hw hK
    obtain ⟨xs, x, hq, hx⟩ := hg
    obtain ⟨its, rv, p, hz⟩ := I.list hq
    obtain ⟨u, hu, ru⟩ := rv.get hx
    obtain ⟨f0, f1, f2, f3, f4, f5⟩ := hf it (by simp)
    refine wpAny_pyNext_list_item st p.isList (x := u) (by simpa using hu) fun h' st' sb => ?_
    have I1 : Inv X pins σ H { s with heap := h' } := I.turned (t' := s.toks) (fun b o hb e => (sb.2 b hb).trans e) f0 f1 f3 f4 f5
    obtain ⟨o, e, c, d⟩ := id st'
    exact ⟨u, rfl, go_of (s := { s with heap := h' }) e c d (by decide) ⟨x, H, I1, ru, ⟨rfl, fun ys hy => by rw [I.list_inj hy hq]; exact hx⟩, st', fun b hb => (hf b hb).1⟩⟩
  done := by
    intro X hP hw hK hc i pins s σ H E I hf st hg
    subst hP hw hK
    obtain ⟨xs, hq, hx⟩ := hg
    obtain ⟨its, rv, p, hz⟩ := I.list hq
    obtain ⟨f0, f1, f2, f3, f4, f5⟩ := hf it (by simp)
    have hl := rv.length
    exact wpAny_pyNext_list_end (I.ok.hd hc) st p.isList (by simp; omega) fun h' eb => ⟨rfl, I.turned (t' := s.toks) (fun b o hb e => eb b o hb e) f0 f1 f3 f4 f5⟩
  self := fun _ _ _ _ _ st h => wpAny_pyIter_listiter st h
theorem turn_tuple {P : Program} {w : World} {K : PySem.W.Frag} {tg : Expr} (a it : Addr) : Turn P w K tg (Itt K a) [it] it (fun i h => h.IsTupleIter it a i) where
  mem := by simp
  obj := fun i h st b hb => by
    have e : b = it := by simpa using hb
    subst e
    obtain ⟨o, e, c, d⟩ := st
    exact ⟨o, e, fun v z => by rw [d] at z; cases z⟩
  keep := fun i h h' st k => st.at fun o e => k it (by simp) o e
  item := by
    intro X hP hw hK hc i pins s σ H E I hf st hg
    subst hP hw hK
    obtain ⟨xs, x, hq, hx⟩ := hg
    obtain ⟨its, rv, p, hz⟩ := I.tuple hq
    obtain ⟨u, hu, ru⟩ := rv.get hx
    obtain ⟨f0, f1, f2, f3, f4, f5⟩ := hf it (by simp)
    refine wpAny_pyNext_tuple_item st (show s.heap.IsTuple a its.toArray from p) (x := u) (by simpa using hu) fun h' st' sb => ?_
    have I1 : Inv X pins σ H { s with heap := h' } := I.turned (t' := s.toks) (fun b o hb e => (sb.2 b hb).trans e) f0 f1 f3 f4 f5
    obtain ⟨o, e, c, d⟩ := id st'
    exact ⟨u, rfl, go_of (s := { s with heap := h' }) e c d (by decide) ⟨x, H, I1, ru, ⟨rfl, fun ys hy => by rw [I.tuple_inj hy hq]; exact hx⟩, st', fun b hb => (hf b hb).1⟩⟩
  done := by
    intro X hP hw hK hc i pins s σ H E I hf st hg
    subst hP hw hK
    obtain ⟨xs, hq, hx⟩ := hg
    obtain ⟨its, rv, p, hz⟩ := I.tuple hq
    obtain ⟨f0, f1, f2, f3, f4, f5⟩ := hf it (by simp)
    have hl := rv.length
    exact wpAny_pyNext_tuple_end (I.ok.hd hc) st (show s.heap.IsTuple a its.toArray from p) (by simp; omega) fun h' eb => ⟨rfl, I.turned (t' := s.toks) (fun b o hb e => eb b o hb e) f0 f1 f3 f4 f5⟩
  self := fun _ _ _ _ _ st h => wpAny_pyIter_tupleiter st h
theorem turn_range {P : Program} {w : World} {K : PySem.W.Frag} {tg : Expr} (it : Addr) (lo : Int) (n : Nat) : Turn P w K tg (Itr lo n) [it] it (fun i h => IsRangeIter h it (lo + (i : Nat) * 1) ((n : Int) - (i : Nat)) 1) where
  mem := by simp
  obj := fun i h st b hb => by
    have e : b = it := by simpa using hb
    subst e
    exact ⟨_, st, fun v z => by
      have z' : Data.fields _ = Data.cell v := z
      cases z'⟩
  keep := fun i h h' st k => k it (by simp) _ st
  item := by
    intro X hP hw hK hc i pins s σ H E I hf st hg
    subst hP hw hK
    obtain ⟨f0, f1, f2, f3, f4, f5⟩ := hf it (by simp)
    have W := Walks.range (prog := X.prog) (w := X.w) (I.ok.hd hc) it lo 1 n
    refine W.item i s _ _ hg st fun v h' tk hv st' kk => ?_
    obtain ⟨t, rfl⟩ := hv
    have I1 : Inv X pins σ H { s with heap := h', toks := tk } := I.turned (fun b o hb e => kk b o (by simpa using hb) e) f0 f1 f3 f4 f5
    refine ⟨_, rfl, go_of (s := { s with heap := h', toks := tk }) (n := "range_iterator") st' rfl rfl (by decide) ⟨.int (lo + i), H, I1, ⟨t, ?_⟩, ⟨rfl, rfl⟩, st', fun b hb => (hf b hb).1⟩⟩
    rw [Int.mul_one]
  done := by
    intro X hP hw hK hc i pins s σ H E I hf st hg
    subst hP hw hK
    obtain ⟨f0, f1, f2, f3, f4, f5⟩ := hf it (by simp)
    exact wpAny_pyNext_range_end (I.ok.hd hc) st (by have : n ≤ i := hg; omega) fun h' eb => ⟨rfl, I.turned (t' := s.toks) (fun b o hb e => eb b o hb e) f0 f1 f3 f4 f5⟩
  self := fun _ _ _ _ _ st h => wpAny_pyIter_rangeiter st h
end L2

namespace L2
open PySem PySem.Spec PyProof.Rows
section
variable {X : Cx} {tg : Expr}
/-- a range object just made, walked -/
theorem range_it {pins : List (Addr × Obj)} {σ : St} {H : Hp} {s : Shared} {R : It → Hp → Prop} {E : Value → Shared → Prop} {lo hi : Int} {t u v : Tok} {tk : Nat} (I : Inv X pins σ H s) (h1 : -(2 ^ 62) ≤ lo) (h2 : lo < 2 ^ 62) (h3 : -(2 ^ 62) ≤ hi) (h4 : hi < 2 ^ 62)
    (q : R (Itr lo (hi - lo).toNat) H) : wpAny (model X.prog X.w) X.A (pyIter (.ref s.heap.objs.size)) (PIE X pins σ tg R) E { s with heap := s.heap.push { cls := .type "range", data := .fields #[.int lo t, .int hi u, .int 1 v] }, toks := tk } := by
  refine wpAny_pyIter_range (IsRange.new ..) (small_one h1 h2 h3 h4) ?_
  have I1 : Inv X pins σ H { s with heap := s.heap.push { cls := .type "range", data := .fields #[.int lo t, .int hi u, .int 1 v] }, toks := tk } := I.kept fun b o e => Heap.get?_push_of_some _ e
  refine ⟨(s.heap.push { cls := .type "range", data := .fields #[.int lo t, .int hi u, .int 1 v] }).objs.size, [(s.heap.push { cls := .type "range", data := .fields #[.int lo t, .int hi u, .int 1 v] }).objs.size], _, _, H, rfl,
    I1.kept (t' := tk) fun b o e => Heap.get?_push_of_some _ e, turn_range _ lo (hi - lo).toNat, ?_, fun b hb => ?_, q⟩
  · have e1 : lo + ((0 : Nat) : Int) * 1 = lo := by simp
    have e2 : (((hi - lo).toNat : Nat) : Int) - ((0 : Nat) : Int) = Builtin.Range.rangeSize lo hi 1 := by rw [rangeSize_one]; split <;> omega
    show IsRangeIter _ _ (lo + ((0 : Nat) : Int) * 1) ((((hi - lo).toNat : Nat) : Int) - ((0 : Nat) : Int)) 1
    rw [e1, e2]
    exact Heap.get?_push_size _ rfl
  · have e : b = (s.heap.push { cls := .type "range", data := .fields #[.int lo t, .int hi u, .int 1 v] }).objs.size := by simpa using hb
    subst e
    exact I1.fpOk (Nat.le_refl _) (I1.hok.fresh (Nat.le_refl _))
def iRng1 (ta : TA) : TI := fun σ H R => ta σ H fun vs H1 => ∃ j : Int, vs = [.int j] ∧ -(2 ^ 62) ≤ j ∧ j < 2 ^ 62 ∧ R (Itr 0 j.toNat) H1
theorem pi_range1 {a : Expr} {ta : TA} {p pos : Pos} (hg : Gl X "range") (hm : X.mg "range" = none) (ha : PA X [a] ta) (hs : starEach [a] X.env = [(false, eval a X.env)] := by rfl) : PI X tg (.Call (.Name "range" p) [a] [] pos) (iRng1 ta) := by
  intro pins s σ H R I h
  refine Call_ (ld_blt I hg hm boot_range (PyProof.Rows.callWith_type1 (thn (ha pos pins s σ H _ I h) fun us s1 ⟨vs, H1, I1, r1, q1⟩ => ?_) hs rfl))
  obtain ⟨j, e, q1, q2, q⟩ := q1
  subst e
  cases r1 with
  | cons r rr =>
    cases rr
    obtain ⟨t, rfl⟩ := r
    exact call_range_1 (range_it I1 (by omega) (by omega) q1 q2 (by simpa using q))
/-! ### for -/
/-- W: the invariant by the turn and a measure; N: what the body is to reach -/
def tFor (wi : TI) (g : TG) (tb : TS) : TS := fun D σ H => wi σ H fun J H1 => ∃ W : Nat → Nat → St → Hp → Prop, (∃ m, W 0 m σ H1) ∧ ∀ i m σ H, W i m σ H →
  (J.stop i H ∧ D.nx σ H) ∨ (J.go i H ∧ ∃ N : St → Hp → Prop, (∀ σ' H', N σ' H' → ∃ m', m' < m ∧ W (i + 1) m' σ' H') ∧ ∀ x H', J.yld i H x H' → g x σ H' fun σ2 H2 => tb { D with nx := N, ct := N, bk := D.nx } σ2 H2)
/-- the records at fp as they stand -/
def pinsAt (fp : List Addr) (h : Heap) : List (Addr × Obj) := fp.filterMap fun b => (h.get? b).map fun o => (b, o)
theorem mem_pinsAt {fp : List Addr} {h : Heap} {b : Addr} {o : Obj} (hb : b ∈ fp) (e : h.get? b = some o) : (b, o) ∈ pinsAt fp h := List.mem_filterMap.mpr ⟨b, hb, by rw [e]; rfl⟩
theorem of_pinsAt {fp : List Addr} {h : Heap} {p : Addr × Obj} (hp : p ∈ pinsAt fp h) : p.1 ∈ fp ∧ h.get? p.1 = some p.2 := by
  obtain ⟨b, hb, e⟩ := List.mem_filterMap.mp hp
  cases q : h.get? b with
  | none => rw [q] at e; cases e
  | some o =>
    rw [q] at e
    have e' : (b, o) = p := Option.some.inj e
    subst e'
    exact ⟨hb, q⟩
theorem Inv.pinned {pins : List (Addr × Obj)} {σ : St} {H : Hp} {s : Shared} {fp : List Addr} (I : Inv X pins σ H s) (hf : ∀ b ∈ fp, FpOk X pins H b) (ho : ∀ b ∈ fp, ∃ o, s.heap.get? b = some o ∧ ∀ v, o.data ≠ .cell v) : Inv X (pins ++ pinsAt fp s.heap) σ H s :=
  I.pins_of fun p hp => (List.mem_append.mp hp).elim (fun z => I.pin p (List.mem_append_right _ z)) fun z => by
    obtain ⟨hb, e⟩ := of_pinsAt z
    obtain ⟨f0, f1, f2, _⟩ := hf p.1 hb
    obtain ⟨o, e', d⟩ := ho p.1 hb
    rw [e] at e'; cases e'
    exact ⟨e, f0, f1, f2, d⟩
theorem Inv.unpinned {pins pl : List (Addr × Obj)} {σ : St} {H : Hp} {s : Shared} (I : Inv X (pins ++ pl) σ H s) : Inv X pins σ H s := I.pins_of fun p hp => I.pin p (List.mem_append_right _ (List.mem_append_left _ hp))
theorem ps_for {iter : Expr} {body : List Stmt} {wi : TI} {g : TG} {tb : TS} {pos : Pos} (hp : PassesOwn (model X.prog X.w) X.A X.env X.xe) (hc : X.calm = true) (hi : PI X tg iter wi) (hg : PG X tg g) (hb : PSs X body tb)
    (hs : ∀ x, foldedSetIterable iter X.env x = pure x := by intro _; rfl) : PS X (.For tg iter body [] pos) (tFor wi g tb) := by
  intro pins s σ H D I h
  refine wpAny_For (thn (hi pins s σ H _ I h) fun v s1 h1 => thn h1 fun itv s2 h2 => ?_) hs
  obtain ⟨it, fp, tn, J, H2, e, I2, T, st2, f2, W, ⟨m0, w0⟩, turn⟩ := h2
  subst e
  -- what stays true of the iterator's objects through the loop
  have stat : ∀ {H' : Hp}, (∀ b ∈ fp, H' b = none) → ∀ b ∈ fp, FpOk X pins H' b := fun hn b hb => ⟨hn b hb, (f2 b hb).2⟩
  refine codeAny_forLoop_any (fun n s' => ∃ i σ' H', Inv X pins σ' H' s' ∧ tn i s'.heap ∧ (∀ b ∈ fp, H' b = none) ∧ W i n σ' H') ?_ m0 ⟨0, σ, H2, I2, st2, fun b hb => (f2 b hb).1, w0⟩
  rintro n s3 ⟨i, σ3, H3, I3, st3, fr3, w3⟩
  rcases turn i n σ3 H3 w3 with ⟨stop, qn⟩ | ⟨go, N, hN, step⟩
  · refine wpAny_passesOwn hp (thn (T.done X rfl rfl rfl hc i pins s3 σ3 H3 X.xe I3 (stat fr3) st3 stop) fun r s4 ⟨hr, I4⟩ => ?_)
    subst hr
    exact wpAny_execs_nil ⟨σ3, H3, I4, qn⟩
  · refine wpAny_passesOwn hp (thn (T.item X rfl rfl rfl hc i pins s3 σ3 H3 X.xe I3 (stat fr3) st3 go) fun r s4 ⟨u, hr, h4⟩ => ?_)
    subst hr
    refine wpAny_passesOwn hp (thn h4 fun _ s5 ⟨x, H5, I5, r5, y5, st5, fr5⟩ => ?_)
    have I5' := I5.pinned (stat fr5) (T.obj _ _ st5)
    refine wpAny_passesOwn hp (thn (hg _ s5 σ3 H5 x u _ I5' r5 (step x H5 y5)) fun _ s6 ⟨σ6, H6, I6, q6⟩ => ?_)
    refine wpAny_passesOwn hp (thn (hb _ s6 σ6 H6 _ I6 q6) fun f s7 q7 => ?_)
    have again : ∀ {σ7 : St} {H7 : Hp}, Inv X (pins ++ pinsAt fp s5.heap) σ7 H7 s7 → N σ7 H7 → ∃ m, m < n ∧ ∃ i σ' H', Inv X pins σ' H' s7 ∧ tn i s7.heap ∧ (∀ b ∈ fp, H' b = none) ∧ W i m σ' H' := fun {σ7 H7} I7 n7 => by
      obtain ⟨m', hm, w7⟩ := hN σ7 H7 n7
      refine ⟨m', hm, i + 1, σ7, H7, I7.unpinned, T.keep _ _ _ st5 fun b hb o e => (I7.pin (b, o) (List.mem_append_right _ (List.mem_append_right _ (mem_pinsAt hb e)))).1, fun b hb => ?_, w7⟩
      obtain ⟨o, e, d⟩ := T.obj _ _ st5 b hb
      exact (I7.pin (b, o) (List.mem_append_right _ (List.mem_append_right _ (mem_pinsAt hb e)))).2.1
    cases f with
    | next => obtain ⟨σ7, H7, I7, n7⟩ := q7; exact again I7 n7
    | cont => obtain ⟨σ7, H7, I7, n7⟩ := q7; exact again I7 n7
    | brk => obtain ⟨σ7, H7, I7, q7⟩ := q7; exact ⟨σ7, H7, I7.unpinned, q7⟩
    | ret v => obtain ⟨x7, σ7, H7, I7, r7, q7⟩ := q7; exact ⟨x7, σ7, H7, I7.unpinned, r7, q7⟩
end

/-! ### the forms one uses -/
end L2

namespace L2
open PySem PySem.Spec PyProof.Rows

abbrev R2 := V → V → Hp → VK → Prop
/-- a two-place operation on values: f is binaryOp op, inplaceOp op or compareOp op -/
def OpR (X : Cx) (f : Value → Value → Sem Value) (r : R2) : Prop :=
  ∀ (pins : List (Addr × Obj)) (s : Shared) (σ : St) (H : Hp) (x y : V) (v u : Value) (Q : VK), Inv X pins σ H s → RelV x v → RelV y u → r x y H Q →
    wpAny (model X.prog X.w) X.A (f v u) (EP X pins σ Q) X.xe s
/-- a call of a value that is known (a builtin, a type) with values -/
def CallR (X : Cx) (f : Value) (r : List V → Hp → VK → Prop) : Prop :=
  ∀ (pins : List (Addr × Obj)) (s : Shared) (σ : St) (H : Hp) (xs : List V) (us : List Value) (Q : VK), Inv X pins σ H s → Vals xs us → r xs H Q →
    wpAny (model X.prog X.w) X.A (call f us) (EP X pins σ Q) X.xe s
/-- a value's truth -/
def TruR (X : Cx) (r : V → Hp → (Bool → Hp → Prop) → Prop) : Prop :=
  ∀ (pins : List (Addr × Obj)) (s : Shared) (σ : St) (H : Hp) (x : V) (v : Value) (Q : Bool → Hp → Prop), Inv X pins σ H s → RelV x v → r x H Q →
    wpAny (model X.prog X.w) X.A (truthy v) (TP X pins σ Q) X.xe s

def tOp (r : R2) (ta tb : TE) : TE := fun σ H Q => ta σ H fun x H1 => tb σ H1 fun y H2 => r x y H2 Q
/-- ints in, under C, and a value out -/
def rI (C : Int → Int → Prop) (g : Int → Int → V) : R2 := fun x y H Q => ∃ i j, x = .int i ∧ y = .int j ∧ C i j ∧ Q (g i j) H
def rI0 (g : Int → Int → V) : R2 := fun x y H Q => ∃ i j, x = .int i ∧ y = .int j ∧ Q (g i j) H
section
variable {X : Cx} {a b c : Expr} {ta tb tc : TE} {pos : Pos}

theorem binT (ha : PE X a ta) (hb : PE X b tb) {pins : List (Addr × Obj)} {s : Shared} {σ : St} {H : Hp} {R : V → V → Hp → Prop} (I : Inv X pins σ H s)
    (h : ta σ H fun x H1 => tb σ H1 fun y H2 => R x y H2) {Q : Value → Shared → Prop} {f : Value → Value → Sem Value}
    (hf : ∀ v u s2 x y H2, Inv X pins σ H2 s2 → RelV x v → RelV y u → R x y H2 → wpAny (model X.prog X.w) X.A (f v u) Q X.xe s2) :
    wpAny (model X.prog X.w) X.A (eval a X.env) (fun v s₁ => wpAny (model X.prog X.w) X.A (eval b X.env) (fun u s₂ => wpAny (model X.prog X.w) X.A (f v u) Q X.xe s₂) X.xe s₁) X.xe s := by
  refine thn (ha pins s σ H _ I h) fun v s1 ⟨x, H1, I1, r1, q1⟩ => ?_
  refine thn (hb pins s1 σ H1 _ I1 q1) fun u s2 ⟨y, H2, I2, r2, q2⟩ => ?_
  exact hf v u s2 x y H2 I2 r1 r2 q2

theorem pe_op {op : Operator} {r : R2} (ho : OpR X (binaryOp op) r) (ha : PE X a ta) (hb : PE X b tb) : PE X (.BinOp a op b pos) (tOp r ta tb) := by
  intro pins s σ H Q I h
  exact wpAny_BinOp (binT ha hb I h fun v u s2 x y H2 I2 rx ry q => ho pins s2 σ H2 x y v u Q I2 rx ry q)
/-! ### ints -/
theorem opI {f : Value → Value → Sem Value} {C : Int → Int → Prop} {g : Int → Int → Int}
    (rule : ∀ (i j : Int) (t u : Tok) (s : Shared) (Q : Value → Shared → Prop) (E : Value → Shared → Prop), C i j → Q (.int (g i j) s.toks) { s with toks := s.toks + 1 } → wpAny (model X.prog X.w) X.A (f (.int i t) (.int j u)) Q E s) :
    OpR X f (rI C fun i j => .int (g i j)) := by
  intro pins s σ H x y v u Q I rx ry h
  obtain ⟨i, j, rfl, rfl, hc, q⟩ := h
  obtain ⟨t, rfl⟩ := rx
  obtain ⟨t', rfl⟩ := ry
  exact rule i j t t' s _ _ hc ⟨.int (g i j), H, I.tok _, ⟨_, rfl⟩, q⟩
theorem opI0 {f : Value → Value → Sem Value} {g : Int → Int → Int}
    (rule : ∀ (i j : Int) (t u : Tok) (s : Shared) (Q : Value → Shared → Prop) (E : Value → Shared → Prop), Q (.int (g i j) s.toks) { s with toks := s.toks + 1 } → wpAny (model X.prog X.w) X.A (f (.int i t) (.int j u)) Q E s) :
    OpR X f (rI0 fun i j => .int (g i j)) := by
  intro pins s σ H x y v u Q I rx ry h
  obtain ⟨i, j, rfl, rfl, q⟩ := h
  obtain ⟨t, rfl⟩ := rx
  obtain ⟨t', rfl⟩ := ry
  exact rule i j t t' s _ _ ⟨.int (g i j), H, I.tok _, ⟨_, rfl⟩, q⟩
theorem opB0 {f : Value → Value → Sem Value} {g : Int → Int → Bool}
    (rule : ∀ (i j : Int) (t u : Tok) (s : Shared) (Q : Value → Shared → Prop) (E : Value → Shared → Prop), Q (.bool (g i j)) s → wpAny (model X.prog X.w) X.A (f (.int i t) (.int j u)) Q E s) :
    OpR X f (rI0 fun i j => .bl (g i j)) := by
  intro pins s σ H x y v u Q I rx ry h
  obtain ⟨i, j, rfl, rfl, q⟩ := h
  obtain ⟨t, rfl⟩ := rx
  obtain ⟨t', rfl⟩ := ry
  exact rule i j t t' s _ _ ⟨.bl (g i j), H, I, rfl, q⟩

def CPow (i j : Int) : Prop := 0 ≤ j ∧ j ≤ 1000000 ∧ i.natAbs < 2 ^ 64
def CMul (i j : Int) : Prop := (-(2 ^ 64) < i ∧ i < 2 ^ 64) ∨ (-(2 ^ 64) < j ∧ j < 2 ^ 64)
theorem CMul.ok {i j : Int} (h : CMul i j) : IntMulOk i j := by
  rcases h with ⟨h1, h2⟩ | ⟨h1, h2⟩
  · exact .of_left (intBits_le_64 h1 h2)
  · exact .of_right (intBits_le_64 h1 h2)
theorem two_pow_nn (k : Nat) : (0 : Int) ≤ 2 ^ k := by
  rw [two_pow_cast]
  exact Int.natCast_nonneg _

theorem op_add : OpR X (binaryOp .Add) (rI0 fun i j => .int (i + j)) := opI0 fun _ _ _ _ _ _ _ q => add_int q
theorem op_sub : OpR X (binaryOp .Sub) (rI0 fun i j => .int (i - j)) := opI0 fun _ _ _ _ _ _ _ q => sub_int q
/-- % by a positive divisor of any size -/
theorem op_mod : OpR X (binaryOp .Mod) (rI (fun _ j => 0 < j) fun i j => .int (i % j)) := opI fun i j _ _ _ _ _ hc q => by
  have h1 : (0 : Int) < j := hc
  exact mod_int' (by omega) (by rw [Int.fmod_eq_emod_of_nonneg i (by omega)]; exact q)
theorem op_pow : OpR X (binaryOp .Pow) (rI CPow fun i j => .int (i ^ j.toNat)) := opI fun _ _ _ _ _ _ _ hc q => pow_int_small hc.1 hc.2.1 hc.2.2 q
/-! ### bools among ints: n += (a < b) -/
end

/-! ### comparisons -/
/-- the scalars that == tells apart as data does -/
def scal : V → V → Bool
  | .non, .non => true | .non, .int _ => true | .int _, .non => true | .non, .bl _ => true | .bl _, .non => true | .non, .str _ => true | .str _, .non => true
  | .int _, .int _ => true | .bl _, .bl _ => true | .str _, .str _ => true | .byt _, .byt _ => true
  | .int _, .str _ => true | .str _, .int _ => true | .bl _, .str _ => true | .str _, .bl _ => true
  | _, _ => false
def rEq : R2 := fun x y H Q => scal x y = true ∧ Q (.bl (decide (x = y))) H
def rNe : R2 := fun x y H Q => scal x y = true ∧ Q (.bl (!decide (x = y))) H

theorem dec_int {i j : Int} : decide (V.int i = V.int j) = (i == j) := by
  rw [Bool.eq_iff_iff]
  simp
theorem dec_bl {i j : Bool} : decide (V.bl i = V.bl j) = (i == j) := by
  rw [Bool.eq_iff_iff]
  simp
theorem dec_str {i j : Str} : decide (V.str i = V.str j) = (i == j) := by
  rw [Bool.eq_iff_iff]
  simp
theorem dec_byt {i j : Array UInt8} : decide (V.byt i = V.byt j) = (i.toList == j.toList) := by
  rw [Bool.eq_iff_iff]
  cases i
  cases j
  simp

section
variable {X : Cx} {a b c : Expr} {ta tb tc : TE} {pos : Pos}
theorem fin_bl {pins : List (Addr × Obj)} {σ : St} {H : Hp} {s : Shared} {Q : VK} {k k' : Bool} (I : Inv X pins σ H s) (q : Q (.bl k) H) (e : k = k') : EP X pins σ Q (.bool k') s := by
  subst e
  exact ⟨.bl k, H, I, rfl, q⟩
theorem op_eq : OpR X (compareOp .Eq) rEq := by
  intro pins s σ H x y v u Q I rx ry h
  obtain ⟨hs, q⟩ := h
  cases x with
  | non =>
    cases rx
    cases y with
    | non => cases ry; exact PySem.EqNone.eq_none_none (fin_bl I q (by simp))
    | bl j => cases ry; exact PySem.EqNone.eq_none_bool (fin_bl I q (by simp))
    | int j => obtain ⟨t', rfl⟩ := ry; exact PySem.EqNone.eq_none_int (fin_bl I q (by simp))
    | str j => obtain ⟨t', rfl⟩ := ry; exact PySem.EqNone.eq_none_str (fin_bl I q (by simp))
    | _ => exact absurd (show false = true from hs) Bool.false_ne_true
  | bl i =>
    cases rx
    cases y with
    | non => cases ry; exact PySem.EqNone.eq_bool_none (fin_bl I q (by simp))
    | bl j => cases ry; exact eq_bool (fin_bl I q dec_bl)
    | str j => obtain ⟨t', rfl⟩ := ry; exact PySem.EqMixed.eq_bool_str (fin_bl I q (by simp))
    | _ => exact absurd (show false = true from hs) Bool.false_ne_true
  | int i =>
    obtain ⟨t, rfl⟩ := rx
    cases y with
    | non => cases ry; exact PySem.EqNone.eq_int_none (fin_bl I q (by simp))
    | int j => obtain ⟨t', rfl⟩ := ry; exact eq_int (fin_bl I q dec_int)
    | str j => obtain ⟨t', rfl⟩ := ry; exact PySem.EqMixed.eq_int_str (fin_bl I q (by simp))
    | _ => exact absurd (show false = true from hs) Bool.false_ne_true
  | str i =>
    obtain ⟨t, rfl⟩ := rx
    cases y with
    | non => cases ry; exact PySem.EqNone.eq_str_none (fin_bl I q (by simp))
    | bl j => cases ry; exact PySem.EqMixed.eq_str_bool (fin_bl I q (by simp))
    | int j => obtain ⟨t', rfl⟩ := ry; exact PySem.EqMixed.eq_str_int (fin_bl I q (by simp))
    | str j => obtain ⟨t', rfl⟩ := ry; exact eq_str (fin_bl I q dec_str)
    | _ => exact absurd (show false = true from hs) Bool.false_ne_true
  | byt i =>
    obtain ⟨t, rfl⟩ := rx
    cases y with
    | byt j => obtain ⟨t', rfl⟩ := ry; exact PySem.W.eq_bytes (fin_bl I q dec_byt)
    | _ => exact absurd (show false = true from hs) Bool.false_ne_true
  | _ => cases y <;> exact absurd (show false = true from hs) Bool.false_ne_true
theorem op_ne : OpR X (compareOp .NotEq) rNe := by
  intro pins s σ H x y v u Q I rx ry h
  obtain ⟨hs, q⟩ := h
  cases x with
  | non =>
    cases rx
    cases y with
    | non => cases ry; exact PySem.EqNone.ne_none_none (fin_bl I q (by simp))
    | bl j => cases ry; exact PySem.EqNone.ne_none_bool (fin_bl I q (by simp))
    | int j => obtain ⟨t', rfl⟩ := ry; exact PySem.EqNone.ne_none_int (fin_bl I q (by simp))
    | str j => obtain ⟨t', rfl⟩ := ry; exact PySem.EqNone.ne_none_str (fin_bl I q (by simp))
    | _ => exact absurd (show false = true from hs) Bool.false_ne_true
  | bl i =>
    cases rx
    cases y with
    | non => cases ry; exact PySem.EqNone.ne_bool_none (fin_bl I q (by simp))
    | bl j => cases ry; exact ne_bool (fin_bl I q (congrArg not dec_bl))
    | str j => obtain ⟨t', rfl⟩ := ry; exact PySem.EqMixed.ne_bool_str (fin_bl I q (by simp))
    | _ => exact absurd (show false = true from hs) Bool.false_ne_true
  | int i =>
    obtain ⟨t, rfl⟩ := rx
    cases y with
    | non => cases ry; exact PySem.EqNone.ne_int_none (fin_bl I q (by simp))
    | int j => obtain ⟨t', rfl⟩ := ry; exact ne_int (fin_bl I q (congrArg not dec_int))
    | str j => obtain ⟨t', rfl⟩ := ry; exact PySem.EqMixed.ne_int_str (fin_bl I q (by simp))
    | _ => exact absurd (show false = true from hs) Bool.false_ne_true
  | str i =>
    obtain ⟨t, rfl⟩ := rx
    cases y with
    | non => cases ry; exact PySem.EqNone.ne_str_none (fin_bl I q (by simp))
    | bl j => cases ry; exact PySem.EqMixed.ne_str_bool (fin_bl I q (by simp))
    | int j => obtain ⟨t', rfl⟩ := ry; exact PySem.EqMixed.ne_str_int (fin_bl I q (by simp))
    | str j => obtain ⟨t', rfl⟩ := ry; exact ne_str (fin_bl I q (congrArg not dec_str))
    | _ => exact absurd (show false = true from hs) Bool.false_ne_true
  | byt i =>
    obtain ⟨t, rfl⟩ := rx
    cases y with
    | byt j => obtain ⟨t', rfl⟩ := ry; exact PySem.W.ne_bytes (fin_bl I q (congrArg not dec_byt))
    | _ => exact absurd (show false = true from hs) Bool.false_ne_true
  | _ => cases y <;> exact absurd (show false = true from hs) Bool.false_ne_true

theorem op_lt : OpR X (compareOp .Lt) (rI0 fun i j => .bl (decide (i < j))) := opB0 fun _ _ _ _ _ _ _ q => lt_int q
theorem op_gt : OpR X (compareOp .Gt) (rI0 fun i j => .bl (decide (j < i))) := opB0 fun _ _ _ _ _ _ _ q => gt_int q
theorem op_ge : OpR X (compareOp .GtE) (rI0 fun i j => .bl (decide (j ≤ i))) := opB0 fun _ _ _ _ _ _ _ q => ge_int q
/-- two rules for one operation: by cases -/
theorem OpR.or {f : Value → Value → Sem Value} {r r' : R2} (h : OpR X f r) (h' : OpR X f r') : OpR X f (fun x y H Q => r x y H Q ∨ r' x y H Q) := by
  intro pins s σ H x y v u Q I rx ry q
  rcases q with q | q
  · exact h pins s σ H x y v u Q I rx ry q
  · exact h' pins s σ H x y v u Q I rx ry q

theorem nomark (b : Expr) {op : CmpOp} (h : op ≠ .In := by decide) (h2 : op ≠ .NotIn := by decide) : behindInMarks op b = false := by
  have e1 : (op == CmpOp.In) = false := by cases op <;> first | rfl | exact absurd rfl h
  have e2 : (op == CmpOp.NotIn) = false := by cases op <;> first | rfl | exact absurd rfl h2
  cases b <;> simp [behindInMarks, e1, e2]
/-- a comparison as a value; hm: nomark b, or (for in, not in) by with_unfolding_all rfl -/
theorem pe_cmpR {op : CmpOp} {r : R2} (ho : OpR X (compareOp op) r) (ha : PE X a ta) (hb : PE X b tb) (hm : behindInMarks op b = false) : PE X (.Compare a [op] [b] pos) (tOp r ta tb) := by
  intro pins s σ H Q I h
  exact wpAny_Compare1 (binT ha hb I h fun v u s2 x y H2 I2 rx ry q => ho pins s2 σ H2 x y v u Q I2 rx ry q) hm
/-- a reading of a value as a test -/
def tTest (t : TE) : TT := fun σ H Q => t σ H fun x H' => ∃ k, x = .bl k ∧ Q k H'
theorem pt_cmpR {op : CmpOp} {r : R2} (ho : OpR X (compareOp op) r) (ha : PE X a ta) (hb : PE X b tb) (hm : behindInMarks op b = false) : PT X (.Compare a [op] [b] pos) (tTest (tOp r ta tb)) := by
  intro pins s σ H Q I h
  refine wpAny_isTrue_Compare1 (thn (ha pins s σ H _ I h) fun v s1 ⟨x, H1, I1, r1, q1⟩ => thn (hb pins s1 σ H1 _ I1 q1) fun u s2 ⟨y, H2, I2, r2, q2⟩ =>
    thn (ho pins s2 σ H2 x y v u _ I2 r1 r2 q2) fun c s3 ⟨z, H3, I3, r3, k, e, q3⟩ => ?_) hm
  subst e
  cases r3
  exact wpAny_truthy_bool ⟨H3, I3, q3⟩
/-! ### truth -/
/-- a value's truth by the abstract heap -/
def TruV (K : PySem.W.Frag) (x : V) (H : Hp) (k : Bool) : Prop :=
  match x with
  | .non => k = false
  | .bl b => k = b
  | .int i => k = (i != 0)
  | .str y => y.length ≤ sizeLine ∧ k = ((y.length : Int) != 0)
  | .byt y => y.size ≤ sizeLine ∧ k = ((y.size : Int) != 0)
  | .ref p => (∃ xs, SqL K H p xs ∧ k = !xs.isEmpty) ∨ (∃ xs, SqT K H p xs ∧ k = !xs.isEmpty) ∨ ∃ kvs, H p = some (.dK kvs) ∧ k = !kvs.isEmpty
  | _ => False
theorem isEmpty_kv {κ : Type} {kvs : List (κ × V)} {vs : List (κ × Value)} (r : KV kvs vs) : (!vs.isEmpty) = !kvs.isEmpty := by
  cases r <;> rfl
theorem isEmpty_of {xs : List V} {its : List Value} (r : Vals xs its) : (!its.toArray.isEmpty) = !xs.isEmpty := by
  cases r <;> simp
theorem line63 : (sizeLine : Nat) < 2 ^ 63 := by rw [sizeLine_eq]; decide
theorem tru_ok : TruR X (fun x H Q => ∃ k, TruV X.K x H k ∧ Q k H) := by
  intro pins s σ H x v Q I rx h
  obtain ⟨k, e, q⟩ := h
  have hl := line63
  have hs : sizeLine = 16777216 := sizeLine_eq
  cases x with
  | non =>
    cases rx
    have e' : k = false := e
    subst e'
    exact truthy_none ⟨H, I, q⟩
  | bl b =>
    cases rx
    have e' : k = b := e
    subst e'
    exact wpAny_truthy_bool ⟨H, I, q⟩
  | int i =>
    obtain ⟨t, rfl⟩ := rx
    have e' : k = (i != 0) := e
    subst e'
    exact PySem.P.truthy_int ⟨H, I, q⟩
  | str y =>
    obtain ⟨t, rfl⟩ := rx
    obtain ⟨hy, e'⟩ : y.length ≤ sizeLine ∧ k = ((y.length : Int) != 0) := e
    subst e'
    exact PySem.P.truthy_str (by omega) ⟨H, I.tok _, q⟩
  | byt y =>
    obtain ⟨t, rfl⟩ := rx
    obtain ⟨hy, e'⟩ : y.size ≤ sizeLine ∧ k = ((y.size : Int) != 0) := e
    subst e'
    exact PySem.W.truthy_bytes (by omega) ⟨H, I.tok _, q⟩
  | ref p =>
    cases rx
    have e' : (∃ xs, SqL X.K H p xs ∧ k = !xs.isEmpty) ∨ (∃ xs, SqT X.K H p xs ∧ k = !xs.isEmpty) ∨ ∃ kvs, H p = some (.dK kvs) ∧ k = !kvs.isEmpty := e
    rcases e' with ⟨xs, hx, e'⟩ | ⟨xs, hx, e'⟩ | ⟨kvs, hx, e'⟩
    · subst e'
      obtain ⟨its, r, pl, hz⟩ := I.list hx
      have hlen := r.length
      exact wpAny_truthy_list pl.isList (by simp only [List.size_toArray]; omega) ⟨H, I.tok _, by rw [isEmpty_of r]; exact q⟩
    · subst e'
      obtain ⟨its, r, pl, hz⟩ := I.tuple hx
      have hlen := r.length
      exact truthy_tuple pl (by simp only [List.size_toArray]; omega) ⟨H, I.tok _, by rw [isEmpty_of r]; exact q⟩
    · subst e'
      obtain ⟨hz, hS, vs, r, m⟩ : kvs.length ≤ sizeLine ∧ (p == sysModules) = false ∧ ∃ vs, KV kvs vs ∧ s.heap.DictOf (mixKind X.prog X.w) p vs := I.hok p _ hx
      have hlen : kvs.length = vs.length := Paired.length r
      exact wpAny_truthy_dict hS m (by omega) ⟨H, I.tok _, by rw [isEmpty_kv r]; exact q⟩
  | _ => exact (show False from e).elim
/-- any expression whose test is its value's truth (a name, a call, a subscript, a field ..: he by fun _ => rfl) -/
theorem pt_truth (ha : PE X a ta) (he : ∀ whole, isTrue a X.env whole = (do let v ← whole; standAt a.pos; holding [v] (truthy v))) :
    PT X a (fun σ H Q => ta σ H fun x H' => ∃ k, TruV X.K x H' k ∧ Q k H') := by
  intro pins s σ H Q I h
  exact isTrue_plain (thn (ha pins s σ H _ I h) fun v s1 ⟨x, H1, I1, r1, q1⟩ => tru_ok pins s1 σ H1 x v Q I1 r1 q1) (he _)

/-! ### strs and bytes -/
theorem op_add_str : OpR X (binaryOp .Add) (fun x y H Q => ∃ i j, x = .str i ∧ y = .str j ∧ i.length + j.length ≤ sizeLine ∧ Q (.str (i ++ j)) H) := by
  intro pins s σ H x y v u Q I rx ry h
  obtain ⟨i, j, rfl, rfl, hz, q⟩ := h
  obtain ⟨t, rfl⟩ := rx
  obtain ⟨t', rfl⟩ := ry
  exact add_str (fun t' tk => ⟨.str (i ++ j), H, I.tok _, ⟨_, rfl⟩, q⟩) hz
/-! ### scalar builtins, by CallR -/
theorem vals1 {x : V} {us : List Value} (r : Vals [x] us) : ∃ u, us = [u] ∧ RelV x u := by
  cases r with
  | cons r1 r2 => cases r2; exact ⟨_, rfl, r1⟩
theorem vals2 {x y : V} {us : List Value} (r : Vals [x, y] us) : ∃ u w', us = [u, w'] ∧ RelV x u ∧ RelV y w' := by
  cases r with
  | cons r1 r2 =>
    cases r2 with
    | cons r3 r4 => cases r4; exact ⟨_, _, rfl, r1, r3⟩
/-- len of a str, a bytes, a list, a tuple -/
def LenV (K : PySem.W.Frag) (x : V) (H : Hp) (n : Nat) : Prop :=
  match x with
  | .str y => y.length ≤ sizeLine ∧ n = y.length
  | .byt y => y.size ≤ sizeLine ∧ n = y.size
  | .ref p => (∃ xs, SqL K H p xs ∧ n = xs.length) ∨ ∃ xs, SqT K H p xs ∧ n = xs.length
  | _ => False
theorem call_len : CallR X (.builtin "len") (fun xs H Q => ∃ x n, xs = [x] ∧ LenV X.K x H n ∧ Q (.int n) H) := by
  intro pins s σ H xs us Q I r h
  obtain ⟨x, n, rfl, e, q⟩ := h
  obtain ⟨u, rfl, rx⟩ := vals1 r
  have hl := line63
  have hs : sizeLine = 16777216 := sizeLine_eq
  cases x with
  | str y =>
    obtain ⟨t, rfl⟩ := rx
    obtain ⟨hy, e'⟩ : y.length ≤ sizeLine ∧ n = y.length := e
    subst e'
    exact len_str (by omega) ⟨.int _, H, I.tok _, ⟨_, rfl⟩, q⟩
  | byt y =>
    obtain ⟨t, rfl⟩ := rx
    obtain ⟨hy, e'⟩ : y.size ≤ sizeLine ∧ n = y.size := e
    subst e'
    exact PySem.W.len_bytes (by omega) ⟨.int _, H, I.tok _, ⟨_, rfl⟩, q⟩
  | ref p =>
    cases rx
    have e' : (∃ xs, SqL X.K H p xs ∧ n = xs.length) ∨ ∃ xs, SqT X.K H p xs ∧ n = xs.length := e
    rcases e' with ⟨xs, hx, e'⟩ | ⟨xs, hx, e'⟩
    · subst e'
      obtain ⟨its, r', pl, hz⟩ := I.list hx
      have hlen := r'.length
      exact Calls.call_len_list pl.isList (by simp only [List.size_toArray]; omega) ⟨.int xs.length, H, I.tok _, ⟨_, by simp only [List.size_toArray]; rw [hlen]⟩, q⟩
    · subst e'
      obtain ⟨its, r', pl, hz⟩ := I.tuple hx
      have hlen := r'.length
      exact len_tuple pl (by simp only [List.size_toArray]; omega) ⟨.int xs.length, H, I.tok _, ⟨_, by simp only [List.size_toArray]; rw [hlen]⟩, q⟩
  | _ => exact (show False from e).elim
end
end L2

namespace L2
open PySem PySem.Spec PyProof.Rows

/-! ### an instance, its attributes a map -/
structure ObjM (h : Heap) (x dx C : Addr) (mA : Str → Option Value) : Prop where
  obj : h.get? x = some (PySem.W.instObj C dx)
  ns : h.Ns1 dx mA
  ne : dx ≠ x

theorem lookIn_ns {h : Heap} {dx : Addr} {mA : Str → Option Value} (n : h.Ns1 dx mA) : ∃ od, h.get? dx = some od ∧ ∀ name, PySem.W.lookIn name od = some (mA name) := by
  obtain ⟨o, es, ep, ho, hd, hk, _, hm⟩ := n
  refine ⟨o, ho, fun name => ?_⟩
  have e := hm name
  unfold nsFind findBy at e
  rw [← Array.find?_toList] at e
  unfold PySem.W.lookIn
  rw [hd]
  dsimp only
  split
  · rename_i y q
    rw [q] at e
    exact congrArg some e
  · rename_i q
    rw [q] at e
    have a : es.toList.any (·.refKey) = false := by
      rw [List.any_eq_false]
      intro y hy
      obtain ⟨z, t, hkey⟩ := hk y (Array.mem_toList_iff.mp hy)
      simp [DictEntry.refKey, hkey]
    have a' : ¬ es.toList.any (·.refKey) = true := by rw [a]; exact Bool.false_ne_true
    rw [if_neg a']
    exact congrArg some e

theorem ObjM.look {h : Heap} {x dx C : Addr} {mA : Str → Option Value} (I : ObjM h x dx C mA) : ∃ od, PySem.W.InstAt h x (PySem.W.instObj C dx) C (some od) ∧ ∀ name, PySem.W.lookIn name od = some (mA name) :=
  let ⟨od, ho, hl⟩ := lookIn_ns I.ns
  ⟨od, ⟨I.obj, rfl, rfl, ho⟩, hl⟩

section
variable {prog : Program} {w : World} {A : Around} {E : Value → Shared → Prop} {s : Shared} {K : PySem.W.Frag} {x dx C f : Addr} {mA : Str → Option Value} {name : Str} {v : Value}

end

/-! ### the attributes as a list of pairs -/
def putF (f : Str) (v : V) : List (Str × V) → List (Str × V)
  | [] => [(f, v)]
  | (g, x) :: r => if g = f then (g, v) :: r else (g, x) :: putF f v r
theorem lookup_putF (f g : Str) (v : V) : ∀ fs : List (Str × V), (putF f v fs).lookup g = if g = f then some v else fs.lookup g
  | [] => by
    show List.lookup g [(f, v)] = _
    by_cases h : g = f
    · have hb : (g == f) = true := beq_iff_eq.mpr h
      simp only [List.lookup, hb, if_pos h]
    · have hb : (g == f) = false := beq_eq_false_iff_ne.mpr h
      simp only [List.lookup, hb, if_neg h]
  | (k, x) :: r => by
    have ih := lookup_putF f g v r
    rw [show putF f v ((k, x) :: r) = (if k = f then (k, v) :: r else (k, x) :: putF f v r) from rfl]
    by_cases hk : k = f
    · rw [if_pos hk]
      by_cases h : g = k
      · have hb : (g == k) = true := beq_iff_eq.mpr h
        simp only [List.lookup, hb, if_pos (h.trans hk)]
      · have hb : (g == k) = false := beq_eq_false_iff_ne.mpr h
        simp only [List.lookup, hb, if_neg (fun e : g = f => h (e.trans hk.symm))]
    · rw [if_neg hk]
      by_cases h : g = k
      · have hb : (g == k) = true := beq_iff_eq.mpr h
        simp only [List.lookup, hb, if_neg (fun e : g = f => hk (h.symm.trans e))]
      · have hb : (g == k) = false := beq_eq_false_iff_ne.mpr h
        simp only [List.lookup, hb]
        exact ih
section
variable {P : Program} {w : World} {H H' : Hp} {h h' : Heap} {a C dx : Addr} {fs fs' : List (Str × V)}
theorem ins_get (hok : HOk P w H h) (e : H a = some (.ins C dx fs)) : ∃ mA, ObjM h a dx C mA ∧ (∀ f, RelO (fs.lookup f) (mA f)) ∧ PySem.Within mA (fs.map (·.1)) ∧ fs.length ≤ 1000 ∧ H dx = some (.own a) := by
  obtain ⟨d, z, ne, ob, mA, n, r, q⟩ := (show ObjOk P w H h a (.ins C dx fs) from hok a _ e)
  exact ⟨mA, ⟨ob, n, ne⟩, r, q, z, d⟩
end

/-! ### what of the text a class must have -/
structure Cls (K : PySem.W.Frag) (C : Addr) : Prop where
  pg : PySem.W.plainGet K C Str.empty = true
  hd : PySem.W.hasDictIn K C = true
  po : PySem.W.plainOver K C = true
  sa : PySem.W.findIn K (.ref C) "__setattr__" = some (some (.builtin "object.__setattr__"))
theorem Cls.get {K : PySem.W.Frag} {C : Addr} (c : Cls K C) (f : Str) : PySem.W.plainGet K C f = true := c.pg
section
variable {X : Cx} {pins : List (Addr × Obj)} {σ : St} {H : Hp} {s : Shared} {a C dx : Addr} {fs : List (Str × V)} {f : Str} {v : V} {A : Around} {E : Value → Shared → Prop}

end

/-! ### readings and rules -/
section
variable {X : Cx} {o e value : Expr} {f : Str} {pos pos' tpos : Pos} {ta tv : TE}
end

/-! ### isinstance -/
section
variable {X : Cx} {pins : List (Addr × Obj)} {σ : St} {H : Hp} {s : Shared} {A : Around} {E : Value → Shared → Prop} {Q : Value → Shared → Prop} {c : Value} {b : Bool}
/-- the type of a value, as the fragment's deciders take it; for an instance its class -/
inductive TyOf (K : PySem.W.Frag) (H : Hp) : V → Value → Prop where
  | non : TyOf K H .non (.type "NoneType")
  | bl (x : Bool) : TyOf K H (.bl x) (.type "bool")
  | int (i : Int) : TyOf K H (.int i) (.type "int")
  | str (x : Str) : TyOf K H (.str x) (.type "str")
  | flt (x : UInt64) : TyOf K H (.flt x) (.type "float")
  | lst {a : Addr} {xs : List V} (e : H a = some (.lst xs)) : TyOf K H (.ref a) (.type "list")
  | frz {a : Addr} {o : Obj} {xs : List V} (e : H a = some (.frz o (.lst xs))) : TyOf K H (.ref a) (.type "list")
  | tup {a : Addr} {xs : List V} (e : H a = some (.tup xs)) : TyOf K H (.ref a) (.type "tuple")
  | dK {a : Addr} {kvs : List (Key × V)} (e : H a = some (.dK kvs)) : TyOf K H (.ref a) (.type "dict")
  | dT {a : Addr} {kvs : List (List Key × V)} (e : H a = some (.dT kvs)) : TyOf K H (.ref a) (.type "dict")
  | ins {a C dx : Addr} {fs : List (Str × V)} (e : H a = some (.ins C dx fs)) (cl : Cls K C) (ha : PySem.W.findIn K (.ref C) "__class__" = some (some (.builtin "object.__class__")))
      (hn : PySem.W.specialIn K (.builtin "object.__class__") "__get__" = some (some (.builtin "getset_descriptor.__get__"))) (htk : PySem.W.takesIn K (.builtin "object.__class__") = some true)
      (hm : PySem.W.mroIn K C (.type "object") = some true) : TyOf K H (.ref a) (.ref C)
/-- isinstance(x, c) for one class c, a built-in or an own one: kitOne's answer -/
theorem isinst_ok {x : V} {u t : Value} (I : Inv X pins σ H s) (rx : RelV x u) (ty : TyOf X.K H x t) (e : PySem.W.kitOne X.K t c = some b) (h : ∀ tk, Q (.bool b) { s with toks := tk }) :
    wpAny (model X.prog X.w) A (call (.builtin "isinstance") [u, c]) Q E s := by
  cases ty with
  | non => cases (show u = Value.none from rx); exact PySem.W.kia_one PySem.W.kitx_none I.kIn True.intro e (fun z => nomatch z) h
  | bl y => cases (show u = Value.bool y from rx); exact PySem.W.kia_one PySem.W.kitx_bool I.kIn True.intro e (fun z => nomatch z) h
  | int i => obtain ⟨t, q⟩ := (show ∃ t, u = Value.int i t from rx); cases q; exact PySem.W.kia_one PySem.W.kitx_int I.kIn True.intro e (fun z => nomatch z) h
  | str y => obtain ⟨t, q⟩ := (show ∃ t, u = Value.str y t from rx); cases q; exact PySem.W.kia_one PySem.W.kitx_str I.kIn True.intro e (fun z => nomatch z) h
  | flt y => obtain ⟨t, q⟩ := (show ∃ t, u = Value.float y t from rx); cases q; exact PySem.W.kia_one PySem.W.kitx_float I.kIn True.intro e (fun z => nomatch z) h
  | @lst a xs ea =>
    cases (show u = Value.ref a from rx)
    obtain ⟨_, _, n, _, h1⟩ := (show ObjOk X.prog X.w H s.heap a (.lst xs) from I.hok a _ ea)
    exact PySem.W.kia_one PySem.W.kitx_list I.kIn ⟨_, h1, rfl⟩ e (fun z => nomatch z) h
  | @frz a ob xs ea =>
    cases (show u = Value.ref a from rx)
    obtain ⟨_, _, _, n, _, h1⟩ := (show ObjOk X.prog X.w H s.heap a (.frz ob (.lst xs)) from I.hok a _ ea)
    exact PySem.W.kia_one PySem.W.kitx_list I.kIn ⟨_, h1, rfl⟩ e (fun z => nomatch z) h
  | @tup a xs ea =>
    cases (show u = Value.ref a from rx)
    obtain ⟨_, _, _, p⟩ := (show ObjOk X.prog X.w H s.heap a (.tup xs) from I.hok a _ ea)
    obtain ⟨o, h1, h2, _⟩ := p
    exact PySem.W.kia_one PySem.W.kitx_tuple I.kIn ⟨o, h1, h2⟩ e (fun z => nomatch z) h
  | @dK a kvs ea =>
    cases (show u = Value.ref a from rx)
    obtain ⟨_, _, vs, _, p⟩ := (show ObjOk X.prog X.w H s.heap a (.dK kvs) from I.hok a _ ea)
    obtain ⟨o, es, ep, h1, h2, _⟩ := p
    exact PySem.W.kia_one PySem.W.kitx_dict I.kIn ⟨o, h1, h2.1⟩ e (fun z => nomatch z) h
  | @dT a kvs ea =>
    cases (show u = Value.ref a from rx)
    obtain ⟨_, _, xs, _, o, es, ep, h1, h2, _⟩ := (show ObjOk X.prog X.w H s.heap a (.dT kvs) from I.hok a _ ea)
    exact PySem.W.kia_one PySem.W.kitx_dict I.kIn ⟨o, h1, h2.1⟩ e (fun z => nomatch z) h
  | @ins a C dx fs ea cl ha hn htk hm =>
    cases (show u = Value.ref a from rx)
    obtain ⟨mA, O, _⟩ := ins_get I.hok ea
    obtain ⟨od, J, _⟩ := O.look
    exact PySem.W.kia_one (PySem.W.kitx_own (cl.get _) cl.hd ha hn htk hm) I.kIn J e (fun z => nomatch z) h
end
end L2

namespace L2
open PySem PySem.Spec PyProof.Rows

/-! ### room -/
structure Room (k : Nat) (A : Around) : Prop where
  hd : A.handled = none
  dp : A.depth + 3 * k + 5 < recursionLimit
  un : A.units + 16 * k + 200 < cLine
theorem Room.mono {j k : Nat} {A : Around} (r : Room k A) (h : j ≤ k) : Room j A := ⟨r.hd, by have := r.dp; omega, by have := r.un; omega⟩
theorem Room.deeper {k : Nat} {A : Around} (r : Room (k + 1) A) (env : Env) : Room k (A.deeper env) :=
  ⟨r.hd, by have := r.dp; show A.depth + 1 + 3 * k + 5 < _; omega, by have := r.un; show A.units + 3 + 16 * k + 200 < _; omega⟩
theorem make_depth {A : Around} {C : Addr} {us : List Value} {kw : List (Str × Value)} : (A.under (.builtin "type.__call__" ⟨.ref C :: us, kw⟩)).depth = A.depth + 1 := by
  first | rfl | simp [Around.under, Code.weight, Code.isCreation, Code.isGuard, Code.isCaller, Code.frames, Code.isFrame, guardIds]
theorem make_units {A : Around} {C : Addr} {us : List Value} {kw : List (Str × Value)} : (A.under (.builtin "type.__call__" ⟨.ref C :: us, kw⟩)).units = A.units + 1 := by
  first | rfl | simp [Around.under, Code.cUnits, Code.frames, Code.isFrame]
theorem Room.depth {k : Nat} {A : Around} (r : Room k A) : A.depth < recursionLimit := by have := r.dp; omega
theorem Room.units {k : Nat} {A : Around} (r : Room k A) : A.units + 64 < cLine := by have := r.un; omega
theorem Room.units0 {k : Nat} {A : Around} (r : Room k A) : A.units < cLine := by have := r.un; omega

/-! ### argument lists and displays -/
def tNil : TA := fun _ H Q => Q [] H
def tCons (ta : TE) (tr : TA) : TA := fun σ H Q => ta σ H fun x H1 => tr σ H1 fun xs H2 => Q (x :: xs) H2
section
variable {X : Cx} {e : Expr} {es : List Expr} {te : TE} {t : TA} {pos : Pos}
theorem pa_nil : PA X [] tNil := fun _ _ _ _ H Q I h => Calls.spliced_nil ⟨[], H, I, .nil, h⟩
theorem pa_cons (ha : PE X e te) (hr : PA X es t) (hs : starEach (e :: es) X.env = (false, eval e X.env) :: starEach es X.env := by rfl) : PA X (e :: es) (tCons te t) := by
  intro pos pins s σ H Q I h
  rw [hs]
  show wpAny _ _ (spliced ((false, eval e X.env) :: backTo pos (starEach es X.env))) _ _ s
  refine Calls.spliced_cons (thn (ha pins s σ H _ I h) fun u s1 ⟨x, H1, I1, r1, q1⟩ => ?_)
  exact thn (hr pos pins s1 σ H1 _ I1 q1) fun us s2 ⟨xs, H2, I2, r2, q2⟩ => ⟨x :: xs, H2, I2, .cons r1 r2, q2⟩

/-- a tuple, a list of written items -/
def tTup (t : TA) : TE := fun σ H Q => t σ H fun xs H1 => xs.length ≤ sizeLine ∧ ∀ p, H1 p = none → Q (.ref p) (upd H1 p (.tup xs))
def tLst (t : TA) : TE := fun σ H Q => t σ H fun xs H1 => xs.length ≤ sizeLine ∧ ∀ p, H1 p = none → Q (.ref p) (upd H1 p (.lst xs))
theorem pe_tup {x1} (h : PA X es t) : PE X (.Tuple es x1 pos) (tTup t) := by
  intro pins s σ H Q I hq
  refine wpAny_Tuple_spliced (thn (h pos pins s σ H _ I hq) fun us s1 ⟨xs, H1, I1, r, z, q⟩ => ⟨by rw [← r.length]; exact z, ?_⟩)
  have hf : H1 s1.heap.objs.size = none := I1.hok.fresh (Nat.le_refl _)
  refine ⟨.ref s1.heap.objs.size, upd H1 s1.heap.objs.size (.tup xs), I1.laid (t' := s1.toks) (fun b u e => Heap.get?_push_of_some _ e) (Nat.le_refl _) ?_, rfl, q _ hf⟩
  exact ⟨z, us, r, ⟨_, Heap.get?_push_size _ rfl, rfl, _, rfl⟩⟩
theorem pe_lst (h : PA X es t) : PE X (.List es pos) (tLst t) := by
  intro pins s σ H Q I hq
  refine wpAny_List_spliced (thn (h pos pins s σ H _ I hq) fun us s1 ⟨xs, H1, I1, r, z, q⟩ => ⟨by rw [← r.length]; exact z, ?_⟩)
  have hf : H1 s1.heap.objs.size = none := I1.hok.fresh (Nat.le_refl _)
  refine ⟨.ref s1.heap.objs.size, upd H1 s1.heap.objs.size (.lst xs), I1.laid (t' := s1.toks) (fun b u e => Heap.get?_push_of_some _ e) (Nat.le_refl _) ?_, rfl, q _ hf⟩
  exact ⟨z, us, 0, r, Heap.get?_push_size _ rfl⟩
end

/-! ### what a def promises -/
/-- a def's promise: the bound arguments in the parameters' order, the heap, the wanted end, the wanted exception -/
abbrev Sp := List V → Hp → VK → XK → Prop
/-- how an exception lies behind a call (file 08 gives it): the callers' frames, abstract heap and state ahead of the call, the wish, the exception, the state -/
abbrev CXT := List Env → Hp → Shared → XK → Value → Shared → Prop

/-- the state at a call -/
structure Env0 (P : Program) (w : World) (K : PySem.W.Frag) (mg : Str → Option Value) (base : Heap) (A : Around) (outer : List Env) (s : Shared) (H : Hp) : Prop where
  frames : A.frames = some outer
  mod : Mod K mg base
  bs : ∀ b o, base.get? b = some o → s.heap.get? b = some o ∧ H b = none
  bsz : base.objs.size ≤ s.heap.objs.size
  funs : s.heap.FunFrames base outer
  frf : ∀ b ∈ frs outer, H b = none
  hok : HOk P w H s.heap
  bare : AllBare s.gens
/-- a call's end -/
def CE (outer : List Env) (P : Program) (w : World) (H : Hp) (s : Shared) (Q : VK) (u : Value) (s' : Shared) : Prop :=
  ∃ v H', s'.os = s.os ∧ AllBare s'.gens ∧ Un (frs outer) [] H H' s.heap s'.heap ∧ HOk P w H' s'.heap ∧ RelV v u ∧ Q v H'
def CR (CX : CXT) (outer : List Env) (P : Program) (w : World) (H : Hp) (s : Shared) (Q : VK) (E : XK) (r : Result) (s' : Shared) : Prop :=
  match r with
  | .ok (.ret u) => CE outer P w H s Q u s'
  | .ok _ => False
  | .error e => CX outer H s E e s'
structure FnOk (P : Program) (w : World) (K : PySem.W.Frag) (mg : Str → Option Value) (base : Heap) (CX : CXT) (k : Nat) (f : Addr) (fd : FuncData) (ps : List Str) (sp : Sp) : Prop where
  len : ∀ vs H Q E, sp vs H Q E → vs.length = ps.length
  run : ∀ (A : Around) (outer : List Env) (s : Shared) (H : Hp) (args : Args) (us : List Value) (vs : List V) (Q : VK) (E : XK), Room k A → Env0 P w K mg base A outer s H → BindsTo s fd args (ps.zip us) → Vals vs us → sp vs H Q E →
    codeAny (model P w) A (.call (.ref f) args) (CR CX outer P w H s Q E) s
section
variable {X : Cx} {pins : List (Addr × Obj)} {σ : St} {H : Hp} {s s' : Shared}
/-- from a body: what a callee wants -/
theorem Inv.env0 (I : Inv X pins σ H s) : Env0 X.prog X.w X.K X.mg X.base X.A X.stack s H :=
  ⟨I.ok.frames, I.ok.mod, I.bs, Nat.le_trans I.ok.bsz I.sz, I.stack, I.stkFree, I.hok, I.bare⟩
/-- behind a call -/
theorem Inv.after {Q : VK} {u : Value} (I : Inv X pins σ H s) (h : CE X.stack X.prog X.w H s Q u s') : EP X pins σ Q u s' := by
  obtain ⟨v, H', os, bare, un, hok, r, q⟩ := h
  obtain ⟨hh, g, d, t, os'⟩ := s'
  obtain rfl : os' = s.os := os
  exact ⟨v, H', I.call (h' := hh) (g' := g) (d' := d) (t' := t) (ch := []) un hok bare (fun b z => absurd z (by simp)), r, q⟩
end

/-! ### calls -/
/-- f(..): the written arguments, then the defaults dvs; E: what is wanted of an exception -/
def tCall (sp : Sp) (dvs : List V) (E : XK) (t : TA) : TE := fun σ H Q => t σ H fun vs H1 => sp (vs ++ dvs) H1 Q E
/-- how the parameters are bound: us the positional arguments, kw the keywords' values by name, ds the defaults that fill up -/
def Binds (K : PySem.W.Frag) (fd : FuncData) (ps : List Str) (ds : List Value) : Prop :=
  ∀ (s : Shared) (us : List Value), K.In s.heap → (us ++ ds).length = ps.length → BindsTo s fd ⟨us, []⟩ (ps.zip (us ++ ds))
/-- every parameter is given -/
theorem Binds.all {K : PySem.W.Frag} {fd : FuncData} {ps : List Str} (h : ∀ us : List Value, us.length = ps.length → bindArgs fd ⟨us, []⟩ = pure (ps.zip us)) : Binds K fd ps [] := fun s us _ hl => by
  rw [List.append_nil] at hl ⊢
  exact .of_eq (h us hl)

/-- an exception of a callee reaches what this body wants of exceptions -/
def Passes (CX : CXT) (X : Cx) (E : XK) : Prop := ∀ (pins : List (Addr × Obj)) (σ : St) (H : Hp) (s : Shared) (e : Value) (s' : Shared), Inv X pins σ H s → CX X.stack H s E e s' → X.xe e s'

section
variable {X : Cx} {CX : CXT} {k : Nat} {f C : Addr} {fd : FuncData} {ps : List Str} {sp : Sp} {dvs : List V} {ds : List Value} {E : XK} {x m : Str} {p pos apos : Pos} {e o : Expr} {es : List Expr} {ta : TE} {t : TA}

/-- the callee runs -/
theorem run_fn {pins : List (Addr × Obj)} {σ : St} {H : Hp} {s : Shared} {Q : VK} {us : List Value} {vs : List V} (F : FnOk X.prog X.w X.K X.mg X.base CX k f fd ps sp) (hr : Room k X.A) (hb : Binds X.K fd ps ds) (hd : Vals dvs ds) (hx : Passes CX X E)
    (I : Inv X pins σ H s) (r : Vals vs us) (h : sp (vs ++ dvs) H Q E) : wpAny (model X.prog X.w) X.A (call (.ref f) us) (EP X pins σ Q) X.xe s := by
  have r2 : Vals (vs ++ dvs) (us ++ ds) := r.append hd
  have hl : (us ++ ds).length = ps.length := by rw [← r2.length]; exact F.len _ _ _ _ h
  refine wpAny_call (codeAny_mono (F.run X.A X.stack s H ⟨us, []⟩ (us ++ ds) (vs ++ dvs) Q E hr I.env0 (hb s us I.kIn hl) r2 h) fun r s' hq => ?_)
  cases r with
  | error e => exact hx pins σ H s e s' I hq
  | ok fl =>
    cases fl with
    | ret u => exact I.after hq
    | next => exact False.elim hq
    | brk => exact False.elim hq
    | cont => exact False.elim hq

theorem pe_call (F : FnOk X.prog X.w X.K X.mg X.base CX k f fd ps sp) (hr : Room k X.A) (hg : Gl X x) (hm : X.mg x = some (.ref f)) (hk : PySem.W.keepIn X.K (.ref f) = true) (hb : Binds X.K fd ps ds) (hd : Vals dvs ds) (hx : Passes CX X E)
    (ha : PA X (e :: es) t) (hdb : (x == ("__debug__" : Str)) = false := by decide) (he : starEach (e :: es) X.env = (false, eval e X.env) :: starEach es X.env := by rfl) (hpl : (backTo pos (starEach es X.env)).any (·.1) = false := by rfl) :
    PE X (.Call (.Name x p) (e :: es) [] pos) (tCall sp dvs E t) := by
  intro pins s σ H Q I h
  refine wpAny_Call_Name_kw (ld_glob I hg hm ?_ hdb)
  refine PySem.W.callWith_K (h₀ := X.base) I.ok.mod.kin hk (thn (ha pos pins s σ H _ I h) fun us s1 ⟨vs, H1, I1, r, q⟩ => ⟨I1.kIn, ?_⟩) he hpl
  exact run_fn F hr hb hd hx I1 r q
end

/-! ### keywords -/
section
variable {X : Cx} {CX : CXT} {k : Nat} {f C : Addr} {fd : FuncData} {ps ks : List Str} {sp : Sp} {E : XK} {x m : Str} {p pos apos kpos : Pos} {e o : Expr} {es : List Expr} {kws : List Keyword} {te ta : TE} {t tk : TA} {nm : Option Str}
variable {g : List Value → List Value → List Value} {gV : List V → List V → List V}
end

/-! ### a def's body keeps its promise -/
/-- names: the parameters first -/
structure FnScope (N P : List Str) (sc : Scope) : Prop where
  kind : sc.kind = .function
  co : sc.isCoroutine = false
  gen : sc.isGenerator = false
  nd : N.Nodup
  pre : N.take P.length = P
  par : ∀ x ∈ P, sc.names.lookup x = some .local ∨ sc.names.lookup x = some .cell
  nofree : ∀ y ∈ sc.names, y.2 ≠ .free

theorem bindL_out {kindOf : Str → Option NameKind} {x : Str} : ∀ {binds : List (Str × Value)} {m : Str → Option Value}, (∀ v, (x, v) ∉ binds) → bindL kindOf binds m x = m x
  | [], _, _ => rfl
  | (n, v) :: r, m, h => by
    unfold bindL
    rw [bindL_out fun w hw => h w (List.mem_cons_of_mem _ hw)]
    split
    · have : x ≠ n := by rintro rfl; exact h v List.mem_cons_self
      simp [this]
    · rfl
theorem bindC_out {kindOf : Str → Option NameKind} {x : Str} : ∀ {binds : List (Str × Value)} {m : Str → Option Value}, (∀ v, (x, v) ∉ binds) → bindC kindOf binds m x = m x
  | [], _, _ => rfl
  | (n, v) :: r, m, h => by
    unfold bindC
    rw [bindC_out fun w hw => h w (List.mem_cons_of_mem _ hw)]
    split
    · rfl
    · have : x ≠ n := by rintro rfl; exact h v List.mem_cons_self
      simp [this]
theorem bindL_get {kindOf : Str → Option NameKind} {x : Str} {v : Value} : ∀ {P : List Str} {vs : List Value} {i : Nat} {m : Str → Option Value}, P.Nodup → P[i]? = some x → vs[i]? = some v → kindOf x = some .local →
    bindL kindOf (P.zip vs) m x = some v
  | [], _, _, _, _, h, _, _ => by simp at h
  | _ :: _, [], _, _, _, _, h, _ => by simp at h
  | p :: P, w :: vs, 0, m, nd, h1, h2, hk => by
    simp at h1 h2; subst h1; subst h2
    show bindL kindOf ((p, w) :: P.zip vs) m p = _
    unfold bindL
    rw [bindL_out fun v hv => (List.nodup_cons.mp nd).1 (List.of_mem_zip hv).1, if_pos hk]
    simp
  | p :: P, w :: vs, i + 1, m, nd, h1, h2, hk => by
    show bindL kindOf ((p, w) :: P.zip vs) m x = _
    unfold bindL
    exact bindL_get (i := i) (List.nodup_cons.mp nd).2 (by simpa using h1) (by simpa using h2) hk
theorem bindC_get {kindOf : Str → Option NameKind} {x : Str} {v : Value} : ∀ {P : List Str} {vs : List Value} {i : Nat} {m : Str → Option Value}, P.Nodup → P[i]? = some x → vs[i]? = some v → kindOf x ≠ some .local →
    bindC kindOf (P.zip vs) m x = some v
  | [], _, _, _, _, h, _, _ => by simp at h
  | _ :: _, [], _, _, _, _, h, _ => by simp at h
  | p :: P, w :: vs, 0, m, nd, h1, h2, hk => by
    simp at h1 h2; subst h1; subst h2
    show bindC kindOf ((p, w) :: P.zip vs) m p = _
    unfold bindC
    rw [bindC_out fun v hv => (List.nodup_cons.mp nd).1 (List.of_mem_zip hv).1, if_neg hk]
    simp
  | p :: P, w :: vs, i + 1, m, nd, h1, h2, hk => by
    show bindC kindOf ((p, w) :: P.zip vs) m x = _
    unfold bindC
    exact bindC_get (i := i) (List.nodup_cons.mp nd).2 (by simpa using h1) (by simpa using h2) hk

/-- the names' values at the entry -/
def start (N : List Str) (vs : List V) : St := vs.map some ++ List.replicate (N.length - vs.length) none

/-- the context of a def's body, at its entry; an exception leaves the frame, then lies as CX says -/
def cxOf (CX : CXT) (P : Program) (w : World) (K : PySem.W.Frag) (mg : Str → Option Value) (base : Heap) (N : List Str) (qual : Str) (scope : Scope) (f : Addr) (cd : Value) (A : Around) (outer : List Env) (s : Shared) (H : Hp) (E : XK) : Cx where
  prog := P
  w := w
  K := K
  mg := mg
  base := base
  A := A.deeper (envOfC qual scope s.heap.objs.size f cd)
  N := N
  s₀ := s
  H₀ := H
  env := envOfC qual scope s.heap.objs.size f cd
  outer := outer
  stack := envOfC qual scope s.heap.objs.size f cd :: outer
  ex := []
  calm := true
  fn := fun _ => true
  pn := []
  xe := fun e s' => wpAny (model P w) (A.deeper (envOfC qual scope s.heap.objs.size f cd)) (leaving (envOfC qual scope s.heap.objs.size f cd) e) (fun _ s'' => CX outer H s E e s'') (fun e' s'' => CX outer H s E e' s'') s'

theorem cell_has {sc : Scope} {n : Nat} {x : Str} (h : sc.names.lookup x = some .cell) : ∃ c, (cellsFrom n sc.names []).lookup x = some c := by
  have q := PySem.W.cellsFrom_some sc.names n [] (.inl h)
  exact Option.isSome_iff_exists.mp q

theorem inv_start {CX : CXT} {P : Program} {w : World} {K : PySem.W.Frag} {mg : Str → Option Value} {base : Heap} {N ps : List Str} {qual : Str} {scope : Scope} {f : Addr} {cd : Value} {A : Around} {outer : List Env} {s s1 : Shared} {H : Hp} {E : XK} {us : List Value} {vs : List V}
    (S : FnScope N ps scope) (hd : A.handled = none) (e0 : Env0 P w K mg base A outer s H) (hl : vs.length = ps.length) (r : Vals vs us)
    (x : InCallC s s.heap.objs.size (bindL (envOfC qual scope s.heap.objs.size f cd).kindOf (ps.zip us) fun _ => none) (cellsFrom (s.heap.objs.size + 1) scope.names []) (bindC (envOfC qual scope s.heap.objs.size f cd).kindOf (ps.zip us) fun _ => none) s1) :
    Inv (cxOf CX P w K mg base N qual scope f cd A outer s H E) [] (start N vs) H s1 := by
  have hpl : ps.length ≤ N.length := by have := congrArg List.length S.pre; rw [List.length_take] at this; omega
  obtain ⟨h1, tk, rfl, hk⟩ := x.done
  have noA : ∀ b : Addr, b ∉ (cxOf CX P w K mg base N qual scope f cd A outer s H E).ex := fun b z => absurd (show b ∈ ([] : List Addr) from z) (by simp)
  refine ⟨⟨e0.mod, S.kind, rfl, rfl, Nat.le_refl _, fun y z c h1 h2 => ?_, fun y hy => ?_, fun y c _ h => ?_, fun _ => hd, Around.frames_deeper e0.frames, .inr ⟨rfl, rfl⟩, fun b z => absurd z (noA b), e0.bs, e0.bsz, fun b _ _ => noA b, fun b z => absurd z (noA b), e0.funs, e0.frf⟩,
    rfl, e0.bare, Un.kept hk, ⟨_, x.toInCall.ns, fun i y v h1 h2 h3 => ?_⟩, fun y c h => ⟨_, x.cell y c h⟩, e0.hok.fresh (Nat.le_refl _), fun y c h => ?_, fun p hp => absurd (show p ∈ ([] : List (Addr × Obj)) from hp) (by simp), e0.hok.kept hk, ?_⟩
  · exact name_of_addr x.apart (PySem.mem_of_lookup h1) (PySem.mem_of_lookup h2)
  · have hy : scope.names.lookup y = some .cell ∨ scope.names.lookup y = some .free := hy
    rcases hy with hy | hy
    · exact cell_has hy
    · exact absurd rfl (S.nofree _ (PySem.mem_of_lookup hy))
  · exact Nat.le_of_lt (x.above y c (PySem.mem_of_lookup h))
  · have hi : i < vs.length := by
      unfold start at h2
      by_cases hi : i < vs.length
      · exact hi
      · rw [List.getElem?_append_right (by simpa using hi)] at h2
        rw [List.getElem?_replicate] at h2
        split at h2 <;> cases h2
    have ha : vs[i]? = some v := by
      unfold start at h2
      rw [List.getElem?_append_left (by simpa using hi), List.getElem?_map] at h2
      cases e : vs[i]? with
      | none => rw [e] at h2; cases h2
      | some a => rw [e] at h2; cases h2; rfl
    obtain ⟨u, hu, rv⟩ := r.get ha
    have hp : ps[i]? = some y := by
      rw [← S.pre, List.getElem?_take_of_lt (by omega)]; exact h1
    have ndP : ps.Nodup := by rw [← S.pre]; exact S.nd.sublist (List.take_sublist _ _)
    refine ⟨u, rv, ?_⟩
    rcases S.par y (List.mem_of_getElem? hp) with k | k
    · exact .inl ⟨k, bindL_get ndP hp hu k⟩
    · obtain ⟨c, e⟩ := cell_has (n := s.heap.objs.size + 1) k
      refine .inr ⟨.inl k, c, e, ?_⟩
      have q := x.cell y c e
      rw [bindC_get ndP hp hu (by show scope.names.lookup y ≠ _; rw [k]; decide)] at q
      exact q
  · exact e0.hok.fresh (Nat.le_of_lt (x.above y c (PySem.mem_of_lookup h)))
  · unfold start
    show _ = N.length
    rw [List.length_append, List.length_map, List.length_replicate]
    omega

/-- THE RULE: a def (or a method) of the text, by its body. The body's reading t is chosen for each entry; it is run at the parameters' values -/
theorem fn_of {CX : CXT} {P : Program} {w : World} {K : PySem.W.Frag} {mg : Str → Option Value} {base : Heap} {k : Nat} {f : Addr} {name qual : Str} {params : Arguments} {body : List Stmt} {scope : Scope} {dV kV doc pm cdv ct oc : Value} {an od : Option Addr}
    {osl : Array (Option Value)} {N ps : List Str} {sp : Sp} (lk : K.lookup f = some ⟨oc, od, .func (PySem.W.fnOf name qual params body scope dV kV doc pm an cdv ct), osl⟩) (hcd : PySem.W.codeIn K cdv qual = true) (S : FnScope N ps scope)
    (len : ∀ vs H Q E, sp vs H Q E → vs.length = ps.length)
    (hbody : ∀ (A : Around) (outer : List Env) (s : Shared) (H : Hp) (vs : List V) (Q : VK) (E : XK), Room k (A.deeper (envOfC qual scope s.heap.objs.size f cdv)) → sp vs H Q E →
      ∃ t, PSs (cxOf CX P w K mg base N qual scope f cdv A outer s H E) body t ∧ t { nx := fun _ H' => Q .non H', rt := Q } (start N vs) H) :
    FnOk P w K mg base CX (k + 1) f (PySem.W.fnOf name qual params body scope dV kV doc pm an cdv ct) ps sp := by
  refine ⟨len, fun A outer s H args us vs Q E hr e0 hb r hsp => ?_⟩
  have hl := len _ _ _ _ hsp
  have KX : K.In s.heap := e0.mod.kin.keeps fun b o e => (e0.bs b o e).1
  have lim : s.heap.NoLimit := e0.mod.nolimit.keeps fun b o e => (e0.bs b o e).1
  have hkind : ∀ y ∈ ps.zip us, scope.names.lookup y.1 = some .local ∨ (scope.names.lookup y.1 = some .cell ∧ ((cellsFrom (s.heap.objs.size + 1) scope.names []).lookup y.1).isSome = true) := fun ⟨n, v⟩ hy => by
    rcases S.par n (List.of_mem_zip hy).1 with q | q
    · exact .inl q
    · exact .inr ⟨q, PySem.W.cellsFrom_some _ _ _ (.inl q)⟩
  refine codeAny_call_function hr.depth (KX _ _ lk) rfl S.co S.gen rfl (PySem.W.codeRec_of KX hcd) (hb _ _ _ _ ?_)
  refine wpAny_newFunctionEnv_cells S.kind hkind fun env he s1 x => ?_
  subst he
  refine ⟨lim.keeps x.toInCall.keep, codeAny_func ?_⟩
  obtain ⟨t, ht, hq⟩ := hbody A outer s H vs Q E (hr.deeper _) hsp
  have I : Inv (cxOf CX P w K mg base N qual scope f cdv A outer s H E) [] (start N vs) H s1 := inv_start S hr.hd e0 hl r x
  refine wpAny_mono (ht [] s1 (start N vs) H _ I hq) (fun fl s' hs => ?_) fun e s' hs => hs
  have fin : ∀ {σ' : St} {H' : Hp} {v : V} {u : Value}, Inv (cxOf CX P w K mg base N qual scope f cdv A outer s H E) [] σ' H' s' → RelV v u → Q v H' → CE outer P w H s Q u s' :=
    fun {σ' H' v u} J rv q => ⟨v, H', J.os, J.bare, J.base, J.hok, rv, q⟩
  cases fl with
  | ret u =>
    obtain ⟨v, σ', H', J, rv, q⟩ := hs
    exact fin J rv q
  | next =>
    obtain ⟨σ', H', J, q⟩ := hs
    exact fin (v := V.non) (u := Value.none) J rfl q
  | brk =>
    obtain ⟨_, _, _, q⟩ := hs
    exact False.elim q
  | cont =>
    obtain ⟨_, _, _, q⟩ := hs
    exact False.elim q
end L2

namespace L2
open PySem PySem.Spec PyProof.Rows
section
variable {X : Cx} {x : Str} {p pos : Pos} {e : Expr} {es : List Expr} {t : TA} {id T : String} {r : List V → Hp → VK → Prop}

def tCB (r : List V → Hp → VK → Prop) (t : TA) : TE := fun σ H Q => t σ H fun vs H1 => r vs H1 Q
/-- f(e, ..), f a built-in function -/
theorem pe_callB (hc : CallR X (.builtin id) r) (hg : Gl X x) (hm : X.mg x = none) (hv : bootBuiltins x = some (.builtin id)) (ha : PA X (e :: es) t) (hn : x ≠ "__name__" := by decide) (hdb : (x == ("__debug__" : Str)) = false := by decide)
    (he : starEach (e :: es) X.env = (false, eval e X.env) :: starEach es X.env := by rfl) (hpl : (backTo pos (starEach es X.env)).any (·.1) = false := by rfl) : PE X (.Call (.Name x p) (e :: es) [] pos) (tCB r t) := by
  intro pins s σ H Q I h
  refine wpAny_Call_Name_kw (ld_blt I hg hm hv ?_ hn hdb)
  exact PyProof.Rows.callWith_builtin1 (thn (ha pos pins s σ H _ I h) fun us s1 ⟨vs, H1, I1, r1, q1⟩ => hc pins s1 σ H1 vs us Q I1 r1 q1) he hpl
/-- T(e, ..), T a built-in type -/
theorem pe_callTy (hc : CallR X (.type T) r) (hg : Gl X x) (hm : X.mg x = none) (hv : bootBuiltins x = some (.type T)) (ha : PA X (e :: es) t) (hn : x ≠ "__name__" := by decide) (hdb : (x == ("__debug__" : Str)) = false := by decide)
    (he : starEach (e :: es) X.env = (false, eval e X.env) :: starEach es X.env := by rfl) (hpl : (backTo pos (starEach es X.env)).any (·.1) = false := by rfl) : PE X (.Call (.Name x p) (e :: es) [] pos) (tCB r t) := by
  intro pins s σ H Q I h
  refine wpAny_Call_Name_kw (ld_blt I hg hm hv ?_ hn hdb)
  exact PyProof.Rows.callWith_type1 (thn (ha pos pins s σ H _ I h) fun us s1 ⟨vs, H1, I1, r1, q1⟩ => hc pins s1 σ H1 vs us Q I1 r1 q1) he hpl
end
end L2

namespace HT
open PySem PyProof.Rows

/-- t < u of tuples of ints -/
def lexLt : List Int → List Int → Bool
  | [], [] => false
  | [], _ :: _ => true
  | _ :: _, [] => false
  | x :: xs, y :: ys => if x = y then lexLt xs ys else decide (x < y)
theorem lexLt_cons (x y : Int) (xs ys : List Int) : lexLt (x :: xs) (y :: ys) = if x = y then lexLt xs ys else decide (x < y) := rfl
theorem lexLt_nil_nil : lexLt [] [] = false := rfl
theorem lexLt_nil_cons (y : Int) (ys : List Int) : lexLt [] (y :: ys) = true := rfl
theorem lexLt_cons_nil (x : Int) (xs : List Int) : lexLt (x :: xs) [] = false := rfl

theorem eqAt_int (A : Around) (s : Shared) (a : Int) (t : Tok) (c : Int) (u : Tok) : ∃ e, SeqAt.EqAt A s (.int a t) (.int c u) e ∧ (e = true ↔ a = c) :=
  ⟨(a == c), SeqAt.EqAt.int_int a t c u, by simp⟩
theorem rcLt_int (A : Around) (s : Shared) (a : Int) (t : Tok) (c : Int) (u : Tok) (prog : Program) (w : World) (E : Value → Shared → Prop) (Q : Value → Shared → Prop) (h : Q (.bool (decide (a < c))) s) :
    wpAny (model prog w) A (richCompare .Lt (.int a t) (.int c u)) Q E s :=
  (PyProof.Rows.lt_int h : wpAny (model prog w) A (compareOp .Lt (.int a t) (.int c u)) Q E s)

section
open PySem.SeqAt
open PySem.AutoSeq1 (wpAny_loadPart')
open PySem.MeetsSeq PySem.MeetsSeq2 PySem.MeetsSeq3

theorem tuple_lt_ints (l b : Addr) (items items2 : Array Value) (n n2 : Nat) (dd dd2 : Option Addr) (sl sl2 : Array (Option Value)) (ns ms : List Int) (hi : IntsAre items.toList ns) (hj : IntsAre items2.toList ms) :
    Meets (Builtin.«tuple.__lt__» ⟨[.ref l, .ref b], []⟩)
      (fun _ R s => s.heap.get? l = some { cls := .type "tuple", dict := dd, data := .seq items n, slots := sl } ∧ s.heap.get? b = some { cls := .type "tuple", dict := dd2, data := .seq items2 n2, slots := sl2 } ∧
        R (.ok (.ret (.bool (lexLt ns ms)))) s) :=
  .of_wp fun prog w A R s h => by
    obtain ⟨hp, g, d, tk, os⟩ := s; obtain ⟨hl, hb, h⟩ := h
    have f2 := AutoSeq1.sub_tuple_tuple
    have z1 : items.size = ns.length := by rw [← hi.length]; simp
    have z2 : items2.size = ms.length := by rw [← hj.length]; simp
    wp_walk using wpAny_loadPart' hl, wpAny_loadPart' hb, wpAny_forIn_list _ (fun rest b s' => b.1 = none ∧ s' = ⟨hp, g, d, tk, os⟩ ∧ ∃ (vs ws : List Value) (ns' ms' : List Int), rest = vs.zip ws ∧
      IntsAre vs ns' ∧ IntsAre ws ms' ∧ ns'.length + items2.size = ms'.length + items.size ∧ R (.ok (.ret (.bool (lexLt ns' ms')))) ⟨hp, g, d, tk, os⟩) _
    case turn =>
      rintro ⟨y, x⟩ rest b s' ⟨hb', rfl, vs, ws, ns', ms', hz, hvi, hwi, hlen, hR⟩
      cases hvi with
      | nil => rw [List.zip_nil_left] at hz; cases hz
      | cons a t hvi' =>
        cases hwi with
        | nil => rw [List.zip_nil_right] at hz; cases hz
        | cons c u hwi' =>
          rw [List.zip_cons_cons] at hz
          injection hz with hyx hrest
          injection hyx with hy hx
          subst hy hx
          rw [lexLt_cons] at hR
          simp only [List.length_cons] at hlen
          obtain ⟨e, he, hiff⟩ := eqAt_int A.in1 ⟨hp, g, d, tk, os⟩ a t c u
          refine wpAny_bind (he prog w _ _ ?_)
          cases e with
          | true =>
            rw [if_pos (hiff.mp rfl)] at hR
            wp_walk
            exact ⟨rfl, rfl, _, _, _, _, hrest, hvi', hwi', by omega, hR⟩
          | false =>
            rw [if_neg (fun q => absurd (hiff.mpr q) Bool.false_ne_true)] at hR
            have hri := rcLt_int A.in1 ⟨hp, g, d, tk, os⟩ a t c u prog w
            wp_walk using hri
            exact ⟨_, rfl, by simpa using hR⟩
    case fin =>
      rintro ⟨b1, b2⟩ s' ⟨hb', rfl, vs, ws, ns', ms', hz, hvi, hwi, hlen, hR⟩
      simp only at hb'
      subst hb'
      have hv : lexLt ns' ms' = decide (items.size < items2.size) := by
        cases hvi with
        | nil =>
          cases hwi with
          | nil =>
            simp only [List.length_nil] at hlen
            rw [lexLt_nil_nil]
            exact (decide_eq_false (by omega)).symm
          | cons c u hw =>
            simp only [List.length_nil, List.length_cons] at hlen
            rw [lexLt_nil_cons]
            exact (decide_eq_true (by omega)).symm
        | cons a t hv =>
          cases hwi with
          | nil =>
            simp only [List.length_nil, List.length_cons] at hlen
            rw [lexLt_cons_nil]
            exact (decide_eq_false (by omega)).symm
          | cons c u hw =>
            rw [List.zip_cons_cons] at hz
            cases hz
      rw [hv] at hR
      wp_walk
      exact ⟨_, rfl, by simpa [Builtin.Tuple.tupleCompareSizes] using hR⟩
    case h =>
      exact ⟨rfl, rfl, items.toList, items2.toList, ns, ms, rfl, hi, hj, by omega, h⟩
end

section
variable {prog : Program} {w : World} {A : Around} {E : Value → Shared → Prop} {s : Shared}

theorem lt_tupInts {l b : Addr} {items items2 : Array Value} {ns ms : List Int} {Q : Value → Shared → Prop} (hl : IsTup s.heap l items) (hb : IsTup s.heap b items2) (hi : IntsAre items.toList ns) (hj : IntsAre items2.toList ms)
    (hu : A.units < cLine) (h : Q (.bool (lexLt ns ms)) s) : wpAny (model prog w) A (compareOp .Lt (.ref l) (.ref b)) Q E s := by
  obtain ⟨⟨cls, dd, data, sl⟩, ho, hc, n, hd⟩ := id hl
  obtain ⟨⟨cls2, dd2, data2, sl2⟩, ho2, hc2, n2, hd2⟩ := id hb
  simp only at hc hd hc2 hd2
  subst hc hd hc2 hd2
  exact richCompare_meets_room (op := .Lt) ⟨_, ho, rfl⟩ ⟨_, ho2, rfl⟩ PySem.F.slot_tuple_lt PySem.F.entry_tuple_lt (PySem.F.args_tuple_lt_2 _ _) (tuple_lt_ints l b items items2 n n2 dd dd2 sl sl2 ns ms hi hj)
    ⟨ho, ho2, show Value.bool (lexLt ns ms) ≠ Value.notImplemented ∧ Q (.bool (lexLt ns ms)) s from ⟨(fun x => nomatch x), h⟩⟩ hu

/-- t + u, t not empty -/
theorem cat_tup {t b : Addr} {vs ws : List Value} {Q : Value → Shared → Prop} (ht : IsTup s.heap t vs.toArray) (hb : IsTup s.heap b ws.toArray) (hv : vs ≠ [])
    (h1 : ws = [] → Q (.ref t) s) (h2 : ws ≠ [] → Q (.ref s.heap.objs.size) { s with heap := s.heap.push { cls := .type "tuple", data := .seq (vs ++ ws).toArray } })
    (hsz : vs.length + ws.length ≤ sizeLine) : wpAny (model prog w) A (binaryOp .Add (.ref t) (.ref b)) Q E s := by
  obtain ⟨⟨cls, dd, data, sl⟩, ho, hc, n, hd⟩ := id ht
  obtain ⟨⟨cls2, dd2, data2, sl2⟩, ho2, hc2, n2, hd2⟩ := id hb
  simp only at hc hd hc2 hd2
  subst hc hd hc2 hd2
  have e : vs.toArray ++ ws.toArray = (vs ++ ws).toArray := by simp
  by_cases hw : ws = []
  · exact concat_meets ⟨_, ho, rfl⟩ ⟨_, ho2, rfl⟩ noFill_tuple_add seq_tuple_add PySem.F.slot_tuple_add PySem.F.entry_tuple_add (PySem.F.args_tuple_add_2 _ _)
      (tuple_addW1 t b vs.toArray ws.toArray n n2 dd dd2 sl sl2 (by simpa using hv) (by simp [hw])) ⟨ho, ho2, h1 hw⟩
  · refine concat_meets ⟨_, ho, rfl⟩ ⟨_, ho2, rfl⟩ noFill_tuple_add seq_tuple_add PySem.F.slot_tuple_add PySem.F.entry_tuple_add (PySem.F.args_tuple_add_2 _ _)
      (tuple_addW2 t b vs.toArray ws.toArray n n2 dd dd2 sl sl2 (by simpa using hv) (by simpa using hw) (by rw [List.size_toArray, List.size_toArray]; exact hsz)) ⟨ho, ho2, ?_⟩
    rw [e]
    exact h2 hw

/-! ### t[a:b], not the whole -/
/-- a slice's bound as a place among n (d where it is left out) -/
def sIx (n d : Nat) : Option Int → Nat
  | none => d
  | some v => if v < 0 then (v + (n : Int)).toNat else min v.toNat n
theorem sIx_le (n d : Nat) (hd : d ≤ n) (o : Option Int) : sIx n d o ≤ n := by
  cases o with
  | none => exact hd
  | some v =>
    show (if v < 0 then (v + (n : Int)).toNat else min v.toNat n) ≤ n
    by_cases hv : v < 0
    · rw [if_pos hv]; omega
    · rw [if_neg hv]; exact Nat.min_le_right _ _
theorem clip_eq (v : Int) (n d : Nat) : (if v < 0 then max (v + (n : Int)) 0 else min v (n : Int)) = ((sIx n d (some v) : Nat) : Int) := by
  show (if v < 0 then max (v + (n : Int)) 0 else min v (n : Int)) = (((if v < 0 then (v + (n : Int)).toNat else min v.toNat n) : Nat) : Int)
  by_cases hv : v < 0
  · simp only [if_pos hv]; omega
  · simp only [if_neg hv]; omega
theorem adjust_gen (lo hi : Option Int) (n : Nat) : Builtin.Slice.sliceAdjust lo hi 1 (n : Int) = (((sIx n 0 lo : Nat) : Int), ((sIx n n hi : Nat) : Int)) := by
  have h1 : ¬ ((1 : Int) < 0) := by omega
  unfold Builtin.Slice.sliceAdjust
  simp only [h1, if_false]
  refine Prod.ext ?_ ?_
  · cases lo with
    | none => rfl
    | some v => exact clip_eq v n 0
  · cases hi with
    | none => rfl
    | some v => exact clip_eq v n n
theorem places_gen (i j : Nat) : Builtin.Slice.slicePlaces (i : Int) (j : Int) 1 = j - i := by
  unfold Builtin.Slice.slicePlaces
  have h1 : (1 : Int) > 0 := by omega
  simp only [h1, if_true, Int.ediv_one]
  split <;> omega
theorem slicePart_ {v : Value} {o : Option Int} {Q : Option Int → Shared → Prop} (p : IsPart v o) (h : Q o s) : wpAny (model prog w) A (Builtin.Slice.slicePartIndex v) Q E s := by
  cases p with
  | none => exact slicePart_none h
  | int i t => exact slicePart_int h
theorem sliceApplied_gen {sl : Addr} {vl vu : Value} {lo hi : Option Int} {n : Nat} {Q : Int × Int × Nat → Shared → Prop} (hs : s.heap.IsSliceOf sl vl vu .none) (pl : IsPart vl lo) (pu : IsPart vu hi)
    (h : Q (((sIx n 0 lo : Nat) : Int), 1, sIx n n hi - sIx n 0 lo) s) : wpAny (model prog w) A (Builtin.Slice.sliceApplied (.ref sl) (pure (n : Int))) Q E s := by
  obtain ⟨os, hos, hcs, hds⟩ := id hs
  unfold Builtin.Slice.sliceApplied Builtin.Slice.sliceFields
  refine wpAny_bind (wpAny_bind (wpAny_field hos hds (x := vl) rfl (wpAny_bind (wpAny_field hos hds (x := vu) rfl (wpAny_bind (wpAny_field hos hds (x := .none) rfl (wpAny_pure ?_)))))))
  refine wpAny_bind (slicePart_none ?_)
  show wpAny _ _ (if ((1 : Int) == 0) = true then _ else _) _ _ s
  rw [if_neg (by decide)]
  refine wpAny_bind (slicePart_ pl (wpAny_bind (slicePart_ pu (wpAny_bind (wpAny_pure ?_)))))
  show wpAny _ _ (match Builtin.Slice.sliceAdjust lo hi 1 (n : Int) with | (lo, hi) => pure (lo, (1 : Int), Builtin.Slice.slicePlaces lo hi 1)) _ _ s
  rw [adjust_gen lo hi n]
  show wpAny _ _ (pure (((sIx n 0 lo : Nat) : Int), (1 : Int), Builtin.Slice.slicePlaces ((sIx n 0 lo : Nat) : Int) ((sIx n n hi : Nat) : Int) 1)) _ _ s
  rw [places_gen]
  exact wpAny_pure h
theorem pick_gen (xs : Array Value) (i k : Nat) : ((List.range k).filterMap fun (m : Nat) => xs[((i : Int) + (m : Int) * 1).toNat]?).toArray = ((xs.toList.drop i).take k).toArray := by
  have e : (fun (m : Nat) => xs[((i : Int) + (m : Int) * 1).toNat]?) = fun m => xs[i + m]? := by
    funext m
    have : ((i : Int) + (m : Int) * 1).toNat = i + m := by omega
    rw [this]
  rw [e]
  have := pick_run xs i k
  rw [List.filterMap_map] at this
  have e2 : ((fun x => xs[x]?) ∘ fun x => i + x) = fun m => xs[i + m]? := rfl
  rw [e2] at this
  rw [this]

theorem getItem_tuple_cut {t sl : Addr} {items : Array Value} {vl vu : Value} {lo hi : Option Int} {Q : Value → Shared → Prop} (ht : IsTup s.heap t items) (hs : s.heap.IsSliceOf sl vl vu .none) (pl : IsPart vl lo) (pu : IsPart vu hi)
    (hw : ¬ (sIx items.size 0 lo = 0 ∧ sIx items.size items.size hi = items.size))
    (h : Q (.ref s.heap.objs.size) { s with heap := s.heap.push { cls := .type "tuple", data := .seq ((items.toList.drop (sIx items.size 0 lo)).take (sIx items.size items.size hi - sIx items.size 0 lo)).toArray } })
    (hsz : items.size ≤ sizeLine) : wpAny (model prog w) A (getItem (.ref t) (.ref sl)) Q E s := by
  have htake : sizeOk (.seq ((items.toList.drop (sIx items.size 0 lo)).take (sIx items.size items.size hi - sIx items.size 0 lo)).toArray) := by
    show ((items.toList.drop (sIx items.size 0 lo)).take (sIx items.size items.size hi - sIx items.size 0 lo)).toArray.size ≤ sizeLine
    rw [List.size_toArray, List.length_take, List.length_drop, Array.length_toList]
    omega
  have hj : sIx items.size items.size hi ≤ items.size := sIx_le _ _ (Nat.le_refl _) hi
  obtain ⟨os, hos, hcs, hds⟩ := id hs
  have hTs : s.TypeIs (.ref sl) "slice" := ⟨os, hos, hcs⟩
  unfold getItem
  try with_reducible refine wpAny_holding ?_
  first | refine wpAny_bind (wpAny_pure ?_) | skip
  refine wpAny_bind (wpAny_sequenceKey ht.typeIs (by decide) ?_)
  refine wpAny_bind (wpAny_callSpecial?_slot (name := Str.ofString "__getitem__") ht.typeIs PyProof.Rows.slot_tuple_getitem
    (wpAny_call_entry PyProof.Rows.slot_tuple_getitem ht.typeIs entry_tuple_getitem ?_ (args_tuple_getitem _ _)))
  show wpAny _ _ (Builtin.Tuple.tupleItemsOf (.ref t) >>= _) _ _ s
  refine wpAny_bind (tupleItemsOf_ ht ?_)
  refine wpAny_bind (wpAny_typeOf hTs ?_)
  rw [if_pos (by decide)]
  refine wpAny_bind (sliceApplied_gen hs pl pu ?_)
  have hno : ¬ ((((sIx items.size 0 lo : Nat) : Int) == 0 && (1 : Int) == 1 && (sIx items.size items.size hi - sIx items.size 0 lo) == items.size) = true) := by
    intro q
    rw [Bool.and_eq_true, Bool.and_eq_true] at q
    have q1 : ((sIx items.size 0 lo : Nat) : Int) = 0 := eq_of_beq q.1.1
    have q2 : sIx items.size items.size hi - sIx items.size 0 lo = items.size := eq_of_beq q.2
    exact hw ⟨by omega, by omega⟩
  show wpAny _ _ (if (((sIx items.size 0 lo : Nat) : Int) == 0 && (1 : Int) == 1 && (sIx items.size items.size hi - sIx items.size 0 lo) == items.size) = true then _ else _) _ _ s
  rw [if_neg hno, pick_gen]
  first
    | exact wpAny_bind (m := Builtin.Tuple.tupleExact _) (wpAny_newObj_type (wpAny_pure ⟨_, rfl, wpAny_pure h⟩) htake)
    | exact wpAny_bind (m := Builtin.Tuple.tupleExact _) (wpAny_newObj_type (wpAny_bind (wpAny_pure (wpAny_pure ⟨_, rfl, wpAny_pure h⟩))) htake)
    | exact wpAny_bind (wpAny_bind (m := Builtin.Tuple.tupleExact _) (wpAny_newObj_type (wpAny_pure (wpAny_pure ⟨_, rfl, wpAny_pure h⟩)) htake))
    | exact wpAny_bind (wpAny_bind (m := Builtin.Tuple.tupleExact _) (wpAny_newObj_type (wpAny_pure ⟨_, rfl, wpAny_pure h⟩) htake))
end
end HT

namespace L2
open PySem PySem.Spec PyProof.Rows

/-! ### the parts of a slice -/
abbrev TO := St → Hp → (Option Int → Hp → Prop) → Prop
/-- a slice's part (left out, or an int) -/
def PO (X : Cx) (e : Option Expr) (t : TO) : Prop :=
  ∀ (pins : List (Addr × Obj)) (s : Shared) (σ : St) (H : Hp) (Q : Option Int → Hp → Prop), Inv X pins σ H s → t σ H Q →
    wpAny (model X.prog X.w) X.A (evalPart e X.env) (fun u s' => ∃ o H', Inv X pins σ H' s' ∧ IsPart u o ∧ Q o H') X.xe s
def tNoPart : TO := fun _ H Q => Q none H
def tPart (t : TE) : TO := fun σ H Q => t σ H fun x H1 => ∃ i, x = .int i ∧ Q (some i) H1

theorem intsAre_of {ns : List Int} : ∀ {us : List Value}, Vals (ns.map V.int) us → IntsAre us ns := by
  induction ns with
  | nil => intro us r; rw [List.map_nil] at r; cases r; exact .nil
  | cons n ns ih =>
    intro us r
    rw [List.map_cons] at r
    cases r with
    | cons r1 r2 =>
      obtain ⟨t, e⟩ := r1
      subst e
      exact .cons n t (ih r2)

section
variable {X : Cx} {e : Expr} {te : TE} {lo hi : Option Expr} {tl th : TO} {pos p2 : Pos}

theorem po_none : PO X none tNoPart := by
  intro pins s σ H Q I h
  rw [evalPart_none]
  exact wpAny_pure ⟨none, H, I, .none, h⟩
theorem po_some (h : PE X e te) : PO X (some e) (tPart te) := by
  intro pins s σ H Q I hw
  rw [evalPart_some]
  refine thn (h pins s σ H _ I hw) fun u s1 ⟨x, H1, I1, r1, q1⟩ => ?_
  obtain ⟨i, rfl, q⟩ := q1
  obtain ⟨t, rfl⟩ := r1
  exact ⟨some i, H1, I1, .int i t, q⟩

/-- what a slice of a value is, by values: the slice object stands at sl -/
def SlR (X : Cx) (r : V → Option Int → Option Int → Hp → VK → Prop) : Prop :=
  ∀ (pins : List (Addr × Obj)) (s : Shared) (σ : St) (H : Hp) (x : V) (v vl vu : Value) (lo hi : Option Int) (sl : Addr) (Q : VK), Inv X pins σ H s → RelV x v → s.heap.IsSliceOf sl vl vu .none → IsPart vl lo → IsPart vu hi → r x lo hi H Q →
    ∃ T id, typeLookup (.type T) "__getitem__" = pure (some (.builtin id)) ∧ s.TypeIs v T ∧ wpAny (model X.prog X.w) X.A (getItem v (.ref sl)) (EP X pins σ Q) X.xe s
theorem SlR.or {r r' : V → Option Int → Option Int → Hp → VK → Prop} (h : SlR X r) (h' : SlR X r') : SlR X (fun x lo hi H Q => r x lo hi H Q ∨ r' x lo hi H Q) := by
  intro pins s σ H x v vl vu lo hi sl Q I rx hs pl pu q
  rcases q with q | q
  · exact h pins s σ H x v vl vu lo hi sl Q I rx hs pl pu q
  · exact h' pins s σ H x v vl vu lo hi sl Q I rx hs pl pu q
def tSl (r : V → Option Int → Option Int → Hp → VK → Prop) (te : TE) (tl th : TO) : TE := fun σ H Q => te σ H fun x H1 => tl σ H1 fun l H2 => th σ H2 fun u H3 => r x l u H3 Q
/-- a[lo:hi], any a -/
theorem pe_slice {r : V → Option Int → Option Int → Hp → VK → Prop} (hr : SlR X r) (he : PE X e te) (hl : PO X lo tl) (hu : PO X hi th) : PE X (.Subscript e (.Slice lo hi none p2) pos) (tSl r te tl th) := by
  intro pins s σ H Q I h
  refine Subscript_ (thn (he pins s σ H _ I h) fun v s1 ⟨x, H1, I1, r1, q1⟩ => ?_)
  refine wpAny_Slice (thn (hl pins s1 σ H1 _ I1 q1) fun vl s2 ⟨l, H2, I2, pl, q2⟩ => thn (hu pins s2 σ H2 _ I2 q2) fun vu s3 ⟨u, H3, I3, pu, q3⟩ => ?_)
  rw [evalPart_none]
  refine wpAny_pure ?_
  have I4 : Inv X pins σ H3 { s3 with heap := s3.heap.push { cls := .type "slice", data := .fields #[vl, vu, .none] } } := I3.kept (t' := s3.toks) fun b ob q => Heap.get?_push_of_some _ q
  obtain ⟨T, id, hT, ht, hg⟩ := hr pins { s3 with heap := s3.heap.push { cls := .type "slice", data := .fields #[vl, vu, .none] } } σ H3 x v vl vu l u s3.heap.objs.size Q I4 r1 (Heap.IsSliceOf.new ..) pl pu q3
  show wpAny (model X.prog X.w) X.A (subscriptTail e (.Slice lo hi none p2) v (.ref s3.heap.objs.size)) (EP X pins σ Q) X.xe { s3 with heap := s3.heap.push { cls := .type "slice", data := .fields #[vl, vu, .none] } }
  exact tail_any (ops := [.ref s3.heap.objs.size, v]) ht hT hg (by with_unfolding_all rfl)

/-- the items of xs[lo:hi] -/
def cutV (xs : List V) (lo hi : Option Int) : List V := (xs.drop (HT.sIx xs.length 0 lo)).take (HT.sIx xs.length xs.length hi - HT.sIx xs.length 0 lo)
theorem cutV_length (xs : List V) (lo hi : Option Int) : (cutV xs lo hi).length ≤ xs.length := by
  unfold cutV
  rw [List.length_take, List.length_drop]
  omega
/-- t[lo:hi], not the whole of it (the whole would be t itself) -/
def rSlT (K : PySem.W.Frag) : V → Option Int → Option Int → Hp → VK → Prop := fun x lo hi H Q => ∃ a xs, x = .ref a ∧ SqT K H a xs ∧
  ¬ (HT.sIx xs.length 0 lo = 0 ∧ HT.sIx xs.length xs.length hi = xs.length) ∧ ∀ p, H p = none → Q (.ref p) (upd H p (.tup (cutV xs lo hi)))
theorem sl_tup : SlR X (rSlT X.K) := by
  intro pins s σ H x v vl vu lo hi sl Q I rx hs pl pu h
  obtain ⟨a, xs, rfl, hx, hw, q⟩ := h
  cases rx
  obtain ⟨its, r, ht, hz⟩ := I.tuple hx
  have hlen : its.toArray.size = xs.length := by rw [List.size_toArray]; exact r.length.symm
  refine ⟨"tuple", _, PyProof.Rows.slot_tuple_getitem.lookup, ht.typeIs, ?_⟩
  refine HT.getItem_tuple_cut ht hs pl pu (by rw [hlen]; exact hw) ?_ (by rw [hlen]; exact hz)
  rw [hlen]
  refine ⟨.ref s.heap.objs.size, _, I.laid (t' := s.toks) (o := .tup (cutV xs lo hi)) (fun b ob q => Heap.get?_push_of_some _ q) (Nat.le_refl _) ?_, rfl, q _ (I.hok.fresh (Nat.le_refl _))⟩
  exact ⟨Nat.le_trans (cutV_length xs lo hi) hz, _, (r.drop (HT.sIx xs.length 0 lo)).take (HT.sIx xs.length xs.length hi - HT.sIx xs.length 0 lo), IsTup.new _ _⟩

/-! ### t < u, t + u -/
def rLtT (K : PySem.W.Frag) : R2 := fun x y H Q => ∃ a b ns ms, x = .ref a ∧ y = .ref b ∧ SqT K H a (ns.map V.int) ∧ SqT K H b (ms.map V.int) ∧ Q (.bl (HT.lexLt ns ms)) H
theorem op_ltT (hu : X.A.units < cLine) : OpR X (compareOp .Lt) (rLtT X.K) := by
  intro pins s σ H x y v u Q I rx ry h
  obtain ⟨a, b, ns, ms, rfl, rfl, ha, hb, q⟩ := h
  cases rx
  cases ry
  obtain ⟨its, r1, p1, _⟩ := I.tuple ha
  obtain ⟨its2, r2, p2, _⟩ := I.tuple hb
  have i1 : IntsAre its.toArray.toList ns := intsAre_of r1
  have i2 : IntsAre its2.toArray.toList ms := intsAre_of r2
  exact HT.lt_tupInts p1 p2 i1 i2 hu ⟨.bl (HT.lexLt ns ms), H, I, rfl, q⟩
/-- t + u, t not empty: u empty gives t itself -/
def rCatT (K : PySem.W.Frag) : R2 := fun x y H Q => ∃ a b xs ys, x = .ref a ∧ y = .ref b ∧ SqT K H a xs ∧ SqT K H b ys ∧ xs ≠ [] ∧ xs.length + ys.length ≤ sizeLine ∧
  (ys = [] → Q (.ref a) H) ∧ (ys ≠ [] → ∀ p, H p = none → Q (.ref p) (upd H p (.tup (xs ++ ys))))
theorem Vals.nil_iff {xs : List V} {us : List Value} (r : Vals xs us) : us = [] ↔ xs = [] := by
  cases r with
  | nil => simp
  | cons _ _ => simp
theorem op_catT : OpR X (binaryOp .Add) (rCatT X.K) := by
  intro pins s σ H x y v u Q I rx ry h
  obtain ⟨a, b, xs, ys, rfl, rfl, ha, hb, hx, hz, q1, q2⟩ := h
  cases rx
  cases ry
  obtain ⟨its, r1, p1, _⟩ := I.tuple ha
  obtain ⟨its2, r2, p2, _⟩ := I.tuple hb
  refine HT.cat_tup p1 p2 (fun z => hx (r1.nil_iff.mp z)) (fun z => ⟨.ref a, H, I, rfl, q1 (r2.nil_iff.mp z)⟩) (fun z => ?_) (by rw [← r1.length, ← r2.length]; exact hz)
  refine ⟨.ref s.heap.objs.size, _, I.laid (t' := s.toks) (o := .tup (xs ++ ys)) (fun b ob q => Heap.get?_push_of_some _ q) (Nat.le_refl _) ?_, rfl, q2 (fun w => z (r2.nil_iff.mpr w)) _ (I.hok.fresh (Nat.le_refl _))⟩
  exact ⟨by rw [List.length_append]; exact hz, _, r1.append r2, IsTup.new _ _⟩
end
end L2

namespace L2
open PySem PySem.Spec PyProof.Rows

/-! ### places -/
/-- the place that an index of any sign means -/
def ixN (n : Nat) (i : Int) : Option Nat := if 0 ≤ i then (if i < n then some i.toNat else none) else if -(n : Int) ≤ i then some (i + n).toNat else none
def atI {α : Type} (xs : List α) (i : Int) : Option α := (ixN xs.length i).bind fun j => xs[j]?
theorem ixN_seq {n : Nat} {i : Int} {j : Nat} (h : ixN n i = some j) : seqIndex? i n = some j ∧ j < n ∧ -(n : Int) ≤ i ∧ i < n := by
  unfold ixN at h
  by_cases h0 : 0 ≤ i
  · rw [if_pos h0] at h
    by_cases h1 : i < n
    · rw [if_pos h1] at h
      have e : i.toNat = j := Option.some.inj h
      exact ⟨by rw [seqIndex_of h0 h1, e], by omega, by omega, h1⟩
    · rw [if_neg h1] at h; cases h
  · rw [if_neg h0] at h
    by_cases h1 : -(n : Int) ≤ i
    · rw [if_pos h1] at h
      have e : (i + n).toNat = j := Option.some.inj h
      exact ⟨by rw [seqIndex_neg (by omega) h1, e], by omega, h1, by omega⟩
    · rw [if_neg h1] at h; cases h
theorem atI_get {α : Type} {xs : List α} {i : Int} {v : α} (h : atI xs i = some v) : ∃ j, seqIndex? i xs.length = some j ∧ xs[j]? = some v ∧ j < xs.length ∧ -(xs.length : Int) ≤ i ∧ i < xs.length := by
  unfold atI at h
  cases e : ixN xs.length i with
  | none => rw [e] at h; cases h
  | some j =>
    rw [e] at h
    obtain ⟨h1, h2, h3, h4⟩ := ixN_seq e
    exact ⟨j, h1, h, h2, h3, h4⟩
theorem atI_nat {α : Type} {xs : List α} {j : Nat} {v : α} (h : xs[j]? = some v) : atI xs (j : Int) = some v := by
  have hj : j < xs.length := (List.getElem?_eq_some_iff.mp h).1
  have e : ixN xs.length (j : Int) = some j := by
    unfold ixN
    rw [if_pos (by omega), if_pos (by omega)]; simp
  unfold atI; rw [e]; exact h
/-! ### what may be subscripted -/
/-- what stands as an index of a plain subscript -/
def PlainIx (b : Expr) : Prop := ∀ o i, subscripted b false o i = operate [o, i] (getItem o i)
/-- a subscript by values -/
def IxR (X : Cx) (r : R2) : Prop :=
  ∀ (value slice : Expr) (pins : List (Addr × Obj)) (s : Shared) (σ : St) (H : Hp) (x y : V) (v u : Value) (Q : VK), Inv X pins σ H s → RelV x v → RelV y u → r x y H Q →
    subscripted slice false v u = operate [v, u] (getItem v u) → wpAny (model X.prog X.w) X.A (subscriptTail value slice v u) (EP X pins σ Q) X.xe s
/-- a call of a builtin's method by values: the receiver, the arguments -/
def MtR (X : Cx) (id : String) (r : V → List V → Hp → VK → Prop) : Prop :=
  ∀ (pins : List (Addr × Obj)) (s : Shared) (σ : St) (H : Hp) (x : V) (xs : List V) (v : Value) (us : List Value) (Q : VK), Inv X pins σ H s → RelV x v → Vals xs us → r x xs H Q →
    wpAny (model X.prog X.w) X.A (call (.builtin id) (v :: us)) (EP X pins σ Q) X.xe s
section
variable {X : Cx} {a b : Expr} {ta tb : TE} {pos : Pos}
theorem IxR.or {r r' : R2} (h : IxR X r) (h' : IxR X r') : IxR X (fun x y H Q => r x y H Q ∨ r' x y H Q) := by
  intro value slice pins s σ H x y v u Q I rx ry q hs
  rcases q with q | q
  · exact h value slice pins s σ H x y v u Q I rx ry q hs
  · exact h' value slice pins s σ H x y v u Q I rx ry q hs
/-- a[b] -/
theorem pe_ix {r : R2} (hr : IxR X r) (ha : PE X a ta) (hb : PE X b tb) (hs : PlainIx b) : PE X (.Subscript a b pos) (tOp r ta tb) := by
  intro pins s σ H Q I h
  exact Subscript_ (binT ha hb I h fun v u s2 x y H2 I2 rx ry q => hr a b pins s2 σ H2 x y v u Q I2 rx ry q (hs _ _))

def rIxL (K : PySem.W.Frag) : R2 := fun x y H Q => ∃ p xs i v, x = .ref p ∧ y = .int i ∧ SqL K H p xs ∧ atI xs i = some v ∧ Q v H
def rIxT (K : PySem.W.Frag) : R2 := fun x y H Q => ∃ p xs i v, x = .ref p ∧ y = .int i ∧ SqT K H p xs ∧ atI xs i = some v ∧ Q v H
def rIxS : R2 := fun x y H Q => ∃ z i c, x = .str z ∧ y = .int i ∧ z.length ≤ sizeLine ∧ atI z.cps.toList i = some c ∧ Q (.str ⟨#[c]⟩) H
theorem ix_list : IxR X (rIxL X.K) := by
  intro value slice pins s σ H x y v u Q I rx ry h hs
  obtain ⟨p, xs, i, z, rfl, rfl, hq, he, q⟩ := h
  cases rx
  obtain ⟨t, rfl⟩ := ry
  obtain ⟨its, r, pl, hz⟩ := I.list hq
  obtain ⟨j, h1, h2, h3, h4, h5⟩ := atI_get he
  obtain ⟨w, ew, rw'⟩ := r.get h2
  have hl := r.length
  have hn := line63
  have fin : EP X pins σ Q w s := ⟨z, H, I, rw', q⟩
  by_cases h0 : 0 ≤ i
  · have hj : i.toNat = j := by
      rw [seqIndex_of h0 h5] at h1
      exact Option.some.inj h1
    exact item_listR pl.isList h0 (by omega) (by rw [hj]; simpa using ew) fin hs
  · have hj : (i + (its.toArray.size : Int)).toNat = j := by
      rw [seqIndex_neg (by omega) h4] at h1
      rw [List.size_toArray, ← hl]
      exact Option.some.inj h1
    exact subscriptTail_builtinR (x := w) pl.isList.typeIs slot_list_getitem.lookup
      (wpAny_getItem_list_neg (Q := fun r s' => r = w ∧ EP X pins σ Q r s') pl.isList (by omega) (by rw [List.size_toArray] <;> omega) (by omega) (by rw [hj]; simpa using ew) ⟨rfl, fin⟩) hs
theorem ix_tup : IxR X (rIxT X.K) := by
  intro value slice pins s σ H x y v u Q I rx ry h hs
  obtain ⟨p, xs, i, z, rfl, rfl, hq, he, q⟩ := h
  cases rx
  obtain ⟨t, rfl⟩ := ry
  obtain ⟨its, r, pl, hz⟩ := I.tuple hq
  obtain ⟨j, h1, h2, h3, h4, h5⟩ := atI_get he
  obtain ⟨w, ew, rw'⟩ := r.get h2
  have hl := r.length
  have hn := line63
  have fin : EP X pins σ Q w s := ⟨z, H, I, rw', q⟩
  exact subscriptTail_builtinR (x := w) pl.typeIs slot_tuple_getitem.lookup
    (getItem_tuple (j := j) (Q := fun r s' => r = w ∧ EP X pins σ Q r s') pl (by omega) (by omega) (by rw [List.size_toArray, ← hl]; exact h1) (by simpa using ew) ⟨rfl, fin⟩) hs
theorem ix_str : IxR X rIxS := by
  intro value slice pins s σ H x y v u Q I rx ry h hs
  obtain ⟨z, i, c, rfl, rfl, hz, he, q⟩ := h
  obtain ⟨t, rfl⟩ := rx
  obtain ⟨t', rfl⟩ := ry
  obtain ⟨j, h1, h2, h3, h4, h5⟩ := atI_get he
  have hl : z.cps.toList.length = z.length := by simp [Str.length]
  rw [hl] at h1 h4 h5
  have hn := line63
  exact tail_any (typeIs_str s z t) slot_str_getitem.lookup (getItem_str (c := c) (by
    have e1 : decide (i < -(2 ^ 63 : Int)) = false := decide_eq_false (by omega)
    have e2 : decide (i ≥ 2 ^ 63) = false := decide_eq_false (by omega)
    rw [e1, e2, Bool.or_false]) (by rw [h1]; simpa using h2) ⟨.str ⟨#[c]⟩, H, I.tok _, ⟨_, rfl⟩, q⟩) hs
/-- list, tuple or str -/
def rIx (K : PySem.W.Frag) : R2 := fun x y H Q => rIxL K x y H Q ∨ rIxT K x y H Q ∨ rIxS x y H Q
theorem ix_seq : IxR X (rIx X.K) := ix_list.or (ix_tup.or ix_str)

/-! ### xs[i] = v, any sign -/
/-- the list's object behind a store -/
theorem mapSeq_set (its : List Value) (n j : Nat) (u : Value) : Obj.mapSeq (·.setIfInBounds j u) { cls := .type "list", data := .seq its.toArray n } = { cls := .type "list", data := .seq (its.set j u).toArray n } := by
  simp [Obj.mapSeq]
theorem Inv.lst {pins : List (Addr × Obj)} {σ : St} {H : Hp} {s : Shared} {p : Addr} {xs : List V} (I : Inv X pins σ H s) (h : H p = some (.lst xs)) :
    ∃ (its : List Value) (n : Nat), Vals xs its ∧ s.heap.get? p = some { cls := .type "list", data := .seq its.toArray n } ∧ xs.length ≤ sizeLine := by
  obtain ⟨z, its, n, r, e⟩ := I.hok p _ h
  exact ⟨its, n, r, e, z⟩
/-- the list at p is written by an update of its object -/
theorem Inv.lstUpd {pins : List (Addr × Obj)} {σ : St} {H : Hp} {s : Shared} {p : Addr} {xs ys : List V} {its its' : List Value} {n n' : Nat} {f : Obj → Obj} (I : Inv X pins σ H s) (h : H p = some (.lst xs))
    (ho : s.heap.get? p = some { cls := .type "list", data := .seq its.toArray n }) (hf : f { cls := .type "list", data := .seq its.toArray n } = { cls := .type "list", data := .seq its'.toArray n' }) (r : Vals ys its') (hz : ys.length ≤ sizeLine) (t : Nat) :
    Inv X pins σ (upd H p (.lst ys)) { s with heap := s.heap.update p f, toks := t } := by
  have e : (s.heap.update p f).get? p = some { cls := .type "list", data := .seq its'.toArray n' } := by
    rw [Heap.get?_update_self f ho (by rw [hf] <;> rfl), hf]
  refine I.write (x := p) (e := p) (by rw [h]; trivial) (.inl rfl) (fun b u hb q => (Heap.get?_update_other _ _ (Ne.symm hb)).trans q) ⟨_, e⟩ ?_
  exact ⟨hz, its', n', r, e⟩
def rSetL : V → V → V → Hp → (Hp → Prop) → Prop := fun o i v H Q => ∃ p xs k j, o = .ref p ∧ i = .int k ∧ H p = some (.lst xs) ∧ ixN xs.length k = some j ∧ Q (upd H p (.lst (xs.set j v)))
theorem set_list : PSet X rSetL := by
  intro pins s σ H o i v ov iv u Q I ro ri rv h
  obtain ⟨p, xs, k, j, rfl, rfl, hp, hj, q⟩ := h
  cases ro
  obtain ⟨t, rfl⟩ := ri
  obtain ⟨its, n, r, ho, hz⟩ := I.lst hp
  obtain ⟨h1, h2, h3, h4⟩ := ixN_seq hj
  have hl := r.length
  have hn := line63
  have I' : Inv X pins σ (upd H p (.lst (xs.set j v))) { s with heap := s.heap.update p (Obj.mapSeq (·.setIfInBounds j u)) } :=
    I.lstUpd hp ho (mapSeq_set its n j u) (r.set rv j) (by rw [List.length_set]; exact hz) s.toks
  by_cases h0 : 0 ≤ k
  · have hk : k.toNat = j := by
      rw [seqIndex_of h0 h4] at h1
      exact Option.some.inj h1
    exact PySem.W.ki_setAt ho h0 (by omega) (by rw [List.size_toArray, ← hl]; exact h4) (by rw [hk]; exact ⟨_, I', q⟩)
  · have hk : (k + (its.toArray.size : Int)).toNat = j := by
      rw [seqIndex_neg (by omega) h3] at h1
      rw [List.size_toArray, ← hl]
      exact Option.some.inj h1
    exact PySem.W.ki_setBack ho (by omega) (by rw [List.size_toArray, ← hl]; exact h3) (by omega) (by rw [hk]; exact ⟨_, I', q⟩)

/-! ### slices -/
theorem slice_bounds (lo hi : Option Int) (n : Nat) : (sliceBounds lo hi none n).1 = ((HT.sIx n 0 lo : Nat) : Int) ∧ (sliceBounds lo hi none n).2.1 = ((HT.sIx n n hi : Nat) : Int) ∧ (sliceBounds lo hi none n).2.2 = 1 := by
  refine ⟨?_, ?_, rfl⟩
  · cases lo with
    | none => simp [sliceBounds, HT.sIx]
    | some i =>
      simp only [sliceBounds, HT.sIx, Option.getD_none, show (1 : Int) > 0 by decide, if_true]
      by_cases h : i < 0
      · simp only [h, if_true] <;> omega
      · simp only [h, if_false] <;> omega
  · cases hi with
    | none => simp [sliceBounds, HT.sIx]
    | some i =>
      simp only [sliceBounds, HT.sIx, Option.getD_none, show (1 : Int) > 0 by decide, if_true]
      by_cases h : i < 0
      · simp only [h, if_true] <;> omega
      · simp only [h, if_false] <;> omega
theorem slicePick_cut (its : List Value) (lo hi : Option Int) : slicePick its.toArray lo hi none = ((its.drop (HT.sIx its.length 0 lo)).take (HT.sIx its.length its.length hi - HT.sIx its.length 0 lo)).toArray := by
  obtain ⟨h1, h2, h3⟩ := slice_bounds lo hi its.toArray.size
  unfold slicePick
  rw [h1, h2, h3]
  simp only [sliceRange_one, pick_run, List.size_toArray] <;> rfl
/-- xs[lo:hi] of a list: a new list -/
def rSlL (K : PySem.W.Frag) : V → Option Int → Option Int → Hp → VK → Prop := fun x lo hi H Q => ∃ a xs, x = .ref a ∧ SqL K H a xs ∧ ∀ p, H p = none → Q (.ref p) (upd H p (.lst (cutV xs lo hi)))
theorem sl_list : SlR X (rSlL X.K) := by
  intro pins s σ H x v vl vu lo hi sl Q I rx hs pl pu h
  obtain ⟨a, xs, rfl, hx, q⟩ := h
  cases rx
  obtain ⟨its, r, ht, hz⟩ := I.list hx
  have hlen := r.length
  refine ⟨"list", _, slot_list_getitem.lookup, ht.isList.typeIs, ?_⟩
  refine wpAny_getItem_list_slice ht.isList hs pl pu .none (by simp) ?_ (by rw [List.size_toArray] <;> omega)
  rw [slicePick_cut, ← hlen]
  refine ⟨.ref s.heap.objs.size, _, I.laid (t' := s.toks) (o := .lst (cutV xs lo hi)) (fun b ob q => Heap.get?_push_of_some _ q) (Nat.le_refl _) ?_, rfl, q _ (I.hok.fresh (Nat.le_refl _))⟩
  exact ⟨Nat.le_trans (cutV_length xs lo hi) hz, _, 0, (r.drop (HT.sIx xs.length 0 lo)).take (HT.sIx xs.length xs.length hi - HT.sIx xs.length 0 lo), Heap.get?_push_size _ rfl⟩

/-! ### in, not in: flat items -/
def flatV : V → Bool
  | .non => true
  | .bl _ => true
  | .int _ => true
  | .str _ => true
  | _ => false
/-- == of flat values -/
def eqV : V → V → Bool
  | .non, .non => true
  | .bl a, .bl b => a == b
  | .bl a, .int b => (if a then 1 else 0) == b
  | .int a, .bl b => a == (if b then 1 else 0)
  | .int a, .int b => a == b
  | .str a, .str b => a == b
  | _, _ => false
theorem eqAt_V {A : Around} {s : Shared} {y x : V} {u v : Value} (ry : RelV y u) (rx : RelV x v) (fy : flatV y = true) (fx : flatV x = true) : SeqAt.EqAt A s u v (eqV y x) := by
  cases y with
  | non =>
    cases ry
    cases x with
    | non => cases rx; exact SeqAt.EqAt.same _
    | bl b => cases rx; exact SeqAt.EqAt.none_bool b
    | int b => obtain ⟨t, rfl⟩ := rx; exact SeqAt.EqAt.none_int b t
    | str b => obtain ⟨t, rfl⟩ := rx; exact SeqAt.EqAt.none_str b t
    | _ => exact absurd (show false = true from fx) Bool.false_ne_true
  | bl a =>
    cases ry
    cases x with
    | non => cases rx; exact SeqAt.EqAt.bool_none a
    | bl b => cases rx; exact SeqAt.EqAt.bool_bool a b
    | int b => obtain ⟨t, rfl⟩ := rx; exact SeqAt.EqAt.bool_int a b t
    | str b => obtain ⟨t, rfl⟩ := rx; exact SeqAt.EqAt.bool_str a b t
    | _ => exact absurd (show false = true from fx) Bool.false_ne_true
  | int a =>
    obtain ⟨t', rfl⟩ := ry
    cases x with
    | non => cases rx; exact SeqAt.EqAt.int_none a t'
    | bl b => cases rx; exact SeqAt.EqAt.int_bool a t' b
    | int b => obtain ⟨t, rfl⟩ := rx; exact SeqAt.EqAt.int_int a t' b t
    | str b => obtain ⟨t, rfl⟩ := rx; exact SeqAt.EqAt.int_str a t' b t
    | _ => exact absurd (show false = true from fx) Bool.false_ne_true
  | str a =>
    obtain ⟨t', rfl⟩ := ry
    cases x with
    | non => cases rx; exact SeqAt.EqAt.str_none a t'
    | bl b => cases rx; exact SeqAt.EqAt.str_bool a t' b
    | int b => obtain ⟨t, rfl⟩ := rx; exact SeqAt.EqAt.str_int a t' b t
    | str b => obtain ⟨t, rfl⟩ := rx; exact SeqAt.EqAt.str_str a t' b t
    | _ => exact absurd (show false = true from fx) Bool.false_ne_true
  | _ => exact absurd (show false = true from fy) Bool.false_ne_true
/-- the items' answers, read off the values (a value's own answer does not lean on its token) -/
def eqU (x : V) (u : Value) : Bool := match u with
  | .none => eqV .non x
  | .bool b => eqV (.bl b) x
  | .int i _ => eqV (.int i) x
  | .str z _ => eqV (.str z) x
  | _ => false
theorem eqU_of {x y : V} {u : Value} (r : RelV y u) (f : flatV y = true) : eqU x u = eqV y x := by
  cases y with
  | non => cases r; rfl
  | bl b => cases r; rfl
  | int i => obtain ⟨t, rfl⟩ := r; rfl
  | str z => obtain ⟨t, rfl⟩ := r; rfl
  | _ => exact absurd (show false = true from f) Bool.false_ne_true
theorem any_eqU {x : V} : ∀ {xs : List V} {us : List Value}, Vals xs us → xs.all flatV = true → us.any (eqU x) = xs.any fun y => eqV y x
  | _, _, .nil, _ => rfl
  | y :: xs, u :: us, .cons r t, f => by
    rw [List.all_cons, Bool.and_eq_true] at f
    rw [List.any_cons, List.any_cons, eqU_of r f.1, any_eqU t f.2]
theorem mem_eqAt {A : Around} {s : Shared} {x : V} {v : Value} (rx : RelV x v) (fx : flatV x = true) : ∀ {xs : List V} {us : List Value}, Vals xs us → xs.all flatV = true → ∀ u ∈ us, SeqAt.EqAt A s u v (eqU x u)
  | _, _, .nil, _ => fun u hu => by cases hu
  | y :: xs, u :: us, .cons r t, f => fun u' hu => by
    rw [List.all_cons, Bool.and_eq_true] at f
    rcases List.mem_cons.mp hu with rfl | hu
    · rw [eqU_of r f.1]; exact eqAt_V r rx f.1 fx
    · exact mem_eqAt rx fx t f.2 u' hu
def inV (x : V) (xs : List V) : Bool := xs.any fun y => eqV y x
/-- x in a list or tuple of flat items -/
def rIn (K : PySem.W.Frag) (neg : Bool) : R2 := fun x y H Q => ∃ p xs, y = .ref p ∧ (SqL K H p xs ∨ SqT K H p xs) ∧ flatV x = true ∧ xs.all flatV = true ∧ Q (.bl (if neg then !inV x xs else inV x xs)) H
theorem op_notIn_seq : OpR X (compareOp .NotIn) (rIn X.K true) := by
  intro pins s σ H x y v u Q I rx ry h
  obtain ⟨p, xs, rfl, hq, fx, fs, q⟩ := h
  cases ry
  rcases hq with hq | hq
  · obtain ⟨its, r, pl, hz⟩ := I.list hq
    refine SeqAt.notIn_listAt (eqU x) pl.isList (fun w hw => mem_eqAt rx fx r fs w (by simpa using hw)) ⟨.bl _, H, I, rfl, ?_⟩
    rw [show its.toArray.any (eqU x) = its.any (eqU x) by simp, any_eqU r fs]
    exact q
  · obtain ⟨its, r, pl, hz⟩ := I.tuple hq
    refine SeqAt.notIn_tupleAt (eqU x) pl (fun w hw => mem_eqAt rx fx r fs w (by simpa using hw)) ⟨.bl _, H, I, rfl, ?_⟩
    rw [show its.toArray.any (eqU x) = its.any (eqU x) by simp, any_eqU r fs]
    exact q
/-! ### len, list(x), tuple(x) of any list or tuple that is read -/
theorem call_list_of : CallR X (.type "list") (fun xs H Q => ∃ p ys, xs = [.ref p] ∧ (SqL X.K H p ys ∨ SqT X.K H p ys) ∧ ∀ l, H l = none → Q (.ref l) (upd H l (.lst ys))) := by
  intro pins s σ H xs us Q I r h
  obtain ⟨p, ys, rfl, hq, q⟩ := h
  obtain ⟨u, rfl, rx⟩ := vals1 r
  cases rx
  have fin : ∀ (its : List Value), Vals ys its → ys.length ≤ sizeLine → ∀ (h' : Heap) (c' : Nat), (∀ b o', s.heap.get? b = some o' → h'.get? b = some o') →
      h'.get? s.heap.objs.size = some { cls := .type "list", dict := none, data := .seq its.toArray c', slots := #[] } → EP X pins σ Q (.ref s.heap.objs.size) { s with heap := h' } := fun its r' hz h' c' kp e =>
    ⟨.ref s.heap.objs.size, _, I.laid (t' := s.toks) kp (Nat.le_refl _) (show ObjOk X.prog X.w _ h' _ (.lst ys) from ⟨hz, its, c', r', e⟩), rfl, q _ (I.hok.fresh (Nat.le_refl _))⟩
  rcases hq with hq | hq
  · obtain ⟨its, r', pl, hz⟩ := I.list hq
    have hlen := r'.length
    obtain ⟨o, ho, hc, n, hd⟩ := pl.isList
    exact call_list_seq p (.inl rfl) ho hc hd (fun h' c' kp e => fin its r' hz h' c' kp e) (by simp only [List.size_toArray] <;> omega)
  · obtain ⟨its, r', pl, hz⟩ := I.tuple hq
    have hlen := r'.length
    obtain ⟨o, ho, hc, n, hd⟩ := pl
    exact call_list_seq p (.inr rfl) ho hc hd (fun h' c' kp e => fin its r' hz h' c' kp e) (by simp only [List.size_toArray] <;> omega)
theorem call_tuple_of : CallR X (.type "tuple") (fun xs H Q => ∃ p ys, xs = [.ref p] ∧ ((SqL X.K H p ys ∧ ∀ l, H l = none → Q (.ref l) (upd H l (.tup ys))) ∨ (SqT X.K H p ys ∧ Q (.ref p) H))) := by
  intro pins s σ H xs us Q I r h
  obtain ⟨p, ys, rfl, h⟩ := h
  obtain ⟨u, rfl, rx⟩ := vals1 r
  cases rx
  rcases h with ⟨hq, q⟩ | ⟨hq, q⟩
  · obtain ⟨its, r', pl, hz⟩ := I.list hq
    have hlen := r'.length
    refine call_tuple_list pl.isList (fun h' kp => ?_) (by simp only [List.size_toArray] <;> omega)
    have I1 : Inv X pins σ H { s with heap := h' } := I.kept (t' := s.toks) kp
    have I2 : Inv X pins σ (upd H h'.objs.size (.tup ys)) { s with heap := h'.push { cls := .type "tuple", data := .seq its.toArray } } :=
      I1.laid (t' := s.toks) (fun b o e => Heap.get?_push_of_some _ e) (Nat.le_refl _) (show ObjOk X.prog X.w _ _ _ (.tup ys) from ⟨hz, its, r', IsTup.new _ _⟩)
    exact ⟨.ref h'.objs.size, _, I2, rfl, q _ (I1.hok.fresh (Nat.le_refl _))⟩
  · obtain ⟨its, r', pl, hz⟩ := I.tuple hq
    exact call_tuple_same pl ⟨.ref p, H, I, rfl, q⟩

/-! ### the call of a builtin's method: o.m(..) -/
/-- the value is of that builtin type -/
def tyV (K : PySem.W.Frag) (T : String) (x : V) (H : Hp) : Prop := match x with
  | .str _ => T = "str"
  | .int _ => T = "int"
  | .ref p => (T = "list" ∧ ∃ xs, SqL K H p xs) ∨ (T = "tuple" ∧ ∃ o, K.lookup p = some o ∧ o.cls = .type "tuple" ∧ o.dict = none) ∨
      (T = "dict" ∧ ((∃ kvs, H p = some (.dK kvs)) ∨ ∃ kvs, H p = some (.dT kvs))) ∨ (T = "set" ∧ ∃ S n, H p = some (.set S n))
  | _ => False
theorem tyV_is {pins : List (Addr × Obj)} {σ : St} {H : Hp} {s : Shared} {T : String} {x : V} {v : Value} (I : Inv X pins σ H s) (r : RelV x v) (ty : tyV X.K T x H) :
    s.TypeIs v T ∧ ∀ a, v = .ref a → ∃ ob, s.heap.get? a = some ob ∧ ob.dict = none := by
  cases x with
  | str z =>
    obtain ⟨t, rfl⟩ := r
    cases (show T = "str" from ty)
    exact ⟨typeIs_str s z t, fun _ e => nomatch e⟩
  | int i =>
    obtain ⟨t, rfl⟩ := r
    cases (show T = "int" from ty)
    exact ⟨typeIs_int s i t, fun _ e => nomatch e⟩
  | ref p =>
    cases r
    rcases ty with ⟨rfl, xs, hq⟩ | ⟨rfl, o, hk, hc, hd⟩ | ⟨rfl, hk⟩ | ⟨rfl, S, n, hk⟩
    · obtain ⟨its, _, pl, _⟩ := I.list hq
      refine ⟨pl.isList.typeIs, fun a e => ?_⟩
      cases e
      obtain ⟨o, n, e, c, hd, _⟩ := pl
      exact ⟨o, e, hd⟩
    · refine ⟨⟨o, I.kIn p o hk, hc⟩, fun a e => ?_⟩
      cases e
      exact ⟨o, I.kIn _ o hk, hd⟩
    · have z : ∃ o, s.heap.get? p = some o ∧ o.ExactDict := by
        rcases hk with ⟨kvs, hk⟩ | ⟨kvs, hk⟩
        · obtain ⟨_, _, _, _, o, _, _, e, ex, _⟩ := I.hok p _ hk
          exact ⟨o, e, ex⟩
        · obtain ⟨_, _, _, _, o, _, _, e, ex, _⟩ := I.hok p _ hk
          exact ⟨o, e, ex⟩
      obtain ⟨o, e, ex⟩ := z
      refine ⟨⟨o, e, ex.1⟩, fun a e2 => ?_⟩
      cases e2
      exact ⟨o, e, ex.2.1⟩
    · obtain ⟨o, _, _, _, e, ex, _⟩ := I.hok p _ hk
      refine ⟨⟨o, e, ex.1⟩, fun a e2 => ?_⟩
      cases e2
      exact ⟨o, e, ex.2.1⟩
  | _ => exact False.elim ty
def tBM (K : PySem.W.Frag) (T : String) (r : V → List V → Hp → VK → Prop) (to : TE) (t : TA) : TE := fun σ H Q => to σ H fun x H1 => tyV K T x H1 ∧ t σ H1 fun xs H2 => r x xs H2 Q
variable {o e : Expr} {es : List Expr} {to : TE} {t : TA} {name : Str} {apos cpos : Pos} {T id : String} {r : V → List V → Hp → VK → Prop}
theorem pe_bm (pa : PlainAttrs T) (slot : Slot T name id) (hty : typeOf (.builtin id) = pure (.type "method_descriptor")) (hm : MtR X id r) (ho : PE X o to) (ha : PA X (e :: es) t)
    (hbase : attributeBase o name X.env (eval o X.env) = eval o X.env := by rfl)
    (hfew : ((backTo cpos (starEach (e :: es) X.env)).all (fun x => !x.1) && (backToKw cpos (keywordEach [] X.env)).all (fun x => x.1.isSome)
      && decide ((e :: es).length + ([] : List Keyword).length + (if ([] : List Keyword).isEmpty then 0 else 1) < 30)) = true := by rfl)
    (hline : (apos.endLine == cpos.line) = true := by rfl) (hs : starEach (e :: es) X.env = (false, eval e X.env) :: starEach es X.env := by rfl) (hplain : (backTo cpos (starEach es X.env)).any (·.1) = false := by rfl) :
    PE X (.Call (.Attribute o name apos) (e :: es) [] cpos) (tBM X.K T r to t) := by
  intro pins s σ H Q I h
  refine wpAny_Call_method_late hbase hfew hline rfl (thn (ho pins s σ H _ I h) fun v s1 ⟨x, H1, I1, r1, ty, q1⟩ => ?_)
  obtain ⟨h1, h2⟩ := tyV_is I1 r1 ty
  refine ⟨T, id, pa, slot, hty, h1, h2, ?_⟩
  have hA := ha cpos pins s1 σ H1 _ I1 q1
  rw [hs] at hA ⊢
  refine Calls.callWith_builtin (by show (false || (backTo cpos (starEach es X.env)).any (·.1)) = false; rw [hplain] <;> rfl) (Calls.evalArgs_plain ?_)
  exact thn hA fun us s2 ⟨vs, H2, I2, r2, q2⟩ => hm pins s2 σ H2 x vs v us Q I2 r1 r2 q2
/- xs.append(e), list.index on a module's tuple .. are MtR facts of 06m -/
end
end L2

namespace L2
open PySem PySem.Spec PyProof.Rows

def MtM (X : Cx) (id : String) (r : V → List V → Hp → VK → Prop) : Prop :=
  ∀ (pins : List (Addr × Obj)) (s : Shared) (σ : St) (H : Hp) (x : V) (xs : List V) (v : Value) (us : List Value) (Q : VK), Inv X pins σ H s → RelV x v → Vals xs us → r x xs H Q →
    wpAny (model X.prog X.w) X.A (call (.builtin id) (v :: us)) (EP X pins σ Q) X.xe s

/-! ### lists of values -/
theorem Vals.one : ∀ {x : V} {us : List Value}, Vals [x] us → ∃ u, us = [u] ∧ RelV x u
  | _, _, .cons r .nil => ⟨_, rfl, r⟩
theorem Vals.rep {xs : List V} {us : List Value} (h : Vals xs us) : ∀ k : Nat, Vals (List.replicate k xs).flatten (List.replicate k us).flatten
  | 0 => .nil
  | k + 1 => by
    rw [List.replicate_succ, List.replicate_succ, List.flatten_cons, List.flatten_cons]
    exact Vals.append h (Vals.rep h k)
theorem erase_last {α : Type} (l : List α) : l.eraseIdx (l.length - 1) = l.dropLast := by
  induction l with
  | nil => rfl
  | cons a r ih =>
    cases r with
    | nil => rfl
    | cons b r =>
      have e : (a :: b :: r).length - 1 = ((b :: r).length - 1) + 1 := by
        have h1 : (a :: b :: r).length = r.length + 2 := rfl
        have h2 : (b :: r).length = r.length + 1 := rfl
        omega
      rw [e, List.eraseIdx_cons_succ, ih]
      all_goals rfl
theorem foldl_rep (its : List Value) : ∀ (k : Nat) (acc : List Value),
    List.foldl (fun x1 x2 => x1 ++ x2) acc.toArray (List.replicate k its.toArray) = (acc ++ (List.replicate k its).flatten).toArray
  | 0, acc => by simp
  | k + 1, acc => by
    have e : acc.toArray ++ its.toArray = (acc ++ its).toArray := by simp
    have e2 : (acc ++ its) ++ (List.replicate k its).flatten = acc ++ (List.replicate (k + 1) its).flatten := by
      rw [List.replicate_succ, List.flatten_cons, List.append_assoc]
    rw [← e2, ← foldl_rep its k (acc ++ its), ← e, List.replicate_succ, List.foldl_cons]

section
variable {X : Cx} {pins : List (Addr × Obj)} {σ : St} {H : Hp} {s : Shared} {l b : Addr} {xs ys zs : List V}

/-! ### the two steps: a tracked list is rewritten, a new list is laid -/
theorem Inv.lset {its its' : List Value} {n : Nat} {f : Array Value → Array Value} {t' : Nat} (I : Inv X pins σ H s) (hH : H l = some (.lst xs))
    (e : s.heap.get? l = some { cls := .type "list", data := .seq its.toArray n }) (hf : f its.toArray = its'.toArray) (hv : Vals ys its') (hz : ys.length ≤ sizeLine) :
    Inv X pins σ (upd H l (.lst ys)) { s with heap := s.heap.update l (Obj.mapSeq f), toks := t' } := by
  have q := PySem.IsL.update e f
  rw [hf] at q
  refine I.write (x := l) (e := l) (by rw [hH]; exact trivial) (.inl rfl) (fun b' u hb hu => (Heap.get?_update_other s.heap (Obj.mapSeq f) (Ne.symm hb)).trans hu) ⟨_, q⟩ ?_
  exact ⟨hz, its', _, hv, q⟩
theorem Inv.lnew {its : List Value} {t' : Nat} (I : Inv X pins σ H s) (hv : Vals ys its) (hz : ys.length ≤ sizeLine) :
    Inv X pins σ (upd H s.heap.objs.size (.lst ys)) { s with heap := s.heap.push { cls := .type "list", data := .seq its.toArray }, toks := t' } :=
  I.laid (fun _ _ q => Heap.get?_push_of_some _ q) (Nat.le_refl _) ⟨hz, its, 0, hv, Heap.get?_push_size _ rfl⟩
theorem Inv.fresh (I : Inv X pins σ H s) : H s.heap.objs.size = none := I.hok.fresh (Nat.le_refl _)
theorem Inv.lstM (I : Inv X pins σ H s) (hH : H l = some (.lst xs)) : xs.length ≤ sizeLine ∧ ∃ (its : List Value) (n : Nat), Vals xs its ∧ xs.length = its.length ∧ s.heap.get? l = some { cls := .type "list", data := .seq its.toArray n } := by
  obtain ⟨z, its, n, r, e⟩ := I.hok l _ hH
  exact ⟨z, its, n, r, r.length, e⟩

theorem notLongL {n : Nat} (h : n ≤ sizeLine) : Builtin.List.listTooLong n = false := by
  unfold Builtin.List.listTooLong
  exact decide_eq_false (by omega)
end

section
variable {X : Cx}

/-! ### methods -/
def rAppend : V → List V → Hp → VK → Prop := fun x vs H Q => ∃ l xs y, x = .ref l ∧ vs = [y] ∧ H l = some (.lst xs) ∧ xs.length < sizeLine ∧ Q .non (upd H l (.lst (xs ++ [y])))
theorem mt_append : MtM X "list.append" rAppend := by
  intro pins s σ H x vs v us Q I rx rv h
  obtain ⟨l, xs, y, rfl, rfl, hH, hz, q⟩ := h
  cases rx
  obtain ⟨u, rfl, ru⟩ := rv.one
  obtain ⟨z, its, n, r, hl, e⟩ := I.lstM hH
  refine call_meets F.slot_list_append ⟨_, e, rfl⟩ F.entry_list_append (F.args_list_append_2 _ _) (PySem.list_append l its.toArray n u (by rw [List.size_toArray]; omega)) ⟨e, ?_⟩
  refine ⟨.non, _, I.lset (its' := its ++ [u]) hH e (by simp) (r.append (.cons ru .nil)) ?_, rfl, q⟩
  rw [List.length_append, List.length_singleton]
  omega

/-! ### list + list, list += list, list * int -/
/-- a list times an int (a negative one is nothing) -/
def rRep : R2 := fun x y H Q => ∃ l k xs, x = .ref l ∧ y = .int k ∧ H l = some (.lst xs) ∧ -(2 ^ 63) ≤ k ∧ k < 2 ^ 63 ∧ xs.length * k.toNat ≤ sizeLine ∧
  ∀ p, H p = none → Q (.ref p) (upd H p (.lst (List.replicate k.toNat xs).flatten))
theorem len_rep {α : Type} (xs : List α) (k : Nat) : (List.replicate k xs).flatten.length = k * xs.length := by
  induction k with
  | zero => simp
  | succ k ih => rw [List.replicate_succ, List.flatten_cons, List.length_append, ih, Nat.succ_mul, Nat.add_comm]
theorem op_rep : OpR X (binaryOp .Mult) rRep := by
  intro pins s σ H x y v u Q I rx ry h
  obtain ⟨l, k, xs, rfl, rfl, hH, h1, h2, hz, q⟩ := h
  cases rx
  obtain ⟨t, rfl⟩ := ry
  obtain ⟨z, its, n, r, hl, e⟩ := I.lstM hH
  have hlen : its.toArray.size * k.toNat ≤ sizeLine := by rw [List.size_toArray, ← hl]; exact hz
  have hcap : ¬ its.toArray.size * k.toNat > (2 ^ 63 - 1) / 8 := by
    have : (sizeLine : Nat) ≤ (2 ^ 63 - 1) / 8 := by decide
    omega
  have hfit : ¬ (!Builtin.List.listFitsIndex k) = true := by
    rw [fitsIndex_both h1 h2]
    exact Bool.false_ne_true
  have hlong : ¬ Builtin.List.listTooLong (its.toArray.size * k.toNat) = true := by
    rw [notLongL hlen]
    exact Bool.false_ne_true
  have hnew : List.foldl (fun x1 x2 => x1 ++ x2) #[] (List.replicate (if its.toArray.isEmpty = true then 0 else k.toNat) its.toArray) = (List.replicate k.toNat its).flatten.toArray := by
    have f0 : ∀ m : Nat, List.foldl (fun x1 x2 => x1 ++ x2) #[] (List.replicate m its.toArray) = (List.replicate m its).flatten.toArray := fun m => by
      have := foldl_rep its m []
      rw [List.nil_append] at this
      exact this
    rw [f0]
    cases its with
    | nil => simp
    | cons a r' => rw [if_neg (by simp)]
  refine wpAny_binaryOp_repeat_ref (T := "list") (U := "int") (by decide) ⟨_, e, rfl⟩ (fun s' => typeIs_int s' k t) noFill_list_mul F.fills_int_mul F.slot_int_rmul repeat_list F.slot_int_index.lookup
    (call_meets F.slot_int_rmul (typeIs_int s k t) F.entry_int_rmul (F.args_int_rmul_2 _ _) (int___rmul___int_list k t l its.toArray n)
      ⟨e, rfl, ⟨_, e, rfl⟩, call_meets F.slot_list_mul ⟨_, e, rfl⟩ F.entry_list_mul (F.args_list_mul_2 _ _) (AutoListH.list___mul___list_int_3 l its.toArray n k t hfit hcap hlong) ⟨e, ?_⟩⟩)
  rw [hnew]
  exact ⟨.ref _, _, I.lnew (t' := s.toks) (r.rep k.toNat) (by rw [len_rep, Nat.mul_comm]; exact hz), rfl, q _ I.fresh⟩

/-! ### del xs[i] -/
end

/-! ### xs[a:b] = ys -/
section
variable {prog : Program} {w : World} {A : Around} {E : Value → Shared → Prop} {s : Shared}
end

section
variable {X : Cx}
end
end L2

namespace Att
open PySem PySem.W PySem.Calls PyProof.Rows

/-! ### the script -/
theorem ints_of_wellAll {P : Params} {h : Heap} : ∀ (ns : List Int) (vs : List Value), WellAll P h vs (ns.map WData.int) → IntsAre vs ns := by
  intro ns
  induction ns with
  | nil =>
    intro vs w
    rw [List.map_nil] at w
    cases w
    exact .nil
  | cons n ns ih =>
    intro vs w
    rw [List.map_cons] at w
    cases w with
    | cons a b =>
      cases a
      exact .cons _ _ (ih _ b)

theorem script_of {l : OpenLaw} {n : Nat} (hn : l.most = some n) {P : Params} {h : Heap} {args : List WData} {vals : List Value}
    (hpre : l.row.toRowW.claim.pre args = true) (hwl : WellAll P h vals args) :
    ∃ a vs ns, vals = [Value.ref a] ∧ args = [WData.list (ns.map WData.int)] ∧ h.get? a = some { cls := .type "list", data := .seq vs.toArray } ∧ IntsAre vs ns ∧ ns.length ≤ n := by
  have hsh : WShape.hasAll [] args [.list .int] = true := (pre_splitW hpre).1
  have hc : l.pre.holds [] { args := args } = true := (pre_splitW hpre).2
  obtain ⟨d, r, rfl, h1, h2⟩ := hasAllW_cons hsh
  obtain rfl := hasAllW_nil h2
  obtain ⟨xs, rfl, h3⟩ := hasW_list h1
  obtain ⟨ns, rfl⟩ := items_int h3
  have hlen : ns.length ≤ n := by
    unfold OpenLaw.pre at hc
    have h4 : (WTm.not (.lt (.lit (.int (n : Int))) (.len (.arg 0)))).holds [] { args := [.list (ns.map .int)] } = true := by
      have h4 := (holds_andW hc).1
      rw [hn] at h4
      exact h4
    have h5 := condW_of h4 (w_not (w_lt w_lit (w_len_list (w_arg rfl))))
    rw [List.length_map] at h5
    refine Nat.le_of_not_lt fun q => ?_
    have q' : (n : Int) < ((ns.length : Nat) : Int) := by omega
    first
      | (rw [decide_eq_true q'] at h5; exact absurd h5 (by decide))
      | (simp at h5; omega)
  cases hwl with
  | cons w1 w2 =>
    cases w2
    cases w1 with
    | list ho hall => exact ⟨_, _, ns, rfl, rfl, ho, ints_of_wellAll ns _ hall, hlen⟩

theorem post_true (l : OpenLaw) (args : List WData) : l.row.toRowW.claim.post args (.bool true) args = true :=
  postW_of (r := l.row.toRowW) (X := (true == true))
    (show WShape.has [] (.bool true) .bool = true by first | rfl | decide | simp [WShape.has, WShape.arms, WShape.armsAll])
    (show (WTm.eq .res (.lit (.bool true))).value [] { args := args, res := some (.bool true), after := args } = some (.bool (true == true)) from w_eq_bool (w_res rfl) w_lit) rfl

/-! ### the attachment: holds_open's last premise (the goal 'hc' behind k_head) from a wpAny of the law's body -/
/-- the same from a codeAny of the CALL (for a layer whose function contracts speak of calls) -/
theorem attach_call {l : OpenLaw} {n : Nat} {q : Program} {loose : List Str} {XP : (Str → Option Value) → Heap → Prop} {YP : World → Heap → Prop} {d : DefRec}
    (hn : l.most = some n) (hdf : d.params.defaults = [])
    (call : ∀ (w : World) (s₀ s₁ : Shared) (mg mb : Str → Option Value) (fa : Addr) (o : Obj) (pm cd doc : Value) (a : Addr) (vs : List Value) (ns : List Int),
      Ground q loose [] XP w s₀ mg mb s₁.heap → YP w s₁.heap →
      s₁.heap.get? fa = some o → o.data = .func (docDef d.name d.params d.body d.scope pm cd doc) → s₁.heap.CodeRec cd d.name → mg d.name = some (.ref fa) →
      s₁.heap.get? a = some { cls := .type "list", data := .seq vs.toArray } → IntsAre vs ns → ns.length ≤ n → s₁.gens = #[] →
      codeAny (model l.prog w) callerA (.call (.ref fa) ⟨[.ref a], []⟩) (fun r s' => r = .ok (.ret (.bool true)) ∧ OldK s₁.heap s'.heap ∧ s'.os = s₁.os ∧ AllBare s'.gens) s₁) :
    WalkO q loose XP YP l.row.toRowW d [] (fun f vs => PySem.call f vs) := by
  intro w s₀ s₁ mg mb G Y fa o pm cd doc dV kV ho hd hcd hD hmg hg args vals as hpre hlay hrd hwl hlo
  obtain rfl : dV = .none := Dflts.none hD hdf
  obtain rfl : kV = .none := Dflts.noKw hD
  obtain ⟨a, vs, ns, rfl, rfl, hobj, hints, hlen⟩ := script_of hn hpre hwl
  refine enter_call (codeAny_mono (call w s₀ s₁ mg mb fa o pm cd doc a vs ns G Y ho (fd_plain hd) hcd hmg hobj hints hlen hg) fun r s' hq => ?_)
  obtain ⟨rfl, h2, h3, h4⟩ := hq
  exact ⟨.inl ⟨.bool true, .bool true, [], rfl, fun _ => rfl, .bool true, post_true l _, fun _ => ⟨List.Pairwise.nil, fun _ hm => (nomatch hm)⟩⟩, h2, h3, h4⟩

/-! ### rules over ANY heap (no ledger) from facts about the written part K: the library's own take a ledger (News) for what they write -/
section
variable {prog : Program} {w : World} {A : Around} {E : Value → Shared → Prop} {s : Shared} {K : Frag}

/-! the whole heap as the ledger: makes every rule that writes through a ledger a rule over any heap -/
end
end Att

namespace L2
open PySem PySem.Spec PyProof.Rows

theorem vals_ints : ∀ {vs : List Value} {ns : List Int}, IntsAre vs ns → Vals (ns.map V.int) vs
  | _, _, .nil => .nil
  | _, _, .cons n t h => .cons ⟨t, rfl⟩ (vals_ints h)

/-- nothing is tracked but the script, known to the object (or it is an object of the module) -/
def Only (H : Hp) : Prop := ∀ b, H b = none ∨ ∃ o xs, H b = some (.frz o (.lst xs))

/-- THE HEAD: the law's promise, at the heap behind the top. F, the promise of the law's def, may use that base is part of the heap (so K.In base, base.Ns mainGlobals mg stand in Mod) -/
theorem law_call {P : Program} {w : World} {K : PySem.W.Frag} {mg mb : Str → Option Value} {CX : CXT} {k : Nat} {fa a : Addr} {fd : FuncData} {x : Str} {sp : Sp} {s₁ : Shared} {vs : List Value} {ns : List Int}
    (KX : K.In s₁.heap) (hns : s₁.heap.Ns mainGlobals mg) (hb : s₁.heap.Ns builtinsNs mb) (hbb : ∀ x : Str, x ≠ "__name__" → mb x = bootBuiltins x) (hlim : s₁.heap.NoLimit) (hg : s₁.gens = #[])
    (ha : s₁.heap.get? a = some { cls := .type "list", data := .seq vs.toArray }) (hi : IntsAre vs ns) (hl : ns.length ≤ sizeLine) (hr : Room k callerA)
    (F : ∀ base : Heap, K.In base → base.Ns mainGlobals mg → FnOk P w K mg base CX k fa fd [x] sp) (hbind : ∀ (s : Shared) (u : Value), BindsTo s fd ⟨[u], []⟩ [(x, u)])
    (hsp : ∀ H : Hp, Only H → SqL K H a (ns.map V.int) → sp [.ref a] H (fun v _ => v = .bl true) fun _ _ _ => False)
    (hCX : ∀ H e s', CX [] H s₁ (fun _ _ _ => False) e s' → False) :
    codeAny (model P w) callerA (.call (.ref fa) ⟨[.ref a], []⟩) (fun r s' => r = .ok (.ret (.bool true)) ∧ OldK s₁.heap s'.heap ∧ s'.os = s₁.os ∧ AllBare s'.gens) s₁ := by
  have rv := vals_ints hi
  have lenV := hi.length
  -- from an abstract heap in which nothing but the script may be tracked
  have core : ∀ H : Hp, Only H → SqL K H a (ns.map V.int) → HOk P w H s₁.heap → (∀ b, H b ≠ none → b = a) → (H a ≠ none → K.lookup a = none) →
      codeAny (model P w) callerA (.call (.ref fa) ⟨[.ref a], []⟩) (fun r s' => r = .ok (.ret (.bool true)) ∧ OldK s₁.heap s'.heap ∧ s'.os = s₁.os ∧ AllBare s'.gens) s₁ := by
    intro H hO hS hok hA hK
    have base_of : ∀ {b : Addr} {o : Obj}, s₁.heap.get? b = some o → H b = none → (hidT s₁.heap H).get? b = some o := fun e n => hidT_get e n
    have noA : ∀ {b : Addr} {o : Obj} {es : Array DictEntry} {ep : Nat}, s₁.heap.get? b = some o → o.data = .dict es ep → H b = none := fun {b o es ep} e d => by
      cases q : H b with
      | none => rfl
      | some u =>
        have e' : b = a := hA b (by rw [q]; simp)
        subst e'
        rw [ha] at e; cases e
        have d' : Data.seq vs.toArray _ = Data.dict es ep := d
        cases d'
    have nsK : ∀ {b : Addr} {m : Str → Option Value}, s₁.heap.Ns b m → (hidT s₁.heap H).Ns b m := fun {b m} ⟨o, es, ep, e, d, r⟩ => ⟨o, es, ep, base_of e (noA e d), d, r⟩
    have hKb : K.In (hidT s₁.heap H) := fun b o e => base_of (KX b o e) (by
      cases q : H b with
      | none => rfl
      | some u =>
        have e' : b = a := hA b (by rw [q]; simp)
        subst e'
        rw [hK (by rw [q]; simp)] at e; cases e)
    have hM : Mod K mg (hidT s₁.heap H) := ⟨hKb, nsK hns, ⟨mb, nsK hb, hbb⟩, let ⟨mc, h1, h2⟩ := hlim; ⟨mc, nsK h1, h2⟩⟩
    have e0 : Env0 P w K mg (hidT s₁.heap H) callerA [] s₁ H := ⟨rfl, hM, fun b o e => of_hidT e, Nat.le_of_eq (hidT_size _ _), trivial, fun b hb => absurd (show b ∈ ([] : List Addr) from hb) (by simp), hok, .of_eq hg⟩
    refine codeAny_mono ((F _ hKb (nsK hns)).run callerA [] s₁ H ⟨[.ref a], []⟩ [.ref a] [.ref a] _ _ hr e0 (hbind s₁ (.ref a)) (.cons rfl .nil) (hsp H hO hS)) fun r s' h => ?_
    cases r with
    | error e => exact (hCX H e s' h).elim
    | ok fl =>
      cases fl with
      | next => exact False.elim h
      | brk => exact False.elim h
      | cont => exact False.elim h
      | ret u =>
        obtain ⟨v, H', os, bare, un, hok', r', q⟩ := h
        have q' : v = .bl true := q
        subst q'
        obtain rfl : u = Value.bool true := r'
        refine ⟨rfl, OldK.of_keep fun b o e => ?_, os, bare⟩
        cases q : H b with
        | none => exact un.keep b o e q (by intro z; exact absurd (show b ∈ ([] : List Addr) from z) (by simp)) (by simp)
        | some u =>
          rcases hO b with z | ⟨ob, xs, z⟩
          · rw [q] at z; cases z
          · have z2 := un.frzs b ob _ z
            obtain ⟨e1, _⟩ := hok b _ z
            obtain ⟨e2, _⟩ := hok' b _ z2
            rw [e] at e1; cases e1
            exact e2
  cases hk : K.lookup a with
  | some o =>
    -- the script is one of the module's own objects
    have e := KX a o hk
    rw [ha] at e
    cases e
    refine core (fun _ => none) (fun _ => .inl rfl) (.inr ⟨_, vs.toArray, _, hk, rfl, rfl, rfl, by rw [List.size_toArray, lenV]; exact hl, by simpa using rv⟩) (fun b u z => by have z' : (none : Option HO) = some u := z; cases z') (fun b z => absurd rfl z) fun z => absurd rfl z
  | none =>
    refine core (fun b => if b = a then some (.frz { cls := .type "list", data := .seq vs.toArray } (.lst (ns.map V.int))) else none) (fun b => ?_) (.inl (.inr ⟨{ cls := .type "list", data := .seq vs.toArray }, if_pos rfl⟩)) (fun b u z => ?_) (fun b z => ?_) fun _ => hk
    · by_cases hb : b = a
      · exact .inr ⟨_, _, if_pos hb⟩
      · exact .inl (if_neg hb)
    · by_cases hb : b = a
      · have z' := (if_pos hb).symm.trans z
        cases z'
        subst hb
        exact ⟨ha, by rw [List.length_map]; exact hl, vs, _, rv, ha⟩
      · have z' := (if_neg hb).symm.trans z
        cases z'
    · by_cases hb : b = a
      · exact hb
      · exact absurd (if_neg hb) z
end L2

namespace L2
open PySem PySem.Spec PyProof.Rows

/-- the goal that k_head leaves (case hc), from the law's promise. F gives the function object fd (K's own) once, then the promise over every base -/
theorem walk_of {l : PySem.W.OpenLaw} {n k : Nat} {q : Program} {loose : List Str} {XP : (Str → Option Value) → Heap → Prop} {YP : World → Heap → Prop} {d : DefRec} {K : Params → PySem.W.Frag} {CX : World → CXT} {sp : World → Sp} {x : Str}
    (hn : l.most = some n) (hn2 : n ≤ sizeLine) (hdf : d.params.defaults = []) (hr : Room k callerA)
    (hY : ∀ (w : World) (h : Heap), YP w h → (K w.params).In h)
    (F : ∀ (w : World) (mg : Str → Option Value) (fa : Addr) (h : Heap), (K w.params).In h → h.Ns mainGlobals mg → mg d.name = some (.ref fa) →
      ∃ fd : FuncData, (∀ (s : Shared) (u : Value), BindsTo s fd ⟨[u], []⟩ [(x, u)]) ∧
        ∀ base : Heap, (K w.params).In base → base.Ns mainGlobals mg → FnOk l.prog w (K w.params) mg base (CX w) k fa fd [x] (sp w))
    (hsp : ∀ (w : World) (H : Hp) (a : Addr) (ns : List Int), ns.length ≤ n → Only H → SqL (K w.params) H a (ns.map V.int) → sp w [.ref a] H (fun v _ => v = .bl true) fun _ _ _ => False)
    (hCX : ∀ (w : World) (H : Hp) (s : Shared) (e : Value) (s' : Shared), CX w [] H s (fun _ _ _ => False) e s' → False) :
    PySem.W.WalkO q loose XP YP l.row.toRowW d [] (fun f vs => PySem.call f vs) := by
  refine Att.attach_call hn hdf fun w s₀ s₁ mg mb fa o pm cd doc a vs ns G Y ho hd hcd hmg hobj hints hlen hg => ?_
  have KX := hY w _ Y
  obtain ⟨fd, hb, hF⟩ := F w mg fa _ KX G.T.g hmg
  exact law_call KX G.T.g G.T.b G.T.builtins G.T.nolimit hg hobj hints (Nat.le_trans hlen hn2) hr hF hb (fun H hO hS => hsp w H a ns hlen hO hS) fun H e s' => hCX w H s₁ e s'
end L2

/- THE LAST THEOREM (shape; LID, My.* are yours):
   My.Adr: a structure of the addresses that your layer names (classes, functions); My.Txt K t: a structure (Prop) of the equations over K;
   My.txt_mk : {K} {implicit addresses ..} (e1 : nsIn K mainGlobals "law" = some (some (.ref f))) (e2 : K.lookup f = some ⟨oc, od, .func (fnOf "law" "law" params body scope dV kV doc pm an cdv ct), sl⟩) (e3 : codeIn K cdv "law" = true) .. : ∃ t, My.Txt K t

set_option maxRecDepth 100000 in
set_option maxHeartbeats 0 in
theorem PySem.Challenge.cw_LID_holds : PySem.Challenge.rw_LID.Holds := by
  w_on; o_law; k_head; (case hw => w_witness2)
  k_fill
  refine L2.walk_of (l := PySem.Challenge.rw_LID) (n := 63) (k := 40) (x := "script") (CX := fun w => ..) (sp := fun _ => My.sp_law) rfl (by decide) rfl ⟨rfl, by decide, by decide⟩ (fun w h Y => PySem.W.kIn_of Y) ?F ?S ?C
  case F =>
    intro w mg fa h KX G hmg
    have T : ∃ t, My.Txt (L2.KOf KX) t := by
      dsimp only [L2.KOf]                          -- K must stand as «<heap const> w.params» for k_is
      refine' My.txt_mk ?e1 ?e2 ?e3 ..
      (case e1 => PySem.W.k_is)                    -- in the order: a name -> its address -> its object -> its parts
      (case e2 => PySem.W.k_is)
      ..
    obtain ⟨t, T⟩ := T
    have e0 := hmg.symm.trans (PySem.W.mg_of KX G T.law)
    cases e0                                       -- fa is the law's own address
    exact ⟨_, fun s u => .of_eq rfl, fun base kb nb => My.law_fn T kb nb⟩     -- if «.of_eq rfl» comes too early: refine' ⟨_, ?b, fun base kb nb => My.law_fn T kb nb⟩; exact fun s u => .of_eq rfl
  case S => exact fun w H a ns hl hO hS => ..
  case C => exact ..
(the tactic k_is has no namespace: write k_is) -/

/-! SHORT WORDS over the layer: a def of the text, its body, what a loop and a test want. -/
namespace L2
open PySem PySem.Spec PyProof.Rows

/-! ### the text by places -/
def defArgs (s : Stmt) : Arguments := match s with
  | .FunctionDef _ a _ _ _ _ _ _ _ _ => a
  | _ => { posonlyargs := [], args := [], vararg := none, kwonlyargs := [], kw_defaults := [], kwarg := none, defaults := [] }
def defBody (s : Stmt) : List Stmt := match s with
  | .FunctionDef _ _ b _ _ _ _ _ _ _ => b
  | _ => []
def defScope (s : Stmt) : Scope := match s with
  | .FunctionDef _ _ _ _ _ _ sc _ _ _ => sc
  | _ => { kind := .function, names := [], isGenerator := false, isCoroutine := false }

/-! ### no exception leaves a def -/
abbrev CX0 : CXT := fun _ _ _ _ _ _ => False
abbrev E0 : XK := fun _ _ _ => False
theorem pass0 {X : Cx} : Passes CX0 X E0 := fun _ _ _ _ _ _ _ h => h.elim

/-! ### a def (or method) of the text as it stands behind the top -/
structure Fun (K : PySem.W.Frag) (x qual : Str) (st : Stmt) (f : Addr) (fd : FuncData) : Prop where
  ex : ∃ (oc : Value) (od : Option Addr) (kV doc pm : Value) (an : Option Addr) (cdv ct : Value) (osl : Array (Option Value)),
    fd = PySem.W.fnOf x qual (defArgs st) (defBody st) (defScope st) .none kV doc pm an cdv ct ∧ K.lookup f = some ⟨oc, od, .func fd, osl⟩ ∧ PySem.W.codeIn K cdv qual = true
  kp : PySem.W.keepIn K (.ref f) = true
section
variable {P : Program} {w : World} {K : PySem.W.Frag} {mg : Str → Option Value} {base : Heap}
/-- THE RULE for a def: its body as a term of rules, and the reading of that term -/
theorem Fun.ok {x qual : Str} {st : Stmt} {f : Addr} {fd : FuncData} {N ps : List Str} {k : Nat} {sp : Sp} (F : Fun K x qual st f fd) (S : FnScope N ps (defScope st)) (len : ∀ vs H Q E, sp vs H Q E → vs.length = ps.length)
    (hbody : ∀ (cdv : Value) (A : Around) (outer : List Env) (s : Shared) (H : Hp) (vs : List V) (Q : VK) (E : XK), Room k (A.deeper (envOfC qual (defScope st) s.heap.objs.size f cdv)) → sp vs H Q E →
      ∃ t, PSs (cxOf CX0 P w K mg base N qual (defScope st) f cdv A outer s H E).nox (defBody st) t ∧ t { nx := fun _ H' => Q .non H', rt := Q } (start N vs) H) : FnOk P w K mg base CX0 (k + 1) f fd ps sp := by
  obtain ⟨oc, od, kV, doc, pm, an, cdv, ct, osl, rfl, lk, hcd⟩ := F.ex
  refine fn_of lk hcd S len fun A outer s H vs Q E hr hsp => ?_
  obtain ⟨t, h, q⟩ := hbody cdv A outer s H vs Q E hr hsp
  exact ⟨t, h.nox, q⟩
/-- how its arguments bind (no defaults): h is «fun _ _ _ _ _ _ us hl => match us, hl with | [_, _], _ => rfl», one _ a parameter -/
theorem Fun.binds {x qual : Str} {st : Stmt} {f : Addr} {fd : FuncData} {ps : List Str} (F : Fun K x qual st f fd)
    (h : ∀ (kV doc pm : Value) (an : Option Addr) (cdv ct : Value) (us : List Value), us.length = ps.length → bindArgs (PySem.W.fnOf x qual (defArgs st) (defBody st) (defScope st) .none kV doc pm an cdv ct) ⟨us, []⟩ = pure (ps.zip us)) : Binds K fd ps [] := by
  obtain ⟨oc, od, kV, doc, pm, an, cdv, ct, osl, rfl, lk, hcd⟩ := F.ex
  exact .all (h kV doc pm an cdv ct)
theorem fun_mk {x qual : Str} {st : Stmt} {f : Addr} {oc : Value} {od an : Option Addr} {osl : Array (Option Value)} {kV doc pm cdv ct : Value} (l : K.lookup f = some ⟨oc, od, .func (PySem.W.fnOf x qual (defArgs st) (defBody st) (defScope st) .none kV doc pm an cdv ct), osl⟩)
    (c : PySem.W.codeIn K cdv qual = true) (k : PySem.W.keepIn K (.ref f) = true) : Fun K x qual st f (PySem.W.fnOf x qual (defArgs st) (defBody st) (defScope st) .none kV doc pm an cdv ct) := ⟨⟨oc, od, kV, doc, pm, an, cdv, ct, osl, rfl, l, c⟩, k⟩
end
/-! ### expressions in short: the name that stands in the i-th slot -/
section
variable {X : Cx}
end

/-! ### tests -/
theorem ite2 {c A B : Prop} [Decidable c] (h1 : c → A) (h2 : ¬ c → B) : if c then A else B := by
  by_cases h : c
  · rw [if_pos h]
    exact h1 h
  · rw [if_neg h]
    exact h2 h
/-! ### heaps -/
end L2

set_option linter.all false
namespace U2
open PySem L2

/-- a value as data: tuples, and lists that nobody changes any more, by what is in them; ref: an own list or dict, by its address -/
inductive U where
  | non | bl (b : Bool) | int (i : Int) | str (x : Str) | tup (us : List U) | lst (us : List U) | ref (a : Addr) | ty (n : String)

/-- what may still be changed -/
inductive MO where
  | lst (us : List U) | dK (kvs : List (Key × U)) | dT (kvs : List (List Key × U))
abbrev MHp := Addr → Option MO
def mup (M : MHp) (a : Addr) (o : MO) : MHp := fun b => if b = a then some o else M b
theorem mup_same {M : MHp} {a : Addr} {o : MO} : mup M a o a = some o := by unfold mup; rw [if_pos rfl]
theorem mup_ne {M : MHp} {a b : Addr} {o : MO} (h : b ≠ a) : mup M a o b = M b := by unfold mup; rw [if_neg h]
theorem mup_mup {M : MHp} {a : Addr} {o u : MO} : mup (mup M a o) a u = mup M a u := by
  funext b; unfold mup; split <;> rfl

/-- an object of the module -/
def KT (K : PySem.W.Frag) (a : Addr) (xs : List V) : Prop :=
  ∃ (o : Obj) (its : Array Value) (n : Nat), K.lookup a = some o ∧ o.cls = .type "tuple" ∧ o.data = .seq its n ∧ its.size ≤ sizeLine ∧ Vals xs its.toList
def KL (K : PySem.W.Frag) (a : Addr) (xs : List V) : Prop :=
  ∃ (o : Obj) (its : Array Value) (n : Nat), K.lookup a = some o ∧ o.cls = .type "list" ∧ o.dict = none ∧ o.data = .seq its n ∧ its.size ≤ sizeLine ∧ Vals xs its.toList

mutual
def RelU (K : PySem.W.Frag) (H : Hp) (M : MHp) : U → V → Prop
  | .non, v => v = .non
  | .bl b, v => v = .bl b
  | .int i, v => v = .int i
  | .str x, v => v = .str x
  | .ty n, v => v = .ty n
  | .ref a, v => v = .ref a
  | .tup us, v => ∃ a vs, v = .ref a ∧ ((M a = none ∧ Rd H a (.tup vs)) ∨ KT K a vs) ∧ RelUs K H M us vs
  | .lst us, v => ∃ a vs, v = .ref a ∧ ((M a = none ∧ Rd H a (.lst vs)) ∨ KL K a vs) ∧ RelUs K H M us vs
def RelUs (K : PySem.W.Frag) (H : Hp) (M : MHp) : List U → List V → Prop
  | [], vs => vs = []
  | u :: us, vs => ∃ v vs', vs = v :: vs' ∧ RelU K H M u v ∧ RelUs K H M us vs'
end

/-- what is not owned stays, and stays unowned -/
def Stp (H : Hp) (M : MHp) (H1 : Hp) (M1 : MHp) : Prop := ∀ b o, H b = some o → M b = none → H1 b = some o ∧ M1 b = none
theorem Stp.refl (H : Hp) (M : MHp) : Stp H M H M := fun _ _ h m => ⟨h, m⟩
theorem Stp.trans {H H1 H2 : Hp} {M M1 M2 : MHp} (a : Stp H M H1 M1) (b : Stp H1 M1 H2 M2) : Stp H M H2 M2 := fun c o h m => let ⟨h1, m1⟩ := a c o h m; b c o h1 m1
theorem Rd.stp {H H1 : Hp} {M M1 : MHp} {a : Addr} {u : HO} (st : Stp H M H1 M1) (m : M a = none) (h : Rd H a u) : M1 a = none ∧ Rd H1 a u := by
  rcases h with h | ⟨o, h⟩
  · obtain ⟨x, y⟩ := st a _ h m; exact ⟨y, .inl x⟩
  · obtain ⟨x, y⟩ := st a _ h m; exact ⟨y, .inr ⟨o, x⟩⟩

mutual
theorem RelU.stp {K : PySem.W.Frag} {H H1 : Hp} {M M1 : MHp} (st : Stp H M H1 M1) : ∀ {u : U} {v : V}, RelU K H M u v → RelU K H1 M1 u v
  | .non, _, h => by simpa only [RelU] using h
  | .bl _, _, h => by simpa only [RelU] using h
  | .int _, _, h => by simpa only [RelU] using h
  | .str _, _, h => by simpa only [RelU] using h
  | .ty _, _, h => by simpa only [RelU] using h
  | .ref _, _, h => by simpa only [RelU] using h
  | .tup us, _, h => by
    simp only [RelU] at h ⊢
    obtain ⟨a, vs, e, h1, h2⟩ := h
    refine ⟨a, vs, e, ?_, RelUs.stp st h2⟩
    rcases h1 with ⟨m, r⟩ | k
    · exact .inl (Rd.stp st m r)
    · exact .inr k
  | .lst us, _, h => by
    simp only [RelU] at h ⊢
    obtain ⟨a, vs, e, h1, h2⟩ := h
    refine ⟨a, vs, e, ?_, RelUs.stp st h2⟩
    rcases h1 with ⟨m, r⟩ | k
    · exact .inl (Rd.stp st m r)
    · exact .inr k
theorem RelUs.stp {K : PySem.W.Frag} {H H1 : Hp} {M M1 : MHp} (st : Stp H M H1 M1) : ∀ {us : List U} {vs : List V}, RelUs K H M us vs → RelUs K H1 M1 us vs
  | [], _, h => by simpa only [RelUs] using h
  | u :: us, _, h => by
    simp only [RelUs] at h ⊢
    obtain ⟨v, vs', e, h1, h2⟩ := h
    exact ⟨v, vs', e, RelU.stp st h1, RelUs.stp st h2⟩
end
/-- fewer owned things -/
theorem Stp.less {H : Hp} {M M1 : MHp} (h : ∀ b, M b = none → M1 b = none) : Stp H M H M1 := fun b o e m => ⟨e, h b m⟩

def RelKv {κ : Type} (K : PySem.W.Frag) (H : Hp) (M : MHp) : List (κ × U) → List (κ × V) → Prop := Paired fun p q => p.1 = q.1 ∧ RelU K H M p.2 q.2
theorem RelKv.stp {κ : Type} {K : PySem.W.Frag} {H H1 : Hp} {M M1 : MHp} (st : Stp H M H1 M1) : ∀ {us : List (κ × U)} {vs : List (κ × V)}, RelKv K H M us vs → RelKv K H1 M1 us vs
  | _, _, .nil => .nil
  | _, _, .cons h t => .cons ⟨h.1, h.2.stp st⟩ (RelKv.stp st t)
def RelMO (K : PySem.W.Frag) (H : Hp) (M : MHp) (a : Addr) : MO → Prop
  | .lst us => ∃ vs, H a = some (.lst vs) ∧ RelUs K H M us vs
  | .dK kvs => ∃ ws, H a = some (.dK ws) ∧ RelKv K H M kvs ws
  | .dT kvs => ∃ ws, H a = some (.dT ws) ∧ RelKv K H M kvs ws
def RelM (K : PySem.W.Frag) (H : Hp) (M : MHp) : Prop := ∀ a mo, M a = some mo → RelMO K H M a mo
theorem RelMO.stp {K : PySem.W.Frag} {H H1 : Hp} {M M1 : MHp} {a : Addr} {mo : MO} (st : Stp H M H1 M1) (e : H1 a = H a) (h : RelMO K H M a mo) : RelMO K H1 M1 a mo := by
  cases mo with
  | lst us => obtain ⟨vs, x, y⟩ := h; exact ⟨vs, e.trans x, y.stp st⟩
  | dK us => obtain ⟨vs, x, y⟩ := h; exact ⟨vs, e.trans x, y.stp st⟩
  | dT us => obtain ⟨vs, x, y⟩ := h; exact ⟨vs, e.trans x, y.stp st⟩
theorem RelM.ex {K : PySem.W.Frag} {H : Hp} {M : MHp} (r : RelM K H M) {a : Addr} {mo : MO} (h : M a = some mo) : ∃ o, H a = some o := by
  have := r a mo h
  cases mo with
  | lst us => obtain ⟨vs, x, y⟩ := this; exact ⟨_, x⟩
  | dK us => obtain ⟨vs, x, y⟩ := this; exact ⟨_, x⟩
  | dT us => obtain ⟨vs, x, y⟩ := this; exact ⟨_, x⟩
theorem RelM.no {K : PySem.W.Frag} {H : Hp} {M : MHp} (r : RelM K H M) {a : Addr} (h : H a = none) : M a = none := by
  cases e : M a with
  | none => rfl
  | some mo => obtain ⟨o, q⟩ := r.ex e; rw [h] at q; cases q
/-- a thing is laid that is not owned (a tuple, a list by what is in it) -/
theorem Stp.laid {K : PySem.W.Frag} {H : Hp} {M : MHp} {p : Addr} {o : HO} (r : RelM K H M) (h : H p = none) : Stp H M (upd H p o) M := fun b u e m => ⟨by rw [upd_ne (ne_of_none e h)]; exact e, m⟩
theorem RelM.laid {K : PySem.W.Frag} {H : Hp} {M : MHp} {p : Addr} {o : HO} (r : RelM K H M) (h : H p = none) : RelM K (upd H p o) M := fun a mo e => by
  obtain ⟨u, q⟩ := r.ex e
  exact (r a mo e).stp (Stp.laid r h) (upd_ne (ne_of_none q h))
/-- a thing is laid that is owned -/
theorem Stp.own {K : PySem.W.Frag} {H : Hp} {M : MHp} {p : Addr} {o : HO} {mo : MO} (r : RelM K H M) (h : H p = none) : Stp H M (upd H p o) (mup M p mo) := fun b u e m => by
  have n := ne_of_none e h
  exact ⟨by rw [upd_ne n]; exact e, by rw [mup_ne n]; exact m⟩
theorem RelM.put {K : PySem.W.Frag} {H : Hp} {M : MHp} {p : Addr} {o : HO} {mo : MO} (r : RelM K H M) (st : Stp H M (upd H p o) (mup M p mo)) (new : RelMO K (upd H p o) (mup M p mo) p mo) : RelM K (upd H p o) (mup M p mo) := fun a m e => by
  by_cases ha : a = p
  · subst ha; rw [mup_same] at e; cases e; exact new
  · rw [mup_ne ha] at e; exact (r a m e).stp st (upd_ne ha)
/-- an owned thing is written -/
theorem Stp.write {H : Hp} {M : MHp} {p : Addr} {o : HO} {mo m0 : MO} (h : M p = some m0) : Stp H M (upd H p o) (mup M p mo) := fun b u e m => by
  have n : b ≠ p := fun z => by subst z; rw [h] at m; cases m
  exact ⟨by rw [upd_ne n]; exact e, by rw [mup_ne n]; exact m⟩

/-! ### lists of values -/
section
variable {K : PySem.W.Frag} {H : Hp} {M : MHp}
theorem RelUs.nil : RelUs K H M [] [] := by simp only [RelUs]
theorem RelUs.cons {u : U} {v : V} {us : List U} {vs : List V} (h : RelU K H M u v) (t : RelUs K H M us vs) : RelUs K H M (u :: us) (v :: vs) := by simp only [RelUs]; exact ⟨v, vs, rfl, h, t⟩
theorem RelUs.length : ∀ {us : List U} {vs : List V}, RelUs K H M us vs → us.length = vs.length
  | [], _, h => by simp only [RelUs] at h; subst h; rfl
  | u :: us, _, h => by
    simp only [RelUs] at h
    obtain ⟨v, vs', rfl, _, t⟩ := h
    simp [RelUs.length t]
theorem RelUs.inv_cons {u : U} {us : List U} {vs : List V} (h : RelUs K H M (u :: us) vs) : ∃ v vs', vs = v :: vs' ∧ RelU K H M u v ∧ RelUs K H M us vs' := by simpa only [RelUs] using h
theorem RelUs.inv_nil {vs : List V} (h : RelUs K H M [] vs) : vs = [] := by simpa only [RelUs] using h
theorem RelUs.append : ∀ {us ws : List U} {vs zs : List V}, RelUs K H M us vs → RelUs K H M ws zs → RelUs K H M (us ++ ws) (vs ++ zs)
  | [], _, _, _, h, t => by cases h.inv_nil; exact t
  | u :: us, _, _, _, h, t => by
    obtain ⟨v, vs', rfl, a, b⟩ := h.inv_cons
    exact .cons a (RelUs.append b t)
theorem RelUs.get : ∀ {us : List U} {vs : List V} {i : Nat} {u : U}, RelUs K H M us vs → us[i]? = some u → ∃ v, vs[i]? = some v ∧ RelU K H M u v
  | [], _, _, _, _, e => by simp at e
  | u :: us, _, 0, _, h, e => by
    obtain ⟨v, vs', rfl, a, b⟩ := h.inv_cons
    simp at e; subst e; exact ⟨v, rfl, a⟩
  | u :: us, _, i + 1, _, h, e => by
    obtain ⟨v, vs', rfl, a, b⟩ := h.inv_cons
    simp at e
    obtain ⟨w, x, y⟩ := RelUs.get b e
    exact ⟨w, by simpa using x, y⟩
theorem RelUs.drop : ∀ {us : List U} {vs : List V} (n : Nat), RelUs K H M us vs → RelUs K H M (us.drop n) (vs.drop n)
  | _, _, 0, h => h
  | [], _, _ + 1, h => by cases h.inv_nil; exact .nil
  | u :: us, _, n + 1, h => by
    obtain ⟨v, vs', rfl, a, b⟩ := h.inv_cons
    exact RelUs.drop n b
theorem RelUs.take : ∀ {us : List U} {vs : List V} (n : Nat), RelUs K H M us vs → RelUs K H M (us.take n) (vs.take n)
  | _, _, 0, _ => by simp only [List.take_zero]; exact .nil
  | [], _, _ + 1, h => by cases h.inv_nil; exact .nil
  | u :: us, _, n + 1, h => by
    obtain ⟨v, vs', rfl, a, b⟩ := h.inv_cons
    exact .cons a (RelUs.take n b)
theorem RelUs.set {u : U} {v : V} (r : RelU K H M u v) : ∀ {us : List U} {vs : List V} (i : Nat), RelUs K H M us vs → RelUs K H M (us.set i u) (vs.set i v)
  | [], _, _, h => by cases h.inv_nil; exact .nil
  | w :: us, _, 0, h => by
    obtain ⟨z, vs', rfl, a, b⟩ := h.inv_cons
    exact .cons r b
  | w :: us, _, i + 1, h => by
    obtain ⟨z, vs', rfl, a, b⟩ := h.inv_cons
    exact .cons a (RelUs.set r i b)
end

/-! ### states, readings, how the one follows the other -/
abbrev SU := List (Option U)
abbrev UK := U → MHp → Prop
abbrev UE := SU → MHp → UK → Prop
abbrev UT := SU → MHp → (Bool → MHp → Prop) → Prop
abbrev UA := SU → MHp → (List U → MHp → Prop) → Prop
structure UEnds where
  nx : SU → MHp → Prop
  rt : UK
  bk : SU → MHp → Prop := fun _ _ => False
  ct : SU → MHp → Prop := fun _ _ => False
abbrev US := UEnds → SU → MHp → Prop
def RelS (K : PySem.W.Frag) (H : Hp) (M : MHp) (σ : St) (τ : SU) : Prop := τ.length = σ.length ∧ ∀ (i : Nat) u, τ[i]? = some (some u) → ∃ v, σ[i]? = some (some v) ∧ RelU K H M u v
theorem RelS.stp {K : PySem.W.Frag} {H H1 : Hp} {M M1 : MHp} {σ : St} {τ : SU} (st : Stp H M H1 M1) (r : RelS K H M σ τ) : RelS K H1 M1 σ τ := ⟨r.1, fun i u e => let ⟨v, a, b⟩ := r.2 i u e; ⟨v, a, b.stp st⟩⟩
theorem RelS.set {K : PySem.W.Frag} {H : Hp} {M : MHp} {σ : St} {τ : SU} {i : Nat} {u : U} {v : V} (r : RelS K H M σ τ) (h : RelU K H M u v) : RelS K H M (σ.set i (some v)) (τ.set i (some u)) := by
  refine ⟨by simp [r.1], fun j w e => ?_⟩
  rw [List.getElem?_set] at e ⊢
  split at e
  · rename_i hij
    subst hij
    split at e
    · rename_i hl
      cases e
      rw [if_pos rfl, if_pos (by rw [← r.1]; exact hl)]
      exact ⟨v, rfl, h⟩
    · cases e
  · rename_i hij
    rw [if_neg hij]
    exact r.2 j w e

def SimE (K : PySem.W.Frag) (t : TE) (t' : UE) : Prop := ∀ (σ : St) (τ : SU) (H : Hp) (M : MHp) (Q' : UK), RelS K H M σ τ → RelM K H M → t' τ M Q' →
  ∀ Q : VK, (∀ u v M1 H1, Stp H M H1 M1 → RelM K H1 M1 → RelU K H1 M1 u v → Q' u M1 → Q v H1) → t σ H Q
def SimT (K : PySem.W.Frag) (t : TT) (t' : UT) : Prop := ∀ (σ : St) (τ : SU) (H : Hp) (M : MHp) (Q' : Bool → MHp → Prop), RelS K H M σ τ → RelM K H M → t' τ M Q' →
  ∀ Q : Bool → Hp → Prop, (∀ b M1 H1, Stp H M H1 M1 → RelM K H1 M1 → Q' b M1 → Q b H1) → t σ H Q
def SimA (K : PySem.W.Frag) (t : TA) (t' : UA) : Prop := ∀ (σ : St) (τ : SU) (H : Hp) (M : MHp) (Q' : List U → MHp → Prop), RelS K H M σ τ → RelM K H M → t' τ M Q' →
  ∀ Q : List V → Hp → Prop, (∀ us vs M1 H1, Stp H M H1 M1 → RelM K H1 M1 → RelUs K H1 M1 us vs → Q' us M1 → Q vs H1) → t σ H Q
/-- the ends of a statement -/
structure SimD (K : PySem.W.Frag) (H : Hp) (M : MHp) (D : Ends) (D' : UEnds) : Prop where
  nx : ∀ σ τ H1 M1, Stp H M H1 M1 → RelM K H1 M1 → RelS K H1 M1 σ τ → D'.nx τ M1 → D.nx σ H1
  rt : ∀ u v H1 M1, Stp H M H1 M1 → RelM K H1 M1 → RelU K H1 M1 u v → D'.rt u M1 → D.rt v H1
  bk : ∀ σ τ H1 M1, Stp H M H1 M1 → RelM K H1 M1 → RelS K H1 M1 σ τ → D'.bk τ M1 → D.bk σ H1
  ct : ∀ σ τ H1 M1, Stp H M H1 M1 → RelM K H1 M1 → RelS K H1 M1 σ τ → D'.ct τ M1 → D.ct σ H1
theorem SimD.stp {K : PySem.W.Frag} {H H1 : Hp} {M M1 : MHp} {D : Ends} {D' : UEnds} (d : SimD K H M D D') (st : Stp H M H1 M1) : SimD K H1 M1 D D' :=
  ⟨fun σ τ H2 M2 s => d.nx σ τ H2 M2 (st.trans s), fun u v H2 M2 s => d.rt u v H2 M2 (st.trans s), fun σ τ H2 M2 s => d.bk σ τ H2 M2 (st.trans s), fun σ τ H2 M2 s => d.ct σ τ H2 M2 (st.trans s)⟩
def SimS (K : PySem.W.Frag) (t : TS) (t' : US) : Prop := ∀ (σ : St) (τ : SU) (H : Hp) (M : MHp) (D' : UEnds), RelS K H M σ τ → RelM K H M → t' D' τ M → ∀ D : Ends, SimD K H M D D' → t D σ H
end U2
namespace U2
open PySem L2

abbrev UR2 := U → U → MHp → UK → Prop
/-- what a wish about data asks of a wish about values -/
def Cont (K : PySem.W.Frag) (H : Hp) (M : MHp) (Q' : UK) (Q : VK) : Prop := ∀ u v M1 H1, Stp H M H1 M1 → RelM K H1 M1 → RelU K H1 M1 u v → Q' u M1 → Q v H1
theorem Cont.stp {K : PySem.W.Frag} {H H1 : Hp} {M M1 : MHp} {Q' : UK} {Q : VK} (c : Cont K H M Q' Q) (st : Stp H M H1 M1) : Cont K H1 M1 Q' Q := fun u v M2 H2 s => c u v M2 H2 (st.trans s)
theorem Cont.here {K : PySem.W.Frag} {H : Hp} {M : MHp} {Q' : UK} {Q : VK} {u : U} {v : V} (c : Cont K H M Q' Q) (rm : RelM K H M) (r : RelU K H M u v) (q : Q' u M) : Q v H := c u v M H (Stp.refl H M) rm r q
def SimR2 (K : PySem.W.Frag) (r : R2) (r' : UR2) : Prop := ∀ (x y : V) (u w : U) (H : Hp) (M : MHp) (Q' : UK), RelM K H M → RelU K H M u x → RelU K H M w y → r' u w M Q' → ∀ Q : VK, Cont K H M Q' Q → r x y H Q
def SimCl (K : PySem.W.Frag) (r : List V → Hp → VK → Prop) (r' : List U → MHp → UK → Prop) : Prop := ∀ (xs : List V) (us : List U) (H : Hp) (M : MHp) (Q' : UK), RelM K H M → RelUs K H M us xs → r' us M Q' → ∀ Q : VK, Cont K H M Q' Q → r xs H Q
def SimMt (K : PySem.W.Frag) (r : V → List V → Hp → VK → Prop) (r' : U → List U → MHp → UK → Prop) : Prop := ∀ (x : V) (xs : List V) (u : U) (us : List U) (H : Hp) (M : MHp) (Q' : UK), RelM K H M → RelU K H M u x → RelUs K H M us xs → r' u us M Q' → ∀ Q : VK, Cont K H M Q' Q → r x xs H Q

/-! ### what a value is, from its data -/
section
variable {K : PySem.W.Frag} {H : Hp} {M : MHp} {v : V}
theorem RelU.non (h : RelU K H M .non v) : v = .non := by simpa only [RelU] using h
theorem RelU.bl {b : Bool} (h : RelU K H M (.bl b) v) : v = .bl b := by simpa only [RelU] using h
theorem RelU.int {i : Int} (h : RelU K H M (.int i) v) : v = .int i := by simpa only [RelU] using h
theorem RelU.str {x : Str} (h : RelU K H M (.str x) v) : v = .str x := by simpa only [RelU] using h
theorem RelU.ty {n : String} (h : RelU K H M (.ty n) v) : v = .ty n := by simpa only [RelU] using h
theorem RelU.ref {a : Addr} (h : RelU K H M (.ref a) v) : v = .ref a := by simpa only [RelU] using h
theorem RelU.tup {us : List U} (h : RelU K H M (.tup us) v) : ∃ a vs, v = .ref a ∧ SqT K H a vs ∧ RelUs K H M us vs := by
  simp only [RelU] at h
  obtain ⟨a, vs, e, h1, h2⟩ := h
  refine ⟨a, vs, e, ?_, h2⟩
  rcases h1 with ⟨_, r⟩ | k
  · exact .inl r
  · exact .inr k
theorem RelU.lst {us : List U} (h : RelU K H M (.lst us) v) : ∃ a vs, v = .ref a ∧ SqL K H a vs ∧ RelUs K H M us vs := by
  simp only [RelU] at h
  obtain ⟨a, vs, e, h1, h2⟩ := h
  refine ⟨a, vs, e, ?_, h2⟩
  rcases h1 with ⟨_, r⟩ | k
  · exact .inl r
  · exact .inr k
theorem relU_non : RelU K H M .non .non := by simp only [RelU]
theorem relU_bl {b : Bool} : RelU K H M (.bl b) (.bl b) := by simp only [RelU]
theorem relU_int {i : Int} : RelU K H M (.int i) (.int i) := by simp only [RelU]
theorem relU_str {x : Str} : RelU K H M (.str x) (.str x) := by simp only [RelU]
theorem relU_ty {n : String} : RelU K H M (.ty n) (.ty n) := by simp only [RelU]
theorem relU_ref {a : Addr} : RelU K H M (.ref a) (.ref a) := by simp only [RelU]
theorem relU_tup {a : Addr} {us : List U} {vs : List V} (m : M a = none) (h : H a = some (.tup vs)) (r : RelUs K H M us vs) : RelU K H M (.tup us) (.ref a) := by
  simp only [RelU]; exact ⟨a, vs, rfl, .inl ⟨m, .inl h⟩, r⟩
theorem relU_lst {a : Addr} {us : List U} {vs : List V} (m : M a = none) (h : H a = some (.lst vs)) (r : RelUs K H M us vs) : RelU K H M (.lst us) (.ref a) := by
  simp only [RelU]; exact ⟨a, vs, rfl, .inl ⟨m, .inl h⟩, r⟩
/-- a new tuple, a new list: the wish about data at it -/
theorem Cont.tup {Q' : UK} {Q : VK} {us : List U} {vs : List V} {p : Addr} (c : Cont K H M Q' Q) (rm : RelM K H M) (r : RelUs K H M us vs) (hp : H p = none) (q : Q' (.tup us) M) : Q (.ref p) (upd H p (.tup vs)) :=
  c _ _ M _ (Stp.laid rm hp) (rm.laid hp) (relU_tup (rm.no hp) upd_same (r.stp (Stp.laid rm hp))) q
/-- how a new list is kept: own (o = true), or by what is in it -/
def mkL (o : Bool) (us : List U) (M : MHp) (Q : UK) : Prop := match o with
  | true => ∀ p, M p = none → Q (.ref p) (mup M p (.lst us))
  | false => Q (.lst us) M
theorem Cont.lst {o : Bool} {Q' : UK} {Q : VK} {us : List U} {vs : List V} {p : Addr} (c : Cont K H M Q' Q) (rm : RelM K H M) (r : RelUs K H M us vs) (hp : H p = none) (q : mkL o us M Q') : Q (.ref p) (upd H p (.lst vs)) := by
  cases o with
  | false => exact c _ _ M _ (Stp.laid rm hp) (rm.laid hp) (relU_lst (rm.no hp) upd_same (r.stp (Stp.laid rm hp))) q
  | true =>
    have st : Stp H M (upd H p (.lst vs)) (mup M p (.lst us)) := Stp.own rm hp
    exact c (.ref p) _ _ _ st (rm.put st ⟨vs, upd_same, r.stp st⟩) relU_ref (q p (rm.no hp))
end

/-- an owned list is read by what is in it -/
def view (M : MHp) : U → U
  | .ref a => match M a with
    | some (.lst us) => .lst us
    | _ => .ref a
  | u => u
theorem view_ref {M : MHp} {a : Addr} {us : List U} (h : M a = some (.lst us)) : view M (.ref a) = .lst us := by simp only [view, h]
/-- what reads as a list -/
theorem view_lst {K : PySem.W.Frag} {H : Hp} {M : MHp} {u : U} {v : V} {us : List U} (rm : RelM K H M) (r : RelU K H M u v) (h : view M u = .lst us) : ∃ a vs, v = .ref a ∧ SqL K H a vs ∧ RelUs K H M us vs := by
  cases u with
  | lst ws => simp only [view] at h; cases h; exact r.lst
  | ref a =>
    simp only [view] at h
    split at h
    · rename_i ws e
      cases h
      obtain ⟨vs, h1, h2⟩ := rm a _ e
      exact ⟨a, vs, r.ref, .inl (.inl h1), h2⟩
    · cases h
  | _ => simp [view] at h

/-! ### expressions -/
section
variable {K : PySem.W.Frag} {t ta tb tc : TE} {t' ta' tb' tc' : UE}
def uVar (i : Nat) : UE := fun τ M Q => match τ[i]? with
  | some (some u) => Q u M
  | _ => False
theorem sim_var (i : Nat) : SimE K (tVar i) (uVar i) := fun σ τ H M Q' rs rm h Q c => by
  unfold uVar at h
  split at h
  · rename_i u e
    obtain ⟨v, e2, r⟩ := rs.2 i u e
    exact ⟨v, e2, c u v M H (Stp.refl _ _) rm r h⟩
  · exact h.elim
def uC (u : U) : UE := fun _ M Q => Q u M
theorem sim_c {u : U} {v : V} (h : ∀ H M, RelU K H M u v) : SimE K (tC v) (uC u) := fun σ τ H M Q' rs rm q Q c => c u v M H (Stp.refl _ _) rm (h H M) q
theorem sim_int {i : Int} : SimE K (tC (.int i)) (uC (.int i)) := sim_c fun _ _ => relU_int
theorem sim_bl {i : Bool} : SimE K (tC (.bl i)) (uC (.bl i)) := sim_c fun _ _ => relU_bl
theorem sim_str {i : Str} : SimE K (tC (.str i)) (uC (.str i)) := sim_c fun _ _ => relU_str
theorem sim_ty {n : String} : SimE K (tC (.ty n)) (uC (.ty n)) := sim_c fun _ _ => relU_ty
theorem sim_ref {a : Addr} : SimE K (tC (.ref a)) (uC (.ref a)) := sim_c fun _ _ => relU_ref
def uOp (r : UR2) (ta tb : UE) : UE := fun τ M Q => ta τ M fun x M1 => tb τ M1 fun y M2 => r x y M2 Q
theorem sim_op {r : R2} {r' : UR2} (hr : SimR2 K r r') (ha : SimE K ta ta') (hb : SimE K tb tb') : SimE K (tOp r ta tb) (uOp r' ta' tb') := fun σ τ H M Q' rs rm h Q c =>
  ha σ τ H M _ rs rm h _ fun u v M1 H1 s1 rm1 ru h1 => hb σ τ H1 M1 _ (rs.stp s1) rm1 h1 _ fun w x M2 H2 s2 rm2 rw h2 => hr v x u w H2 M2 Q' rm2 (ru.stp s2) rw h2 Q (Cont.stp c (s1.trans s2))
def uUn (r : U → MHp → UK → Prop) (ta : UE) : UE := fun τ M Q => ta τ M fun x M1 => r x M1 Q
/-! tests -/
def uTest (t : UE) : UT := fun τ M Q => t τ M fun u M1 => match u with
  | .bl b => Q b M1
  | _ => False
theorem sim_test (h : SimE K t t') : SimT K (tTest t) (uTest t') := fun σ τ H M Q' rs rm q Q c => h σ τ H M _ rs rm q _ fun u v M1 H1 s1 rm1 ru h1 => by
  cases u with
  | bl b => exact ⟨b, ru.bl, c b M1 H1 s1 rm1 h1⟩
  | _ => exact h1.elim
def uTru (t : UE) : UT := fun τ M Q => t τ M fun u M1 => match view M1 u with
  | .non => Q false M1
  | .bl b => Q b M1
  | .int i => Q (i != 0) M1
  | .str x => x.length ≤ sizeLine ∧ Q ((x.length : Int) != 0) M1
  | .tup us => Q (!us.isEmpty) M1
  | .lst us => Q (!us.isEmpty) M1
  | _ => False
theorem isEmpty_rel {H : Hp} {M : MHp} {us : List U} {vs : List V} (r : RelUs K H M us vs) : us.isEmpty = vs.isEmpty := by
  have := r.length
  cases us <;> cases vs <;> simp_all
theorem sim_tru (h : SimE K t t') : SimT K (fun σ H Q => t σ H fun x H' => ∃ k, TruV K x H' k ∧ Q k H') (uTru t') := fun σ τ H M Q' rs rm q Q c => h σ τ H M _ rs rm q _ fun u v M1 H1 s1 rm1 ru h1 => by
  split at h1
  · rename_i e
    cases u with
    | non => exact ⟨false, by rw [ru.non]; rfl, c _ M1 H1 s1 rm1 h1⟩
    | ref a => simp only [view] at e; split at e <;> cases e
    | _ => simp [view] at e
  · rename_i b e
    cases u with
    | bl b' => simp only [view] at e; cases e; exact ⟨b, by rw [ru.bl]; rfl, c _ M1 H1 s1 rm1 h1⟩
    | ref a => simp only [view] at e; split at e <;> cases e
    | _ => simp [view] at e
  · rename_i b e
    cases u with
    | int b' => simp only [view] at e; cases e; exact ⟨b != 0, by rw [ru.int]; rfl, c _ M1 H1 s1 rm1 h1⟩
    | ref a => simp only [view] at e; split at e <;> cases e
    | _ => simp [view] at e
  · rename_i b e
    cases u with
    | str b' => simp only [view] at e; cases e; exact ⟨(b.length : Int) != 0, by rw [ru.str]; exact ⟨h1.1, rfl⟩, c _ M1 H1 s1 rm1 h1.2⟩
    | ref a => simp only [view] at e; split at e <;> cases e
    | _ => simp [view] at e
  · rename_i us e
    cases u with
    | tup us' =>
      simp only [view] at e; cases e
      obtain ⟨a, vs, rfl, r1, r2⟩ := ru.tup
      exact ⟨!vs.isEmpty, .inr (.inl ⟨vs, r1, rfl⟩), c _ M1 H1 s1 rm1 (by rw [← isEmpty_rel r2]; exact h1)⟩
    | ref a => simp only [view] at e; split at e <;> cases e
    | _ => simp [view] at e
  · rename_i us e
    obtain ⟨a, vs, rfl, r1, r2⟩ := view_lst rm1 ru e
    exact ⟨!vs.isEmpty, .inl ⟨vs, r1, rfl⟩, c _ M1 H1 s1 rm1 (by rw [← isEmpty_rel r2]; exact h1)⟩
  · exact h1.elim
def uAnd (t u : UT) : UT := fun τ M Q => t τ M fun c M1 => if c = true then u τ M1 Q else Q false M1
def uOr (t u : UT) : UT := fun τ M Q => t τ M fun c M1 => if c = true then Q true M1 else u τ M1 Q
def uNot (t : UT) : UT := fun τ M Q => t τ M fun c M1 => Q (!c) M1
theorem sim_and {t u : TT} {t' u' : UT} (h : SimT K t t') (k : SimT K u u') : SimT K (tAnd t u) (uAnd t' u') := fun σ τ H M Q' rs rm q Q c => h σ τ H M _ rs rm q _ fun b M1 H1 s1 rm1 h1 => by
  cases b with
  | true => exact k σ τ H1 M1 Q' (rs.stp s1) rm1 h1 Q fun b M2 H2 s2 => c b M2 H2 (s1.trans s2)
  | false => exact c _ M1 H1 s1 rm1 h1
theorem sim_or {t u : TT} {t' u' : UT} (h : SimT K t t') (k : SimT K u u') : SimT K (tOr t u) (uOr t' u') := fun σ τ H M Q' rs rm q Q c => h σ τ H M _ rs rm q _ fun b M1 H1 s1 rm1 h1 => by
  cases b with
  | false => exact k σ τ H1 M1 Q' (rs.stp s1) rm1 h1 Q fun b M2 H2 s2 => c b M2 H2 (s1.trans s2)
  | true => exact c _ M1 H1 s1 rm1 h1
theorem sim_not {t : TT} {t' : UT} (h : SimT K t t') : SimT K (tNot t) (uNot t') := fun σ τ H M Q' rs rm q Q c => h σ τ H M _ rs rm q _ fun b M1 H1 s1 rm1 h1 => c _ M1 H1 s1 rm1 h1
/-! and, or, not as values -/
def uAndV (ta tb : UE) : UE := fun τ M Q => ta τ M fun x M1 => match x with
  | .bl c => if c = true then tb τ M1 Q else Q (.bl false) M1
  | _ => False
def uOrV (ta tb : UE) : UE := fun τ M Q => ta τ M fun x M1 => match x with
  | .bl c => if c = true then Q (.bl true) M1 else tb τ M1 Q
  | _ => False
def uNotV (ta : UE) : UE := fun τ M Q => ta τ M fun x M1 => match x with
  | .bl c => Q (.bl (!c)) M1
  | _ => False
def uIf (t : UT) (ta tb : UE) : UE := fun τ M Q => t τ M fun c M1 => if c = true then ta τ M1 Q else tb τ M1 Q
theorem sim_if {t : TT} {t' : UT} (h : SimT K t t') (k : SimE K ta ta') (l : SimE K tb tb') : SimE K (tIf t ta tb) (uIf t' ta' tb') := fun σ τ H M Q' rs rm q Q c => h σ τ H M _ rs rm q _ fun b M1 H1 s1 rm1 h1 => by
  cases b with
  | true => exact k σ τ H1 M1 Q' (rs.stp s1) rm1 h1 Q (Cont.stp c s1)
  | false => exact l σ τ H1 M1 Q' (rs.stp s1) rm1 h1 Q (Cont.stp c s1)
def uChain (r r' : UR2) (ta tb tc : UE) : UE := fun τ M Q => ta τ M fun x M1 => tb τ M1 fun y M2 => r x y M2 fun z M3 => match z with
  | .bl k => if k = true then tc τ M3 fun w M4 => r' y w M4 Q else Q (.bl false) M3
  | _ => False
/-! argument lists, displays -/
def uNil : UA := fun _ M Q => Q [] M
def uCons (ta : UE) (tr : UA) : UA := fun τ M Q => ta τ M fun x M1 => tr τ M1 fun xs M2 => Q (x :: xs) M2
theorem sim_nil : SimA K tNil uNil := fun σ τ H M Q' rs rm q Q c => c [] [] M H (Stp.refl _ _) rm .nil q
theorem sim_cons {tr : TA} {tr' : UA} (ha : SimE K ta ta') (hr : SimA K tr tr') : SimA K (tCons ta tr) (uCons ta' tr') := fun σ τ H M Q' rs rm h Q c =>
  ha σ τ H M _ rs rm h _ fun u v M1 H1 s1 rm1 ru h1 => hr σ τ H1 M1 _ (rs.stp s1) rm1 h1 _ fun us vs M2 H2 s2 rm2 rus h2 => c (u :: us) (v :: vs) M2 H2 (s1.trans s2) rm2 (.cons (ru.stp s2) rus) h2
def uTup (t : UA) : UE := fun τ M Q => t τ M fun us M1 => us.length ≤ sizeLine ∧ Q (.tup us) M1
def uLst (o : Bool) (t : UA) : UE := fun τ M Q => t τ M fun us M1 => us.length ≤ sizeLine ∧ mkL o us M1 Q
theorem sim_tup {t : TA} {t' : UA} (h : SimA K t t') : SimE K (tTup t) (uTup t') := fun σ τ H M Q' rs rm q Q c =>
  h σ τ H M _ rs rm q _ fun us vs M1 H1 s1 rm1 r h1 => ⟨by rw [← r.length]; exact h1.1, fun p hp => (Cont.stp c s1).tup rm1 r hp h1.2⟩
theorem sim_lst {o : Bool} {t : TA} {t' : UA} (h : SimA K t t') : SimE K (tLst t) (uLst o t') := fun σ τ H M Q' rs rm q Q c =>
  h σ τ H M _ rs rm q _ fun us vs M1 H1 s1 rm1 r h1 => ⟨by rw [← r.length]; exact h1.1, fun p hp => (Cont.stp c s1).lst rm1 r hp h1.2⟩
/-! calls of built-ins, by values -/
def uCB (r : List U → MHp → UK → Prop) (t : UA) : UE := fun τ M Q => t τ M fun us M1 => r us M1 Q
theorem sim_cb {r : List V → Hp → VK → Prop} {r' : List U → MHp → UK → Prop} {t : TA} {t' : UA} (hr : SimCl K r r') (h : SimA K t t') : SimE K (tCB r t) (uCB r' t') := fun σ τ H M Q' rs rm q Q c =>
  h σ τ H M _ rs rm q _ fun us vs M1 H1 s1 rm1 ru h1 => hr vs us H1 M1 Q' rm1 ru h1 Q (Cont.stp c s1)
end
end U2
namespace U2
open PySem L2

/-! ### two-place operations -/
section
variable {K : PySem.W.Frag}
def uI0 (g : Int → Int → U) : UR2 := fun x y M Q => match x, y with
  | .int i, .int j => Q (g i j) M
  | _, _ => False
def uI (C : Int → Int → Prop) (g : Int → Int → U) : UR2 := fun x y M Q => match x, y with
  | .int i, .int j => C i j ∧ Q (g i j) M
  | _, _ => False
theorem sim_I0 {g : Int → Int → V} {g' : Int → Int → U} (hg : ∀ H M i j, RelU K H M (g' i j) (g i j)) : SimR2 K (rI0 g) (uI0 g') := fun x y u w H M Q' rm ru rw h Q c => by
  cases u with
  | int i => cases w with
    | int j => exact ⟨i, j, ru.int, rw.int, c _ _ M H (Stp.refl _ _) rm (hg H M i j) h⟩
    | _ => exact h.elim
  | _ => exact h.elim
theorem sim_I {C : Int → Int → Prop} {g : Int → Int → V} {g' : Int → Int → U} (hg : ∀ H M i j, RelU K H M (g' i j) (g i j)) : SimR2 K (rI C g) (uI C g') := fun x y u w H M Q' rm ru rw h Q c => by
  cases u with
  | int i => cases w with
    | int j => exact ⟨i, j, ru.int, rw.int, h.1, c _ _ M H (Stp.refl _ _) rm (hg H M i j) h.2⟩
    | _ => exact h.elim
  | _ => exact h.elim
theorem sim_int2 {f : Int → Int → Int} : SimR2 K (rI0 fun i j => .int (f i j)) (uI0 fun i j => .int (f i j)) := sim_I0 fun _ _ _ _ => relU_int
theorem sim_bool2 {f : Int → Int → Bool} : SimR2 K (rI0 fun i j => .bl (f i j)) (uI0 fun i j => .bl (f i j)) := sim_I0 fun _ _ _ _ => relU_bl
theorem sim_int2c {C : Int → Int → Prop} {f : Int → Int → Int} : SimR2 K (rI C fun i j => .int (f i j)) (uI C fun i j => .int (f i j)) := sim_I fun _ _ _ _ => relU_int
/-- text + text -/
def uAddS : UR2 := fun x y M Q => match x, y with
  | .str i, .str j => i.length + j.length ≤ sizeLine ∧ Q (.str (i ++ j)) M
  | _, _ => False
theorem sim_addS : SimR2 K (fun x y H Q => ∃ i j, x = .str i ∧ y = .str j ∧ i.length + j.length ≤ sizeLine ∧ Q (.str (i ++ j)) H) uAddS := fun x y u w H M Q' rm ru rw h Q c => by
  cases u with
  | str i => cases w with
    | str j => exact ⟨i, j, ru.str, rw.str, h.1, c _ _ M H (Stp.refl _ _) rm relU_str h.2⟩
    | _ => exact h.elim
  | _ => exact h.elim
/-- tuple + tuple: an empty one gives the other (a rule of mine) -/
def rCatTA (K : PySem.W.Frag) : R2 := fun x y H Q => ∃ a b xs ys, x = .ref a ∧ y = .ref b ∧ SqT K H a xs ∧ SqT K H b ys ∧ xs.length + ys.length ≤ sizeLine ∧
  (xs = [] → Q (.ref b) H) ∧ (xs ≠ [] → ys = [] → Q (.ref a) H) ∧ (xs ≠ [] → ys ≠ [] → ∀ p, H p = none → Q (.ref p) (upd H p (.tup (xs ++ ys))))
def uAddT : UR2 := fun x y M Q => match x, y with
  | .tup us, .tup ws => us.length + ws.length ≤ sizeLine ∧ Q (.tup (us ++ ws)) M
  | _, _ => False
theorem sim_addT : SimR2 K (rCatTA K) uAddT := fun x y u w H M Q' rm ru rw h Q c => by
  cases u with
  | tup us => cases w with
    | tup ws =>
      obtain ⟨h2, h3⟩ := h
      obtain ⟨a, xs, rfl, s1, r1⟩ := ru.tup
      obtain ⟨b, ys, rfl, s2, r2⟩ := rw.tup
      refine ⟨a, b, xs, ys, rfl, rfl, s1, s2, by rw [← r1.length, ← r2.length]; exact h2, fun e => ?_, fun _ e => ?_, fun _ _ p hp => c.tup rm (r1.append r2) hp h3⟩
      · subst e
        have e2 : us = [] := List.length_eq_zero_iff.mp r1.length
        subst e2
        exact c _ _ M H (Stp.refl _ _) rm rw h3
      · subst e
        have e2 : ws = [] := List.length_eq_zero_iff.mp r2.length
        subst e2
        exact c _ _ M H (Stp.refl _ _) rm ru (by rw [List.append_nil] at h3; exact h3)
    | _ => exact h.elim
  | _ => exact h.elim
/-- list + list -/
def uAddL (o : Bool) : UR2 := fun x y M Q => match view M x, view M y with
  | .lst us, .lst ws => us.length + ws.length ≤ sizeLine ∧ mkL o (us ++ ws) M Q
  | _, _ => False
/-- list + list, of any lists that are read (a rule of mine) -/
def rCatL (K : PySem.W.Frag) : R2 := fun x y H Q => ∃ l b xs zs, x = .ref l ∧ y = .ref b ∧ SqL K H l xs ∧ SqL K H b zs ∧ xs.length + zs.length ≤ sizeLine ∧ ∀ p, H p = none → Q (.ref p) (upd H p (.lst (xs ++ zs)))
theorem sim_addL {o : Bool} : SimR2 K (rCatL K) (uAddL o) := fun x y u w H M Q' rm ru rw h Q c => by
  unfold uAddL at h
  split at h
  · rename_i us ws e1 e2
    obtain ⟨a, xs, rfl, s1, r1⟩ := view_lst rm ru e1
    obtain ⟨b, ys, rfl, s2, r2⟩ := view_lst rm rw e2
    exact ⟨a, b, xs, ys, rfl, rfl, s1, s2, by rw [← r1.length, ← r2.length]; exact h.1, fun p hp => c.lst rm (r1.append r2) hp h.2⟩
  · exact h.elim
/-! ### places -/
theorem atI_rel {H : Hp} {M : MHp} {us : List U} {vs : List V} {i : Int} {u : U} (r : RelUs K H M us vs) (h : atI us i = some u) : ∃ v, atI vs i = some v ∧ RelU K H M u v := by
  unfold atI at h ⊢
  rw [← r.length]
  cases e : ixN us.length i with
  | none => rw [e] at h; cases h
  | some j => rw [e] at h; exact r.get h
/-- x[i] -/
def uIx : UR2 := fun x y M Q => match view M x, y with
  | .lst us, .int i => ∃ u, atI us i = some u ∧ Q u M
  | .tup us, .int i => ∃ u, atI us i = some u ∧ Q u M
  | .str z, .int i => z.length ≤ sizeLine ∧ ∃ c, atI z.cps.toList i = some c ∧ Q (.str ⟨#[c]⟩) M
  | _, _ => False
theorem view_tup {M : MHp} {u : U} {us : List U} (h : view M u = .tup us) : u = .tup us := by
  cases u with
  | ref a => simp only [view] at h; split at h <;> cases h
  | _ => simpa [view] using h
theorem view_str {M : MHp} {u : U} {x : Str} (h : view M u = .str x) : u = .str x := by
  cases u with
  | ref a => simp only [view] at h; split at h <;> cases h
  | _ => simpa [view] using h
theorem sim_ix : SimR2 K (rIx K) uIx := fun x y u w H M Q' rm ru rw h Q c => by
  unfold uIx at h
  split at h
  · rename_i us i e
    obtain ⟨z, h1, h2⟩ := h
    obtain ⟨a, xs, rfl, s1, r1⟩ := view_lst rm ru e
    obtain ⟨v, h3, h4⟩ := atI_rel r1 h1
    exact .inl ⟨a, xs, i, v, rfl, rw.int, s1, h3, c _ _ M H (Stp.refl _ _) rm h4 h2⟩
  · rename_i us i e
    obtain ⟨z, h1, h2⟩ := h
    have e' := view_tup e
    subst e'
    obtain ⟨a, xs, rfl, s1, r1⟩ := ru.tup
    obtain ⟨v, h3, h4⟩ := atI_rel r1 h1
    exact .inr (.inl ⟨a, xs, i, v, rfl, rw.int, s1, h3, c _ _ M H (Stp.refl _ _) rm h4 h2⟩)
  · rename_i z i e
    obtain ⟨h0, d, h1, h2⟩ := h
    have e' := view_str e
    subst e'
    exact .inr (.inr ⟨z, i, d, ru.str, rw.int, h0, h1, c _ _ M H (Stp.refl _ _) rm relU_str h2⟩)
  · exact h.elim
/-! ### slices -/
abbrev UO := SU → MHp → (Option Int → MHp → Prop) → Prop
def SimO (K : PySem.W.Frag) (t : TO) (t' : UO) : Prop := ∀ (σ : St) (τ : SU) (H : Hp) (M : MHp) (Q' : Option Int → MHp → Prop), RelS K H M σ τ → RelM K H M → t' τ M Q' →
  ∀ Q : Option Int → Hp → Prop, (∀ o M1 H1, Stp H M H1 M1 → RelM K H1 M1 → Q' o M1 → Q o H1) → t σ H Q
def uNoPart : UO := fun _ M Q => Q none M
def uPart (t : UE) : UO := fun τ M Q => t τ M fun x M1 => match x with
  | .int i => Q (some i) M1
  | _ => False
theorem sim_noPart : SimO K tNoPart uNoPart := fun σ τ H M Q' rs rm q Q c => c none M H (Stp.refl _ _) rm q
theorem sim_part {t : TE} {t' : UE} (h : SimE K t t') : SimO K (tPart t) (uPart t') := fun σ τ H M Q' rs rm q Q c => h σ τ H M _ rs rm q _ fun u v M1 H1 s1 rm1 ru h1 => by
  cases u with
  | int i => exact ⟨i, ru.int, c _ M1 H1 s1 rm1 h1⟩
  | _ => exact h1.elim
def cutU {α : Type} (xs : List α) (lo hi : Option Int) : List α := (xs.drop (HT.sIx xs.length 0 lo)).take (HT.sIx xs.length xs.length hi - HT.sIx xs.length 0 lo)
theorem cut_rel {H : Hp} {M : MHp} {us : List U} {vs : List V} (r : RelUs K H M us vs) (lo hi : Option Int) : RelUs K H M (cutU us lo hi) (cutV vs lo hi) := by
  unfold cutU cutV
  rw [r.length]
  exact (r.drop _).take _
/-- x[lo:hi] of a tuple (not the whole), a list, a text -/
def rSlA (K : PySem.W.Frag) : V → Option Int → Option Int → Hp → VK → Prop := fun x lo hi H Q =>
  (∃ a xs, x = .ref a ∧ SqL K H a xs ∧ ∀ p, H p = none → Q (.ref p) (upd H p (.lst (cutV xs lo hi)))) ∨
  (∃ a xs, x = .ref a ∧ SqT K H a xs ∧ ¬ (HT.sIx xs.length 0 lo = 0 ∧ HT.sIx xs.length xs.length hi = xs.length) ∧ ∀ p, H p = none → Q (.ref p) (upd H p (.tup (cutV xs lo hi)))) ∨
  (∃ z : Str, x = .str z ∧ z.length ≤ sizeLine ∧ Q (.str (Txt.slice z lo hi)) H)
def uSl (o : Bool) (te : UE) (tl th : UO) : UE := fun τ M Q => te τ M fun x M1 => tl τ M1 fun l M2 => th τ M2 fun h M3 => match view M3 x with
  | .lst us => mkL o (cutU us l h) M3 Q
  | .tup us => ¬ (HT.sIx us.length 0 l = 0 ∧ HT.sIx us.length us.length h = us.length) ∧ Q (.tup (cutU us l h)) M3
  | .str z => z.length ≤ sizeLine ∧ Q (.str (Txt.slice z l h)) M3
  | _ => False
end
/-! ### statements -/
section
variable {K : PySem.W.Frag} {t u : TS} {t' u' : US} {te : TE} {te' : UE}
def uNext : US := fun D τ M => D.nx τ M
def uSeq (t u : US) : US := fun D τ M => t { D with nx := u D } τ M
def uBreak : US := fun D τ M => D.bk τ M
def uCont : US := fun D τ M => D.ct τ M
def uDrop (te : UE) : US := fun D τ M => te τ M fun _ M1 => D.nx τ M1
def uRet (te : UE) : US := fun D τ M => te τ M D.rt
def uRetN : US := fun D _ M => D.rt .non M
def uIfS (c : UT) (t u : US) : US := fun D τ M => c τ M fun b M1 => if b = true then t D τ M1 else u D τ M1
theorem sim_next : SimS K tNext uNext := fun σ τ H M D' rs rm h D d => d.nx σ τ H M (Stp.refl _ _) rm rs h
theorem sim_seq (h1 : SimS K t t') (h2 : SimS K u u') : SimS K (tSeq t u) (uSeq t' u') := fun σ τ H M D' rs rm h D d =>
  h1 σ τ H M _ rs rm h _ ⟨fun σ1 τ1 H1 M1 s rm1 rs1 q => h2 σ1 τ1 H1 M1 D' rs1 rm1 q D (d.stp s), d.rt, d.bk, d.ct⟩
theorem sim_drop (h1 : SimE K te te') : SimS K (tDrop te) (uDrop te') := fun σ τ H M D' rs rm h D d => h1 σ τ H M _ rs rm h _ fun u v M1 H1 s rm1 ru q => d.nx σ τ H1 M1 s rm1 (rs.stp s) q
theorem sim_ret (h1 : SimE K te te') : SimS K (tRet te) (uRet te') := fun σ τ H M D' rs rm h D d => h1 σ τ H M _ rs rm h _ fun u v M1 H1 s rm1 ru q => d.rt u v H1 M1 s rm1 ru q
theorem sim_ifS {c : TT} {c' : UT} (hc : SimT K c c') (h1 : SimS K t t') (h2 : SimS K u u') : SimS K (tIfS c t u) (uIfS c' t' u') := fun σ τ H M D' rs rm h D d => hc σ τ H M _ rs rm h _ fun b M1 H1 s rm1 q => by
  cases b with
  | true => exact h1 σ τ H1 M1 D' (rs.stp s) rm1 q D (d.stp s)
  | false => exact h2 σ τ H1 M1 D' (rs.stp s) rm1 q D (d.stp s)
/-! targets -/
abbrev UG := U → SU → MHp → (SU → MHp → Prop) → Prop
abbrev UGs := List U → SU → MHp → (SU → MHp → Prop) → Prop
def SimG (K : PySem.W.Frag) (g : TG) (g' : UG) : Prop := ∀ (u : U) (v : V) (σ : St) (τ : SU) (H : Hp) (M : MHp) (Q' : SU → MHp → Prop), RelU K H M u v → RelS K H M σ τ → RelM K H M → g' u τ M Q' →
  ∀ Q : St → Hp → Prop, (∀ σ1 τ1 H1 M1, Stp H M H1 M1 → RelM K H1 M1 → RelS K H1 M1 σ1 τ1 → Q' τ1 M1 → Q σ1 H1) → g v σ H Q
def SimGs (K : PySem.W.Frag) (g : TGs) (g' : UGs) : Prop := ∀ (us : List U) (vs : List V) (σ : St) (τ : SU) (H : Hp) (M : MHp) (Q' : SU → MHp → Prop), RelUs K H M us vs → RelS K H M σ τ → RelM K H M → g' us τ M Q' →
  ∀ Q : St → Hp → Prop, (∀ σ1 τ1 H1 M1, Stp H M H1 M1 → RelM K H1 M1 → RelS K H1 M1 σ1 τ1 → Q' τ1 M1 → Q σ1 H1) → g vs σ H Q
def hName (i : Nat) : UG := fun u τ M Q => Q (τ.set i (some u)) M
theorem sim_gname (i : Nat) : SimG K (gName i) (hName i) := fun u v σ τ H M Q' ru rs rm h Q c => c _ _ H M (Stp.refl _ _) rm (rs.set ru) h
def hNil : UGs := fun us τ M Q => match us with
  | [] => Q τ M
  | _ => False
def hCons (g : UG) (r : UGs) : UGs := fun us τ M Q => match us with
  | u :: us => g u τ M fun τ1 M1 => r us τ1 M1 Q
  | _ => False
theorem sim_gnil : SimGs K gNil hNil := fun us vs σ τ H M Q' ru rs rm h Q c => by
  cases us with
  | nil => exact ⟨ru.inv_nil, c σ τ H M (Stp.refl _ _) rm rs h⟩
  | cons _ _ => exact h.elim
theorem sim_gcons {g : TG} {g' : UG} {r : TGs} {r' : UGs} (h1 : SimG K g g') (h2 : SimGs K r r') : SimGs K (gCons g r) (hCons g' r') := fun us vs σ τ H M Q' ru rs rm h Q c => by
  cases us with
  | nil => exact h.elim
  | cons u us =>
    obtain ⟨v, vs', rfl, a, b⟩ := ru.inv_cons
    exact ⟨v, vs', rfl, h1 u v σ τ H M _ a rs rm h _ fun σ1 τ1 H1 M1 s rm1 rs1 q => h2 us vs' σ1 τ1 H1 M1 Q' (b.stp s) rs1 rm1 q Q fun σ2 τ2 H2 M2 s2 => c σ2 τ2 H2 M2 (s.trans s2)⟩
def hTup (n : Nat) (r : UGs) : UG := fun u τ M Q => match u with
  | .tup us => us.length = n ∧ r us τ M Q
  | _ => False
theorem sim_gtup {n : Nat} {r : TGs} {r' : UGs} (h2 : SimGs K r r') : SimG K (gTup K n r) (hTup n r') := fun u v σ τ H M Q' ru rs rm h Q c => by
  cases u with
  | tup us =>
    obtain ⟨a, vs, rfl, s1, r1⟩ := ru.tup
    exact ⟨a, vs, rfl, s1, by rw [← r1.length]; exact h.1, h2 us vs σ τ H M Q' r1 rs rm h.2 Q c⟩
  | _ => exact h.elim
def uAsg (te : UE) (g : UG) : US := fun D τ M => te τ M fun x M1 => g x τ M1 D.nx
theorem sim_asg {g : TG} {g' : UG} (h1 : SimE K te te') (h2 : SimG K g g') : SimS K (tAsg te g) (uAsg te' g') := fun σ τ H M D' rs rm h D d =>
  h1 σ τ H M _ rs rm h _ fun u v M1 H1 s rm1 ru q => h2 u v σ τ H1 M1 _ ru (rs.stp s) rm1 q _ fun σ1 τ1 H2 M2 s2 rm2 rs2 q2 => d.nx σ1 τ1 H2 M2 (s.trans s2) rm2 rs2 q2
/-! while, by a word and a measure -/
/-! what a loop walks: the items xs; own: the list at a that must stand as it is -/
structure Src where
  own : Option Addr
  xs : List U
def Src.ok (S : Src) (M : MHp) : Prop := ∀ a, S.own = some a → M a = some (.lst S.xs)
structure Walk (K : PySem.W.Frag) (J : It) (S : Src) (H : Hp) (M : MHp) : Prop where
  step : ∀ H1 M1, Stp H M H1 M1 → RelM K H1 M1 → S.ok M1 → ∀ (i : Nat) u, S.xs[i]? = some u → J.go i H1 ∧ ∀ x H2, J.yld i H1 x H2 → Stp H1 M1 H2 M1 ∧ RelM K H2 M1 ∧ RelU K H2 M1 u x
  stop : ∀ H1 M1, Stp H M H1 M1 → RelM K H1 M1 → S.ok M1 → J.stop S.xs.length H1
abbrev UI := SU → MHp → (Src → MHp → Prop) → Prop
def SimI (K : PySem.W.Frag) (t : TI) (t' : UI) : Prop := ∀ (σ : St) (τ : SU) (H : Hp) (M : MHp) (R' : Src → MHp → Prop), RelS K H M σ τ → RelM K H M → t' τ M R' →
  ∀ R : It → Hp → Prop, (∀ J S M1 H1, Stp H M H1 M1 → RelM K H1 M1 → Walk K J S H1 M1 → R' S M1 → R J H1) → t σ H R
/-- a for, by a word over the turn -/
def uFor (wi : UI) (g : UG) (tb : US) : US := fun D τ M => wi τ M fun S M1 => ∃ P : Nat → SU → MHp → Prop, P 0 τ M1 ∧ (∀ i τ M, P i τ M → S.ok M) ∧
  (∀ i x τ M, S.xs[i]? = some x → P i τ M → g x τ M fun τ2 M2 => tb { D with nx := P (i + 1), ct := P (i + 1), bk := D.nx } τ2 M2) ∧ ∀ τ M, P S.xs.length τ M → D.nx τ M
theorem sim_for {wi : TI} {wi' : UI} {g : TG} {g' : UG} (hi : SimI K wi wi') (hg : SimG K g g') (h1 : SimS K t t') : SimS K (tFor wi g t) (uFor wi' g' t') := fun σ τ H M D' rs rm h D d => by
  refine hi σ τ H M _ rs rm h _ fun J S M0 H0 s0 rm0 w h => ?_
  obtain ⟨P, p0, hok, turn, fin⟩ := h
  refine ⟨fun i m σ1 H1 => ∃ τ1 M1, Stp H0 M0 H1 M1 ∧ RelM K H1 M1 ∧ RelS K H1 M1 σ1 τ1 ∧ P i τ1 M1 ∧ i ≤ S.xs.length ∧ m = S.xs.length - i, ⟨_, τ, M0, Stp.refl _ _, rm0, rs.stp s0, p0, Nat.zero_le _, rfl⟩, ?_⟩
  rintro i m σ1 H1 ⟨τ1, M1, s1, rm1, rs1, p1, hle, rfl⟩
  have ok1 := hok i τ1 M1 p1
  by_cases hlt : i < S.xs.length
  · obtain ⟨go, yl⟩ := w.step H1 M1 s1 rm1 ok1 i S.xs[i] (by simp [hlt])
    refine .inr ⟨go, fun σ3 H3 => ∃ τ3 M3, Stp H0 M0 H3 M3 ∧ RelM K H3 M3 ∧ RelS K H3 M3 σ3 τ3 ∧ P (i + 1) τ3 M3, ?_, fun x H2 y => ?_⟩
    · rintro σ3 H3 ⟨τ3, M3, s3, rm3, rs3, p3⟩
      exact ⟨S.xs.length - (i + 1), by omega, τ3, M3, s3, rm3, rs3, p3, hlt, rfl⟩
    · obtain ⟨s2, rm2, ru⟩ := yl x H2 y
      refine hg _ x σ1 τ1 H2 M1 _ ru (rs1.stp s2) rm2 (turn i S.xs[i] τ1 M1 (by simp [hlt]) p1) _ fun σ3 τ3 H3 M3 s3 rm3 rs3 q3 => ?_
      have d3 := d.stp (((s0.trans s1).trans s2).trans s3)
      exact h1 σ3 τ3 H3 M3 _ rs3 rm3 q3 _ ⟨fun σ4 τ4 H4 M4 s4 rm4 rs4 q4 => ⟨τ4, M4, ((s1.trans s2).trans s3).trans s4, rm4, rs4, q4⟩, d3.rt, d3.nx, fun σ4 τ4 H4 M4 s4 rm4 rs4 q4 => ⟨τ4, M4, ((s1.trans s2).trans s3).trans s4, rm4, rs4, q4⟩⟩
  · have e : i = S.xs.length := by omega
    subst e
    exact .inl ⟨w.stop H1 M1 s1 rm1 ok1, d.nx σ1 τ1 H1 M1 (s0.trans s1) rm1 rs1 (fin τ1 M1 p1)⟩
end
end U2
namespace U2
open PySem L2
section
variable {K : PySem.W.Frag}
/-! ### what may be walked -/
theorem walk_list {a : Addr} {us : List U} {vs : List V} {H : Hp} {M : MHp} (m : (M a = none ∧ Rd H a (.lst vs)) ∨ KL K a vs) (r : RelUs K H M us vs) : Walk K (Itl K a) ⟨none, us⟩ H M := by
  have sq : ∀ H1 M1, Stp H M H1 M1 → SqL K H1 a vs := fun H1 M1 s => by
    rcases m with ⟨m, h⟩ | k
    · exact .inl (Rd.stp s m h).2
    · exact .inr k
  refine ⟨fun H1 M1 s rm _ i u e => ?_, fun H1 M1 s rm _ => ⟨vs, sq H1 M1 s, by rw [r.length]; exact Nat.le_refl _⟩⟩
  obtain ⟨v, e2, ru⟩ := r.get e
  refine ⟨⟨vs, v, sq H1 M1 s, e2⟩, fun x H2 y => ?_⟩
  obtain ⟨rfl, y⟩ := y
  have := y vs (sq _ M1 s)
  rw [e2] at this; cases this
  exact ⟨Stp.refl _ _, rm, ru.stp s⟩
theorem walk_tup {a : Addr} {us : List U} {vs : List V} {H : Hp} {M : MHp} (m : (M a = none ∧ Rd H a (.tup vs)) ∨ KT K a vs) (r : RelUs K H M us vs) : Walk K (Itt K a) ⟨none, us⟩ H M := by
  have sq : ∀ H1 M1, Stp H M H1 M1 → SqT K H1 a vs := fun H1 M1 s => by
    rcases m with ⟨m, h⟩ | k
    · exact .inl (Rd.stp s m h).2
    · exact .inr k
  refine ⟨fun H1 M1 s rm _ i u e => ?_, fun H1 M1 s rm _ => ⟨vs, sq H1 M1 s, by rw [r.length]; exact Nat.le_refl _⟩⟩
  obtain ⟨v, e2, ru⟩ := r.get e
  refine ⟨⟨vs, v, sq H1 M1 s, e2⟩, fun x H2 y => ?_⟩
  obtain ⟨rfl, y⟩ := y
  have := y vs (sq _ M1 s)
  rw [e2] at this; cases this
  exact ⟨Stp.refl _ _, rm, ru.stp s⟩
theorem walk_own {a : Addr} {us : List U} {H : Hp} {M : MHp} : Walk K (Itl K a) ⟨some a, us⟩ H M := by
  refine ⟨fun H1 M1 s rm ok i u e => ?_, fun H1 M1 s rm ok => ?_⟩
  · obtain ⟨vs, h1, r⟩ := rm a _ (ok a rfl)
    obtain ⟨v, e2, ru⟩ := r.get e
    refine ⟨⟨vs, v, .inl (.inl h1), e2⟩, fun x H2 y => ?_⟩
    obtain ⟨rfl, y⟩ := y
    have := y vs (.inl (.inl h1))
    rw [e2] at this; cases this
    exact ⟨Stp.refl _ _, rm, ru⟩
  · obtain ⟨vs, h1, r⟩ := rm a _ (ok a rfl)
    exact ⟨vs, .inl (.inl h1), by rw [r.length]; exact Nat.le_refl _⟩
/-- the signs of a text -/
def Its (z : Str) : It := ⟨fun i _ => i < z.cps.size, fun i H x H' => H' = H ∧ ∃ c, z.cps[i]? = some c ∧ x = .str ⟨#[c]⟩, fun i _ => i = z.cps.size⟩
def chars (z : Str) : List U := z.cps.toList.map fun c => .str ⟨#[c]⟩
theorem walk_str {z : Str} {H : Hp} {M : MHp} : Walk K (Its z) ⟨none, chars z⟩ H M := by
  refine ⟨fun H1 M1 s rm _ i u e => ?_, fun H1 M1 s rm _ => ?_⟩
  · have hi : i < z.cps.size := by
      have := (List.getElem?_eq_some_iff.mp e).1
      simpa [chars] using this
    refine ⟨hi, fun x H2 y => ?_⟩
    obtain ⟨rfl, c, h1, rfl⟩ := y
    have : u = .str ⟨#[c]⟩ := by
      simp only [chars, List.getElem?_map, Array.getElem?_toList, h1, Option.map_some] at e
      exact (Option.some.inj e).symm
    subst this
    exact ⟨Stp.refl _ _, rm, relU_str⟩
  · show (chars z).length = z.cps.size
    simp [chars]
/-- a list, a tuple, a text -/
def iSeq (K : PySem.W.Frag) (tl : TE) : TI := fun σ H R => tl σ H fun x H1 =>
  (∃ a, x = .ref a ∧ (∃ xs, SqL K H1 a xs) ∧ R (Itl K a) H1) ∨ (∃ a, x = .ref a ∧ (∃ xs, SqT K H1 a xs) ∧ R (Itt K a) H1) ∨ (∃ z, x = .str z ∧ R (Its z) H1)
def uIter (te : UE) : UI := fun τ M R => te τ M fun u M1 => match u with
  | .lst us => R ⟨none, us⟩ M1
  | .tup us => R ⟨none, us⟩ M1
  | .str z => R ⟨none, chars z⟩ M1
  | .ref a => match M1 a with
    | some (.lst us) => R ⟨some a, us⟩ M1
    | _ => False
  | _ => False
theorem sim_iter {te : TE} {te' : UE} (h : SimE K te te') : SimI K (iSeq K te) (uIter te') := fun σ τ H M R' rs rm q R c => h σ τ H M _ rs rm q _ fun u v M1 H1 s1 rm1 ru h1 => by
  cases u with
  | lst us =>
    simp only [RelU] at ru
    obtain ⟨a, vs, rfl, m, r⟩ := ru
    refine .inl ⟨a, rfl, ⟨vs, ?_⟩, c _ _ M1 H1 s1 rm1 (walk_list m r) h1⟩
    rcases m with ⟨_, m⟩ | k
    · exact .inl m
    · exact .inr k
  | tup us =>
    simp only [RelU] at ru
    obtain ⟨a, vs, rfl, m, r⟩ := ru
    refine .inr (.inl ⟨a, rfl, ⟨vs, ?_⟩, c _ _ M1 H1 s1 rm1 (walk_tup m r) h1⟩)
    rcases m with ⟨_, m⟩ | k
    · exact .inl m
    · exact .inr k
  | str z => exact .inr (.inr ⟨z, ru.str, c _ _ M1 H1 s1 rm1 walk_str h1⟩)
  | ref a =>
    dsimp only at h1
    split at h1
    · rename_i us e
      obtain ⟨vs, h2, r⟩ := rm1 a _ e
      exact .inl ⟨a, ru.ref, ⟨vs, .inl (.inl h2)⟩, c _ _ M1 H1 s1 rm1 walk_own h1⟩
    · exact h1.elim
  | _ => exact h1.elim
def rangeU (lo : Int) (n : Nat) : List U := (List.range n).map fun (k : Nat) => U.int (lo + (k : Int))
theorem walk_range {lo : Int} {n : Nat} {H : Hp} {M : MHp} : Walk K (Itr lo n) ⟨none, rangeU lo n⟩ H M := by
  refine ⟨fun H1 M1 s rm _ i u e => ?_, fun H1 M1 s rm _ => ?_⟩
  · have hi : i < n := by
      have := (List.getElem?_eq_some_iff.mp e).1
      simpa [rangeU] using this
    refine ⟨hi, fun x H2 y => ?_⟩
    obtain ⟨rfl, rfl⟩ := y
    have : u = .int (lo + i) := by
      simp only [rangeU, List.getElem?_map, List.getElem?_range hi, Option.map_some] at e
      exact (Option.some.inj e).symm
    subst this
    exact ⟨Stp.refl _ _, rm, relU_int⟩
  · show n ≤ (rangeU lo n).length
    simp [rangeU]
def uRng1 (ta : UA) : UI := fun τ M R => ta τ M fun us M1 => match us with
  | [.int j] => -(2 ^ 62) ≤ j ∧ j < 2 ^ 62 ∧ R ⟨none, rangeU 0 j.toNat⟩ M1
  | _ => False
def uRng2 (ta : UA) : UI := fun τ M R => ta τ M fun us M1 => match us with
  | [.int i, .int j] => (-(2 ^ 62) ≤ i ∧ i < 2 ^ 62 ∧ -(2 ^ 62) ≤ j ∧ j < 2 ^ 62) ∧ R ⟨none, rangeU i (j - i).toNat⟩ M1
  | _ => False
theorem sim_rng1 {ta : TA} {ta' : UA} (h : SimA K ta ta') : SimI K (iRng1 ta) (uRng1 ta') := fun σ τ H M R' rs rm q R c => h σ τ H M _ rs rm q _ fun us vs M1 H1 s1 rm1 ru h1 => by
  split at h1
  · rename_i j
    obtain ⟨v, vs', rfl, a, b⟩ := ru.inv_cons
    cases b.inv_nil
    cases a.int
    exact ⟨j, rfl, h1.1, h1.2.1, c _ _ M1 H1 s1 rm1 walk_range h1.2.2⟩
  · exact h1.elim
/-! ### calls -/
abbrev USp := List U → MHp → UK → Prop
def liftSp (K : PySem.W.Frag) (sp : USp) : Sp := fun vs H Q _ => ∃ us M Q', RelM K H M ∧ RelUs K H M us vs ∧ sp us M Q' ∧ Cont K H M Q' Q
def uCall (sp : USp) (dus : List U) (t : UA) : UE := fun τ M Q => t τ M fun us M1 => sp (us ++ dus) M1 Q
theorem sim_call {sp : USp} {dus : List U} {dvs : List V} {E : XK} {t : TA} {t' : UA} (hd : ∀ H M, RelUs K H M dus dvs) (h : SimA K t t') : SimE K (tCall (liftSp K sp) dvs E t) (uCall sp dus t') := fun σ τ H M Q' rs rm q Q c =>
  h σ τ H M _ rs rm q _ fun us vs M1 H1 s1 rm1 ru h1 => ⟨us ++ dus, M1, Q', rm1, ru.append (hd _ _), h1, Cont.stp c s1⟩
/-- fewer owned things -/
def Sub (M' M1 : MHp) : Prop := ∀ b mo, M' b = some mo → M1 b = some mo
theorem Sub.refl (M : MHp) : Sub M M := fun _ _ h => h
theorem Sub.mup {M M1 : MHp} {p : Addr} {o : MO} (h : Sub M M1) (hp : M p = none) : Sub M (mup M1 p o) := fun b mo e => by
  have : b ≠ p := fun z => by subst z; rw [hp] at e; cases e
  rw [mup_ne this]; exact h b mo e
theorem Sub.less {M M1 : MHp} (h : Sub M M1) {H : Hp} : Stp H M1 H M := Stp.less fun b e => by
  cases q : M b with
  | none => rfl
  | some mo => rw [h b mo q] at e; cases e
theorem RelM.sub {H : Hp} {M M1 : MHp} (rm : RelM K H M1) (h : Sub M M1) : RelM K H M := fun a mo e => (rm a mo (h a mo e)).stp (h.less) rfl
/-- how a value is handed out: what was owned here is given up; an own list goes out by what is in it -/
def Out (M1 M' : MHp) (u u' : U) : Prop := u' = u ∨ ∃ a us, u = .ref a ∧ M1 a = some (.lst us) ∧ M' a = none ∧ u' = .lst us
def rtU (Q : UK) : UK := fun u M1 => ∃ u' M', Sub M' M1 ∧ Out M1 M' u u' ∧ Q u' M'
theorem rtU.ok {H H1 : Hp} {M M1 : MHp} {Q' : UK} {Q : VK} {u : U} {v : V} (c : Cont K H M Q' Q) (s : Stp H M H1 M1) (rm : RelM K H1 M1) (ru : RelU K H1 M1 u v) (h : rtU Q' u M1) : Q v H1 := by
  obtain ⟨u', M', sb, o, q⟩ := h
  have s' : Stp H1 M1 H1 M' := sb.less
  refine c u' v M' H1 (s.trans s') (rm.sub sb) ?_ q
  rcases o with rfl | ⟨a, us, rfl, h1, h2, rfl⟩
  · exact ru.stp s'
  · obtain ⟨vs, h3, h4⟩ := rm a _ h1
    cases ru.ref
    exact relU_lst h2 h3 (h4.stp s')
def startU (N : List Str) (us : List U) : SU := us.map some ++ List.replicate (N.length - us.length) none

/-! ### methods of lists -/
def isL (M : MHp) (x : U) : Prop := ∃ us, view M x = .lst us
def uBM (r : U → List U → MHp → UK → Prop) (to : UE) (t : UA) : UE := fun τ M Q => to τ M fun x M1 => isL M1 x ∧ t τ M1 fun xs M2 => r x xs M2 Q
def uBM0 (r : U → List U → MHp → UK → Prop) (to : UE) : UE := fun τ M Q => to τ M fun x M1 => isL M1 x ∧ r x [] M1 Q
theorem isL.ty {H : Hp} {M : MHp} {u : U} {v : V} (rm : RelM K H M) (ru : RelU K H M u v) (h : isL M u) : tyV K "list" v H := by
  obtain ⟨us, h⟩ := h
  obtain ⟨a, vs, rfl, s, _⟩ := view_lst rm ru h
  exact .inl ⟨rfl, vs, s⟩
theorem sim_bm {r : V → List V → Hp → VK → Prop} {r' : U → List U → MHp → UK → Prop} {to : TE} {to' : UE} {t : TA} {t' : UA} (hr : SimMt K r r') (ho : SimE K to to') (h : SimA K t t') :
    SimE K (tBM K "list" r to t) (uBM r' to' t') := fun σ τ H M Q' rs rm q Q c =>
  ho σ τ H M _ rs rm q _ fun u v M1 H1 s1 rm1 ru h1 => ⟨h1.1.ty rm1 ru, h σ τ H1 M1 _ (rs.stp s1) rm1 h1.2 _ fun us vs M2 H2 s2 rm2 rus h2 => hr v vs u us H2 M2 Q' rm2 (ru.stp s2) rus h2 Q (Cont.stp c (s1.trans s2))⟩
/-- an owned list is written: the wish about data at it -/
theorem Cont.write {H : Hp} {M : MHp} {Q' : UK} {Q : VK} {a : Addr} {us us' : List U} {xs' : List V} {r : U} {v : V} (c : Cont K H M Q' Q) (rm : RelM K H M) (e : M a = some (.lst us)) (r1 : RelUs K H M us' xs') (r2 : RelU K H M r v) (q : Q' r (mup M a (.lst us'))) : Q v (upd H a (.lst xs')) := by
  have st : Stp H M (upd H a (.lst xs')) (mup M a (.lst us')) := Stp.write e
  exact c _ _ _ _ st (rm.put st ⟨xs', upd_same, r1.stp st⟩) (r2.stp st) q
def mAppend : U → List U → MHp → UK → Prop := fun x ws M Q => match x, ws with
  | .ref a, [w] => match M a with
    | some (.lst us) => us.length < sizeLine ∧ Q .non (mup M a (.lst (us ++ [w])))
    | _ => False
  | _, _ => False
theorem sim_append : SimMt K rAppend mAppend := fun x xs u us H M Q' rm ru rus h Q c => by
  unfold mAppend at h
  split at h
  · rename_i a w
    split at h
    · rename_i ws e
      obtain ⟨vs, h1, r⟩ := rm a _ e
      obtain ⟨v, vs', rfl, a1, b⟩ := rus.inv_cons
      cases b.inv_nil
      cases ru.ref
      exact ⟨a, vs, v, rfl, rfl, h1, by rw [← r.length]; exact h.1, c.write rm e (r.append (.cons a1 .nil)) relU_non h.2⟩
    · exact h.elim
  · exact h.elim
def mPop : U → List U → MHp → UK → Prop := fun x ws M Q => match x, ws with
  | .ref a, [] => match M a with
    | some (.lst us) => match us.getLast? with
      | some w => Q w (mup M a (.lst us.dropLast))
      | none => False
    | _ => False
  | _, _ => False
/-- x.extend(y), y any list that is read: a rule of mine -/
def rExtendL (K : PySem.W.Frag) : V → List V → Hp → VK → Prop := fun x vs H Q => ∃ l b xs zs, x = .ref l ∧ vs = [.ref b] ∧ H l = some (.lst xs) ∧ SqL K H b zs ∧ xs.length + zs.length ≤ sizeLine ∧ Q .non (upd H l (.lst (xs ++ zs)))
def mExtend : U → List U → MHp → UK → Prop := fun x ws M Q => match x, ws with
  | .ref a, [w] => match M a, view M w with
    | some (.lst us), .lst zs => us.length + zs.length ≤ sizeLine ∧ Q .non (mup M a (.lst (us ++ zs)))
    | _, _ => False
  | _, _ => False
theorem sim_extend : SimMt K (rExtendL K) mExtend := fun x xs u us H M Q' rm ru rus h Q c => by
  unfold mExtend at h
  split at h
  · rename_i a w
    split at h
    · rename_i ws zs e e2
      obtain ⟨vs, h1, r⟩ := rm a _ e
      obtain ⟨v, vs', rfl, a1, b⟩ := rus.inv_cons
      cases b.inv_nil
      cases ru.ref
      obtain ⟨b, zvs, rfl, s2, r2⟩ := view_lst rm a1 e2
      exact ⟨a, b, vs, zvs, rfl, rfl, h1, s2, by rw [← r.length, ← r2.length]; exact h.1, c.write rm e (r.append r2) relU_non h.2⟩
    · exact h.elim
  · exact h.elim
def mClear : U → List U → MHp → UK → Prop := fun x ws M Q => match x, ws with
  | .ref a, [] => match M a with
    | some (.lst us) => Q .non (mup M a (.lst []))
    | _ => False
  | _, _ => False
/-! ### built-ins -/
def bLen : List U → MHp → UK → Prop := fun us M Q => match us with
  | [x] => match view M x with
    | .lst ws => Q (.int ws.length) M
    | .tup ws => Q (.int ws.length) M
    | .str z => z.length ≤ sizeLine ∧ Q (.int z.length) M
    | _ => False
  | _ => False
theorem sim_len : SimCl K (fun xs H Q => ∃ x n, xs = [x] ∧ LenV K x H n ∧ Q (.int n) H) bLen := fun xs us H M Q' rm rus h Q c => by
  unfold bLen at h
  split at h
  · rename_i x
    obtain ⟨v, vs', rfl, a1, b⟩ := rus.inv_cons
    cases b.inv_nil
    split at h
    · rename_i ws e
      obtain ⟨b, zvs, rfl, s2, r2⟩ := view_lst rm a1 e
      exact ⟨_, zvs.length, rfl, .inl ⟨zvs, s2, rfl⟩, c.here rm relU_int (by rw [← r2.length]; exact h)⟩
    · rename_i ws e
      have e' := view_tup e
      subst e'
      obtain ⟨b, zvs, rfl, s2, r2⟩ := a1.tup
      exact ⟨_, zvs.length, rfl, .inr ⟨zvs, s2, rfl⟩, c.here rm relU_int (by rw [← r2.length]; exact h)⟩
    · rename_i z e
      have e' := view_str e
      subst e'
      cases a1.str
      exact ⟨_, z.length, rfl, ⟨h.1, rfl⟩, c.here rm relU_int h.2⟩
    · exact h.elim
  · exact h.elim
/-- one int in -/
def bInt1 (C : Int → Prop) (g : Int → U) : List U → MHp → UK → Prop := fun us M Q => match us with
  | [.int i] => C i ∧ Q (g i) M
  | _ => False
def bInt2 (g : Int → Int → U) : List U → MHp → UK → Prop := fun us M Q => match us with
  | [.int i, .int j] => Q (g i j) M
  | _ => False
theorem RelUs.one {H : Hp} {M : MHp} {u : U} {vs : List V} (h : RelUs K H M [u] vs) : ∃ v, vs = [v] ∧ RelU K H M u v := by
  obtain ⟨v, vs', rfl, a1, b⟩ := h.inv_cons
  cases b.inv_nil
  exact ⟨v, rfl, a1⟩
theorem RelUs.two {H : Hp} {M : MHp} {u w : U} {vs : List V} (h : RelUs K H M [u, w] vs) : ∃ v z, vs = [v, z] ∧ RelU K H M u v ∧ RelU K H M w z := by
  obtain ⟨v, vs', rfl, a1, b⟩ := h.inv_cons
  obtain ⟨z, rfl, b1⟩ := b.one
  exact ⟨v, z, rfl, a1, b1⟩
/-- list(x), tuple(x) -/
def bList (o : Bool) : List U → MHp → UK → Prop := fun us M Q => match us with
  | [x] => match view M x with
    | .lst ws => mkL o ws M Q
    | .tup ws => mkL o ws M Q
    | _ => False
  | _ => False
def bTuple : List U → MHp → UK → Prop := fun us M Q => match us with
  | [x] => match view M x with
    | .lst ws => Q (.tup ws) M
    | .tup ws => Q (.tup ws) M
    | _ => False
  | _ => False
theorem sim_list {o : Bool} : SimCl K (fun xs H Q => ∃ p ys, xs = [.ref p] ∧ (SqL K H p ys ∨ SqT K H p ys) ∧ ∀ l, H l = none → Q (.ref l) (upd H l (.lst ys))) (bList o) := fun xs us H M Q' rm rus h Q c => by
  unfold bList at h
  split at h
  · rename_i x
    obtain ⟨v, rfl, a1⟩ := rus.one
    split at h
    · rename_i ws e
      obtain ⟨b, zvs, rfl, s2, r2⟩ := view_lst rm a1 e
      exact ⟨b, zvs, rfl, .inl s2, fun l hl => c.lst rm r2 hl h⟩
    · rename_i ws e
      have e' := view_tup e
      subst e'
      obtain ⟨b, zvs, rfl, s2, r2⟩ := a1.tup
      exact ⟨b, zvs, rfl, .inr s2, fun l hl => c.lst rm r2 hl h⟩
    · exact h.elim
  · exact h.elim
theorem sim_tuple : SimCl K (fun xs H Q => ∃ p ys, xs = [.ref p] ∧ ((SqL K H p ys ∧ ∀ l, H l = none → Q (.ref l) (upd H l (.tup ys))) ∨ (SqT K H p ys ∧ Q (.ref p) H))) bTuple := fun xs us H M Q' rm rus h Q c => by
  unfold bTuple at h
  split at h
  · rename_i x
    obtain ⟨v, rfl, a1⟩ := rus.one
    split at h
    · rename_i ws e
      obtain ⟨b, zvs, rfl, s2, r2⟩ := view_lst rm a1 e
      exact ⟨b, zvs, rfl, .inl ⟨s2, fun l hl => c.tup rm r2 hl h⟩⟩
    · rename_i ws e
      have e' := view_tup e
      subst e'
      have a2 := a1
      obtain ⟨b, zvs, rfl, s2, r2⟩ := a1.tup
      exact ⟨b, zvs, rfl, .inr ⟨s2, c.here rm a2 h⟩⟩
    · exact h.elim
  · exact h.elim
/-- isinstance(x, T) -/
def typU (M : MHp) (x : U) : Option String := match x with
  | .non => some "NoneType"
  | .bl _ => some "bool"
  | .int _ => some "int"
  | .str _ => some "str"
  | .tup _ => some "tuple"
  | .lst _ => some "list"
  | .ref a => match M a with
    | some (.lst _) => some "list"
    | some _ => some "dict"
    | none => none
  | .ty _ => none
/-- equality of scalars -/
def eqS : U → U → Option Bool
  | .non, .non => some true
  | .non, .int _ => some false | .int _, .non => some false | .non, .bl _ => some false | .bl _, .non => some false | .non, .str _ => some false | .str _, .non => some false
  | .int i, .int j => some (decide (i = j))
  | .bl i, .bl j => some (decide (i = j))
  | .str i, .str j => some (decide (i = j))
  | .int _, .str _ => some false | .str _, .int _ => some false | .bl _, .str _ => some false | .str _, .bl _ => some false
  | _, _ => none
def uEqS : UR2 := fun x y M Q => match eqS x y with
  | some b => Q (.bl b) M
  | none => False
def uNeS : UR2 := fun x y M Q => match eqS x y with
  | some b => Q (.bl (!b)) M
  | none => False
theorem eqS_rel {H : Hp} {M : MHp} {x y : V} {u w : U} {b : Bool} (ru : RelU K H M u x) (rw : RelU K H M w y) (h : eqS u w = some b) : scal x y = true ∧ decide (x = y) = b := by
  cases u <;> cases w <;> simp only [eqS, Option.some.injEq, reduceCtorEq] at h <;> subst h <;>
    (first
      | (cases ru.non) | (cases ru.bl) | (cases ru.int) | (cases ru.str)) <;>
    (first
      | (cases rw.non) | (cases rw.bl) | (cases rw.int) | (cases rw.str)) <;> simp [scal]
def isNon : U → Bool
  | .non => true
  | _ => false
def uIsN : UR2 := fun x y M Q => match y with
  | .non => Q (.bl (isNon x)) M
  | _ => False
def uNotN : UR2 := fun x y M Q => match y with
  | .non => Q (.bl (!isNon x)) M
  | _ => False
theorem isN_rel {H : Hp} {M : MHp} {x : V} {u : U} (ru : RelU K H M u x) : decide (x = .non) = isNon u := by
  cases u with
  | non => cases ru.non; simp [isNon]
  | bl b => cases ru.bl; simp [isNon]
  | int b => cases ru.int; simp [isNon]
  | str b => cases ru.str; simp [isNon]
  | ty b => cases ru.ty; simp [isNon]
  | ref b => cases ru.ref; simp [isNon]
  | tup b => obtain ⟨a, vs, rfl, _⟩ := ru.tup; simp [isNon]
  | lst b => obtain ⟨a, vs, rfl, _⟩ := ru.lst; simp [isNon]
end
end U2
namespace U2
open PySem L2
/-! ### list comprehensions -/
/-- the block's names: k targets, then the captured ones -/
def capt {α : Type} (k : Nat) (ix : List Nat) (σ : List (Option α)) : List (Option α) := List.replicate k none ++ ix.map fun i => (σ[i]?).getD none
def tComp (k : Nat) (ix : List Nat) (wi : TI) (g : TG) (tc : TT) (te : TE) : TE := fun σ H Q => wi σ H fun J H1 => ∀ D, H1 D = none → ∃ W : Nat → Nat → Hp → Prop, (∃ m, W 0 m (upd H1 D (.lst []))) ∧ ∀ i m H, W i m H →
  (J.stop i H ∧ Q (.ref D) H) ∨ (J.go i H ∧ ∀ x H', J.yld i H x H' → g x (capt k ix σ) H' fun σ2 H2 => tc σ2 H2 fun ok H3 =>
    if ok = true then te σ2 H3 fun y H4 => ∃ ys, H4 D = some (.lst ys) ∧ ys.length < sizeLine ∧ ∃ m', m' < m ∧ W (i + 1) m' (upd H4 D (.lst (ys ++ [y]))) else ∃ m', m' < m ∧ W (i + 1) m' H3)
/-- how the new list is handed on -/
def endC (o : Bool) (Q : UK) (D : Addr) (ys : List U) (M : MHp) : Prop := match o with
  | true => Q (.ref D) M
  | false => ∃ M', Sub M' M ∧ M' D = none ∧ Q (.lst ys) M'
def uComp (o : Bool) (k : Nat) (ix : List Nat) (wi : UI) (g : UG) (tc : UT) (te : UE) : UE := fun τ M Q => wi τ M fun S M1 => S.xs.length ≤ sizeLine ∧ ∀ D, M1 D = none → ∃ P : Nat → List U → MHp → Prop, P 0 [] (mup M1 D (.lst [])) ∧
  (∀ i ys M, P i ys M → S.ok M ∧ M D = some (.lst ys) ∧ ys.length ≤ i) ∧
  (∀ i x ys M, S.xs[i]? = some x → P i ys M → g x (capt k ix τ) M fun τ2 M2 => tc τ2 M2 fun ok M3 => if ok = true then te τ2 M3 fun y M4 => M4 D = some (.lst ys) ∧ P (i + 1) (ys ++ [y]) (mup M4 D (.lst (ys ++ [y]))) else P (i + 1) ys M3) ∧
  ∀ ys M, P S.xs.length ys M → endC o Q D ys M
section
variable {K : PySem.W.Frag}
theorem capt_rel {H : Hp} {M : MHp} {σ : St} {τ : SU} (k : Nat) (ix : List Nat) (r : RelS K H M σ τ) : RelS K H M (capt k ix σ) (capt k ix τ) := by
  refine ⟨by simp [capt], fun i u e => ?_⟩
  unfold capt at e ⊢
  by_cases hi : i < k
  · rw [List.getElem?_append_left (by simpa using hi), List.getElem?_replicate] at e
    split at e <;> cases e
  · rw [List.getElem?_append_right (by simpa using Nat.le_of_not_lt hi), List.getElem?_map] at e ⊢
    simp only [List.length_replicate] at e ⊢
    cases q : ix[i - k]? with
    | none => rw [q] at e; cases e
    | some j =>
      rw [q] at e
      simp only [Option.map_some, Option.some.injEq] at e ⊢
      cases z : τ[j]? with
      | none => rw [z] at e; cases e
      | some w =>
        rw [z] at e
        simp only [Option.getD_some] at e
        subst e
        obtain ⟨v, h1, h2⟩ := r.2 j u z
        exact ⟨v, by rw [h1]; rfl, h2⟩
theorem sim_comp {o : Bool} {k : Nat} {ix : List Nat} {wi : TI} {wi' : UI} {g : TG} {g' : UG} {tc : TT} {tc' : UT} {te : TE} {te' : UE} (hi : SimI K wi wi') (hg : SimG K g g') (hc : SimT K tc tc') (he : SimE K te te') :
    SimE K (tComp k ix wi g tc te) (uComp o k ix wi' g' tc' te') := fun σ τ H M Q' rs rm h Q c => by
  refine hi σ τ H M _ rs rm h _ fun J S M1 H1 s1 rm1 w h => ?_
  obtain ⟨hz, h⟩ := h
  intro D hD
  obtain ⟨P, p0, inv, turn, fin⟩ := h D (rm1.no hD)
  have sD : Stp H1 M1 (upd H1 D (.lst [])) (mup M1 D (.lst [])) := Stp.own rm1 hD
  have rmD : RelM K (upd H1 D (.lst [])) (mup M1 D (.lst [])) := rm1.put sD ⟨[], upd_same, .nil⟩
  refine ⟨fun i m H2 => ∃ M2 ys, Stp H1 M1 H2 M2 ∧ RelM K H2 M2 ∧ P i ys M2 ∧ i ≤ S.xs.length ∧ m = S.xs.length - i, ⟨_, _, [], sD, rmD, p0, Nat.zero_le _, rfl⟩, ?_⟩
  rintro i m H2 ⟨M2, ys, s2, rm2, p2, hle, rfl⟩
  obtain ⟨ok2, d2, l2⟩ := inv i ys M2 p2
  by_cases hlt : i < S.xs.length
  · obtain ⟨go, yl⟩ := w.step H2 M2 s2 rm2 ok2 i S.xs[i] (by simp [hlt])
    refine .inr ⟨go, fun x H3 y => ?_⟩
    obtain ⟨s3, rm3, ru⟩ := yl x H3 y
    have rs3 : RelS K H3 M2 (capt k ix σ) (capt k ix τ) := capt_rel k ix (((rs.stp s1).stp s2).stp s3)
    refine hg _ x _ _ H3 M2 _ ru rs3 rm3 (turn i S.xs[i] ys M2 (by simp [hlt]) p2) _ fun σ4 τ4 H4 M4 s4 rm4 rs4 q4 => ?_
    refine hc σ4 τ4 H4 M4 _ rs4 rm4 q4 _ fun b M5 H5 s5 rm5 q5 => ?_
    have s25 : Stp H1 M1 H5 M5 := ((s2.trans s3).trans s4).trans s5
    cases b with
    | false =>
      exact ⟨S.xs.length - (i + 1), by omega, M5, ys, s25, rm5, q5, hlt, rfl⟩
    | true =>
      refine he σ4 τ4 H5 M5 _ (rs4.stp s5) rm5 q5 _ fun u v M6 H6 s6 rm6 ru6 q6 => ?_
      obtain ⟨d6, p6⟩ := q6
      obtain ⟨vs, h6, r6⟩ := rm6 D _ d6
      have l6 : vs.length < sizeLine := by rw [← r6.length]; omega
      have s7 : Stp H6 M6 (upd H6 D (.lst (vs ++ [v]))) (mup M6 D (.lst (ys ++ [u]))) := Stp.write d6
      exact ⟨vs, h6, l6, S.xs.length - (i + 1), by omega, _, ys ++ [u], (s25.trans s6).trans s7, rm6.put s7 ⟨_, upd_same, (r6.append (.cons ru6 .nil)).stp s7⟩, p6, hlt, rfl⟩
  · have e : i = S.xs.length := by omega
    subst e
    refine .inl ⟨w.stop H2 M2 s2 rm2 ok2, ?_⟩
    have q := fin ys M2 p2
    cases o with
    | true => exact c _ _ M2 H2 (s1.trans s2) rm2 relU_ref q
    | false =>
      obtain ⟨M', sb, n, q⟩ := q
      obtain ⟨vs, h6, r6⟩ := rm2 D _ d2
      have s' : Stp H2 M2 H2 M' := sb.less
      exact c _ _ M' H2 ((s1.trans s2).trans s') (rm2.sub sb) (relU_lst n h6 (r6.stp s')) q
end
end U2

set_option linter.all false
set_option maxRecDepth 100000
namespace U2
open PySem PySem.Spec PyProof.Rows L2

/-! ### walks over texts; over a list, a tuple or a text -/
theorem turn_str {P : Program} {w : World} {K : PySem.W.Frag} {tg : Expr} {ty : String} (z : Str) (t : Tok) (it : Addr)
    (W : ∀ A' : Around, A'.handled = none → Walks P w A' it [it] [it] z.cps.size (SignAt z) (fun i h => h.IsStrIter it ty z t i))
    (hty : ["enumerate", "zip", "dict_itemiterator", "dict_reverseitemiterator", "odict_iterator", "itertools.zip_longest", "itertools.pairwise"].contains ty = false)
    (self : ∀ (A : Around) (i : Nat) (s : Shared) (Q : Value → Shared → Prop) (E : Value → Shared → Prop), s.heap.IsStrIter it ty z t i → Q (.ref it) s → wpAny (model P w) A (pyIter (.ref it)) Q E s) :
    Turn P w K tg (Its z) [it] it (fun i h => h.IsStrIter it ty z t i) where
  mem := by simp
  obj := fun i h st b hb => by
    have e : b = it := by simpa using hb
    subst e
    obtain ⟨o, e, c, d⟩ := st
    exact ⟨o, e, fun v z => by rw [d] at z; cases z⟩
  keep := fun i h h' st k => let ⟨o, ho, r⟩ := st; ⟨o, k it (by simp) o ho, r⟩
  item := by
    intro X hP hw hK hc i pins s σ H E I hf st hg
    subst hP hw hK
    obtain ⟨f0, f1, f2, f3, f4, f5⟩ := hf it (by simp)
    refine (W X.A (I.ok.hd hc)).item i s _ E hg st fun v h' tk hv st' k => ?_
    obtain ⟨c, u, hc', rfl⟩ := hv
    have I1 : Inv X pins σ H { s with heap := h', toks := tk } := I.turned (t' := tk) (fun b o hb e => k b o (by simpa using hb) e) f0 f1 f3 f4 f5
    obtain ⟨o, e, cl, d⟩ := id st'
    exact ⟨_, rfl, go_of (s := { s with heap := h', toks := tk }) e cl d hty ⟨.str ⟨#[c]⟩, H, I1, ⟨_, rfl⟩, ⟨rfl, c, hc', rfl⟩, st', fun b hb => (hf b hb).1⟩⟩
  done := by
    intro X hP hw hK hc i pins s σ H E I hf st hg
    subst hP hw hK
    have hg' : i = z.cps.size := hg
    subst hg'
    obtain ⟨f0, f1, f2, f3, f4, f5⟩ := hf it (by simp)
    exact (W X.A (I.ok.hd hc)).done s _ E st fun h' tk k => ⟨rfl, I.turned (t' := tk) (fun b o hb e => k b o (by simpa using hb) e) f0 f1 f3 f4 f5⟩
  self := self
section
variable {X : Cx} {tg : Expr}
theorem pi_seq {l : Expr} {tl : TE} (hl : PE X l tl) : PI X tg l (iSeq X.K tl) := by
  intro pins s σ H R I h
  refine thn (hl pins s σ H _ I h) fun v s1 ⟨x, H1, I1, r1, q1⟩ => ?_
  have fp : ∀ b ∈ [s1.heap.objs.size], FpOk X pins H1 b := fun b hb => by
    have e : b = s1.heap.objs.size := by simpa using hb
    subst e
    exact I1.fpOk (Nat.le_refl _) (I1.hok.fresh (Nat.le_refl _))
  rcases q1 with ⟨a, rfl, ⟨xs, hq⟩, q⟩ | ⟨a, rfl, ⟨xs, hq⟩, q⟩ | ⟨z, rfl, q⟩
  · cases r1
    obtain ⟨its, rv, p, hz⟩ := I1.list hq
    refine wpAny_pyIter_list p.isList ?_
    exact ⟨s1.heap.objs.size, [s1.heap.objs.size], _, _, H1, rfl, I1.kept (t' := s1.toks) fun b o e => Heap.get?_push_of_some _ e, turn_list a _, ⟨_, Heap.get?_push_size _ rfl, rfl, rfl⟩, fp, q⟩
  · cases r1
    obtain ⟨its, rv, p, hz⟩ := I1.tuple hq
    refine wpAny_pyIter_tuple (show s1.heap.IsTuple a its.toArray from p) ?_
    exact ⟨s1.heap.objs.size, [s1.heap.objs.size], _, _, H1, rfl, I1.kept (t' := s1.toks) fun b o e => Heap.get?_push_of_some _ e, turn_tuple a _, ⟨_, Heap.get?_push_size _ rfl, rfl, rfl⟩, fp, q⟩
  · obtain ⟨t, rfl⟩ := r1
    cases ha : z.cps.all (· < 128)
    · refine wpAny_pyIter_wide ha ?_
      exact ⟨s1.heap.objs.size, [s1.heap.objs.size], _, _, H1, rfl, I1.kept (t' := s1.toks) fun b o e => Heap.get?_push_of_some _ e,
        turn_str z t _ (fun A' hA => Walks.strWide hA _ z t) (by decide) (fun A i s Q E st h => wpAny_pyIter_striter_wide st h), ⟨_, Heap.get?_push_size _ rfl, rfl, rfl⟩, fp, q⟩
    · refine wpAny_pyIter_ascii ha ?_
      exact ⟨s1.heap.objs.size, [s1.heap.objs.size], _, _, H1, rfl, I1.kept (t' := s1.toks) fun b o e => Heap.get?_push_of_some _ e,
        turn_str z t _ (fun A' hA => Walks.strAscii hA _ z t) (by decide) (fun A i s Q E st h => wpAny_pyIter_striter_ascii st h), ⟨_, Heap.get?_push_size _ rfl, rfl, rfl⟩, fp, q⟩
end

/-! ### list comprehensions -/
section
variable {prog : Program} {w : World} {A : Around} {R : Result → Shared → Prop} {s : Shared}
theorem compLoop_tg {elt target iter : Expr} {ifs : List Expr} {scope : Scope} {pos : Pos} {it acc : Value} {env : Env} (I : Nat → Shared → Prop)
    (turn : ∀ n s, I n s → wpAny (model prog w) A (pyNext it) (fun r s₁ => match r with
      | none => R (.ok .next) s₁
      | some v => wpAny (model prog w) A (letOwnedTupleGo target it v) (fun _ s₀ => wpAny (model prog w) A (assign target env v) (fun _ s₂ =>
          wpAny (model prog w) A (forIn ifs true fun c r => if r = true then do let ok ← isTrue c env (eval c env); pure (ForInStep.yield ok) else pure (ForInStep.yield r)) (fun ok s₃ =>
            if ok = true then wpAny (model prog w) A (eval elt env) (fun x s₄ =>
              wpAny (model prog w) A (call (.builtin "list.append") [acc, x]) (fun _ s₅ => ∃ m, m < n ∧ I m s₅) (fun _ _ => False) s₄) (fun _ _ => False) s₃
            else ∃ m, m < n ∧ I m s₃) (fun _ _ => False) s₂) (fun _ _ => False) s₀) (fun _ _ => False) s₁) (fun _ _ => False) s)
    (n : Nat) (h : I n s) :
    codeAny (model prog w) A (.compLoop (.ListComp elt [⟨target, iter, ifs, 0⟩] scope pos) 0 it acc env) R s := by
  refine codeAny_loop rfl I (fun n s hI => ?_) n h
  show wpAny _ A ((compTurn (.ListComp elt [⟨target, iter, ifs, 0⟩] scope pos) 0 it acc env).onRaise (fun x => do noteFrame x env; theTreesLotGoes x)) _ _ s
  refine wpAny_noted ?_
  rw [compTurn_list]
  refine wpAny_bind (wpAny_standAt (wpAny_bind (wpAny_mono (turn n s hI) (fun r s₁ h₁ => ?_) fun _ _ h' => h'.elim)))
  cases r with
  | none => exact wpAny_pure h₁
  | some v =>
    refine wpAny_bind (wpAny_mono h₁ (fun _ s₀ h₀ => ?_) fun _ _ h' => h'.elim)
    refine wpAny_bind (wpAny_mono h₀ (fun _ s₂ h₂ => wpAny_bind (wpAny_mono h₂ (fun ok s₃ h₃ => ?_) fun _ _ h' => h'.elim)) fun _ _ h' => h'.elim)
    cases ok with
    | false => exact wpAny_pure ⟨rfl, h₃⟩
    | true =>
      exact wpAny_bind (wpAny_bind (wpAny_mono h₃ (fun x s₄ h₄ => wpAny_bind (wpAny_mono h₄ (fun _ s₅ h₅ => wpAny_pure (wpAny_pure ⟨rfl, h₅⟩)) fun _ _ h' => h'.elim)) fun _ _ h' => h'.elim))
/-- the cells of the captured names -/
theorem closure_go {env : Env} : ∀ (names : List (Str × NameKind)) (cs : List (Str × Addr)), (∀ x ∈ names, x.2 = .free → ∃ c, env.cells.lookup x.1 = some c) →
    (∀ x c, cs.lookup x = some c → env.cells.lookup x = some c) →
    ∃ cl, (forIn names cs fun (x : Str × NameKind) (cs : List (Str × Addr)) => (if (x.2 == NameKind.free) = true then do let c ← cellOf env x.1; pure (ForInStep.yield ((x.1, c) :: cs)) else pure (ForInStep.yield cs) : Sem (ForInStep (List (Str × Addr))))) = pure cl ∧
      (∀ x c, cl.lookup x = some c → env.cells.lookup x = some c) ∧ (∀ x, (∃ c, cs.lookup x = some c) ∨ (x, NameKind.free) ∈ names → ∃ c, cl.lookup x = some c)
  | [], cs, _, h => ⟨cs, rfl, h, fun x hx => by rcases hx with hx | hx; exact hx; cases hx⟩
  | (n, k) :: r, cs, hf, h => by
    rw [List.forIn_cons]
    by_cases hk : k = .free
    · subst hk
      obtain ⟨c, hc⟩ := hf (n, .free) List.mem_cons_self rfl
      have e : cellOf env n = pure c := by unfold cellOf; rw [hc]
      simp only [beq_self_eq_true, if_true, e, pure_bind]
      obtain ⟨cl, h1, h2, h3⟩ := closure_go r ((n, c) :: cs) (fun x hx => hf x (List.mem_cons_of_mem _ hx)) (fun x d q => by
        rw [List.lookup_cons] at q
        split at q
        · rename_i e; cases q; rw [beq_iff_eq.mp e]; exact hc
        · exact h x d q)
      refine ⟨cl, h1, h2, fun x hx => h3 x ?_⟩
      rcases hx with ⟨d, hd⟩ | hx
      · left
        rw [List.lookup_cons]
        split
        · exact ⟨_, rfl⟩
        · exact ⟨d, hd⟩
      · rcases List.mem_cons.mp hx with e | hx
        · left; cases e; exact ⟨c, by simp [List.lookup_cons]⟩
        · exact .inr hx
    · have hb : (k == NameKind.free) = false := by simpa using hk
      simp only [hb, Bool.false_eq_true, if_false, pure_bind]
      obtain ⟨cl, h1, h2, h3⟩ := closure_go r cs (fun x hx => hf x (List.mem_cons_of_mem _ hx)) h
      refine ⟨cl, h1, h2, fun x hx => h3 x ?_⟩
      rcases hx with hx | hx
      · exact .inl hx
      · rcases List.mem_cons.mp hx with e | hx
        · cases e; exact absurd rfl hk
        · exact .inr hx
theorem closure_of {env : Env} {scope : Scope} (hf : ∀ x ∈ scope.names, x.2 = .free → ∃ c, env.cells.lookup x.1 = some c) :
    ∃ cl, closureFor scope env = pure cl ∧ (∀ x c, cl.lookup x = some c → env.cells.lookup x = some c) ∧ (∀ x, (x, NameKind.free) ∈ scope.names → ∃ c, cl.lookup x = some c) := by
  obtain ⟨cl, h1, h2, h3⟩ := closure_go (env := env) scope.names [] hf (fun x c h => by cases h)
  refine ⟨cl, ?_, h2, fun x hx => h3 x (.inr hx)⟩
  unfold closureFor
  first
    | exact h1
    | (have : _ := h1; simpa using this)
end

/-- the context of a comprehension's block -/
def compCx (X : Cx) (N : List Str) (scope : Scope) (cl : List (Str × Addr)) (C : Addr) (s : Shared) (H : Hp) (fp : List Addr) : Cx where
  prog := X.prog
  w := X.w
  K := X.K
  mg := X.mg
  base := X.base
  A := X.A
  N := N
  s₀ := s
  H₀ := H
  env := compEnvC scope cl C X.env
  outer := X.stack
  stack := X.stack
  ex := fp
  fn := fun _ => false
  calm := X.calm
  pn := []
  xe := fun _ _ => False
def PIf (X : Cx) (ifs : List Expr) (t : TT) : Prop :=
  ∀ (pins : List (Addr × Obj)) (s : Shared) (σ : L2.St) (H : Hp) (Q : Bool → Hp → Prop), Inv X pins σ H s → t σ H Q →
    wpAny (model X.prog X.w) X.A (forIn ifs true fun c r => if r = true then do let ok ← isTrue c X.env (eval c X.env); pure (ForInStep.yield ok) else pure (ForInStep.yield r)) (TP X pins σ Q) X.xe s
def tYes : TT := fun _ H Q => Q true H
theorem pif_nil {X : Cx} : PIf X [] tYes := fun pins s σ H Q I h => wpAny_tests_nil ⟨H, I, h⟩
/-- a target that stores below k alone -/
def GK (k : Nat) (g : TG) : Prop := ∀ x σ H Q, g x σ H Q → g x σ H (fun σ2 H2 => (∀ j, k ≤ j → σ2[j]? = σ[j]?) ∧ Q σ2 H2)
def GKs (k : Nat) (g : TGs) : Prop := ∀ xs σ H Q, g xs σ H Q → g xs σ H (fun σ2 H2 => (∀ j, k ≤ j → σ2[j]? = σ[j]?) ∧ Q σ2 H2)
theorem gk_name {k i : Nat} (h : i < k) : GK k (gName i) := fun x σ H Q q => ⟨fun j hj => by rw [List.getElem?_set, if_neg (by omega)], q⟩
theorem gk_nil {k : Nat} : GKs k gNil := fun xs σ H Q q => ⟨q.1, fun j _ => rfl, q.2⟩
theorem gk_cons {k : Nat} {g : TG} {r : TGs} (h1 : GK k g) (h2 : GKs k r) (m2 : ∀ xs σ H Q Q', (∀ σ2 H2, Q σ2 H2 → Q' σ2 H2) → r xs σ H Q → r xs σ H Q') (m1 : ∀ x σ H Q Q', (∀ σ2 H2, Q σ2 H2 → Q' σ2 H2) → g x σ H Q → g x σ H Q') : GKs k (gCons g r) := fun xs σ H Q q => by
  obtain ⟨v, r', rfl, q⟩ := q
  refine ⟨v, r', rfl, m1 _ _ _ _ _ (fun σ2 H2 z => ?_) (h1 _ _ _ _ q)⟩
  exact m2 _ _ _ _ _ (fun σ3 H3 y => ⟨fun j hj => (y.1 j hj).trans (z.1 j hj), y.2⟩) (h2 _ _ _ _ z.2)
theorem m_name {i : Nat} : ∀ x σ H (Q Q' : L2.St → Hp → Prop), (∀ σ2 H2, Q σ2 H2 → Q' σ2 H2) → gName i x σ H Q → gName i x σ H Q' := fun x σ H Q Q' h q => h _ _ q
theorem m_nil : ∀ xs σ H (Q Q' : L2.St → Hp → Prop), (∀ σ2 H2, Q σ2 H2 → Q' σ2 H2) → gNil xs σ H Q → gNil xs σ H Q' := fun x σ H Q Q' h q => ⟨q.1, h _ _ q.2⟩
theorem m_cons {g : TG} {r : TGs} (m1 : ∀ x σ H Q Q', (∀ σ2 H2, Q σ2 H2 → Q' σ2 H2) → g x σ H Q → g x σ H Q') (m2 : ∀ xs σ H Q Q', (∀ σ2 H2, Q σ2 H2 → Q' σ2 H2) → r xs σ H Q → r xs σ H Q') :
    ∀ xs σ H (Q Q' : L2.St → Hp → Prop), (∀ σ2 H2, Q σ2 H2 → Q' σ2 H2) → gCons g r xs σ H Q → gCons g r xs σ H Q' := fun xs σ H Q Q' h q => by
  obtain ⟨v, r', rfl, q⟩ := q
  exact ⟨v, r', rfl, m1 _ _ _ _ _ (fun σ2 H2 z => m2 _ _ _ _ _ h z) q⟩
theorem gk_tup {K : PySem.W.Frag} {k n : Nat} {r : TGs} (h : GKs k r) : GK k (gTup K n r) := fun x σ H Q q => by
  obtain ⟨a, xs, rfl, h1, h2, q⟩ := q
  exact ⟨a, xs, rfl, h1, h2, h _ _ _ _ q⟩
theorem m_tup {K : PySem.W.Frag} {n : Nat} {r : TGs} (m2 : ∀ xs σ H Q Q', (∀ σ2 H2, Q σ2 H2 → Q' σ2 H2) → r xs σ H Q → r xs σ H Q') :
    ∀ x σ H (Q Q' : L2.St → Hp → Prop), (∀ σ2 H2, Q σ2 H2 → Q' σ2 H2) → gTup K n r x σ H Q → gTup K n r x σ H Q' := fun x σ H Q Q' h q => by
  obtain ⟨a, xs, rfl, h1, h2, q⟩ := q
  exact ⟨a, xs, rfl, h1, h2, m2 _ _ _ _ _ h q⟩

theorem comp_core {X : Cx} {tg elt iter : Expr} {ifs : List Expr} {scope : Scope} {pos : Pos} {N : List Str} {k : Nat} {ix : List Nat} {wi : TI} {g : TG} {tc : TT} {te : TE}
    (hc : X.calm = true) (hi : PI X tg iter wi) (gk : GK k g)
    (hk : scope.kind = .function) (hcell : ∀ y ∈ scope.names, y.2 ≠ .cell) (hnames : ∀ y ∈ scope.names, y.2 = .local → scope.names.lookup y.1 = some .local)
    (hfree : ∀ y ∈ scope.names, y.2 = .free → X.env.kindOf y.1 = some .cell ∨ X.env.kindOf y.1 = some .free)
    (hone : ∀ y ∈ scope.names, y.2 = .free → scope.names.lookup y.1 = some .free)
    (hN : ∀ (j : Nat) x, N[k + j]? = some x → ∃ i, ix[j]? = some i ∧ X.N[i]? = some x)
    (hcap : ∀ (j : Nat) x, N[k + j]? = some x → scope.names.lookup x = some .free)
    (hlen : N.length = k + ix.length)
    (hg : ∀ cl C s H fp, PG (compCx X N scope cl C s H fp) tg g)
    (hif : ∀ cl C s H fp, PIf (compCx X N scope cl C s H fp) ifs tc)
    (he : ∀ cl C s H fp, PE (compCx X N scope cl C s H fp) elt te)
    (hs : ∀ x, foldedSetIterable iter X.env x = pure x) {pins : List (Addr × Obj)} {s : Shared} {σ : L2.St} {H : Hp} {Q : VK} (I : L2.Inv X pins σ H s) (h : tComp k ix wi g tc te σ H Q) {pos' : Pos} {use : Option (Value → Sem Unit)} {QQ : Value → Shared → Prop}
    (end_ : ∀ (D C : Addr) (H3 : Hp) (s4 : Shared), L2.Inv X pins σ H3 s4 → (∃ m, s4.heap.Ns C m) → H3 C = none → C ≠ X.env.locals → X.s₀.heap.objs.size ≤ C → (∀ x c, X.env.cells.lookup x = some c → c ≠ C) → (∀ p ∈ X.pn ++ pins, p.1 ≠ C) →
      (∀ h' : Heap, Heap.SameBut C s4.heap h' → L2.Inv X pins σ H3 { s4 with heap := h' }) → Q (.ref D) H3 → compPost (model X.prog X.w) X.A X.xe use QQ (.ref D) C (.ok .next) s4) :
    wpAny (model X.prog X.w) X.A (comprehension (.ListComp elt [⟨tg, iter, ifs, 0⟩] scope pos) scope X.env pos' (newList []) false (eval iter X.env) use) QQ X.xe s := by
  obtain ⟨cl, hclos, hcl, hcl2⟩ := closure_of (env := X.env) (scope := scope) (fun x hx e => I.ok.has x.1 (hfree x hx e))
  refine wpAny_comprehension_free (use := use) rfl hs hclos hk hnames (thn (hi pins s σ H _ I h) fun v s1 h1 => thn h1 fun itv s2 h2 => ?_)
  obtain ⟨it, fp, tn, J, H2, rfl, I2, T, st2, f2, h2⟩ := h2
  refine wpAny_newObj_type (wpAny_newFunctionEnv hcell (by intro y hy; simp at hy) (fun h₁ hns₁ hsb₁ => ?_) hk)
  dsimp only at hns₁ hsb₁ ⊢
  generalize hP : s2.heap.push { cls := .type "list", dict := none, data := .seq ([] : List Value).toArray } = P2 at hns₁ hsb₁ ⊢
  have hCs : P2.objs.size = s2.heap.objs.size + 1 := by rw [← hP, Heap.size_push]
  have below : ∀ b, b < s2.heap.objs.size → b ≠ P2.objs.size := fun b hb => by rw [hCs]; omega
  have old : ∀ b o, s2.heap.get? b = some o → h₁.get? b = some o := fun b o e => hsb₁.extBut b o (below b (Heap.lt_size e)) (Heap.get?_push_of_some _ (hP ▸ Heap.get?_push_of_some _ e))
  have hacc : h₁.get? s2.heap.objs.size = some { cls := .type "list", dict := none, data := .seq ([] : List Value).toArray } := hsb₁.extBut _ _ (show s2.heap.objs.size ≠ P2.objs.size by rw [hCs]; exact Nat.ne_of_lt (Nat.lt_succ_self _)) (Heap.get?_push_of_some _ (hP ▸ Heap.get?_push_size _ rfl))
  obtain ⟨W, ⟨m0, w0⟩, turn⟩ := h2 s2.heap.objs.size (I2.hok.fresh (Nat.le_refl _))
  have fpl : ∀ b ∈ fp, b < s2.heap.objs.size := fun b hb => let ⟨o, e, _⟩ := T.obj _ _ st2 b hb; Heap.lt_size e
  have σl : (capt k ix σ).length = N.length := by rw [hlen]; simp [capt]
  have i2 := I2.ok
  -- the block's context is in order
  have ok' : (compCx X N scope cl P2.objs.size s2 H2 fp).Ok := by
    refine ⟨i2.mod, hk, i2.glob, i2.blt, (by show s2.heap.objs.size ≤ P2.objs.size; rw [hCs]; exact Nat.le_succ _), fun x y c e1 e2 => i2.inj x y c (hcl x c e1) (hcl y c e2), fun x hx => ?_, (fun x c e => by cases e), i2.hd, i2.frames, .inl rfl, fun b hb => ?_, fun b o e => I2.bs b o e, Nat.le_trans i2.bsz I2.sz, fun b o e hb => ?_, fun b hb hb2 => ?_, I2.stack, I2.stkFree⟩
    · -- a cell of the block's
      have hx' : (relabel scope X.env).names.lookup x = some .cell ∨ (relabel scope X.env).names.lookup x = some .free := hx
      have key : ∀ (names : List (Str × NameKind)), (∀ y ∈ names, y.2 ≠ .cell) → ((names.map fun (n, k) => if (k == NameKind.free && X.env.scope.kind == .function && X.env.kindOf n == some .cell) then (n, NameKind.cell) else (n, k)).lookup x = some .cell ∨
          (names.map fun (n, k) => if (k == NameKind.free && X.env.scope.kind == .function && X.env.kindOf n == some .cell) then (n, NameKind.cell) else (n, k)).lookup x = some .free) → (x, NameKind.free) ∈ names := by
        intro names
        induction names with
        | nil => intro _ h; rcases h with h | h <;> cases h
        | cons y r ih =>
          obtain ⟨n, kd⟩ := y
          intro hnc h
          by_cases hxn : x = n
          · subst hxn
            have hkc : kd ≠ .cell := hnc (x, kd) List.mem_cons_self
            by_cases hkf : kd = .free
            · subst hkf; exact List.mem_cons_self
            · exfalso
              have hb : (kd == NameKind.free) = false := by simpa using hkf
              simp only [List.map_cons, hb, Bool.false_and, Bool.false_eq_true, if_false, List.lookup_cons, beq_self_eq_true] at h
              rcases h with h | h
              · exact hkc (Option.some.inj h)
              · exact hkf (Option.some.inj h)
          · have hb : (x == n) = false := by simpa using hxn
            refine List.mem_cons_of_mem _ (ih (fun y hy => hnc y (List.mem_cons_of_mem _ hy)) ?_)
            have e1 : ∀ z : NameKind, List.lookup x (((n, z)) :: (r.map fun (n, k) => if (k == NameKind.free && X.env.scope.kind == .function && X.env.kindOf n == some .cell) then (n, NameKind.cell) else (n, k))) = List.lookup x (r.map fun (n, k) => if (k == NameKind.free && X.env.scope.kind == .function && X.env.kindOf n == some .cell) then (n, NameKind.cell) else (n, k)) := fun z => by rw [List.lookup_cons, hb]
            rw [List.map_cons] at h
            dsimp only at h
            split at h
            · rw [e1] at h; exact h
            · rw [e1] at h; exact h
      exact hcl2 x (key scope.names hcell hx')
    · exact ⟨below b (fpl b hb), fun x c e => (f2 b hb).2.2.2.2.1 x c (hcl x c e)⟩
    · rcases (f2 b hb).2.2.2.1 with z | z
      · exact i2.noex b o e z
      · exact absurd (Nat.lt_of_lt_of_le (Heap.lt_size e) (Nat.le_trans i2.bsz z)) (Nat.lt_irrefl _)
    · rcases List.mem_cons.mp (I2.stkSub b hb2) with z | z
      · exact (f2 b hb).2.1 z
      · exact (f2 b hb).2.2.1 z
  have stat : ∀ {H' : Hp}, (∀ b ∈ fp, H' b = none) → ∀ b ∈ fp, FpOk (compCx X N scope cl P2.objs.size s2 H2 fp) [] H' b := fun hn b hb =>
    ⟨hn b hb, below b (fpl b hb), fun z => ok'.exfs b hb z, .inl hb, fun x c e => (f2 b hb).2.2.2.2.1 x c (hcl x c e), (fun p hp => by cases hp)⟩
  have hD : H2 s2.heap.objs.size = none := I2.hok.fresh (Nat.le_refl _)
  have relf : ∀ x, scope.names.lookup x = some .free → (X.env.kindOf x = some .cell ∨ X.env.kindOf x = some .free) → ((relabel scope X.env).names.lookup x = some .cell ∨ (relabel scope X.env).names.lookup x = some .free) := by
    intro x hx hkx
    have key : ∀ (names : List (Str × NameKind)), names.lookup x = some .free → ((names.map fun (n, k) => if (k == NameKind.free && X.env.scope.kind == .function && X.env.kindOf n == some .cell) then (n, NameKind.cell) else (n, k)).lookup x = some .cell ∨
        (names.map fun (n, k) => if (k == NameKind.free && X.env.scope.kind == .function && X.env.kindOf n == some .cell) then (n, NameKind.cell) else (n, k)).lookup x = some .free) := by
      intro names
      induction names with
      | nil => intro h; cases h
      | cons y r ih =>
        obtain ⟨n, kd⟩ := y
        intro h
        rw [List.lookup_cons] at h
        by_cases hxn : x = n
        · subst hxn
          simp only [beq_self_eq_true] at h
          cases h
          rw [List.map_cons]
          dsimp only
          split
          · left; simp [List.lookup_cons]
          · right; simp [List.lookup_cons]
        · have hb : (x == n) = false := by simpa using hxn
          rw [hb] at h
          have := ih h
          rw [List.map_cons]
          dsimp only
          split
          · rw [List.lookup_cons, hb]; exact this
          · rw [List.lookup_cons, hb]; exact this
    exact key scope.names hx
  have Istart : ∀ tk, Inv (compCx X N scope cl P2.objs.size s2 H2 fp) [] (capt k ix σ) (upd H2 s2.heap.objs.size (.lst [])) { s2 with heap := h₁, toks := tk } := fun tk => by
    refine ⟨ok', rfl, I2.bare, Un.laid old (Nat.le_refl _) hD, ⟨_, hns₁, fun i x v e1 e2 e3 => ?_⟩, fun x c e => ?_, ?_, fun x c e => ?_, (fun p hp => by cases hp), I2.hok.laid old (Nat.le_refl _) ⟨Nat.zero_le _, [], _, .nil, hacc⟩, σl⟩
    · by_cases hik : i < k
      · exfalso
        unfold capt at e2
        rw [List.getElem?_append_left (by simpa using hik), List.getElem?_replicate] at e2
        split at e2 <;> cases e2
      · have ej : i = k + (i - k) := by omega
        have e1' : N[k + (i - k)]? = some x := by rw [← ej]; exact e1
        obtain ⟨i0, hi0, hXN⟩ := hN (i - k) x e1'
        have hfx := hcap (i - k) x e1'
        have hmem : (x, NameKind.free) ∈ scope.names := PySem.mem_of_lookup hfx
        have hkx := hfree _ hmem rfl
        have e4 : σ[i0]? = some (some v) := by
          unfold capt at e2
          rw [List.getElem?_append_right (by simpa using Nat.le_of_not_lt hik), List.getElem?_map] at e2
          simp only [List.length_replicate, hi0, Option.map_some, Option.some.injEq] at e2
          cases z : σ[i0]? with
          | none => rw [z] at e2; cases e2
          | some y => rw [z] at e2; simp only [Option.getD_some] at e2; rw [e2]
        obtain ⟨m2, hn2, hl2⟩ := I2.loc
        obtain ⟨u, ru, lk⟩ := hl2 i0 x v hXN e4 (by rcases hkx with z | z; exact .inr (.inl z); exact .inr (.inr z))
        rcases lk with ⟨z, _⟩ | ⟨_, c, hc1, hc2⟩
        · exfalso
          have z' : X.env.kindOf x = some .local := z
          rcases hkx with y | y <;> (rw [z'] at y; cases y)
        · obtain ⟨c', hc'⟩ := hcl2 x hmem
          have e5 := hcl x c' hc'
          rw [hc1] at e5; cases e5
          obtain ⟨o, ho, hd⟩ := hc2
          exact ⟨u, ru, .inr ⟨relf x hfx hkx, c, hc', o, old _ _ ho, hd⟩⟩
    · obtain ⟨v, o, ho, hd⟩ := I2.cell x c (hcl x c e)
      exact ⟨v, o, old _ _ ho, hd⟩
    · show upd H2 s2.heap.objs.size (.lst []) P2.objs.size = none
      rw [upd_ne (show P2.objs.size ≠ s2.heap.objs.size by rw [hCs]; exact Nat.succ_ne_self _)]
      exact I2.hok.fresh (show s2.heap.objs.size ≤ P2.objs.size by rw [hCs]; exact Nat.le_succ _)
    · have e' := hcl x c e
      obtain ⟨v, o, ho, hd⟩ := I2.cell x c e'
      rw [upd_ne (Nat.ne_of_lt (Heap.lt_size ho))]
      exact I2.freeC x c e'
  have st1 : tn 0 h₁ := T.keep 0 _ _ st2 fun b hb o e => old b o e
  have fr1 : ∀ b ∈ fp, upd H2 s2.heap.objs.size (.lst []) b = none := fun b hb => by rw [upd_ne (Nat.ne_of_lt (fpl b hb))]; exact (f2 b hb).1
  -- behind the block
  have fin : ∀ (H3 : Hp) (s4 : Shared), Inv (compCx X N scope cl P2.objs.size s2 H2 fp) [] (capt k ix σ) H3 s4 → ∀ h' : Heap, Heap.SameBut P2.objs.size s4.heap h' → Inv X pins σ H3 { s4 with heap := h' } := fun H3 s4 I4 h' sb => by
    have kp : ∀ b o, b < s2.heap.objs.size → s4.heap.get? b = some o → h'.get? b = some o := fun b o hb e => sb.extBut b o (below b hb) e
    have u : Un (frs X.stack) fp H2 H3 s2.heap s4.heap := I4.base
    refine I2.call' (ch := fp) (H' := H3) I4.os ⟨fun b o q n hb hx => kp b o (Heap.lt_size q) (u.keep b o q n hb hx), fun b o q n hb hx => ?_, u.free, fun b o q hx => ?_, u.tups, u.frzs, u.tbls⟩ (fun a o e => ?_) I4.bare fun b hb => ⟨(f2 b hb).2.2.2.1, (f2 b hb).2.1, (f2 b hb).2.2.2.2.1, (f2 b hb).2.2.2.2.2⟩
    · obtain ⟨sl, e⟩ := u.slot b o q n hb hx
      exact ⟨sl, kp b _ (Heap.lt_size q) e⟩
    · obtain ⟨o', e⟩ := u.there b o q hx
      exact ⟨o', kp b _ (Heap.lt_size q) e⟩
    · have nC : H3 P2.objs.size = none := I4.free
      refine (I4.hok a o e).stay (fun b z hb q => sb.extBut b z ?_ q) (fun _ q => q) fun _ _ q => q
      rcases hb with rfl | hb
      · exact ne_of_none e nC
      · exact ne_of_none hb nC
  have loop : ∀ tk, codeAny (model X.prog X.w) X.A (.compLoop (.ListComp elt [⟨tg, iter, ifs, 0⟩] scope pos) 0 (.ref it) (.ref s2.heap.objs.size) (compEnvC scope cl P2.objs.size X.env))
      (compPost (model X.prog X.w) X.A X.xe use QQ (.ref s2.heap.objs.size) P2.objs.size) { s2 with heap := h₁, toks := tk } := fun tk => by
    refine compLoop_tg (fun n s' => ∃ i H', Inv (compCx X N scope cl P2.objs.size s2 H2 fp) [] (capt k ix σ) H' s' ∧ tn i s'.heap ∧ (∀ b ∈ fp, H' b = none) ∧ W i n H') ?_ m0 ⟨0, _, Istart tk, st1, fr1, w0⟩
    rintro n s3 ⟨i, H3, I3, st3, fr3, w3⟩
    rcases turn i n H3 w3 with ⟨stop, q⟩ | ⟨go, step⟩
    · refine thn (T.done (compCx X N scope cl P2.objs.size s2 H2 fp) rfl rfl rfl hc i [] s3 _ H3 (fun _ _ => False) I3 (stat fr3) st3 stop) fun r s4 ⟨hr, I4⟩ => ?_
      subst hr
      obtain ⟨m, hn, _⟩ := I4.loc
      refine end_ s2.heap.objs.size P2.objs.size H3 s4 (fin H3 s4 I4 s4.heap (Heap.SameBut.refl ..)) ⟨m, hn⟩ I4.free (Ne.symm (below _ I2.lt)) (Nat.le_trans I2.sz (show s2.heap.objs.size ≤ P2.objs.size by rw [hCs]; exact Nat.le_succ _)) (fun x c e => ?_) (fun p hp => below _ (Heap.lt_size (I2.pin p hp).1)) (fin H3 s4 I4) q
      obtain ⟨v, o, ho, _⟩ := I2.cell x c e
      exact below _ (Heap.lt_size ho)
    · refine thn (T.item (compCx X N scope cl P2.objs.size s2 H2 fp) rfl rfl rfl hc i [] s3 _ H3 (fun _ _ => False) I3 (stat fr3) st3 go) fun r s4 ⟨u, hr, h4⟩ => ?_
      subst hr
      refine thn h4 fun _ s5 ⟨x, H5, I5, r5, y5, st5, fr5⟩ => ?_
      have I5' := I5.pinned (stat fr5) (T.obj _ _ st5)
      refine thn (hg cl P2.objs.size s2 H2 fp _ s5 _ H5 x u _ I5' r5 (gk _ _ _ _ (step x H5 y5))) fun _ s6 ⟨σ6, H6, I6, ag, q6⟩ => ?_
      have again : ∀ {s7 : Shared} {H7 : Hp} {m' : Nat}, Inv (compCx X N scope cl P2.objs.size s2 H2 fp) ([] ++ pinsAt fp s5.heap) σ6 H7 s7 → m' < n → W (i + 1) m' H7 → ∃ m, m < n ∧ ∃ i H', Inv (compCx X N scope cl P2.objs.size s2 H2 fp) [] (capt k ix σ) H' s7 ∧ tn i s7.heap ∧ (∀ b ∈ fp, H' b = none) ∧ W i m H' := fun {s7 H7 m'} I7 hm w7 => by
        refine ⟨m', hm, i + 1, H7, (I7.unpinned).weak (by rw [σl]; exact (I7.len).symm) (fun j v e => ?_), T.keep _ _ _ st5 fun b hb o e => (I7.pin (b, o) (List.mem_append_right _ (List.mem_append_right _ (mem_pinsAt hb e)))).1, fun b hb => ?_, w7⟩
        · by_cases hj : j < k
          · exfalso
            unfold capt at e
            rw [List.getElem?_append_left (by simpa using hj), List.getElem?_replicate] at e
            split at e <;> cases e
          · rw [ag j (by omega)]; exact e
        · obtain ⟨o, e, d⟩ := T.obj _ _ st5 b hb
          exact (I7.pin (b, o) (List.mem_append_right _ (List.mem_append_right _ (mem_pinsAt hb e)))).2.1
      refine thn (hif cl P2.objs.size s2 H2 fp _ s6 σ6 H6 _ I6 q6) fun ok s7 ⟨H7, I7, q7⟩ => ?_
      cases ok with
      | false =>
        obtain ⟨m', hm, w7⟩ := q7
        exact again I7 hm w7
      | true =>
        refine thn (he cl P2.objs.size s2 H2 fp _ s7 σ6 H7 _ I7 q7) fun y s8 ⟨yv, H8, I8, r8, ys, hD8, hz8, m', hm, w8⟩ => ?_
        refine thn (mt_append _ s8 σ6 H8 (.ref s2.heap.objs.size) [yv] (.ref s2.heap.objs.size) [y] (fun v H9 => H9 = upd H8 s2.heap.objs.size (.lst (ys ++ [yv]))) I8 rfl (.cons r8 .nil) ⟨_, ys, yv, rfl, rfl, hD8, hz8, rfl⟩) fun _ s9 ⟨_, H9, I9, _, e9⟩ => ?_
        subst e9
        exact again I9 hm w8
  exact codeAny_compStart_list (loop _) (T.self _ 0 _ _ _ st1 (loop _))

theorem pe_comp {X : Cx} {tg elt iter : Expr} {ifs : List Expr} {scope : Scope} {pos : Pos} {N : List Str} {k : Nat} {ix : List Nat} {wi : TI} {g : TG} {tc : TT} {te : TE}
    (hc : X.calm = true) (hi : PI X tg iter wi) (gk : GK k g)
    (hk : scope.kind = .function) (hcell : ∀ y ∈ scope.names, y.2 ≠ .cell) (hnames : ∀ y ∈ scope.names, y.2 = .local → scope.names.lookup y.1 = some .local)
    (hfree : ∀ y ∈ scope.names, y.2 = .free → X.env.kindOf y.1 = some .cell ∨ X.env.kindOf y.1 = some .free)
    (hone : ∀ y ∈ scope.names, y.2 = .free → scope.names.lookup y.1 = some .free)
    (hN : ∀ (j : Nat) x, N[k + j]? = some x → ∃ i, ix[j]? = some i ∧ X.N[i]? = some x)
    (hcap : ∀ (j : Nat) x, N[k + j]? = some x → scope.names.lookup x = some .free)
    (hlen : N.length = k + ix.length)
    (hg : ∀ cl C s H fp, PG (compCx X N scope cl C s H fp) tg g)
    (hif : ∀ cl C s H fp, PIf (compCx X N scope cl C s H fp) ifs tc)
    (he : ∀ cl C s H fp, PE (compCx X N scope cl C s H fp) elt te)
    (hs : ∀ x, foldedSetIterable iter X.env x = pure x := by intro _; rfl) :
    PE X (.ListComp elt [⟨tg, iter, ifs, 0⟩] scope pos) (tComp k ix wi g tc te) := by
  intro pins s σ H Q I h
  rw [eval_ListComp]
  refine comp_core (use := none) hc hi gk hk hcell hnames hfree hone hN hcap hlen hg hif he hs I h fun D C H3 s4 I4 ⟨m, hn⟩ _ _ _ _ _ fin q => ?_
  exact ⟨m, hn, fun h' sb => ⟨.ref D, H3, fin h' sb, rfl, q⟩⟩
/-- name = [..]: the name is stored before the block's names go -/
theorem ps_comp {X : Cx} {tg elt iter : Expr} {ifs : List Expr} {scope : Scope} {pos spos py : Pos} {N : List Str} {k : Nat} {ix : List Nat} {wi : TI} {g : TG} {tc : TT} {te : TE} {i : Nat} {y : Str}
    (hc : X.calm = true) (hi : PI X tg iter wi) (gk : GK k g)
    (hk : scope.kind = .function) (hcell : ∀ y ∈ scope.names, y.2 ≠ .cell) (hnames : ∀ y ∈ scope.names, y.2 = .local → scope.names.lookup y.1 = some .local)
    (hfree : ∀ y ∈ scope.names, y.2 = .free → X.env.kindOf y.1 = some .cell ∨ X.env.kindOf y.1 = some .free)
    (hone : ∀ y ∈ scope.names, y.2 = .free → scope.names.lookup y.1 = some .free)
    (hN : ∀ (j : Nat) x, N[k + j]? = some x → ∃ i, ix[j]? = some i ∧ X.N[i]? = some x)
    (hcap : ∀ (j : Nat) x, N[k + j]? = some x → scope.names.lookup x = some .free)
    (hlen : N.length = k + ix.length)
    (hg : ∀ cl C s H fp, PG (compCx X N scope cl C s H fp) tg g)
    (hif : ∀ cl C s H fp, PIf (compCx X N scope cl C s H fp) ifs tc)
    (he : ∀ cl C s H fp, PE (compCx X N scope cl C s H fp) elt te)
    (hs : ∀ x, foldedSetIterable iter X.env x = pure x) (hsw : swapsWith (.ListComp elt [⟨tg, iter, ifs, 0⟩] scope pos) (some (.Name y py)) spos.line X.env = pure true)
    (hNd : X.N.Nodup) (hiy : X.N[i]? = some y) (hy : Loc X.env.scope y) (hf : X.fn y = true ∨ X.env.scope.names.lookup y = some .local) :
    PS X (.Assign [.Name y py] (.ListComp elt [⟨tg, iter, ifs, 0⟩] scope pos) spos) (tAsg (tComp k ix wi g tc te) (gName i)) := by
  intro pins s σ H D I h
  rw [exec_Assign_Name_used _ _ _ _ hsw]
  refine wpAny_bind (wpAny_standAt (wpAny_bind ?_))
  show wpAny _ X.A (do let _ ← comprehension (.ListComp elt [⟨tg, iter, ifs, 0⟩] scope pos) scope X.env _ (newList []) false (eval iter X.env) (some (assign (.Name y py) X.env))) _ _ s
  refine wpAny_bind (wpAny_mono (comp_core (use := some (assign (.Name y py) X.env)) (QQ := fun _ s' => SP X pins D .next s') hc hi gk hk hcell hnames hfree hone hN hcap hlen hg hif he hs I h fun A C H3 s4 I4 hn nC nL sC cC pC fin q => ?_) (fun _ s' hq => wpAny_pure (wpAny_pure hq)) fun _ _ e => e)
  show wpAny _ X.A (assign (.Name y py) X.env (.ref A)) _ _ _
  refine wpAny_assign_Name (store_ok2 (i := i) (v := .ref A) I4 hNd hiy hy rfl (fun s5 I5 ⟨a, sb, ha⟩ => ?_) hf)
  obtain ⟨m, hn⟩ := hn
  have aC : C ≠ a := by
    rcases ha with z | z
    · rw [z]; exact nL
    · exact fun e => cC y a z e.symm
  refine ⟨m, hn.at' fun o e => sb.extBut C o aC e, fun h' sb' => ?_⟩
  exact ⟨_, H3, I5.turned (t' := s5.toks) (fun b o hb e => sb'.extBut b o hb e) nC nL (.inr sC) cC pC, q⟩
/-! ### + of lists and of tuples, slices, extend, all -/
section
variable {X : Cx}
theorem op_catL : OpR X (binaryOp .Add) (rCatL X.K) := by
  intro pins s σ H x y v u Q I rx ry h
  obtain ⟨l, b, xs, zs, rfl, rfl, hH, hB, hz, q⟩ := h
  cases rx
  cases ry
  obtain ⟨its, r, p, hl⟩ := I.list hH
  obtain ⟨its2, r2, p2, hl2⟩ := I.list hB
  obtain ⟨⟨cls, dd, data, sl⟩, n, ho, hc, _, hd⟩ := p
  obtain ⟨⟨cls2, dd2, data2, sl2⟩, n2, ho2, hc2, _, hd2⟩ := p2
  simp only at hc hd hc2 hd2
  subst hc hd hc2 hd2
  have q1 := r.length
  have q2 := r2.length
  have e : its.toArray ++ its2.toArray = (its ++ its2).toArray := by simp
  refine concat_meets ⟨_, ho, rfl⟩ ⟨_, ho2, rfl⟩ noFill_list_add seq_list_add PySem.F.slot_list_add PySem.F.entry_list_add (PySem.F.args_list_add_2 _ _) (list_addW l b its.toArray its2.toArray n n2 dd dd2 sl sl2 (by rw [List.size_toArray, List.size_toArray]; omega)) ⟨ho, ho2, ?_⟩
  rw [e]
  exact ⟨.ref _, _, I.lnew (t' := s.toks) (r.append r2) (by rw [List.length_append]; omega), rfl, q _ I.fresh⟩
theorem op_catTA : OpR X (binaryOp .Add) (rCatTA X.K) := by
  intro pins s σ H x y v u Q I rx ry h
  obtain ⟨a, b, xs, ys, rfl, rfl, ha, hb, hz, q0, q1, q2⟩ := h
  by_cases hx : xs = []
  · cases rx
    cases ry
    obtain ⟨its, r1, p1, _⟩ := I.tuple ha
    obtain ⟨its2, r2, p2, _⟩ := I.tuple hb
    obtain ⟨⟨cls, dd, data, sl⟩, ho, hc, n, hd⟩ := p1
    obtain ⟨⟨cls2, dd2, data2, sl2⟩, ho2, hc2, n2, hd2⟩ := p2
    simp only at hc hd hc2 hd2
    subst hc hd hc2 hd2
    have e : its = [] := r1.nil_iff.mpr hx
    exact concat_meets ⟨_, ho, rfl⟩ ⟨_, ho2, rfl⟩ noFill_tuple_add seq_tuple_add PySem.F.slot_tuple_add PySem.F.entry_tuple_add (PySem.F.args_tuple_add_2 _ _) (tuple_addW0 a b its.toArray its2.toArray n n2 dd dd2 sl sl2 (by rw [e]; rfl)) ⟨ho, ho2, .ref b, H, I, rfl, q0 hx⟩
  · exact op_catT pins s σ H _ _ v u Q I rx ry ⟨a, b, xs, ys, rfl, rfl, ha, hb, hx, hz, q1 hx, q2 hx⟩
/-- x[lo:hi] -/
theorem sl_str : SlR X (fun x lo hi H Q => ∃ z : Str, x = .str z ∧ z.length ≤ sizeLine ∧ Q (.str (Txt.slice z lo hi)) H) := by
  intro pins s σ H x v vl vu lo hi sl Q I rx hs pl pu h
  obtain ⟨z, rfl, hz, q⟩ := h
  obtain ⟨t, rfl⟩ := rx
  refine ⟨"str", _, F.slot_str_getitem.lookup, typeIs_str _ _ _, ?_⟩
  have fin : ∀ t' k, EP X pins σ Q (.str (Txt.slice z lo hi) t') { s with toks := k } := fun t' k => ⟨.str (Txt.slice z lo hi), H, I.tok k, ⟨t', rfl⟩, q⟩
  cases pl with
  | none => cases pu with
    | none => exact wpAny_getItem_str_slice (l := none) (u := none) (st := none) hs rfl (post_val_or_str ⟨Nat.le_trans (Txt.slice_le z _ _) hz, fun t' k => fin t' k⟩)
    | int j uj => exact wpAny_getItem_str_slice (l := none) (u := some (j, uj)) (st := none) hs rfl (post_val_or_str ⟨Nat.le_trans (Txt.slice_le z _ _) hz, fun t' k => fin t' k⟩)
  | int i ui => cases pu with
    | none => exact wpAny_getItem_str_slice (l := some (i, ui)) (u := none) (st := none) hs rfl (post_val_or_str ⟨Nat.le_trans (Txt.slice_le z _ _) hz, fun t' k => fin t' k⟩)
    | int j uj => exact wpAny_getItem_str_slice (l := some (i, ui)) (u := some (j, uj)) (st := none) hs rfl (post_val_or_str ⟨Nat.le_trans (Txt.slice_le z _ _) hz, fun t' k => fin t' k⟩)
theorem sl_any : SlR X (rSlA X.K) := sl_list.or (sl_tup.or sl_str)
end
end U2

set_option linter.all false
set_option maxRecDepth 100000
namespace U2
open PySem PySem.Spec PyProof.Rows L2

/-- what stands fast of the contexts in which a piece of the text is run -/
structure Dat where
  prog : Program
  w : World
  K : PySem.W.Frag
  mg : Str → Option Value
  base : Heap
  N : List Str
  sc : Scope
  k : Nat
  fn : Bool
structure Has (D : Dat) (X : Cx) : Prop where
  prog : X.prog = D.prog
  w : X.w = D.w
  K : X.K = D.K
  mg : X.mg = D.mg
  base : X.base = D.base
  N : X.N = D.N
  sc : X.env.scope = D.sc
  room : Room D.k X.A
  calm : X.calm = true
  xe : X.xe = fun _ _ => False
  fn : D.fn = true → ∀ x, X.fn x = true
def PEU (D : Dat) (e : Expr) (t' : UE) : Prop := ∃ t, (∀ X, Has D X → PE X e t) ∧ SimE D.K t t'
def PTU (D : Dat) (e : Expr) (t' : UT) : Prop := ∃ t, (∀ X, Has D X → PT X e t) ∧ SimT D.K t t'
def PWU (D : Dat) (e : Expr) (t' : UT) : Prop := ∃ t, (∀ X, Has D X → PW X e t) ∧ SimT D.K t t'
def PAU (D : Dat) (es : List Expr) (t' : UA) : Prop := ∃ t, (∀ X, Has D X → PA X es t) ∧ SimA D.K t t'
def PSU (D : Dat) (s : Stmt) (t' : US) : Prop := ∃ t, (∀ X, Has D X → PS X s t) ∧ SimS D.K t t'
def PSsU (D : Dat) (s : List Stmt) (t' : US) : Prop := ∃ t, (∀ X, Has D X → PSs X s t) ∧ SimS D.K t t'
def PGU (D : Dat) (k : Nat) (e : Expr) (g' : UG) : Prop := ∃ g, (∀ X, Has D X → PG X e g) ∧ SimG D.K g g' ∧ GK k g ∧ ∀ x σ H Q Q', (∀ σ2 H2, Q σ2 H2 → Q' σ2 H2) → g x σ H Q → g x σ H Q'
def PGsU (D : Dat) (k : Nat) (es : List Expr) (g' : UGs) : Prop := ∃ g, (∀ X, Has D X → PGs X es g) ∧ SimGs D.K g g' ∧ GKs k g ∧ ∀ x σ H Q Q', (∀ σ2 H2, Q σ2 H2 → Q' σ2 H2) → g x σ H Q → g x σ H Q'
def PIU (D : Dat) (tg e : Expr) (t' : UI) : Prop := ∃ t, (∀ X, Has D X → PI X tg e t) ∧ SimI D.K t t'
def POU (D : Dat) (e : Option Expr) (t' : UO) : Prop := ∃ t, (∀ X, Has D X → PO X e t) ∧ SimO D.K t t'
def PIfU (D : Dat) (es : List Expr) (t' : UT) : Prop := ∃ t, (∀ X, Has D X → PIf X es t) ∧ SimT D.K t t'

section
variable {D : Dat} {a b c e o : Expr} {ta tb tc te : UE} {pos : Pos}
/-! ### names, constants -/
theorem uv (i : Nat) {x : Str} (hN : D.N[i]? = some x := by rfl) (hv : Vis D.sc x := by first | exact Or.inl rfl | exact Or.inr (Or.inl rfl) | exact Or.inr (Or.inr rfl)) (hd : (x == ("__debug__" : Str)) = false := by decide)
    (hcd : (x == ("__classdict__" : Str)) = false := by decide) : PEU D (.Name x pos) (uVar i) :=
  ⟨_, fun X h => pe_var (by rw [h.N]; exact hN) (by rw [h.sc]; exact hv) hd hcd, sim_var i⟩
theorem un_ {i j} : PEU D (.Constant (.int i) j pos) (uC (.int i)) := ⟨_, fun X h => pe_int, sim_int⟩
theorem ub_ {i j} : PEU D (.Constant (.bool i) j pos) (uC (.bl i)) := ⟨_, fun X h => pe_bl, sim_bl⟩
theorem us_ {i j} : PEU D (.Constant (.str i) j pos) (uC (.str i)) := ⟨_, fun X h => pe_str, sim_str⟩
theorem ug_ref {x : Str} {f : Addr} (hm : D.mg x = some (.ref f)) (hg : D.sc.names.lookup x = some .globalImplicit := by rfl) (hd : (x == ("__debug__" : Str)) = false := by decide) : PEU D (.Name x pos) (uC (.ref f)) :=
  ⟨_, fun X h => pe_glob (v := .ref f) (by show X.env.scope.names.lookup x = _; rw [h.sc]; exact hg) (by rw [h.mg]; exact hm) rfl hd, sim_ref⟩
/-- a built-in type as a value -/
theorem ug_ty {x : Str} {n : String} (hm : D.mg x = none) (hv : bootBuiltins x = some (.type n) := by kernel_rfl) (hg : D.sc.names.lookup x = some .globalImplicit := by rfl) (hn : x ≠ "__name__" := by decide) (hd : (x == ("__debug__" : Str)) = false := by decide) : PEU D (.Name x pos) (uC (.ty n)) :=
  ⟨_, fun X h => pe_bltn (v := .ty n) (by show X.env.scope.names.lookup x = _; rw [h.sc]; exact hg) (by rw [h.mg]; exact hm) hv rfl hn hd, sim_ty⟩
/-! ### operations -/
theorem ue_op {op : Operator} {r : R2} {r' : UR2} (ho : ∀ X, Has D X → OpR X (binaryOp op) r) (hr : SimR2 D.K r r') (ha : PEU D a ta) (hb : PEU D b tb) : PEU D (.BinOp a op b pos) (uOp r' ta tb) := by
  obtain ⟨x, p, s⟩ := ha; obtain ⟨y, q, r⟩ := hb
  exact ⟨_, fun X h => pe_op (ho X h) (p X h) (q X h), sim_op hr s r⟩
theorem ue_sub (ha : PEU D a ta) (hb : PEU D b tb) : PEU D (.BinOp a .Sub b pos) (uOp (uI0 fun i j => .int (i - j)) ta tb) := ue_op (fun _ _ => op_sub) sim_int2 ha hb
theorem ue_mod (ha : PEU D a ta) (hb : PEU D b tb) : PEU D (.BinOp a .Mod b pos) (uOp (uI (fun _ j => 0 < j) fun i j => .int (i % j)) ta tb) := ue_op (fun _ _ => op_mod) sim_int2c ha hb
theorem ue_pow (ha : PEU D a ta) (hb : PEU D b tb) : PEU D (.BinOp a .Pow b pos) (uOp (uI CPow fun i j => .int (i ^ j.toNat)) ta tb) := ue_op (fun _ _ => op_pow) sim_int2c ha hb
def uAdd (o : Bool) : UR2 := fun x y M Q => match x, y with
  | .int i, .int j => Q (.int (i + j)) M
  | .str i, .str j => i.length + j.length ≤ sizeLine ∧ Q (.str (i ++ j)) M
  | .tup us, .tup ws => us.length + ws.length ≤ sizeLine ∧ Q (.tup (us ++ ws)) M
  | x, y => uAddL o x y M Q
def rAddA (K : PySem.W.Frag) : R2 := fun x y H Q => rI0 (fun i j => .int (i + j)) x y H Q ∨ ((∃ i j, x = .str i ∧ y = .str j ∧ i.length + j.length ≤ sizeLine ∧ Q (.str (i ++ j)) H) ∨ (rCatTA K x y H Q ∨ rCatL K x y H Q))
theorem sim_add {K : PySem.W.Frag} {o : Bool} : SimR2 K (rAddA K) (uAdd o) := fun x y u w H M Q' rm ru rw h Q c => by
  unfold uAdd at h
  split at h
  · exact .inl (sim_int2 x y _ _ H M Q' rm ru rw h Q c)
  · exact .inr (.inl (sim_addS x y _ _ H M Q' rm ru rw h Q c))
  · exact .inr (.inr (.inl (sim_addT x y _ _ H M Q' rm ru rw h Q c)))
  · exact .inr (.inr (.inr (sim_addL x y _ _ H M Q' rm ru rw h Q c)))
theorem ue_add (own : Bool := false) (ha : PEU D a ta) (hb : PEU D b tb) : PEU D (.BinOp a .Add b pos) (uOp (uAdd own) ta tb) :=
  ue_op (r := rAddA D.K) (fun X h => by have := op_add.or (op_add_str.or ((op_catTA (X := X)).or (op_catL (X := X)))); rw [h.K] at this; exact this) sim_add ha hb
/-! ### comparisons -/
theorem ue_cmp {op : CmpOp} {r : R2} {r' : UR2} (ho : ∀ X, Has D X → OpR X (compareOp op) r) (hr : SimR2 D.K r r') (ha : PEU D a ta) (hb : PEU D b tb) (hm : behindInMarks op b = false) : PEU D (.Compare a [op] [b] pos) (uOp r' ta tb) := by
  obtain ⟨x, p, s⟩ := ha; obtain ⟨y, q, r⟩ := hb
  exact ⟨_, fun X h => pe_cmpR (ho X h) (p X h) (q X h) hm, sim_op hr s r⟩
theorem ut_cmp {op : CmpOp} {r : R2} {r' : UR2} (ho : ∀ X, Has D X → OpR X (compareOp op) r) (hr : SimR2 D.K r r') (ha : PEU D a ta) (hb : PEU D b tb) (hm : behindInMarks op b = false) : PTU D (.Compare a [op] [b] pos) (uTest (uOp r' ta tb)) := by
  obtain ⟨x, p, s⟩ := ha; obtain ⟨y, q, r⟩ := hb
  exact ⟨_, fun X h => pt_cmpR (ho X h) (p X h) (q X h) hm, sim_test (sim_op hr s r)⟩
abbrev cLt : UR2 := uI0 fun i j => .bl (decide (i < j))
abbrev cLe : UR2 := uI0 fun i j => .bl (decide (i ≤ j))
abbrev cGt : UR2 := uI0 fun i j => .bl (decide (j < i))
abbrev cGe : UR2 := uI0 fun i j => .bl (decide (j ≤ i))
/-- an operation of comparison, with its reading -/
structure Cmp (D : Dat) (op : CmpOp) (r' : UR2) : Prop where
  ex : ∃ r : R2, (∀ X, Has D X → OpR X (compareOp op) r) ∧ SimR2 D.K r r'
theorem k_gt : Cmp D .Gt cGt := ⟨⟨_, fun _ _ => op_gt, sim_bool2⟩⟩
theorem k_ge : Cmp D .GtE cGe := ⟨⟨_, fun _ _ => op_ge, sim_bool2⟩⟩
def inSt (neg : Bool) : UR2 := fun x y M Q => match x, y with
  | .str i, .str j => Q (.bl (if neg then !(!(Builtin.Str.occurrences j i 0 j.length 1).isEmpty) else !(Builtin.Str.occurrences j i 0 j.length 1).isEmpty)) M
  | _, _ => False
theorem ue_c {op : CmpOp} {r' : UR2} (k : Cmp D op r') (ha : PEU D a ta) (hb : PEU D b tb) (hm : behindInMarks op b = false := by first | exact nomark _ | with_unfolding_all rfl) : PEU D (.Compare a [op] [b] pos) (uOp r' ta tb) :=
  let ⟨_, h1, h2⟩ := k.ex; ue_cmp h1 h2 ha hb hm
theorem ut_c {op : CmpOp} {r' : UR2} (k : Cmp D op r') (ha : PEU D a ta) (hb : PEU D b tb) (hm : behindInMarks op b = false := by first | exact nomark _ | with_unfolding_all rfl) : PTU D (.Compare a [op] [b] pos) (uTest (uOp r' ta tb)) :=
  let ⟨_, h1, h2⟩ := k.ex; ut_cmp h1 h2 ha hb hm
/-! ### tests -/
theorem ut_val (ha : PEU D a ta) (he : ∀ env whole, isTrue a env whole = (do let v ← whole; standAt a.pos; holding [v] (truthy v)) := by intro _ _; rfl) : PTU D a (uTru ta) := by
  obtain ⟨x, p, s⟩ := ha
  refine ⟨_, fun X h => ?_, sim_tru s⟩
  have := pt_truth (p X h) (he X.env)
  rw [h.K] at this
  exact this
theorem PWU.pt {t : UT} (h : PWU D a t) : PTU D a t := let ⟨_, p, s⟩ := h; ⟨_, fun X h => (p X h).pt, s⟩
variable {rest : List Expr} {tA tB' : UT}
theorem uw_and1 (ha : PTU D a tA) : PWU D (.BoolOp .And [a] pos) tA := let ⟨_, p, s⟩ := ha; ⟨_, fun X h => pw_and1 (p X h), s⟩
theorem uw_or1 (ha : PTU D a tA) : PWU D (.BoolOp .Or [a] pos) tA := let ⟨_, p, s⟩ := ha; ⟨_, fun X h => pw_or1 (p X h), s⟩
theorem uw_and (ha : PTU D a tA) (hb : PWU D (.BoolOp .And (b :: rest) pos) tB') : PWU D (.BoolOp .And (a :: b :: rest) pos) (uAnd tA tB') := let ⟨_, p, s⟩ := ha; let ⟨_, q, r⟩ := hb; ⟨_, fun X h => pw_and (p X h) (q X h), sim_and s r⟩
theorem uw_or (ha : PTU D a tA) (hb : PWU D (.BoolOp .Or (b :: rest) pos) tB') : PWU D (.BoolOp .Or (a :: b :: rest) pos) (uOr tA tB') := let ⟨_, p, s⟩ := ha; let ⟨_, q, r⟩ := hb; ⟨_, fun X h => pw_or (p X h) (q X h), sim_or s r⟩
theorem ut_not (ha : PTU D a tA) : PTU D (.UnaryOp .Not a pos) (uNot tA) := let ⟨_, p, s⟩ := ha; ⟨_, fun X h => pt_not (p X h), sim_not s⟩
theorem ue_if (hc : PTU D c tA) (ha : PEU D a ta) (hb : PEU D b tb) : PEU D (.IfExp c a b pos) (uIf tA ta tb) := let ⟨_, p, s⟩ := ha; let ⟨_, q, r⟩ := hb; let ⟨_, u, v⟩ := hc; ⟨_, fun X h => pe_ifExp (u X h) (p X h) (q X h), sim_if v s r⟩
/-! ### displays, subscripts -/
variable {es : List Expr} {tas : UA}
theorem ua_nil : PAU D [] uNil := ⟨_, fun X h => pa_nil, sim_nil⟩
theorem ua_cons (ha : PEU D e te) (hr : PAU D es tas) (hs : ∀ env, starEach (e :: es) env = (false, eval e env) :: starEach es env := by intro _; rfl) : PAU D (e :: es) (uCons te tas) := let ⟨_, p, s⟩ := ha; let ⟨_, q, r⟩ := hr; ⟨_, fun X h => pa_cons (p X h) (q X h) (hs _), sim_cons s r⟩
theorem ue_tup {x1} (h : PAU D es tas) : PEU D (.Tuple es x1 pos) (uTup tas) := let ⟨_, p, s⟩ := h; ⟨_, fun X h => pe_tup (p X h), sim_tup s⟩
theorem ue_lst (own : Bool := false) (h : PAU D es tas) : PEU D (.List es pos) (uLst own tas) := let ⟨_, p, s⟩ := h; ⟨_, fun X h => pe_lst (p X h), sim_lst s⟩
theorem ue_ix (ha : PEU D a ta) (hb : PEU D b tb) (hs : PlainIx b := by intro _ _; rfl) : PEU D (.Subscript a b pos) (uOp uIx ta tb) := by
  obtain ⟨x, p, s⟩ := ha; obtain ⟨y, q, r⟩ := hb
  refine ⟨_, fun X h => ?_, sim_op sim_ix s r⟩
  have := pe_ix (pos := pos) ix_seq (p X h) (q X h) hs
  rw [h.K] at this
  exact this
theorem uo_none : POU D none uNoPart := ⟨_, fun X h => po_none, sim_noPart⟩
theorem uo_some (h : PEU D e te) : POU D (some e) (uPart te) := let ⟨_, p, s⟩ := h; ⟨_, fun X h => po_some (p X h), sim_part s⟩
/-! ### statements -/
variable {st : Stmt} {sts body body2 : List Stmt} {t u : US}
theorem uss_nil : PSsU D [] uNext := ⟨_, fun X h => pss_nil, sim_next⟩
theorem uss_cons (h1 : PSU D st t) (h2 : PSsU D sts u) : PSsU D (st :: sts) (uSeq t u) := let ⟨_, p, s⟩ := h1; let ⟨_, q, r⟩ := h2; ⟨_, fun X h => pss_cons (p X h) (q X h), sim_seq s r⟩
theorem uss_one (h1 : PSU D st t) : PSsU D [st] t := let ⟨_, p, s⟩ := h1; ⟨_, fun X h => pss_one (p X h), s⟩
theorem us_expr (he : PEU D e te) (hs : ∀ env, swapsWith e none pos.line env = pure false := by intro _; rfl) : PSU D (.Expr e pos) (uDrop te) := let ⟨_, p, s⟩ := he; ⟨_, fun X h => ps_expr (p X h) (hs _), sim_drop s⟩
theorem us_ret (he : PEU D e te) : PSU D (.Return (some e) pos) (uRet te) := let ⟨_, p, s⟩ := he; ⟨_, fun X h => ps_ret (p X h), sim_ret s⟩
theorem us_if {c : Expr} {tc : UT} (hc : PTU D c tc) (ha : PSsU D body t) (hb : PSsU D body2 u) : PSU D (.If c body body2 pos) (uIfS tc t u) := let ⟨_, p, s⟩ := ha; let ⟨_, q, r⟩ := hb; let ⟨_, x, y⟩ := hc; ⟨_, fun X h => ps_if (x X h) (p X h) (q X h), sim_ifS y s r⟩
/-! targets -/
variable {k : Nat} {g : UG} {gs : UGs}
theorem ug_name (i : Nat) {x : Str} (hN : D.N.Nodup) (hi : D.N[i]? = some x := by rfl) (hx : Loc D.sc x := by first | exact Or.inl rfl | exact Or.inr rfl) (hik : i < k := by decide) (hf : D.fn = true ∨ D.sc.names.lookup x = some .local := by first | exact .inl rfl | exact .inr rfl) : PGU D k (.Name x pos) (hName i) :=
  ⟨_, fun X h => pg_name (i := i) (by rw [h.N]; exact hN) (by rw [h.N]; exact hi) (by rw [h.sc]; exact hx) (by rcases hf with z | z; exact .inl (h.fn z x); exact .inr (by rw [h.sc]; exact z)), sim_gname i, gk_name hik, m_name⟩
theorem ugs_nil : PGsU D k [] hNil := ⟨_, fun X h => pgs_nil, sim_gnil, gk_nil, m_nil⟩
theorem ugs_cons (h1 : PGU D k e g) (h2 : PGsU D k es gs) (hs : ∀ env, (assignEach (e :: es) env).map (·.2) = assign e env :: (assignEach es env).map (·.2) := by intro _; rfl) : PGsU D k (e :: es) (hCons g gs) :=
  let ⟨_, p, s, x, y⟩ := h1; let ⟨_, q, r, z, w⟩ := h2; ⟨_, fun X h => pgs_cons (p X h) (q X h) (hs _), sim_gcons s r, gk_cons x z w y, m_cons y w⟩
theorem ug_tup {kk : Nat} {n : Nat} (h : PGsU D k es gs) (hn : ∀ env, (assignEach es env).length = n := by intro _; rfl) (hst : ∀ env, (assignEach es env).findIdx? (·.1) = none := by intro _; rfl) : PGU D k (.Tuple es kk pos) (hTup n gs) := by
  obtain ⟨_, p, s, x, y⟩ := h
  refine ⟨_, fun X h => ?_, sim_gtup s, gk_tup x, m_tup y⟩
  have := pg_tup (pos := pos) (k := kk) h.calm (p X h) (hn _) (hst _)
  rw [h.K] at this
  exact this
theorem us_set (i : Nat) {x : Str} {pos' : Pos} (hN : D.N.Nodup) (he : PEU D e te) (hi : D.N[i]? = some x := by rfl) (hx : Loc D.sc x := by first | exact Or.inl rfl | exact Or.inr rfl) (hs : ∀ env, swapsWith e (some (.Name x pos')) pos.line env = pure false := by intro _; rfl)
    (hf : D.fn = true ∨ D.sc.names.lookup x = some .local := by first | exact .inl rfl | exact .inr rfl) : PSU D (.Assign [.Name x pos'] e pos) (uAsg te (hName i)) := by
  obtain ⟨_, p, s⟩ := he
  exact ⟨_, fun X h => ps_set (i := i) (by rw [h.N]; exact hN) (by rw [h.N]; exact hi) (by rw [h.sc]; exact hx) (p X h) (hs _) (by rcases hf with z | z; exact .inl (h.fn z x); exact .inr (by rw [h.sc]; exact z)), sim_asg s (sim_gname i)⟩
/-! loops -/
variable {tg iter : Expr} {wi : UI}
theorem ui_seq (h : PEU D e te) : PIU D tg e (uIter te) := by
  obtain ⟨_, p, s⟩ := h
  refine ⟨_, fun X h => ?_, sim_iter s⟩
  have := pi_seq (tg := tg) (p X h)
  rw [h.K] at this
  exact this
theorem ui_rng1 {p : Pos} {ta : UA} (hm : D.mg "range" = none) (ha : PAU D [a] ta) (hg : D.sc.names.lookup ("range" : Str) = some .globalImplicit := by rfl) (hs : ∀ env, starEach [a] env = [(false, eval a env)] := by intro _; rfl) : PIU D tg (.Call (.Name "range" p) [a] [] pos) (uRng1 ta) := by
  obtain ⟨_, q, s⟩ := ha
  exact ⟨_, fun X h => pi_range1 (by show X.env.scope.names.lookup _ = _; rw [h.sc]; exact hg) (by rw [h.mg]; exact hm) (q X h) (hs _), sim_rng1 s⟩
theorem us_for (hi : PIU D tg iter wi) (hg : PGU D k tg g) (hb : PSsU D body t) (hs : ∀ env x, foldedSetIterable iter env x = pure x := by intro _ _; rfl) : PSU D (.For tg iter body [] pos) (uFor wi g t) := by
  obtain ⟨_, p, s⟩ := hi; obtain ⟨_, q, r, _⟩ := hg; obtain ⟨_, x, y⟩ := hb
  exact ⟨_, fun X h => ps_for (by rw [h.xe]; exact PassesOwn.never) h.calm (p X h) (q X h) (x X h) (hs _), sim_for s r y⟩
end
end U2

set_option linter.all false
set_option maxRecDepth 100000
namespace U2
open PySem PySem.Spec PyProof.Rows L2

/-! ### calls of the text's defs -/
/-- a global name is a def that keeps a promise about data, with j calls -/
structure Callee (P : Program) (w : World) (K : PySem.W.Frag) (mg : Str → Option Value) (base : Heap) (j : Nat) (x : Str) (sp : USp) (dus : List U) : Prop where
  ex : ∃ f fd ps dvs ds, FnOk P w K mg base CX0 j f fd ps (liftSp K sp) ∧ mg x = some (.ref f) ∧ PySem.W.keepIn K (.ref f) = true ∧ Binds K fd ps ds ∧ Vals dvs ds ∧ ∀ H M, RelUs K H M dus dvs
abbrev Cal (D : Dat) := Callee D.prog D.w D.K D.mg D.base
section
variable {D : Dat} {a b c e o : Expr} {ta tb tc te : UE} {pos p : Pos} {es : List Expr} {tas : UA} {x : Str}
theorem ue_call {sp : USp} {dus : List U} {j : Nat} (F : Cal D j x sp dus) (ha : PAU D (e :: es) tas) (hj : j ≤ D.k := by first | exact Nat.le_refl _ | (dsimp only; omega) | omega | (dsimp only [compD]; omega)) (hg : D.sc.names.lookup x = some .globalImplicit := by rfl) (hdb : (x == ("__debug__" : Str)) = false := by decide)
    (he : ∀ env, starEach (e :: es) env = (false, eval e env) :: starEach es env := by intro _; rfl) (hpl : ∀ env, (backTo pos (starEach es env)).any (·.1) = false := by intro _; rfl) : PEU D (.Call (.Name x p) (e :: es) [] pos) (uCall sp dus tas) := by
  obtain ⟨f, fd, ps, dvs, ds, F, hm, kp, hb, hd, hr⟩ := F.ex
  obtain ⟨_, q, s⟩ := ha
  refine ⟨tCall (liftSp D.K sp) dvs E0 _, fun X h => ?_, sim_call hr s⟩
  have F' : FnOk X.prog X.w X.K X.mg X.base CX0 j f fd ps (liftSp D.K sp) := by rw [h.prog, h.w, h.K, h.mg, h.base]; exact F
  exact pe_call F' (h.room.mono hj) (by show X.env.scope.names.lookup x = _; rw [h.sc]; exact hg) (by rw [h.mg]; exact hm) (by rw [h.K]; exact kp) (by rw [h.K]; exact hb) hd pass0 (q X h) hdb (he _) (hpl _)
/-! ### built-ins -/
structure Blt (D : Dat) (f : Value) (r' : List U → MHp → UK → Prop) : Prop where
  ex : ∃ r, (∀ X, Has D X → CallR X f r) ∧ SimCl D.K r r'
theorem ue_b {id : String} {r' : List U → MHp → UK → Prop} (k : Blt D (.builtin id) r') (hm : D.mg x = none) (ha : PAU D (e :: es) tas) (hv : bootBuiltins x = some (.builtin id) := by kernel_rfl) (hg : D.sc.names.lookup x = some .globalImplicit := by rfl) (hn : x ≠ "__name__" := by decide) (hdb : (x == ("__debug__" : Str)) = false := by decide)
    (he : ∀ env, starEach (e :: es) env = (false, eval e env) :: starEach es env := by intro _; rfl) (hpl : ∀ env, (backTo pos (starEach es env)).any (·.1) = false := by intro _; rfl) : PEU D (.Call (.Name x p) (e :: es) [] pos) (uCB r' tas) := by
  obtain ⟨r, h1, h2⟩ := k.ex
  obtain ⟨_, q, s⟩ := ha
  exact ⟨_, fun X h => pe_callB (h1 X h) (by show X.env.scope.names.lookup x = _; rw [h.sc]; exact hg) (by rw [h.mg]; exact hm) hv (q X h) hn hdb (he _) (hpl _), sim_cb h2 s⟩
theorem ue_t {T : String} {r' : List U → MHp → UK → Prop} (k : Blt D (.type T) r') (hm : D.mg x = none) (ha : PAU D (e :: es) tas) (hv : bootBuiltins x = some (.type T) := by kernel_rfl) (hg : D.sc.names.lookup x = some .globalImplicit := by rfl) (hn : x ≠ "__name__" := by decide) (hdb : (x == ("__debug__" : Str)) = false := by decide)
    (he : ∀ env, starEach (e :: es) env = (false, eval e env) :: starEach es env := by intro _; rfl) (hpl : ∀ env, (backTo pos (starEach es env)).any (·.1) = false := by intro _; rfl) : PEU D (.Call (.Name x p) (e :: es) [] pos) (uCB r' tas) := by
  obtain ⟨r, h1, h2⟩ := k.ex
  obtain ⟨_, q, s⟩ := ha
  exact ⟨_, fun X h => pe_callTy (h1 X h) (by show X.env.scope.names.lookup x = _; rw [h.sc]; exact hg) (by rw [h.mg]; exact hm) hv (q X h) hn hdb (he _) (hpl _), sim_cb h2 s⟩
theorem b_len : Blt D (.builtin "len") bLen := ⟨⟨_, fun X h => by have := call_len (X := X); rw [h.K] at this; exact this, sim_len⟩⟩
theorem b_list (own : Bool := false) : Blt D (.type "list") (bList own) := ⟨⟨_, fun X h => by have := call_list_of (X := X); rw [h.K] at this; exact this, sim_list⟩⟩
theorem b_tuple : Blt D (.type "tuple") bTuple := ⟨⟨_, fun X h => by have := call_tuple_of (X := X); rw [h.K] at this; exact this, sim_tuple⟩⟩
/-! isinstance against a built-in type -/
def rIsi (K : PySem.W.Frag) : List V → Hp → VK → Prop := fun xs H Q => ∃ x T t b, xs = [x, .ty T] ∧ (TyOf K H x (.type t) ∨ (t = "tuple" ∧ ∃ p vs ob, x = .ref p ∧ H p = some (.frz ob (.tup vs))) ∨ (t = "tuple" ∧ ∃ p vs, x = .ref p ∧ KT K p vs) ∨ (t = "list" ∧ ∃ p vs, x = .ref p ∧ KL K p vs)) ∧ PySem.W.kitOne K (.type t) (.type T) = some b ∧ Q (.bl b) H
theorem call_isi {X : Cx} : CallR X (.builtin "isinstance") (rIsi X.K) := by
  intro pins s σ H xs us Q I r h
  obtain ⟨x, T, t, b, rfl, ty, e, q⟩ := h
  obtain ⟨u, w', rfl, ru, rw'⟩ := vals2 r
  cases rw'
  rcases ty with ty | ⟨rfl, p, vs, ob, rfl, m⟩ | ⟨rfl, p, vs, rfl, o, its, n, hk, hc, hd, _, _⟩ | ⟨rfl, p, vs, rfl, o, its, n, hk, hc, _, hd, _, _⟩
  · exact isinst_ok I ru ty e fun tk => ⟨.bl b, H, I.tok tk, rfl, q⟩
  · cases ru
    obtain ⟨_, _, _, _, o, h1, h2, _⟩ := (show ObjOk X.prog X.w H s.heap p (.frz ob (.tup vs)) from I.hok p _ m)
    exact PySem.W.kia_one PySem.W.kitx_tuple I.kIn ⟨o, h1, h2⟩ e (fun z => nomatch z) fun tk => ⟨.bl b, H, I.tok tk, rfl, q⟩
  · cases ru
    exact PySem.W.kia_one PySem.W.kitx_tuple I.kIn ⟨o, I.kIn _ _ hk, hc⟩ e (fun z => nomatch z) fun tk => ⟨.bl b, H, I.tok tk, rfl, q⟩
  · cases ru
    exact PySem.W.kia_one PySem.W.kitx_list I.kIn ⟨o, I.kIn _ _ hk, hc⟩ e (fun z => nomatch z) fun tk => ⟨.bl b, H, I.tok tk, rfl, q⟩

def isiTab : List (String × String × Bool) := [("NoneType", "bool", false), ("NoneType", "int", false), ("NoneType", "str", false), ("NoneType", "tuple", false), ("NoneType", "list", false), ("NoneType", "dict", false), ("bool", "bool", true), ("bool", "int", true), ("bool", "str", false), ("bool", "tuple", false), ("bool", "list", false), ("bool", "dict", false), ("int", "bool", false), ("int", "int", true), ("int", "str", false), ("int", "tuple", false), ("int", "list", false), ("int", "dict", false), ("str", "bool", false), ("str", "int", false), ("str", "str", true), ("str", "tuple", false), ("str", "list", false), ("str", "dict", false), ("tuple", "bool", false), ("tuple", "int", false), ("tuple", "str", false), ("tuple", "tuple", true), ("tuple", "list", false), ("tuple", "dict", false), ("list", "bool", false), ("list", "int", false), ("list", "str", false), ("list", "tuple", false), ("list", "list", true), ("list", "dict", false), ("dict", "bool", false), ("dict", "int", false), ("dict", "str", false), ("dict", "tuple", false), ("dict", "list", false), ("dict", "dict", true)]
theorem isiTab_ok {K : PySem.W.Frag} : ∀ r ∈ isiTab, PySem.W.kitOne K (.type r.1) (.type r.2.1) = some r.2.2 := by
  intro r hr
  simp only [isiTab, List.mem_cons, List.not_mem_nil, or_false] at hr
  rcases hr with rfl | rfl | rfl | rfl | rfl | rfl | rfl | rfl | rfl | rfl | rfl | rfl | rfl | rfl | rfl | rfl | rfl | rfl | rfl | rfl | rfl | rfl | rfl | rfl | rfl | rfl | rfl | rfl | rfl | rfl | rfl | rfl | rfl | rfl | rfl | rfl | rfl | rfl | rfl | rfl | rfl | rfl <;> first | rfl | kernel_rfl
def under2 (t T : String) : Option Bool := (isiTab.find? fun r => r.1 == t && r.2.1 == T).map (·.2.2)
theorem under2_ok {K : PySem.W.Frag} {t T : String} {b : Bool} (h : under2 t T = some b) : PySem.W.kitOne K (.type t) (.type T) = some b := by
  unfold under2 at h
  cases e : isiTab.find? fun r => r.1 == t && r.2.1 == T with
  | none => rw [e] at h; cases h
  | some r =>
    rw [e] at h
    cases h
    have h1 := List.find?_some e
    have h2 := isiTab_ok (K := K) r (List.mem_of_find?_eq_some e)
    simp only [Bool.and_eq_true, beq_iff_eq] at h1
    rw [h1.1, h1.2] at h2
    exact h2
def bIsi2 : List U → MHp → UK → Prop := fun us M Q => match us with
  | [x, .ty T] => match typU M x with
    | some t => match under2 t T with
      | some b => Q (.bl b) M
      | none => False
    | none => False
  | _ => False
theorem sim_isi {K : PySem.W.Frag} : SimCl K (rIsi K) bIsi2 := fun xs us H M Q' rm rus h Q c => by
  unfold bIsi2 at h
  split at h
  · rename_i x T
    split at h
    · rename_i t e
      split at h
      · rename_i b e2
        obtain ⟨v, z, rfl, a1, a2⟩ := rus.two
        cases a2.ty
        refine ⟨v, T, t, b, rfl, ?_, under2_ok e2, c.here rm relU_bl h⟩
        cases x with
        | non => cases a1.non; cases e; exact .inl .non
        | bl y => cases a1.bl; cases e; exact .inl (.bl y)
        | int y => cases a1.int; cases e; exact .inl (.int y)
        | str y => cases a1.str; cases e; exact .inl (.str y)
        | ty y => cases e
        | tup y =>
          cases e
          simp only [RelU] at a1
          obtain ⟨a, vs, rfl, m, r⟩ := a1
          rcases m with ⟨_, m | ⟨ob, m⟩⟩ | k
          · exact .inl (.tup m)
          · exact .inr (.inl ⟨rfl, a, vs, ob, rfl, m⟩)
          · exact .inr (.inr (.inl ⟨rfl, a, vs, rfl, k⟩))
        | lst y =>
          cases e
          simp only [RelU] at a1
          obtain ⟨a, vs, rfl, m, r⟩ := a1
          rcases m with ⟨_, m | ⟨ob, m⟩⟩ | k
          · exact .inl (.lst m)
          · exact .inl (.frz m)
          · exact .inr (.inr (.inr ⟨rfl, a, vs, rfl, k⟩))
        | ref y =>
          cases a1.ref
          simp only [typU] at e
          split at e
          · rename_i ws e3
            cases e
            obtain ⟨vs, h1, _⟩ := rm y _ e3
            exact .inl (.lst h1)
          · rename_i mo e3 e4
            cases e
            cases mo with
            | lst ws => exact absurd rfl (e3 ws)
            | dK ws => obtain ⟨vs, h1, _⟩ := rm y _ e4; exact .inl (.dK h1)
            | dT ws => obtain ⟨vs, h1, _⟩ := rm y _ e4; exact .inl (.dT h1)
          · cases e
      · exact h.elim
    · exact h.elim
  · exact h.elim
theorem b_isi : Blt D (.builtin "isinstance") bIsi2 := ⟨⟨_, fun X h => by have := call_isi (X := X); rw [h.K] at this; exact this, sim_isi⟩⟩
/-- all of a list of truths -/
def blsU : List U → Option (List Bool)
  | [] => some []
  | .bl b :: r => (blsU r).map (b :: ·)
  | _ => none
def bAll : List U → MHp → UK → Prop := fun us M Q => match us with
  | [x] => match view M x with
    | .lst ws => match blsU ws with
      | some bs => Q (.bl (bs.all fun b => b)) M
      | none => False
    | _ => False
  | _ => False
theorem blsU_rel {K : PySem.W.Frag} {H : Hp} {M : MHp} : ∀ {us : List U} {vs : List V} {bs : List Bool}, RelUs K H M us vs → blsU us = some bs → vs = bs.map V.bl
  | [], _, _, r, h => by cases h; exact r.inv_nil
  | u :: us, _, bs, r, h => by
    obtain ⟨v, vs', rfl, a, b⟩ := r.inv_cons
    cases u with
    | bl y =>
      simp only [blsU] at h
      cases e : blsU us with
      | none => rw [e] at h; cases h
      | some cs =>
        rw [e] at h
        cases h
        rw [blsU_rel b e, a.bl]; rfl
    | _ => cases h
/-! ### slices -/
/-! ### methods of lists -/
theorem ue_append {apos : Pos} (ho : PEU D o ta) (ha : PAU D [e] tas) (hbase : ∀ env, attributeBase o "append" env (eval o env) = eval o env := by intro _; rfl)
    (hfew : ∀ env, ((backTo pos (starEach [e] env)).all (fun x => !x.1) && (backToKw pos (keywordEach [] env)).all (fun x => x.1.isSome) && decide ([e].length + ([] : List Keyword).length + (if ([] : List Keyword).isEmpty then 0 else 1) < 30)) = true := by intro _; rfl)
    (hline : (apos.endLine == pos.line) = true := by rfl) (hs : ∀ env, starEach [e] env = [(false, eval e env)] := by intro _; rfl) : PEU D (.Call (.Attribute o "append" apos) [e] [] pos) (uBM mAppend ta tas) := by
  obtain ⟨_, p, s⟩ := ho; obtain ⟨_, q, r⟩ := ha
  refine ⟨_, fun X h => ?_, sim_bm sim_append s r⟩
  have := pe_bm (cpos := pos) (apos := apos) PySem.F.plainAttrs_list PySem.F.slot_list_append PySem.F.type_list_append mt_append (p X h) (q X h) (hbase _) (hfew _) hline (hs _) (by rfl)
  rw [h.K] at this
  exact this
/-! ### comprehensions -/
def relabelSc (scope sc : Scope) : Scope :=
  { scope with names := scope.names.map fun (n, k) => if (k == .free && sc.kind == .function && sc.names.lookup n == some .cell) then (n, .cell) else (n, k) }
def compD (D : Dat) (N : List Str) (scope : Scope) : Dat := { D with N := N, sc := relabelSc scope D.sc, fn := false }
theorem Has.comp {X : Cx} (h : Has D X) (N : List Str) (scope : Scope) (cl : List (Str × Addr)) (C : Addr) (s : Shared) (H : Hp) (fp : List Addr) : Has (compD D N scope) (compCx X N scope cl C s H fp) :=
  ⟨h.prog, h.w, h.K, h.mg, h.base, rfl, by show relabelSc scope X.env.scope = relabelSc scope D.sc; rw [h.sc], h.room, h.calm, rfl, fun z => by cases z⟩
theorem uif_nil : PIfU D [] (fun _ M Q => Q true M) := ⟨tYes, fun X h => pif_nil, fun σ τ H M Q' rs rm q Q c => c true M H (Stp.refl _ _) rm q⟩
theorem ue_comp (own : Bool) (N : List Str) (k : Nat) (ix : List Nat) {scope : Scope} {tg iter elt : Expr} {ifs : List Expr} {wi : UI} {g : UG} {tcs : UT} (hi : PIU D tg iter wi) (hg : PGU (compD D N scope) k tg g) (hif : PIfU (compD D N scope) ifs tcs) (he : PEU (compD D N scope) elt te)
    (hk : scope.kind = .function := by rfl) (hcell : ∀ y ∈ scope.names, y.2 ≠ .cell := by first | decide +kernel | (dsimp only; decide +kernel) | (dsimp only [compD, relabelSc]; decide +kernel)) (hnames : ∀ y ∈ scope.names, y.2 = .local → scope.names.lookup y.1 = some .local := by first | decide +kernel | (dsimp only; decide +kernel) | (dsimp only [compD, relabelSc]; decide +kernel))
    (hfree : ∀ y ∈ scope.names, y.2 = .free → D.sc.names.lookup y.1 = some .cell ∨ D.sc.names.lookup y.1 = some .free := by first | decide +kernel | (dsimp only; decide +kernel) | (dsimp only [compD, relabelSc]; decide +kernel)) (hone : ∀ y ∈ scope.names, y.2 = .free → scope.names.lookup y.1 = some .free := by first | decide +kernel | (dsimp only; decide +kernel) | (dsimp only [compD, relabelSc]; decide +kernel))
    (hN : ix.map (fun i => D.N[i]?) = (N.drop k).map some := by rfl) (hcap : ∀ x ∈ N.drop k, scope.names.lookup x = some .free := by first | decide +kernel | (dsimp only; decide +kernel) | (dsimp only [compD, relabelSc]; decide +kernel)) (hlen : N.length = k + ix.length := by rfl)
    (hs : ∀ env x, foldedSetIterable iter env x = pure x := by intro _ _; rfl) : PEU D (.ListComp elt [⟨tg, iter, ifs, 0⟩] scope pos) (uComp own k ix wi g tcs te) := by
  obtain ⟨_, p1, s1⟩ := hi; obtain ⟨_, p2, s2, gk, _⟩ := hg; obtain ⟨_, p3, s3⟩ := hif; obtain ⟨_, p4, s4⟩ := he
  have hN' : ∀ (j : Nat) x, N[k + j]? = some x → ∃ i, ix[j]? = some i ∧ D.N[i]? = some x := fun j x e => by
    have e1 : ((N.drop k).map some)[j]? = some (some x) := by rw [List.getElem?_map, List.getElem?_drop, e]; rfl
    rw [← hN, List.getElem?_map] at e1
    cases q : ix[j]? with
    | none => rw [q] at e1; cases e1
    | some i => rw [q] at e1; exact ⟨i, rfl, Option.some.inj e1⟩
  have hcap' : ∀ (j : Nat) x, N[k + j]? = some x → scope.names.lookup x = some .free := fun j x e => hcap x (List.mem_of_getElem? (i := j) (by rw [List.getElem?_drop]; exact e))
  refine ⟨_, fun X h => pe_comp (N := N) (k := k) (ix := ix) h.calm (p1 X h) gk hk hcell hnames (fun y hy e => by show X.env.scope.names.lookup y.1 = _ ∨ X.env.scope.names.lookup y.1 = _; rw [h.sc]; exact hfree y hy e) hone (fun j x e => by rw [h.N]; exact hN' j x e) hcap' hlen
    (fun cl C s H fp => p2 _ (h.comp N scope cl C s H fp)) (fun cl C s H fp => p3 _ (h.comp N scope cl C s H fp)) (fun cl C s H fp => p4 _ (h.comp N scope cl C s H fp)) (hs _), sim_comp s1 s2 s3 s4⟩
theorem swaps_of {elt : Expr} {gens : List Comprehension} {scope : Scope} {pos py : Pos} {y : Str} {line : Nat} {env : Env} (h1 : env.scope.kind = .function) (h2 : env.scope.names.lookup y = some .local) (h3 : (py.line == pos.line && !(scope.names.any fun (n, k) => n == y && (k == .local || k == .cell))) = true) :
    swapsWith (.ListComp elt gens scope pos) (some (.Name y py)) line env = pure true := by
  have e1 : (env.blockKind == .function) = true := by first | (unfold Env.blockKind; rw [h1]; rfl) | (unfold Env.blockKind; simp [h1])
  have e2 : (env.kindOf y == some .local) = true := by unfold Env.kindOf; rw [h2]; rfl
  show pure (env.blockKind == .function && env.kindOf y == some .local && py.line == pos.line && !(scope.names.any fun (n, k) => n == y && (k == .local || k == .cell))) = pure true
  rw [e1, e2]
  simp only [Bool.and_eq_true] at h3
  rw [h3.1, h3.2]
  rfl
theorem us_setC (i : Nat) {y : Str} {spos py : Pos} (hNd : D.N.Nodup) (own : Bool) (N : List Str) (k : Nat) (ix : List Nat) {scope : Scope} {tg iter elt : Expr} {ifs : List Expr} {wi : UI} {g : UG} {tcs : UT} (hi : PIU D tg iter wi) (hg : PGU (compD D N scope) k tg g) (hif : PIfU (compD D N scope) ifs tcs) (he : PEU (compD D N scope) elt te)
    (hk : scope.kind = .function := by rfl) (hcell : ∀ y ∈ scope.names, y.2 ≠ .cell := by first | decide +kernel | (dsimp only; decide +kernel) | (dsimp only [compD, relabelSc]; decide +kernel)) (hnames : ∀ y ∈ scope.names, y.2 = .local → scope.names.lookup y.1 = some .local := by first | decide +kernel | (dsimp only; decide +kernel) | (dsimp only [compD, relabelSc]; decide +kernel))
    (hfree : ∀ y ∈ scope.names, y.2 = .free → D.sc.names.lookup y.1 = some .cell ∨ D.sc.names.lookup y.1 = some .free := by first | decide +kernel | (dsimp only; decide +kernel) | (dsimp only [compD, relabelSc]; decide +kernel)) (hone : ∀ y ∈ scope.names, y.2 = .free → scope.names.lookup y.1 = some .free := by first | decide +kernel | (dsimp only; decide +kernel) | (dsimp only [compD, relabelSc]; decide +kernel))
    (hN : ix.map (fun i => D.N[i]?) = (N.drop k).map some := by rfl) (hcap : ∀ x ∈ N.drop k, scope.names.lookup x = some .free := by first | decide +kernel | (dsimp only; decide +kernel) | (dsimp only [compD, relabelSc]; decide +kernel)) (hlen : N.length = k + ix.length := by rfl)
    (hs : ∀ env x, foldedSetIterable iter env x = pure x := by intro _ _; rfl) (hl1 : D.sc.kind = .function := by rfl) (hl2 : D.sc.names.lookup y = some .local := by rfl) (hl3 : (py.line == pos.line && !(scope.names.any fun (n, k) => n == y && (k == .local || k == .cell))) = true := by decide +kernel)
    (hiy : D.N[i]? = some y := by rfl) (hy : Loc D.sc y := by first | exact Or.inl rfl | exact Or.inr rfl) (hf : D.fn = true ∨ D.sc.names.lookup y = some .local := by first | exact .inl rfl | exact .inr rfl) : PSU D (.Assign [.Name y py] (.ListComp elt [⟨tg, iter, ifs, 0⟩] scope pos) spos) (uAsg (uComp own k ix wi g tcs te) (hName i)) := by
  obtain ⟨_, p1, s1⟩ := hi; obtain ⟨_, p2, s2, gk, _⟩ := hg; obtain ⟨_, p3, s3⟩ := hif; obtain ⟨_, p4, s4⟩ := he
  have hN' : ∀ (j : Nat) x, N[k + j]? = some x → ∃ i, ix[j]? = some i ∧ D.N[i]? = some x := fun j x e => by
    have e1 : ((N.drop k).map some)[j]? = some (some x) := by rw [List.getElem?_map, List.getElem?_drop, e]; rfl
    rw [← hN, List.getElem?_map] at e1
    cases q : ix[j]? with
    | none => rw [q] at e1; cases e1
    | some i => rw [q] at e1; exact ⟨i, rfl, Option.some.inj e1⟩
  have hcap' : ∀ (j : Nat) x, N[k + j]? = some x → scope.names.lookup x = some .free := fun j x e => hcap x (List.mem_of_getElem? (i := j) (by rw [List.getElem?_drop]; exact e))
  refine ⟨_, fun X h => ps_comp (i := i) (N := N) (k := k) (ix := ix) h.calm (p1 X h) gk hk hcell hnames (fun y hy e => by show X.env.scope.names.lookup y.1 = _ ∨ X.env.scope.names.lookup y.1 = _; rw [h.sc]; exact hfree y hy e) hone (fun j x e => by rw [h.N]; exact hN' j x e) hcap' hlen
    (fun cl C s H fp => p2 _ (h.comp N scope cl C s H fp)) (fun cl C s H fp => p3 _ (h.comp N scope cl C s H fp)) (fun cl C s H fp => p4 _ (h.comp N scope cl C s H fp)) (hs _) (swaps_of (by rw [h.sc]; exact hl1) (by rw [h.sc]; exact hl2) hl3) (by rw [h.N]; exact hNd) (by rw [h.N]; exact hiy) (by rw [h.sc]; exact hy) (by rcases hf with z | z; exact .inl (h.fn z y); exact .inr (by rw [h.sc]; exact z)), sim_asg (sim_comp s1 s2 s3 s4) (sim_gname i)⟩
end
/-! ### a def of the text -/
section
variable {P : Program} {w : World} {K : PySem.W.Frag} {mg : Str → Option Value} {base : Heap}
theorem start_rel {H : Hp} {M : MHp} {N : List Str} {us : List U} {vs : List V} (r : RelUs K H M us vs) : RelS K H M (L2.start N vs) (startU N us) := by
  have hl := r.length
  refine ⟨by simp [L2.start, startU, hl], fun i u e => ?_⟩
  unfold startU at e
  unfold L2.start
  by_cases hi : i < us.length
  · rw [List.getElem?_append_left (by simpa using hi), List.getElem?_map] at e
    cases q : us[i]? with
    | none => rw [q] at e; cases e
    | some u' =>
      rw [q] at e
      cases e
      obtain ⟨v, h1, h2⟩ := r.get q
      exact ⟨v, by rw [List.getElem?_append_left (by rw [List.length_map]; omega), List.getElem?_map, h1]; rfl, h2⟩
  · rw [List.getElem?_append_right (by simpa using hi), List.getElem?_replicate] at e
    split at e <;> cases e
theorem fnok_of {x : Str} {st : Stmt} {f : Addr} {fd : FuncData} {N ps : List Str} {k : Nat} {sp : USp} {t : US} (F : Fun K x x st f fd) (S : FnScope N ps (defScope st))
    (len : ∀ us M Q, sp us M Q → us.length = ps.length)
    (h : PSsU ⟨P, w, K, mg, base, N, defScope st, k, true⟩ (defBody st) t)
    (q : ∀ us M Q, sp us M Q → t { nx := fun _ M' => rtU Q .non M', rt := rtU Q } (startU N us) M) : FnOk P w K mg base CX0 (k + 1) f fd ps (liftSp K sp) := by
  obtain ⟨t0, h1, h2⟩ := h
  refine F.ok S (fun vs H Q E ⟨us, M, Q', _, r, hs, _⟩ => by rw [← r.length]; exact len us M Q' hs) (fun cdv A outer s H vs Q E hr ⟨us, M, Q', rm, r, hs, c⟩ => ?_)
  refine ⟨t0, h1 _ ⟨rfl, rfl, rfl, rfl, rfl, rfl, rfl, hr, rfl, rfl, fun _ _ => rfl⟩, ?_⟩
  refine h2 _ (startU N us) H M _ (start_rel r) rm (q us M Q' hs) _ ⟨fun σ τ H1 M1 s1 rm1 rs1 q1 => ?_, fun u v H1 M1 s1 rm1 ru q1 => rtU.ok c s1 rm1 ru q1, fun _ _ _ _ _ _ _ z => z.elim, fun _ _ _ _ _ _ _ z => z.elim⟩
  exact rtU.ok c s1 rm1 relU_non q1
theorem callee_of {x : Str} {st : Stmt} {f : Addr} {fd : FuncData} {N ps : List Str} {k : Nat} {sp : USp} {t : US} (F : Fun K x x st f fd) (hm : mg x = some (.ref f)) (S : FnScope N ps (defScope st))
    (bind : ∀ (kV doc pm : Value) (an : Option Addr) (cdv ct : Value) (us : List Value), us.length = ps.length → bindArgs (PySem.W.fnOf x x (defArgs st) (defBody st) (defScope st) .none kV doc pm an cdv ct) ⟨us, []⟩ = pure (ps.zip us))
    (len : ∀ us M Q, sp us M Q → us.length = ps.length)
    (h : PSsU ⟨P, w, K, mg, base, N, defScope st, k, true⟩ (defBody st) t)
    (q : ∀ us M Q, sp us M Q → t { nx := fun _ M' => rtU Q .non M', rt := rtU Q } (startU N us) M) : Callee P w K mg base (k + 1) x sp [] := by
  obtain ⟨t0, h1, h2⟩ := h
  refine ⟨f, fd, ps, [], [], F.ok S (fun vs H Q E ⟨us, M, Q', _, r, hs, _⟩ => by rw [← r.length]; exact len us M Q' hs) (fun cdv A outer s H vs Q E hr ⟨us, M, Q', rm, r, hs, c⟩ => ?_), hm, F.kp, F.binds bind, .nil, fun H M => .nil⟩
  refine ⟨t0, h1 _ ⟨rfl, rfl, rfl, rfl, rfl, rfl, rfl, hr, rfl, rfl, fun _ _ => rfl⟩, ?_⟩
  refine h2 _ (startU N us) H M _ (start_rel r) rm (q us M Q' hs) _ ⟨fun σ τ H1 M1 s1 rm1 rs1 q1 => ?_, fun u v H1 M1 s1 rm1 ru q1 => rtU.ok c s1 rm1 ru q1, fun _ _ _ _ _ _ _ z => z.elim, fun _ _ _ _ _ _ _ z => z.elim⟩
  exact rtU.ok c s1 rm1 relU_non q1
end
end U2

set_option linter.all false
namespace U2
open PySem L2
theorem isi_NoneType_bool : under2 "NoneType" "bool" = some false := by decide +kernel
theorem isi_NoneType_int : under2 "NoneType" "int" = some false := by decide +kernel
theorem isi_NoneType_str : under2 "NoneType" "str" = some false := by decide +kernel
theorem isi_NoneType_tuple : under2 "NoneType" "tuple" = some false := by decide +kernel
theorem isi_NoneType_list : under2 "NoneType" "list" = some false := by decide +kernel
theorem isi_NoneType_dict : under2 "NoneType" "dict" = some false := by decide +kernel
theorem isi_bool_bool : under2 "bool" "bool" = some true := by decide +kernel
theorem isi_bool_int : under2 "bool" "int" = some true := by decide +kernel
theorem isi_bool_str : under2 "bool" "str" = some false := by decide +kernel
theorem isi_bool_tuple : under2 "bool" "tuple" = some false := by decide +kernel
theorem isi_bool_list : under2 "bool" "list" = some false := by decide +kernel
theorem isi_bool_dict : under2 "bool" "dict" = some false := by decide +kernel
theorem isi_int_bool : under2 "int" "bool" = some false := by decide +kernel
theorem isi_int_int : under2 "int" "int" = some true := by decide +kernel
theorem isi_int_str : under2 "int" "str" = some false := by decide +kernel
theorem isi_int_tuple : under2 "int" "tuple" = some false := by decide +kernel
theorem isi_int_list : under2 "int" "list" = some false := by decide +kernel
theorem isi_int_dict : under2 "int" "dict" = some false := by decide +kernel
theorem isi_str_bool : under2 "str" "bool" = some false := by decide +kernel
theorem isi_str_int : under2 "str" "int" = some false := by decide +kernel
theorem isi_str_str : under2 "str" "str" = some true := by decide +kernel
theorem isi_str_tuple : under2 "str" "tuple" = some false := by decide +kernel
theorem isi_str_list : under2 "str" "list" = some false := by decide +kernel
theorem isi_str_dict : under2 "str" "dict" = some false := by decide +kernel
theorem isi_tuple_bool : under2 "tuple" "bool" = some false := by decide +kernel
theorem isi_tuple_int : under2 "tuple" "int" = some false := by decide +kernel
theorem isi_tuple_str : under2 "tuple" "str" = some false := by decide +kernel
theorem isi_tuple_tuple : under2 "tuple" "tuple" = some true := by decide +kernel
theorem isi_tuple_list : under2 "tuple" "list" = some false := by decide +kernel
theorem isi_tuple_dict : under2 "tuple" "dict" = some false := by decide +kernel
theorem isi_list_bool : under2 "list" "bool" = some false := by decide +kernel
theorem isi_list_int : under2 "list" "int" = some false := by decide +kernel
theorem isi_list_str : under2 "list" "str" = some false := by decide +kernel
theorem isi_list_tuple : under2 "list" "tuple" = some false := by decide +kernel
theorem isi_list_list : under2 "list" "list" = some true := by decide +kernel
theorem isi_list_dict : under2 "list" "dict" = some false := by decide +kernel
theorem isi_dict_bool : under2 "dict" "bool" = some false := by decide +kernel
theorem isi_dict_int : under2 "dict" "int" = some false := by decide +kernel
theorem isi_dict_str : under2 "dict" "str" = some false := by decide +kernel
theorem isi_dict_tuple : under2 "dict" "tuple" = some false := by decide +kernel
theorem isi_dict_list : under2 "dict" "list" = some false := by decide +kernel
theorem isi_dict_dict : under2 "dict" "dict" = some true := by decide +kernel
theorem rt_same {Q : UK} {u : U} {M : MHp} (q : Q u M) : rtU Q u M := ⟨u, M, Sub.refl M, .inl rfl, q⟩
theorem for_by {wi : UI} {g : UG} {tb : US} {D : UEnds} {τ : SU} {M M1 : MHp} {S : Src} (hw : ∀ R : Src → MHp → Prop, R S M1 → wi τ M R) (P : Nat → SU → MHp → Prop) (h0 : P 0 τ M1) (hok : ∀ i τ M, P i τ M → S.ok M)
    (turn : ∀ i x τ M, S.xs[i]? = some x → P i τ M → g x τ M fun τ2 M2 => tb { D with nx := P (i + 1), ct := P (i + 1), bk := D.nx } τ2 M2) (fin : ∀ τ M, P S.xs.length τ M → D.nx τ M) : uFor wi g tb D τ M := hw _ ⟨P, h0, hok, turn, fin⟩
theorem rangeU_get {lo : Int} {n i : Nat} {x : U} (h : (rangeU lo n)[i]? = some x) : x = .int (lo + i) ∧ i < n := by
  have hi : i < n := by
    have := (List.getElem?_eq_some_iff.mp h).1
    simpa [rangeU] using this
  simp only [rangeU, List.getElem?_map, List.getElem?_range hi, Option.map_some] at h
  exact ⟨(Option.some.inj h).symm, hi⟩
theorem rangeU_len (lo : Int) (n : Nat) : (rangeU lo n).length = n := by simp [rangeU]
end U2

set_option linter.all false
set_option maxRecDepth 100000
namespace U2
open PySem PySem.Spec PyProof.Rows L2

/-! ### a dict of the module: texts to texts and ints -/
inductive Fl where
  | int (i : Int) | str (x : Str)
def Fl.d : Fl → PyData
  | .int i => .int i
  | .str x => .str x
def Fl.u : Fl → U
  | .int i => .int i
  | .str x => .str x
def tabD (T : List (Str × Fl)) : List (PyData × PyData) := T.map fun p => (PyData.str p.1, p.2.d)
def tabGet : List (Str × Fl) → Str → Option Fl
  | [], _ => none
  | (a, b) :: r, z => if a = z then some b else tabGet r z
structure IsTab (P : Program) (w : World) (K : PySem.W.Frag) (d : Addr) (T : List (Str × Fl)) : Prop where
  at_ : ∀ h : Heap, K.In h → StrTab P w h d (tabD T)
theorem sameS (a b : Str) : same (.str a) (.str b) = decide (a = b) := by
  by_cases h : a = b <;> simp [same, h]
theorem lookup_tab : ∀ (T : List (Str × Fl)) (z : Str), PySem.Spec.lookup (.str z) (tabD T) = (tabGet T z).map Fl.d
  | [], _ => rfl
  | (a, b) :: r, z => by
    have ih := lookup_tab r z
    show (if same (.str a) (.str z) = true then some b.d else PySem.Spec.lookup (.str z) (tabD r)) = ((if a = z then some b else tabGet r z).map Fl.d)
    rw [sameS]
    by_cases e : a = z
    · rw [if_pos (decide_eq_true e), if_pos e]; rfl
    · rw [if_neg (by simpa using e), if_neg e, ih]
def tabP (T : List (Str × Fl)) : List (Str × PyData) := T.map fun p => (p.1, p.2.d)
theorem tab_of {P : Program} {w : World} {K : PySem.W.Frag} {d : Addr} {T : List (Str × Fl)} (n : ((tabP T).map (·.1)).Nodup) (e : KTD.tabLook KTD.flatLooks (fun b => K.lookup b) d (tabP T) = true) (q : KTD.hashesOf (fun b => K.lookup b) d = (tabP T).map fun p => (PySem.strKind P w).hash p.1) : IsTab P w K d T := ⟨fun h hK => by
  have := PySem.W.kt_tab_in P w hK e n q
  unfold tabP at this
  rw [List.map_map] at this
  exact this⟩
section
variable {X : Cx} {d : Addr} {T : List (Str × Fl)}
theorem op_inTab (t : IsTab X.prog X.w X.K d T) : OpR X (compareOp .In) (fun x y H Q => ∃ z, x = .str z ∧ y = .ref d ∧ Q (.bl (tabGet T z).isSome) H) := by
  intro pins s σ H x y v u Q I rx ry h
  obtain ⟨z, rfl, rfl, q⟩ := h
  obtain ⟨tk, rfl⟩ := rx
  cases ry
  refine in_strTab (t.at_ _ I.kIn) ?_
  rw [lookup_tab, Option.isSome_map]
  exact ⟨.bl _, H, I.tok _, rfl, q⟩
end
section
variable {D : Dat} {d : Addr} {T : List (Str × Fl)}
abbrev Tab (D : Dat) := IsTab D.prog D.w D.K
def inTab (d : Addr) (T : List (Str × Fl)) (neg : Bool) : UR2 := fun x y M Q => match x with
  | .str z => y = .ref d ∧ Q (.bl (if neg then !(tabGet T z).isSome else (tabGet T z).isSome)) M
  | _ => False
theorem k_inTab (t : Tab D d T) : Cmp D .In (inTab d T false) := ⟨⟨_, fun X h => op_inTab (by rw [h.prog, h.w, h.K]; exact t), fun x y u w H M Q' rm ru rw h Q c => by
  cases u with
  | str z => obtain ⟨rfl, h⟩ := h; exact ⟨z, ru.str, rw.ref, c.here rm relU_bl h⟩
  | _ => exact h.elim⟩⟩
def ixTab (d : Addr) (T : List (Str × Fl)) : UR2 := fun x y M Q => match y with
  | .str z => x = .ref d ∧ match tabGet T z with
    | some f => Q f.u M
    | none => False
  | _ => False
/-! ### a def that is handed in, called by the parameter's name -/
def uCallV (i : Nat) (f : Addr) (sp : USp) (t : UA) : UE := fun τ M Q => uVar i τ M fun v M1 => v = .ref f ∧ t τ M1 fun us M2 => sp us M2 Q
end
end U2

set_option linter.all false
set_option maxRecDepth 100000
namespace U2
open PySem PySem.Spec PyProof.Rows L2
/-! ### range(a, b, 2) -/
def half (j : Int) : Nat := ((j + 1) / 2).toNat
theorem size_two {j : Int} (h : 0 ≤ j) : Builtin.Range.rangeSize 0 j 2 = (half j : Nat) := by
  unfold Builtin.Range.rangeSize half
  simp only [show (2 : Int) > 0 by decide, if_true]
  split <;> omega
def rangeU2 (n : Nat) : List U := (List.range n).map fun (k : Nat) => U.int ((k : Int) * 2)
theorem rangeU2_len (n : Nat) : (rangeU2 n).length = n := by simp [rangeU2]
end U2

set_option linter.all false
set_option maxRecDepth 100000
namespace U2
open PySem PySem.Spec PyProof.Rows L2
/-! ### xs.index(y), of texts -/
def strsU : List U → Option (List Str)
  | [] => some []
  | .str b :: r => (strsU r).map (b :: ·)
  | _ => none
theorem strsU_rel {K : PySem.W.Frag} {H : Hp} {M : MHp} : ∀ {us : List U} {vs : List V} {bs : List Str}, RelUs K H M us vs → strsU us = some bs → vs = bs.map V.str
  | [], _, _, r, h => by cases h; exact r.inv_nil
  | u :: us, _, bs, r, h => by
    obtain ⟨v, vs', rfl, a, b⟩ := r.inv_cons
    cases u with
    | str y =>
      simp only [strsU] at h
      cases e : strsU us with
      | none => rw [e] at h; cases h
      | some cs =>
        rw [e] at h
        cases h
        rw [strsU_rel b e, a.str]; rfl
    | _ => cases h
end U2

set_option linter.all false
namespace U2
open PySem L2
theorem at0 {α : Type} {a : α} {r : List α} : atI (a :: r) 0 = some a := atI_nat (j := 0) rfl
theorem at1 {α : Type} {a b : α} {r : List α} : atI (a :: b :: r) 1 = some b := atI_nat (j := 1) rfl
theorem at2 {α : Type} {a b c : α} {r : List α} : atI (a :: b :: c :: r) 2 = some c := atI_nat (j := 2) rfl
theorem at3 {α : Type} {a b c d : α} {r : List α} : atI (a :: b :: c :: d :: r) 3 = some d := atI_nat (j := 3) rfl
theorem atI_ex {α : Type} (l : List α) (i : Int) (h0 : 0 ≤ i) (h1 : i < l.length) : ∃ c, atI l i = some c := by
  have hl : i.toNat < l.length := by omega
  refine ⟨l[i.toNat], ?_⟩
  have e : ((i.toNat : Nat) : Int) = i := by omega
  have q := atI_nat (xs := l) (j := i.toNat) (v := l[i.toNat]) (by simp [hl])
  rw [e] at q
  exact q
/-- x[1:] -/
theorem cut1 {α : Type} (a : α) (r : List α) : cutU (a :: r) (some 1) none = r := by
  unfold cutU
  simp [HT.sIx]
  try omega
theorem vw_non {M : MHp} : view M .non = .non := rfl
theorem vw_bl {M : MHp} {x : Bool} : view M (.bl x) = .bl x := rfl
theorem vw_int {M : MHp} {x : Int} : view M (.int x) = .int x := rfl
theorem vw_str {M : MHp} {x : Str} : view M (.str x) = .str x := rfl
theorem vw_tup {M : MHp} {x : List U} : view M (.tup x) = .tup x := rfl
theorem vw_lst {M : MHp} {x : List U} : view M (.lst x) = .lst x := rfl
theorem vw_own {M : MHp} {p : Addr} {us : List U} : view (mup M p (.lst us)) (.ref p) = .lst us := view_ref mup_same
theorem isL_own {M : MHp} {p : Addr} {us : List U} : isL (mup M p (.lst us)) (.ref p) := ⟨us, vw_own⟩
/-- a comprehension without a test whose elements are known one by one -/
theorem uComp_list {o : Bool} {k : Nat} {ix : List Nat} {wi : UI} {g : UG} {te : UE} {τ : SU} {M M1 : MHp} {Q : UK} {S : Src} (zs : List U) (hw : ∀ R : Src → MHp → Prop, R S M1 → wi τ M R) (hl : zs.length = S.xs.length) (hz : S.xs.length ≤ sizeLine) (hs : S.ok M1)
    (h : ∀ (i : Nat) x y, S.xs[i]? = some x → zs[i]? = some y → ∀ M, Sub M1 M → ∀ R : UK, R y M → g x (capt k ix τ) M fun τ2 M2 => te τ2 M2 R)
    (q : mkL o zs M1 Q) : uComp o k ix wi g (fun _ M Q => Q true M) te τ M Q := by
  refine hw _ ⟨hz, fun D hD => ⟨fun i ys M => ys = zs.take i ∧ M = mup M1 D (.lst ys) ∧ i ≤ S.xs.length, ⟨by simp, rfl, Nat.zero_le _⟩, ?_, ?_, ?_⟩⟩
  · rintro i ys M ⟨rfl, rfl, hi⟩
    refine ⟨fun a e => ?_, mup_same, ?_⟩
    · have := hs a e
      rw [mup_ne (fun z => by subst z; rw [hD] at this; cases this)]
      exact this
    · rw [List.length_take]; omega
  · rintro i x ys M e ⟨rfl, rfl, hi⟩
    have hlt : i < S.xs.length := (List.getElem?_eq_some_iff.mp e).1
    have hy : zs[i]? = some zs[i] := by simp [show i < zs.length by omega]
    have tk : zs.take (i + 1) = zs.take i ++ [zs[i]] := by rw [List.take_add_one, hy]; rfl
    refine h i x zs[i] e hy (mup M1 D (.lst (zs.take i))) ((Sub.refl M1).mup hD) (fun y M4 => M4 D = some (.lst (zs.take i)) ∧ (zs.take i ++ [y] = zs.take (i + 1) ∧ mup M4 D (.lst (zs.take i ++ [y])) = mup M1 D (.lst (zs.take i ++ [y])) ∧ i + 1 ≤ S.xs.length)) ?_
    exact ⟨mup_same, tk.symm, mup_mup, hlt⟩
  · rintro ys M ⟨rfl, rfl, hi⟩
    rw [show zs.take S.xs.length = zs by rw [← hl]; exact List.take_length]
    cases o with
    | true => exact q D hD
    | false => exact ⟨M1, (Sub.refl M1).mup hD, hD, q⟩
end U2

set_option linter.all false
set_option maxRecDepth 100000
namespace U2
open PySem PySem.Spec PyProof.Rows L2
/-! ### enumerate(t), t a tuple -/
section
variable {prog : Program} {w : World} {A : Around} {E : Value → Shared → Prop} {s : Shared}
theorem nextOf_tuple_item {it t : Addr} {i : Nat} {items} {x : Value} {Q : Value → Shared → Prop} (hit : s.heap.IsTupleIter it t i)
    (ht : s.heap.IsTuple t items) (hx : items[i]? = some x)
    (hQ : ∀ h', h'.IsTupleIter it t (i + 1) → Heap.SameBut it s.heap h' → Q x { s with heap := h' }) :
    wpAny (model prog w) A (Builtin.SmallTypes.nextOf (.ref it)) Q E s := by
  obtain ⟨o, ho, hc, hd⟩ := id hit
  obtain ⟨ol, hol, _, nl, hdl⟩ := ht
  unfold Builtin.SmallTypes.nextOf
  refine wpAny_bind (wpAny_callSpecial?_slot (name := Str.ofString "__next__") hit.typeIs PySem.F.slot_tuple_iterator_next
    (wpAny_call_entry PySem.F.slot_tuple_iterator_next hit.typeIs PySem.F.entry_tuple_iterator_next ?_ (PySem.F.args_tuple_iterator_next_1 _)))
  show wpAny _ _ (field (.ref it) 0 >>= _) _ _ s
  refine wpAny_bind (wpAny_field ho hd (x := .ref t) rfl ?_)
  show wpAny _ _ (if (Value.ref t == Value.none) = true then _ else _) _ _ s
  rw [if_neg (show ¬ ((Value.ref t == Value.none) = true) from Bool.false_ne_true)]
  show wpAny _ _ (field (.ref it) 1 >>= _) _ _ s
  refine wpAny_bind (wpAny_field ho hd (x := .int i 0) rfl ?_)
  show wpAny _ _ (seqItems? (.ref t) >>= _) _ _ s
  refine wpAny_bind (wpAny_seqItems hol hdl ?_)
  simp only [Int.toNat_natCast, hx]
  refine wpAny_bind (wpAny_setField ho hd (by simp) (wpAny_pure ⟨x, rfl, wpAny_pure (hQ _ ?_ (Heap.SameBut.update ..))⟩))
  exact ⟨_, Heap.get?_update_self _ ho (Obj.isFreed_of_fields (Obj.data_mapFields hd _)), (Obj.cls_mapFields ..).trans hc, by
    rw [Obj.data_mapFields hd]; simp [rawInt]⟩
theorem nextOf_tuple_end {it t : Addr} {i : Nat} {items} {Q : Value → Shared → Prop} (hh : A.handled = none)
    (hit : s.heap.IsTupleIter it t i) (ht : s.heap.IsTuple t items) (hx : items[i]? = none)
    (hE : ∀ h' e, Heap.ExtBut it s.heap h' → (∃ o, h'.get? e = some o ∧ o.cls = .type "StopIteration") → E (.ref e) { s with heap := h' }) :
    wpAny (model prog w) A (Builtin.SmallTypes.nextOf (.ref it)) Q E s := by
  obtain ⟨o, ho, hc, hd⟩ := id hit
  obtain ⟨ol, hol, _, nl, hdl⟩ := ht
  unfold Builtin.SmallTypes.nextOf
  refine wpAny_bind (wpAny_callSpecial?_slot (name := Str.ofString "__next__") hit.typeIs PySem.F.slot_tuple_iterator_next
    (wpAny_call_entry PySem.F.slot_tuple_iterator_next hit.typeIs PySem.F.entry_tuple_iterator_next ?_ (PySem.F.args_tuple_iterator_next_1 _)))
  show wpAny _ _ (field (.ref it) 0 >>= _) _ _ s
  refine wpAny_bind (wpAny_field ho hd (x := .ref t) rfl ?_)
  show wpAny _ _ (if (Value.ref t == Value.none) = true then _ else _) _ _ s
  rw [if_neg (show ¬ ((Value.ref t == Value.none) = true) from Bool.false_ne_true)]
  show wpAny _ _ (field (.ref it) 1 >>= _) _ _ s
  refine wpAny_bind (wpAny_field ho hd (x := .int i 0) rfl ?_)
  show wpAny _ _ (seqItems? (.ref t) >>= _) _ _ s
  refine wpAny_bind (wpAny_seqItems hol hdl ?_)
  simp only [Int.toNat_natCast, hx]
  refine wpAny_bind (wpAny_rule (wpAny_bind (wpAny_setField ho hd (by simp) ?_)))
  show wpAny _ _ (newExc (.type "StopIteration") [] >>= _) _ _ _
  refine wpAny_bind ?_
  simp only [newExc, newTuple]
  refine wpAny_bind (wpAny_newObj_type ?_ (by size_fits))
  refine wpAny_bind (m := firstArgMember _ _) (wpAny_of_eq (a := Value.none) (by first | rfl | (simp only [firstArgMember]; rfl)) ?_)
  refine wpAny_newObj_type ?_ (by size_fits)
  simp only [raiseNew]
  refine wpAny_bind (wpAny_handled ?_)
  first | rw [show A.in1.handled = none from hh] | rw [hh]
  refine wpAny_bind (wpAny_pure (wpAny_throw ?_))
  exact hE _ _ (((Heap.SameBut.update ..).extBut.push _).push _) ⟨_, Heap.get?_push_size _ rfl, rfl⟩
theorem draws_tuple {prog : Program} {w : World} {A : Around} (hh : A.handled = none) (it l : Addr) (hne : l ≠ it) (items : Array Value) :
    Draws prog w A it [it, l] items.size (fun i v => items[i]? = some v) (fun i h => h.IsTupleIter it l i ∧ h.IsTuple l items) where
  live := fun _ _ st => let ⟨o, ho, _⟩ := st.1; ⟨o, ho⟩
  frame := fun _ _ _ st hk => ⟨st.1.at fun o e => hk it (by simp) o e, let ⟨o, ho, r⟩ := st.2; ⟨o, hk l (by simp) o ho, r⟩⟩
  item := fun i s Q E hi st hQ => by
    refine nextOf_tuple_item st.1 st.2 (x := items[i]) (by simp [hi]) fun h' hit' hs' => ?_
    exact hQ _ h' s.toks (by simp [hi]) ⟨hit', let ⟨o, ho, r⟩ := st.2; ⟨o, hs'.extBut l o hne ho, r⟩⟩ hs'
  done := fun s Q E st hE => nextOf_tuple_end hh st.1 st.2 (by simp) hE
theorem meets_enum_tuple (l : Addr) (items : Array Value) (n : Nat) (dd : Option Addr) (sl : Array (Option Value)) :
    Meets (Builtin.«enumerate.__new__» ⟨[.type "enumerate", .ref l], []⟩) (fun _ R s => s.heap.get? l = some { cls := .type "tuple", dict := dd, data := .seq items n, slots := sl } ∧
      R (.ok (.ret (.ref (s.heap.push { cls := .type "tuple_iterator", data := .fields #[.ref l, .int 0 0] }).objs.size)))
        { s with heap := (s.heap.push { cls := .type "tuple_iterator", data := .fields #[.ref l, .int 0 0] }).push { cls := .type "enumerate", data := .fields #[.none, .bool false, .ref s.heap.objs.size, rawInt 0, .none, .none] } }) :=
  .of_wp fun prog w A R s h => by
    obtain ⟨hp, g, d, tk, os⟩ := s; obtain ⟨hl, h⟩ := h
    have hsub := PySem.sub_enumerate
    have hL : Heap.IsTuple (Shared.heap ⟨hp, g, d, tk, os⟩) l items := ⟨_, hl, rfl, n, rfl⟩
    wp_walk using wpAny_loadPart' hl
    refine wpAny_stack_any fun st => wpAny_pure ?_
    split
    · rename_i c _ _ _ _ _
      cases (c == Value.type "enumerate")
      · wp_walk using wpAny_loadPart' hl, wpAny_pyIter_tuple hL
        exact ⟨_, rfl, h⟩
      · wp_walk using wpAny_loadPart' hl, wpAny_pyIter_tuple hL
        exact ⟨_, rfl, h⟩
    · wp_walk using wpAny_loadPart' hl, wpAny_pyIter_tuple hL
      exact ⟨_, rfl, h⟩
end
theorem inv_turnedLaid {X : Cx} {pins : List (Addr × Obj)} {σ : L2.St} {H : Hp} {s : Shared} {h' : Heap} {ch : List Addr} {T : Addr} {o : HO} {tk : Nat} (I : L2.Inv X pins σ H s) (hf : ∀ b ∈ ch, FpOk X pins H b)
    (k : ∀ b o, b ∉ ch → s.heap.get? b = some o → h'.get? b = some o) (hT : s.heap.objs.size ≤ T) (new : ObjOk X.prog X.w (upd H T o) h' T o) : L2.Inv X pins σ (upd H T o) { s with heap := h', toks := tk } := by
  have hn : H T = none := I.hok.fresh hT
  refine I.call' (ch := ch) (H' := upd H T o) rfl ⟨fun b u q n hb hx => k b u hx q, fun b u q n hb hx => ⟨u.slots, k b u hx q⟩, fun b u q n hx => ?_, fun b u q hx => ⟨u, k b u hx q⟩, fun b xs q => by rw [upd_ne (ne_of_none q hn)]; exact q, fun b u xs q => by rw [upd_ne (ne_of_none q hn)]; exact q,
    fun b ps q => ⟨#[], by rw [upd_ne (ne_of_none q hn), q]; simp⟩⟩ (fun a u e => ?_) I.bare fun b hb => ⟨(hf b hb).2.2.2.1, (hf b hb).2.1, (hf b hb).2.2.2.2.1, (hf b hb).2.2.2.2.2⟩
  · rw [upd_ne (Nat.ne_of_lt (Nat.lt_of_lt_of_le (Heap.lt_size q) hT))]; exact n
  · by_cases ha : a = T
    · subst ha; rw [upd_same] at e; cases e; exact new
    · rw [upd_ne ha] at e
      refine (I.hok a u e).stay (fun b z hb q => k b z (fun hc => ?_) q) (fun c q => by rw [upd_ne (ne_of_none q hn)]; exact q) fun c xs q => by rw [upd_ne (ne_of_none q hn)]; exact q
      have hnone := (hf b hc).1
      rcases hb with rfl | hb
      · rw [hnone] at e; cases e
      · rw [hnone] at hb; cases hb
def Ite (K : PySem.W.Frag) (a : Addr) : It :=
  ⟨fun i H => ∃ xs x, SqT K H a xs ∧ xs[i]? = some x, fun i H x H' => ∃ p v, (∀ xs, SqT K H a xs → xs[i]? = some v) ∧ H p = none ∧ x = .ref p ∧ H' = upd H p (.tup [.int i, v]), fun i H => ∃ xs, SqT K H a xs ∧ xs.length = i⟩
theorem turn_enum {P : Program} {w : World} {K : PySem.W.Frag} {elts : List Expr} {kk : Nat} {pos : Pos} (a it e : Addr) : Turn P w K (.Tuple elts kk pos) (Ite K a) [e, it] e (fun i h => (∃ old, IsEnum h e it i old) ∧ h.IsTupleIter it a i) where
  mem := by simp
  obj := fun i h st b hb => by
    obtain ⟨⟨old, he⟩, o, ho, hc, hd⟩ := st
    have : b = e ∨ b = it := by simpa using hb
    rcases this with rfl | rfl
    · exact ⟨_, he, fun v z => by
        have z' : Data.fields _ = Data.cell v := z
        cases z'⟩
    · exact ⟨o, ho, fun v z => by rw [hd] at z; cases z⟩
  keep := fun i h h' st k => let ⟨⟨old, he⟩, hi⟩ := st; ⟨⟨old, k e (by simp) _ he⟩, hi.at fun o q => k it (by simp) o q⟩
  item := by
    intro X hP hw hK hc i pins s σ H E I hf st hg
    subst hP hw hK
    obtain ⟨⟨old, he⟩, hit⟩ := st
    obtain ⟨xs, x, hq, hx⟩ := hg
    obtain ⟨its, rv, p, hz⟩ := I.tuple hq
    obtain ⟨u, hu, ru⟩ := rv.get hx
    have p' : s.heap.IsTuple a its.toArray := p
    obtain ⟨oi, hoi, hci, hdi⟩ := id hit
    obtain ⟨oa, hoa, hca, na, hda⟩ := id p'
    have n1 : a ≠ it := fun z => by subst z; rw [hoa] at hoi; cases hoi; rw [hca] at hci; exact absurd (Value.type.inj hci) (by decide)
    have n2 : e ≠ it := fun z => by subst z; rw [he] at hoi; cases hoi; exact absurd (Value.type.inj hci) (by decide)
    have n3 : e ≠ a := fun z => by subst z; rw [he] at hoa; cases hoa; exact absurd (Value.type.inj hca) (by decide)
    have W := WalksT.enumerateD (prog := X.prog) (w := X.w) (A := X.A) (draws_tuple (A := X.A.in1) (show X.A.in1.handled = none from I.ok.hd hc) it a n1 its.toArray) e n2 (by simp [n2, n3]) (by simp)
    have hlt : i < its.toArray.size := by
      have := (List.getElem?_eq_some_iff.mp hu).1
      simpa using this
    refine W.item i s _ E hlt ⟨⟨old, he⟩, hit, p'⟩ fun T vals h' tk hP hT hTup hMid hk => ?_
    refine ⟨.ref T, rfl, W.go elts kk pos i T _ _ E hMid fun h'' hSt hk2 => ?_⟩
    obtain ⟨t, y, hy, rfl⟩ := hP
    have hy' : y = u := by
      have h3 : its[i]? = some y := by simpa using hy
      rw [hu] at h3; exact (Option.some.inj h3).symm
    subst hy'
    have hTT : h''.IsTuple T #[.int i t, y] := let ⟨o, ho, r⟩ := hTup; ⟨o, hk2 T o (W.apart i T _ hMid) ho, r⟩
    refine ⟨.ref T, upd H T (.tup [.int i, x]), inv_turnedLaid (s := s) (h' := h'') (tk := tk) (ch := [e, it]) I hf (fun b o hb q => hk2 b o (by simpa using hb) (hk b o (by simpa using hb) q)) hT ⟨by show 2 ≤ sizeLine; decide, [.int i t, y], .cons ⟨t, rfl⟩ (.cons ru .nil), hTT⟩, rfl, ⟨T, x, fun ys hy => by rw [← I.tuple_inj hq hy]; exact hx, I.hok.fresh hT, rfl, rfl⟩, ⟨by simpa using hSt.1, hSt.2.1⟩, fun b hb => ?_⟩
    have hn := (hf b hb).1
    rw [upd_ne (Nat.ne_of_lt (Nat.lt_of_lt_of_le ?_ hT))]
    · exact hn
    · have : b = e ∨ b = it := by simpa using hb
      rcases this with rfl | rfl
      · exact Heap.lt_size he
      · exact Heap.lt_size hoi
  done := by
    intro X hP hw hK hc i pins s σ H E I hf st hg
    subst hP hw hK
    obtain ⟨⟨old, he⟩, hit⟩ := st
    obtain ⟨xs, hq, hx⟩ := hg
    obtain ⟨its, rv, p, hz⟩ := I.tuple hq
    have p' : s.heap.IsTuple a its.toArray := p
    obtain ⟨oi, hoi, hci, hdi⟩ := id hit
    obtain ⟨oa, hoa, hca, na, hda⟩ := id p'
    have n1 : a ≠ it := fun z => by subst z; rw [hoa] at hoi; cases hoi; rw [hca] at hci; exact absurd (Value.type.inj hci) (by decide)
    have n2 : e ≠ it := fun z => by subst z; rw [he] at hoi; cases hoi; exact absurd (Value.type.inj hci) (by decide)
    have n3 : e ≠ a := fun z => by subst z; rw [he] at hoa; cases hoa; exact absurd (Value.type.inj hca) (by decide)
    have W := WalksT.enumerateD (prog := X.prog) (w := X.w) (A := X.A) (draws_tuple (A := X.A.in1) (show X.A.in1.handled = none from I.ok.hd hc) it a n1 its.toArray) e n2 (by simp [n2, n3]) (by simp)
    have hi : i = its.toArray.size := by rw [List.size_toArray, ← rv.length]; exact hx.symm
    subst hi
    refine W.done s _ E ⟨⟨old, he⟩, hit, p'⟩ fun h' tk hk => ⟨rfl, ?_⟩
    have := I.call' (ch := [e, it]) (H' := H) (s' := { s with heap := h', toks := tk }) rfl ⟨fun b u q n hb hx => hk b u (by simpa using hx) q, fun b u q n hb hx => ⟨u.slots, hk b u (by simpa using hx) q⟩, fun b u q n hx => n, fun b u q hx => ⟨u, hk b u (by simpa using hx) q⟩, fun b xs q => q, fun b u xs q => q, fun b ps q => ⟨#[], by rw [q]; simp⟩⟩
      (fun a u e' => ?_) I.bare fun b hb => ⟨(hf b hb).2.2.2.1, (hf b hb).2.1, (hf b hb).2.2.2.2.1, (hf b hb).2.2.2.2.2⟩
    · exact this
    · refine (I.hok a u e').stay (fun b z hb q => hk b z (fun hc => ?_) q) (fun _ q => q) fun _ _ q => q
      have hnone := (hf b (by simpa using hc)).1
      rcases hb with rfl | hb
      · rw [hnone] at e'; cases e'
      · rw [hnone] at hb; cases hb
  self := fun _ _ _ _ _ st h => let ⟨⟨old, he⟩, _⟩ := st; wpAny_pyIter_enum he h
theorem call_enum_tuple {prog : Program} {w : World} {A : Around} {E : Value → Shared → Prop} {s : Shared} {l : Addr} {items : Array Value} {Q : Value → Shared → Prop}
    (hl : s.heap.IsTuple l items)
    (h : ∀ h', IsEnum h' (s.heap.objs.size + 1) s.heap.objs.size 0 .none → h'.IsTupleIter s.heap.objs.size l 0 → h'.objs.size = s.heap.objs.size + 2 →
      (∀ b o, s.heap.get? b = some o → h'.get? b = some o) → Q (.ref (s.heap.objs.size + 1)) { s with heap := h' }) :
    wpAny (model prog w) A (call (.type "enumerate") [.ref l]) Q E s := by
  obtain ⟨⟨oc, od, odt, osl⟩, ho, hc, n, hd⟩ := hl
  have hc' : oc = .type "tuple" := hc
  have hd' : odt = .seq items n := hd
  subst hc' hd'
  refine callType_new F.called_enumerate (by decide) (F.typeCall_enumerate_1 _) (F.newCall_enumerate_1 _) (fun obj => F.args_object_init_2 obj _) F.entry_enumerate_new
    (meets_enum_tuple l items n od osl) ⟨ho, ?_⟩
  have hz : (s.heap.push { cls := .type "tuple_iterator", data := .fields #[.ref l, .int 0 0] }).objs.size = s.heap.objs.size + 1 := Heap.size_push ..
  show _ ∧ _
  rw [hz]
  have he : IsEnum ((s.heap.push { cls := .type "tuple_iterator", data := .fields #[.ref l, .int 0 0] }).push
      { cls := .type "enumerate", data := .fields #[.none, .bool false, .ref s.heap.objs.size, rawInt 0, .none, .none] }) (s.heap.objs.size + 1) s.heap.objs.size 0 .none := by
    have := Heap.get?_push_size (s.heap.push { cls := .type "tuple_iterator", data := .fields #[.ref l, .int 0 0] })
      (o := { cls := .type "enumerate", data := .fields #[.none, .bool false, .ref s.heap.objs.size, rawInt 0, .none, .none] }) rfl
    rw [hz] at this; exact this
  refine ⟨⟨_, he, rfl⟩, h _ he ⟨_, Heap.get?_push_of_some _ (Heap.get?_push_size _ rfl), rfl, rfl⟩ (by rw [Heap.size_push, hz]) fun b o x => Heap.get?_push_of_some _ (Heap.get?_push_of_some _ x)⟩
def iEnum (K : PySem.W.Frag) (ta : TA) : TI := fun σ H R => ta σ H fun vs H1 => ∃ a, vs = [.ref a] ∧ (∃ xs, SqT K H1 a xs) ∧ R (Ite K a) H1
theorem pi_enum {X : Cx} {elts : List Expr} {kk : Nat} {tpos : Pos} {a : Expr} {ta : TA} {p pos : Pos} (hg : Gl X "enumerate") (hm : X.mg "enumerate" = none) (ha : PA X [a] ta) (hs : starEach [a] X.env = [(false, eval a X.env)]) :
    PI X (.Tuple elts kk tpos) (.Call (.Name "enumerate" p) [a] [] pos) (iEnum X.K ta) := by
  intro pins s σ H R I h
  refine Call_ (ld_blt I hg hm boot_enumerate (PyProof.Rows.callWith_type1 (thn (ha pos pins s σ H _ I h) fun us s1 ⟨vs, H1, I1, r1, q1⟩ => ?_) hs rfl))
  obtain ⟨a, e, ⟨xs, hq⟩, q⟩ := q1
  subst e
  cases r1 with
  | cons r rr =>
    cases rr
    cases r
    obtain ⟨its, rv, p, hz⟩ := I1.tuple hq
    refine call_enum_tuple (show s1.heap.IsTuple a its.toArray from p) fun h' he hit hsz hk => ?_
    refine wpAny_pyIter_enum (s := { s1 with heap := h' }) he ?_
    have I2 : L2.Inv X pins σ H1 { s1 with heap := h', toks := s1.toks } := I1.kept hk
    refine ⟨s1.heap.objs.size + 1, [s1.heap.objs.size + 1, s1.heap.objs.size], _, _, H1, rfl, I2, turn_enum a s1.heap.objs.size (s1.heap.objs.size + 1), ⟨⟨_, he⟩, hit⟩, fun b hb => ?_, q⟩
    have e : b = s1.heap.objs.size + 1 ∨ b = s1.heap.objs.size := by simpa using hb
    rcases e with rfl | rfl
    · exact I1.fpOk (Nat.le_succ _) (I1.hok.fresh (Nat.le_succ _))
    · exact I1.fpOk (Nat.le_refl _) (I1.hok.fresh (Nat.le_refl _))
def numbered (us : List U) : List U := us.zipIdx.map fun p => .tup [.int (p.2 : Nat), p.1]
theorem numbered_len (us : List U) : (numbered us).length = us.length := by simp [numbered]
theorem numbered_get {us : List U} {i : Nat} {x : U} (h : (numbered us)[i]? = some x) : ∃ u, us[i]? = some u ∧ x = .tup [.int i, u] := by
  simp only [numbered, List.getElem?_map, List.getElem?_zipIdx] at h
  cases e : us[i]? with
  | none => rw [e] at h; simp at h
  | some u => rw [e] at h; simp at h; exact ⟨u, rfl, h.symm⟩
theorem walk_enum {K : PySem.W.Frag} {a : Addr} {us : List U} {vs : List V} {H : Hp} {M : MHp} (m : (M a = none ∧ Rd H a (.tup vs)) ∨ KT K a vs) (r : RelUs K H M us vs) : Walk K (Ite K a) ⟨none, numbered us⟩ H M := by
  have sq : ∀ H1 M1, Stp H M H1 M1 → SqT K H1 a vs := fun H1 M1 s => by
    rcases m with ⟨m, h⟩ | k
    · exact .inl (Rd.stp s m h).2
    · exact .inr k
  refine ⟨fun H1 M1 s rm _ i u e => ?_, fun H1 M1 s rm _ => ⟨vs, sq H1 M1 s, by show vs.length = (numbered us).length; rw [numbered_len, r.length]⟩⟩
  obtain ⟨w, e1, rfl⟩ := numbered_get e
  obtain ⟨v, e2, ru⟩ := r.get e1
  refine ⟨⟨vs, v, sq H1 M1 s, e2⟩, fun x H2 y => ?_⟩
  obtain ⟨p, v', y, hp, rfl, rfl⟩ := y
  have := y vs (sq _ M1 s)
  rw [e2] at this; cases this
  have st := Stp.laid (o := .tup [.int i, v]) rm hp
  have rr : RelUs K H1 M1 [.int i, w] [.int i, v] := by
    simp only [RelUs]
    exact ⟨_, _, rfl, relU_int, _, _, rfl, ru.stp s, rfl⟩
  exact ⟨st, rm.laid hp, relU_tup (rm.no hp) upd_same (rr.stp st)⟩
def uEnum (ta : UA) : UI := fun τ M R => ta τ M fun us M1 => match us with
  | [.tup us] => R ⟨none, numbered us⟩ M1
  | _ => False
theorem sim_enum {K : PySem.W.Frag} {ta : TA} {ta' : UA} (h : SimA K ta ta') : SimI K (iEnum K ta) (uEnum ta') := fun σ τ H M R' rs rm q R c => h σ τ H M _ rs rm q _ fun us vs M1 H1 s1 rm1 ru h1 => by
  split at h1
  · rename_i xs
    obtain ⟨v, rfl, a⟩ := ru.one
    simp only [RelU] at a
    obtain ⟨a, vs, rfl, m, r⟩ := a
    refine ⟨a, rfl, ⟨vs, ?_⟩, c _ _ M1 H1 s1 rm1 (walk_enum m r) h1⟩
    rcases m with ⟨_, m⟩ | k
    · exact .inl m
    · exact .inr k
  · exact h1.elim
theorem ui_enumerate {D : Dat} {elts : List Expr} {kk : Nat} {tpos : Pos} {a : Expr} {p pos : Pos} {ta : UA} (hm : D.mg "enumerate" = none) (ha : PAU D [a] ta) (hg : D.sc.names.lookup ("enumerate" : Str) = some .globalImplicit := by rfl) (hs : ∀ env, starEach [a] env = [(false, eval a env)] := by intro _; rfl) : PIU D (.Tuple elts kk tpos) (.Call (.Name "enumerate" p) [a] [] pos) (uEnum ta) := by
  obtain ⟨_, q, s⟩ := ha
  exact ⟨_, fun X h => h.K ▸ pi_enum (by show X.env.scope.names.lookup _ = _; rw [h.sc]; exact hg) (by rw [h.mg]; exact hm) (q X h) (hs _), sim_enum s⟩
end U2

set_option linter.all false
set_option maxRecDepth 100000
namespace U2
open PySem PySem.Spec PyProof.Rows L2
/-! ### == and != of data -/
mutual
def DatV (K : PySem.W.Frag) (H : Hp) : PyData → V → Prop
  | .none, v => v = .non
  | .bool b, v => v = .bl b
  | .int i, v => v = .int i
  | .str z, v => v = .str z
  | .list ds, v => ∃ a xs, v = .ref a ∧ SqL K H a xs ∧ DatVs K H ds xs
  | .tuple ds, v => ∃ a xs, v = .ref a ∧ SqT K H a xs ∧ DatVs K H ds xs
  | .dict _, _ => False
def DatVs (K : PySem.W.Frag) (H : Hp) : List PyData → List V → Prop
  | [], vs => vs = []
  | d :: ds, vs => ∃ v vs', vs = v :: vs' ∧ DatV K H d v ∧ DatVs K H ds vs'
end
mutual
theorem DatV.reads {X : Cx} {pins : List (Addr × Obj)} {σ : L2.St} {H : Hp} {s : Shared} (I : L2.Inv X pins σ H s) : ∀ {d : PyData} {v : V} {u : Value}, DatV X.K H d v → RelV v u → ∃ as, Reads s.heap u d as
  | .none, v, u, h, r => by simp only [DatV] at h; subst h; cases r; exact ⟨_, .none⟩
  | .bool b, v, u, h, r => by simp only [DatV] at h; subst h; cases r; exact ⟨_, .bool b⟩
  | .int i, v, u, h, r => by simp only [DatV] at h; subst h; obtain ⟨t, rfl⟩ := r; exact ⟨_, .int i t⟩
  | .str z, v, u, h, r => by simp only [DatV] at h; subst h; obtain ⟨t, rfl⟩ := r; exact ⟨_, .str z t⟩
  | .list ds, v, u, h, r => by
    simp only [DatV] at h
    obtain ⟨a, xs, rfl, q, hs⟩ := h
    cases r
    obtain ⟨its, rv, p, hz⟩ := I.list q
    obtain ⟨as, ra⟩ := DatVs.reads I hs rv
    obtain ⟨o, h1, h2, n, h3⟩ := p.isList
    exact ⟨_, .list h1 h2 h3 (by simpa using ra)⟩
  | .tuple ds, v, u, h, r => by
    simp only [DatV] at h
    obtain ⟨a, xs, rfl, q, hs⟩ := h
    cases r
    obtain ⟨its, rv, p, hz⟩ := I.tuple q
    obtain ⟨as, ra⟩ := DatVs.reads I hs rv
    obtain ⟨o, h1, h2, n, h3⟩ := (show s.heap.IsTuple a its.toArray from p)
    exact ⟨_, .tuple h1 h2 h3 (by simpa using ra)⟩
  | .dict _, v, u, h, r => by simp only [DatV] at h
theorem DatVs.reads {X : Cx} {pins : List (Addr × Obj)} {σ : L2.St} {H : Hp} {s : Shared} (I : L2.Inv X pins σ H s) : ∀ {ds : List PyData} {vs : List V} {us : List Value}, DatVs X.K H ds vs → Vals vs us → ∃ as, ReadsAll s.heap us ds as
  | [], vs, us, h, r => by simp only [DatVs] at h; subst h; cases r; exact ⟨_, .nil⟩
  | d :: ds, vs, us, h, r => by
    simp only [DatVs] at h
    obtain ⟨v, vs', rfl, h1, h2⟩ := h
    cases r with
    | cons r rr =>
      obtain ⟨as, ra⟩ := DatV.reads I h1 r
      obtain ⟨bs, rb⟩ := DatVs.reads I h2 rr
      exact ⟨_, .cons ra rb⟩
end
def rEqD (K : PySem.W.Frag) (neg : Bool) : R2 := fun x y H Q => ∃ d d', DatV K H d x ∧ DatV K H d' y ∧ d.canLay0 = true ∧ d'.canLay0 = true ∧ min d.depth d'.depth ≤ 64 ∧ Q (.bl (if neg then !PyData.eqv d d' else PyData.eqv d d')) H
theorem op_eqD {X : Cx} {k : Nat} (hr : Room k X.A) : OpR X (compareOp .Eq) (rEqD X.K false) := by
  intro pins s σ H x y v u Q I rx ry h
  obtain ⟨d, d', h1, h2, c1, c2, hd, q⟩ := h
  obtain ⟨as, ra⟩ := h1.reads I rx
  obtain ⟨bs, rb⟩ := h2.reads I ry
  exact SeqAt.compareEq_reads ra rb c1 c2 (by have := hr.units; omega) ⟨.bl _, H, I, rfl, q⟩
theorem op_neD {X : Cx} {k : Nat} (hr : Room k X.A) : OpR X (compareOp .NotEq) (rEqD X.K true) := by
  intro pins s σ H x y v u Q I rx ry h
  obtain ⟨d, d', h1, h2, c1, c2, hd, q⟩ := h
  obtain ⟨as, ra⟩ := h1.reads I rx
  obtain ⟨bs, rb⟩ := h2.reads I ry
  exact SeqAt.compareNe_reads ra rb c1 c2 (by have := hr.units; omega) ⟨.bl _, H, I, rfl, q⟩
mutual
def toD : U → Option PyData
  | .non => some .none
  | .bl b => some (.bool b)
  | .int i => some (.int i)
  | .str z => some (.str z)
  | .tup us => (toDs us).map .tuple
  | .lst us => (toDs us).map .list
  | .ty _ => none
  | .ref _ => none
def toDs : List U → Option (List PyData)
  | [] => some []
  | u :: us => match toD u, toDs us with
    | some d, some ds => some (d :: ds)
    | _, _ => none
end
def topD (M : MHp) (u : U) : Option PyData := match u with
  | .ref a => match M a with
    | some (.lst us) => (toDs us).map .list
    | _ => none
  | u => toD u
mutual
theorem toD_rel {K : PySem.W.Frag} {H : Hp} {M : MHp} : ∀ {u : U} {v : V} {d : PyData}, RelU K H M u v → toD u = some d → DatV K H d v
  | .non, v, d, r, e => by simp only [toD, Option.some.injEq] at e; subst e; simp only [DatV]; exact r.non
  | .bl b, v, d, r, e => by simp only [toD, Option.some.injEq] at e; subst e; simp only [DatV]; exact r.bl
  | .int i, v, d, r, e => by simp only [toD, Option.some.injEq] at e; subst e; simp only [DatV]; exact r.int
  | .str i, v, d, r, e => by simp only [toD, Option.some.injEq] at e; subst e; simp only [DatV]; exact r.str
  | .tup us, v, d, r, e => by
    simp only [toD] at e
    cases e2 : toDs us with
    | none => rw [e2] at e; simp at e
    | some ds =>
      rw [e2] at e; simp at e; subst e
      obtain ⟨a, vs, rfl, q, rs⟩ := r.tup
      simp only [DatV]
      exact ⟨a, vs, rfl, q, toDs_rel rs e2⟩
  | .lst us, v, d, r, e => by
    simp only [toD] at e
    cases e2 : toDs us with
    | none => rw [e2] at e; simp at e
    | some ds =>
      rw [e2] at e; simp at e; subst e
      obtain ⟨a, vs, rfl, q, rs⟩ := r.lst
      simp only [DatV]
      exact ⟨a, vs, rfl, q, toDs_rel rs e2⟩
  | .ty _, v, d, r, e => by simp [toD] at e
  | .ref _, v, d, r, e => by simp [toD] at e
theorem toDs_rel {K : PySem.W.Frag} {H : Hp} {M : MHp} : ∀ {us : List U} {vs : List V} {ds : List PyData}, RelUs K H M us vs → toDs us = some ds → DatVs K H ds vs
  | [], vs, ds, r, e => by simp only [toDs, Option.some.injEq] at e; subst e; simp only [DatVs]; exact r.inv_nil
  | u :: us, vs, ds, r, e => by
    obtain ⟨v, vs', rfl, a, b⟩ := r.inv_cons
    simp only [toDs] at e
    cases e1 : toD u with
    | none => rw [e1] at e; simp at e
    | some d =>
      cases e2 : toDs us with
      | none => rw [e1, e2] at e; simp at e
      | some ds' =>
        rw [e1, e2] at e; simp at e; subst e
        simp only [DatVs]
        exact ⟨v, vs', rfl, toD_rel a e1, toDs_rel b e2⟩
end
theorem topD_rel {K : PySem.W.Frag} {H : Hp} {M : MHp} {u : U} {v : V} {d : PyData} (rm : RelM K H M) (r : RelU K H M u v) (e : topD M u = some d) : DatV K H d v := by
  cases u with
  | ref a =>
    simp only [topD] at e
    split at e
    · rename_i us hM
      cases e2 : toDs us with
      | none => rw [e2] at e; simp at e
      | some ds =>
        rw [e2] at e; simp at e; subst e
        obtain ⟨vs, h1, rs⟩ := rm a _ hM
        cases r.ref
        simp only [DatV]
        exact ⟨a, vs, rfl, .inl (.inl h1), toDs_rel rs e2⟩
    · cases e
  | _ => exact toD_rel r (by simpa only [topD] using e)
def uEqD (neg : Bool) : UR2 := fun x y M Q => ∃ d d', topD M x = some d ∧ topD M y = some d' ∧ d.canLay0 = true ∧ d'.canLay0 = true ∧ min d.depth d'.depth ≤ 64 ∧ Q (.bl (if neg then !PyData.eqv d d' else PyData.eqv d d')) M
theorem sim_eqD {K : PySem.W.Frag} {neg : Bool} : SimR2 K (rEqD K neg) (uEqD neg) := fun x y u w H M Q' rm ru rw h Q c => by
  obtain ⟨d, d', e1, e2, c1, c2, hd, q⟩ := h
  exact ⟨d, d', topD_rel rm ru e1, topD_rel rm rw e2, c1, c2, hd, c.here rm relU_bl q⟩
variable {D : Dat}
/-! ### in, not in, over lists and tuples of flat values -/
def flatU : U → Bool
  | .non => true
  | .bl _ => true
  | .int _ => true
  | .str _ => true
  | _ => false
def eqF : U → U → Bool
  | .non, .non => true
  | .bl a, .bl b => a == b
  | .bl a, .int j => (if a then 1 else 0) == j
  | .int i, .bl b => i == (if b then 1 else 0)
  | .int i, .int j => i == j
  | .str x, .str y => x == y
  | _, _ => false
def items (M : MHp) : U → Option (List U)
  | .tup us => some us
  | .lst us => some us
  | .ref a => match M a with
    | some (.lst us) => some us
    | _ => none
  | _ => none
def uIn (neg : Bool) : UR2 := fun x y M Q => match items M y with
  | some us => flatU x = true ∧ us.all flatU = true ∧ Q (.bl (if neg then !us.any (fun u => eqF u x) else us.any (fun u => eqF u x))) M
  | none => False
theorem flat_rel {K : PySem.W.Frag} {H : Hp} {M : MHp} {u : U} {v : V} (r : RelU K H M u v) (f : flatU u = true) : flatV v = true := by
  cases u with
  | non => cases r.non; rfl
  | bl b => cases r.bl; rfl
  | int b => cases r.int; rfl
  | str b => cases r.str; rfl
  | _ => exact absurd (show false = true from f) Bool.false_ne_true
theorem eqF_rel {K : PySem.W.Frag} {H : Hp} {M : MHp} {u w : U} {v x : V} (r : RelU K H M u v) (r' : RelU K H M w x) (f : flatU u = true) (f' : flatU w = true) : eqV v x = eqF u w := by
  cases u <;> (first | (cases r.non) | (cases r.bl) | (cases r.int) | (cases r.str) | exact absurd (show false = true from f) Bool.false_ne_true) <;> cases w <;>
    (first | (cases r'.non) | (cases r'.bl) | (cases r'.int) | (cases r'.str) | exact absurd (show false = true from f') Bool.false_ne_true) <;> rfl
theorem flats_rel {K : PySem.W.Frag} {H : Hp} {M : MHp} : ∀ {us : List U} {vs : List V}, RelUs K H M us vs → us.all flatU = true → vs.all flatV = true
  | [], vs, r, _ => by cases r.inv_nil; rfl
  | u :: us, vs, r, f => by
    obtain ⟨v, vs', rfl, a, b⟩ := r.inv_cons
    rw [List.all_cons, Bool.and_eq_true] at f ⊢
    exact ⟨flat_rel a f.1, flats_rel b f.2⟩
theorem inV_rel {K : PySem.W.Frag} {H : Hp} {M : MHp} {w : U} {x : V} (r' : RelU K H M w x) (f' : flatU w = true) : ∀ {us : List U} {vs : List V}, RelUs K H M us vs → us.all flatU = true → inV x vs = us.any fun u => eqF u w
  | [], vs, r, _ => by cases r.inv_nil; rfl
  | u :: us, vs, r, f => by
    obtain ⟨v, vs', rfl, a, b⟩ := r.inv_cons
    rw [List.all_cons, Bool.and_eq_true] at f
    have := inV_rel r' f' b f.2
    unfold inV at this ⊢
    rw [List.any_cons, List.any_cons, this, eqF_rel a r' f.1 f']
theorem items_rel {K : PySem.W.Frag} {H : Hp} {M : MHp} {u : U} {v : V} {us : List U} (rm : RelM K H M) (r : RelU K H M u v) (e : items M u = some us) : ∃ p xs, v = .ref p ∧ (SqL K H p xs ∨ SqT K H p xs) ∧ RelUs K H M us xs := by
  cases u with
  | tup us' => cases e; obtain ⟨a, vs, rfl, q, rs⟩ := r.tup; exact ⟨a, vs, rfl, .inr q, rs⟩
  | lst us' => cases e; obtain ⟨a, vs, rfl, q, rs⟩ := r.lst; exact ⟨a, vs, rfl, .inl q, rs⟩
  | ref a =>
    simp only [items] at e
    split at e
    · rename_i us' hM
      cases e
      obtain ⟨vs, h1, rs⟩ := rm a _ hM
      exact ⟨a, vs, r.ref, .inl (.inl (.inl h1)), rs⟩
    · cases e
  | _ => cases e
theorem sim_in {K : PySem.W.Frag} {neg : Bool} : SimR2 K (rIn K neg) (uIn neg) := fun x y u w H M Q' rm ru rw h Q c => by
  unfold uIn at h
  split at h
  · rename_i us e
    obtain ⟨f, fs, q⟩ := h
    obtain ⟨p, xs, rfl, hs, rs⟩ := items_rel rm rw e
    refine ⟨p, xs, rfl, hs, flat_rel ru f, flats_rel rs fs, ?_⟩
    rw [inV_rel ru f rs fs]
    exact c.here rm relU_bl q
  · exact h.elim
theorem k_notIn : Cmp D .NotIn (uIn true) := ⟨⟨_, fun X h => h.K ▸ op_notIn_seq, sim_in⟩⟩
/-! both kinds of == at once -/
def uEqX (neg : Bool) : UR2 := fun x y M Q => match eqS x y with
  | some b => Q (.bl (if neg then !b else b)) M
  | none => uEqD neg x y M Q
theorem k_eqX : Cmp D .Eq (uEqX false) := ⟨⟨_, fun X h => h.K ▸ op_eq.or (op_eqD h.room), fun x y u w H M Q' rm ru rw h Q c => by
  unfold uEqX at h
  split at h
  · rename_i b e
    obtain ⟨h1, h2⟩ := eqS_rel ru rw e
    exact .inl ⟨h1, c.here rm (by rw [h2]; exact relU_bl) h⟩
  · exact .inr (sim_eqD x y u w H M Q' rm ru rw h Q c)⟩⟩
theorem k_neX : Cmp D .NotEq (uEqX true) := ⟨⟨_, fun X h => h.K ▸ op_ne.or (op_neD h.room), fun x y u w H M Q' rm ru rw h Q c => by
  unfold uEqX at h
  split at h
  · rename_i b e
    obtain ⟨h1, h2⟩ := eqS_rel ru rw e
    exact .inl ⟨h1, c.here rm (by rw [h2]; exact relU_bl) h⟩
  · exact .inr (sim_eqD x y u w H M Q' rm ru rw h Q c)⟩⟩
end U2

set_option linter.all false
set_option maxRecDepth 100000
namespace U2
open PySem PySem.Spec PyProof.Rows L2
/-! ### zip(t, t'), by what draws -/
section
variable {prog : Program} {w : World} {A : Around} {E : Value → Shared → Prop} {s : Shared} {z TI TO i1 i2 : Addr} {f1 f2 : List Addr} {n1 n2 : Nat} {P1 P2 : Nat → Value → Prop} {S1 S2 : Nat → Heap → Prop} {i : Nat} {a b : Value}
end
abbrev zH1 (h : Heap) (a : Addr) : Heap := h.push { cls := .type "tuple_iterator", data := .fields #[.ref a, .int 0 0] }
abbrev zH2 (h : Heap) (a c : Addr) : Heap := (zH1 h a).push { cls := .type "tuple_iterator", data := .fields #[.ref c, .int 0 0] }
abbrev zH3 (h : Heap) (a c : Addr) : Heap := (zH2 h a c).push { cls := .type "tuple", data := .seq #[.ref h.objs.size, .ref (zH1 h a).objs.size] }
abbrev zH4 (h : Heap) (a c : Addr) : Heap := (zH3 h a c).push { cls := .type "tuple", data := .seq #[.none, .none] }
abbrev zH5 (h : Heap) (a c : Addr) : Heap := (zH4 h a c).push { cls := .type "zip", data := .fields #[.none, .bool false, .bool false, .ref (zH2 h a c).objs.size, .ref (zH3 h a c).objs.size] }
def zipped : List U → List U → List U
  | u :: us, w :: ws => .tup [u, w] :: zipped us ws
  | _, _ => []
theorem zipped_len : ∀ us ws : List U, (zipped us ws).length = min us.length ws.length
  | [], ws => by simp [zipped]
  | _ :: _, [] => by simp [zipped]
  | u :: us, w :: ws => by simp only [zipped, List.length_cons, zipped_len us ws]; omega
def uZip (ta : UA) : UI := fun τ M R => ta τ M fun us M1 => match us with
  | [.tup us, .tup ws] => R ⟨none, zipped us ws⟩ M1
  | _ => False
end U2

set_option linter.all false
set_option maxRecDepth 100000
namespace U2
open PySem PySem.Spec PyProof.Rows L2
/-! ### extend, clear -/
theorem meets_extendL (l : Addr) (items : Array Value) (n : Nat) (b : Addr) (items2 : Array Value) (n2 : Nat) (dd : Option Addr) (sl : Array (Option Value)) (hc0 : ¬(!items.isEmpty && Builtin.List.listTooLong (items.size + items2.size)) = true) (hc1 : items.size ≤ sizeLine) (hs2 : items.size + items2.size ≤ sizeLine + 1) :
    Meets (Builtin.«list.extend» ⟨[.ref l, .ref b], []⟩) (fun _ R s => s.heap.get? l = some { cls := .type "list", dict := none, data := .seq items n, slots := #[] } ∧ s.heap.get? b = some { cls := .type "list", dict := dd, data := .seq items2 n2, slots := sl } ∧ R (.ok (.ret Value.none)) { s with heap := s.heap.update l (Obj.mapSeq fun x => x ++ items2), toks := s.toks }) :=
  .of_wp fun prog w A R s h => by
    obtain ⟨hp, g, d, tk, os⟩ := s; obtain ⟨hl, hb, h⟩ := h
    have f1 := PySem.AutoSeq1.idx_int; have f2 := PySem.AutoSeq1.sub_tuple_tuple; have f3 := PySem.AutoSeq1.sub_list_list; have f4 := PySem.AutoSeq1.sub_tuple_list; have f5 := PySem.AutoSeq1.sub_list_tuple
    have hz' : (items ++ items2).size ≤ sizeLine + 1 := by rw [Array.size_append]; exact hs2
    wp_walk using (wpAny_updateSeq hl rfl (hz := hc1) (_hz' := hz')), wpAny_loadPart' hl, wpAny_loadPart' hb
    exact ⟨_, rfl, h⟩
theorem mt_extendL {X : Cx} : MtM X "list.extend" (rExtendL X.K) := by
  intro pins s σ H x vs v us Q I rx rv h
  obtain ⟨l, b, xs, zs, rfl, rfl, hH, hB, hz, q⟩ := h
  cases rx
  obtain ⟨u, rfl, ru⟩ := rv.one
  cases ru
  obtain ⟨z, its, n, r, hl, e⟩ := I.lstM hH
  obtain ⟨its2, r2, ⟨⟨oc, od, odt, osl⟩, n2, e2, hc, hd, hdt⟩, hl2⟩ := I.list hB
  have hc' : oc = .type "list" := hc
  have hdt' : odt = .seq its2.toArray n2 := hdt
  subst hc' hdt'
  have l2 := r2.length
  have hsz : its.toArray.size + its2.toArray.size ≤ sizeLine := by rw [List.size_toArray, List.size_toArray]; omega
  have hlong : ¬ (!its.toArray.isEmpty && Builtin.List.listTooLong (its.toArray.size + its2.toArray.size)) = true := by
    rw [notLongL hsz, Bool.and_false]
    exact Bool.false_ne_true
  refine call_meets PySem.F.slot_list_extend ⟨_, e, rfl⟩ PySem.F.entry_list_extend (PySem.F.args_list_extend_2 _ _)
    (meets_extendL l its.toArray n b its2.toArray n2 od osl hlong (by rw [List.size_toArray]; omega) (by omega)) ⟨e, e2, ?_⟩
  refine ⟨.non, _, I.lset (its' := its ++ its2) hH e (by simp) (r.append r2) ?_, rfl, q⟩
  rw [List.length_append]
  omega
variable {D : Dat} {o e : Expr} {ta : UE} {tas : UA} {pos : Pos}
theorem ue_extend {apos : Pos} (ho : PEU D o ta) (ha : PAU D [e] tas) (hbase : ∀ env, attributeBase o "extend" env (eval o env) = eval o env := by intro _; rfl)
    (hfew : ∀ env, ((backTo pos (starEach [e] env)).all (fun x => !x.1) && (backToKw pos (keywordEach [] env)).all (fun x => x.1.isSome) && decide ([e].length + ([] : List Keyword).length + (if ([] : List Keyword).isEmpty then 0 else 1) < 30)) = true := by intro _; rfl)
    (hline : (apos.endLine == pos.line) = true := by rfl) (hs : ∀ env, starEach [e] env = [(false, eval e env)] := by intro _; rfl) : PEU D (.Call (.Attribute o "extend" apos) [e] [] pos) (uBM mExtend ta tas) := by
  obtain ⟨_, p, s⟩ := ho; obtain ⟨_, q, r⟩ := ha
  refine ⟨_, fun X h => ?_, sim_bm sim_extend s r⟩
  have := pe_bm (cpos := pos) (apos := apos) PySem.F.plainAttrs_list PySem.F.slot_list_extend PySem.F.type_list_extend mt_extendL (p X h) (q X h) (hbase _) (hfew _) hline (hs _) (by rfl)
  rw [h.K] at this
  exact this
end U2

set_option linter.all false
set_option maxRecDepth 100000
namespace U2
open PySem PySem.Spec PyProof.Rows L2
/-! ### < of tuples of whole numbers -/
def intsOf : List U → Option (List Int)
  | [] => some []
  | .int i :: us => (intsOf us).map (i :: ·)
  | _ :: _ => none
theorem intsOf_rel {K : PySem.W.Frag} {H : Hp} {M : MHp} : ∀ {us : List U} {vs : List V} {xs : List Int}, RelUs K H M us vs → intsOf us = some xs → vs = xs.map V.int
  | [], vs, xs, r, e => by cases e; exact r.inv_nil
  | u :: us, vs, xs, r, e => by
    obtain ⟨v, vs', rfl, a, b⟩ := r.inv_cons
    cases u with
    | int i =>
      simp only [intsOf] at e
      cases e2 : intsOf us with
      | none => rw [e2] at e; cases e
      | some ys => rw [e2] at e; cases e; rw [a.int, intsOf_rel b e2]; rfl
    | _ => cases e
def uLtX : UR2 := fun x y M Q => match x, y with
  | .int i, .int j => Q (.bl (decide (i < j))) M
  | .tup us, .tup ws => ∃ xs ys, intsOf us = some xs ∧ intsOf ws = some ys ∧ Q (.bl (HT.lexLt xs ys)) M
  | _, _ => False
variable {D : Dat}
theorem k_ltX : Cmp D .Lt uLtX := ⟨⟨_, fun X h => h.K ▸ op_lt.or (op_ltT h.room.units0), fun x y u w H M Q' rm ru rw h Q c => by
  unfold uLtX at h
  split at h
  · rename_i i j
    exact .inl (sim_bool2 (f := fun i j => decide (i < j)) x y (.int i) (.int j) H M Q' rm ru rw h Q c)
  · rename_i us ws
    obtain ⟨xs, ys, e1, e2, q⟩ := h
    obtain ⟨a, vs, rfl, s1, r1⟩ := ru.tup
    obtain ⟨a', vs', rfl, s2, r2⟩ := rw.tup
    cases intsOf_rel r1 e1
    cases intsOf_rel r2 e2
    exact .inr ⟨a, a', xs, ys, rfl, rfl, s1, s2, c.here rm relU_bl q⟩
  · exact h.elim⟩⟩
end U2

set_option linter.all false
set_option maxRecDepth 100000
namespace U2
open PySem PySem.Spec PyProof.Rows L2
/-! ### max and sum of a list of whole numbers -/
def maxI : Int → List Int → Int
  | m, [] => m
  | m, n :: ns => maxI (if n > m then n else m) ns
section
variable {X : Cx}
def bSum : List U → MHp → UK → Prop := fun us M Q => match us with
  | [x] => match view M x with
    | .lst ws => ∃ ns, intsOf ws = some ns ∧ PySem.SumFits ns ∧ Q (.int ns.sum) M
    | _ => False
  | _ => False
/-! over data -/
def bMax : List U → MHp → UK → Prop := fun us M Q => match us with
  | [.int i, .int j] => Q (.int (if j > i then j else i)) M
  | [x] => match view M x with
    | .lst ws => ∃ m ns, intsOf ws = some (m :: ns) ∧ Q (.int (maxI m ns)) M
    | _ => False
  | _ => False
end
end U2

set_option linter.all false
set_option maxRecDepth 100000
namespace U2
open PySem PySem.Spec PyProof.Rows L2
section
variable {D : Dat} {a b c e o i : Expr} {ta tb tc te to ti : UE} {pos p : Pos} {es : List Expr} {tas : UA} {x : Str}
/-! ### x[i] = v, x an own list -/
def uSetI (te to ti : UE) : US := fun D τ M => te τ M fun v M1 => to τ M1 fun x M2 => ti τ M2 fun y M3 => match x, y with
  | .ref a, .int k => match M3 a with
    | some (.lst us) => ∃ j, ixN us.length k = some j ∧ D.nx τ (mup M3 a (.lst (us.set j v)))
    | _ => False
  | _, _ => False
theorem us_asub {tpos : Pos} (he : PEU D e te) (ho : PEU D o to) (hi : PEU D i ti) (hs : ∀ env, swapsWithSole [.Subscript o i tpos] e pos.line env = pure false := by intro _; rfl) (hw : ∀ env, swappedStores [.Subscript o i tpos] e env = pure none := by intro _; rfl)
    (h1 : ∀ env, (assignEach [.Subscript o i tpos] env).map (·.2) = [assign (.Subscript o i tpos) env] := by intro _; rfl)
    (ha : ∀ env v, assign (.Subscript o i tpos) env v = (do
      let ov ← holding [v] (eval o env)
      let iv ← holding [v, ov] (eval i env)
      standAt tpos
      holding [v, ov, iv] (setItem ov iv v)
      release [v, ov, iv] []) := by intro _ _; rfl) : PSU D (.Assign [.Subscript o i tpos] e pos) (uSetI te to ti) := by
  obtain ⟨_, p1, s1⟩ := he; obtain ⟨_, p2, s2⟩ := ho; obtain ⟨_, p3, s3⟩ := hi
  refine ⟨_, fun X h => ps_asg (p1 X h) (pg_sub (p2 X h) (p3 X h) set_list (ha _)) (hs _) (hw _) (h1 _), fun σ τ H M D' rs rm h EE d => ?_⟩
  refine s1 σ τ H M _ rs rm h _ fun v vv M1 H1 st1 rm1 rv h1 => ?_
  refine s2 σ τ H1 M1 _ (rs.stp st1) rm1 h1 _ fun x vx M2 H2 st2 rm2 rx h2 => ?_
  refine s3 σ τ H2 M2 _ ((rs.stp st1).stp st2) rm2 h2 _ fun y vy M3 H3 st3 rm3 ry h3 => ?_
  split at h3
  · rename_i a k
    split at h3
    · rename_i us e
      obtain ⟨j, hj, q⟩ := h3
      cases (rx.stp st3).ref
      cases ry.int
      obtain ⟨vs, hv, rus⟩ := rm3 a _ e
      have rv3 := (rv.stp st2).stp st3
      have st4 : Stp H3 M3 (upd H3 a (.lst (vs.set j vv))) (mup M3 a (.lst (us.set j v))) := Stp.write e
      have rnew : RelM D.K (upd H3 a (.lst (vs.set j vv))) (mup M3 a (.lst (us.set j v))) := rm3.put st4 ⟨_, upd_same, (RelUs.set rv3 j rus).stp st4⟩
      refine ⟨a, vs, k, j, rfl, rfl, hv, by rw [← rus.length]; exact hj, ?_⟩
      exact d.nx _ _ _ _ (((st1.trans st2).trans st3).trans st4) rnew ((((rs.stp st1).stp st2).stp st3).stp st4) q
    · exact h3.elim
  · exact h3.elim
/-! ### xs.pop(i) -/
def mPopAt : U → List U → MHp → UK → Prop := fun x ws M Q => match x, ws with
  | .ref a, [.int i] => match M a with
    | some (.lst us) => -(2 ^ 63) ≤ i ∧ i < 2 ^ 63 ∧ ∃ k y, seqIndex? i us.length = some k ∧ us[k]? = some y ∧ Q y (mup M a (.lst (us.eraseIdx k)))
    | _ => False
  | _, _ => False
/-! ### int of a truth -/
def bInt : List U → MHp → UK → Prop := fun us M Q => match us with
  | [.int i] => Q (.int i) M
  | [.bl k] => Q (.int (if k then 1 else 0)) M
  | _ => False
/-! ### products: whole numbers (of known bits), texts, own lists -/
def CMulB (i j : Int) : Prop := CMul i j ∨ (Builtin.Int.intBits i ≤ 60000000 ∧ Builtin.Int.intBits j ≤ 60000000)
theorem CMulB.ok {i j : Int} (h : CMulB i j) : IntMulOk i j := by
  rcases h with h | ⟨h1, h2⟩
  · exact h.ok
  · exact IntMulOk.of_le h1 h2 (by decide)
theorem op_mulB {X : Cx} : OpR X (binaryOp .Mult) (rI CMulB fun i j => .int (i * j)) := opI fun _ _ _ _ _ _ _ hc q => mul_int q hc.ok
def repS (z : Str) (n : Int) : Str := if n < 1 then Str.empty else if (n == 1 || z.length == 0) = true then z else ⟨(List.replicate n.toNat z.cps).foldl (· ++ ·) #[]⟩
theorem op_repS {X : Cx} : OpR X (binaryOp .Mult) (fun x y H Q => ∃ z n, x = .str z ∧ y = .int n ∧ -(2 ^ 63) ≤ n ∧ n < 2 ^ 20 ∧ z.length ≤ 2 ^ 20 ∧ z.length * n.toNat ≤ 100000 ∧ Q (.str (repS z n)) H) := by
  intro pins s σ H x y v u Q I rx ry h
  obtain ⟨z, n, rfl, rfl, h1, h2, h3, h4, q⟩ := h
  obtain ⟨t, rfl⟩ := rx
  obtain ⟨t', rfl⟩ := ry
  have e1 : (decide (n < -(2 ^ 63 : Int)) || decide (n ≥ 2 ^ 63)) = false := by
    rw [decide_eq_false (by omega), decide_eq_false (by omega)]; rfl
  refine PySem.P.mul_str e1 (fun g1 g2 => ?_) (fun g1 g2 => ?_) ?_
  · intro hh
    have hn : (1 : Int) ≤ n := by omega
    have e3 : (z.length : Int) * n = ((z.length * n.toNat : Nat) : Int) := by
      rw [Int.natCast_mul, Int.toNat_of_nonneg (by omega)]
    have := Int.le_ediv_of_mul_le (show (0 : Int) < n by omega) (show (z.length : Int) * n ≤ 2 ^ 63 - 1 by rw [e3]; omega)
    omega
  · unfold Builtin.Str.tooLong sizeLine
    exact decide_eq_false (by omega)
  · have hq : ∀ (t2 : Tok) k, EP X pins σ Q (.str (repS z n) t2) { s with toks := k } := fun t2 k => ⟨.str (repS z n), H, I.tok k, ⟨t2, rfl⟩, q⟩
    unfold repS at hq
    by_cases g1 : n < 1
    · rw [if_pos g1]
      simp only [if_pos g1] at hq
      exact ⟨by decide, hq _ _⟩
    · rw [if_neg g1]
      simp only [if_neg g1] at hq
      by_cases g2 : (n == 1 || z.length == 0) = true
      · rw [if_pos g2]
        simp only [if_pos g2] at hq
        exact hq t s.toks
      · rw [if_neg g2]
        simp only [if_neg g2] at hq
        refine ⟨?_, hq _ _⟩
        have hsz : ∀ (k : Nat) (acc : Array Nat), ((List.replicate k z.cps).foldl (· ++ ·) acc).size = acc.size + k * z.cps.size := by
          intro k
          induction k with
          | zero => intro acc; simp
          | succ k ih => intro acc; rw [List.replicate_succ, List.foldl_cons, ih, Array.size_append, Nat.succ_mul]; omega
        show ((List.replicate n.toNat z.cps).foldl (· ++ ·) #[]).size ≤ sizeLine
        rw [hsz]
        have h5 : n.toNat * z.cps.size ≤ 100000 := by rw [Nat.mul_comm]; exact h4
        have : (100000 : Nat) ≤ sizeLine := by decide
        simp only [Array.size_empty, Nat.zero_add]
        omega
def uMul (o : Bool) : UR2 := fun x y M Q => match x, y with
  | .int i, .int j => CMulB i j ∧ Q (.int (i * j)) M
  | .str z, .int n => -(2 ^ 63) ≤ n ∧ n < 2 ^ 20 ∧ z.length ≤ 2 ^ 20 ∧ z.length * n.toNat ≤ 100000 ∧ Q (.str (repS z n)) M
  | .ref a, .int k => match M a with
    | some (.lst us) => -(2 ^ 63) ≤ k ∧ k < 2 ^ 63 ∧ us.length * k.toNat ≤ sizeLine ∧ mkL o (List.replicate k.toNat us).flatten M Q
    | _ => False
  | _, _ => False
theorem RelUs.rep {K : PySem.W.Frag} {H : Hp} {M : MHp} {us : List U} {vs : List V} (r : RelUs K H M us vs) : ∀ k : Nat, RelUs K H M (List.replicate k us).flatten (List.replicate k vs).flatten
  | 0 => by simp only [List.replicate_zero, List.flatten_nil]; exact .nil
  | k + 1 => by simp only [List.replicate_succ, List.flatten_cons]; exact r.append (RelUs.rep r k)
theorem sim_mul {K : PySem.W.Frag} {o : Bool} : SimR2 K (fun x y H Q => rI CMulB (fun i j => .int (i * j)) x y H Q ∨ ((∃ z n, x = .str z ∧ y = .int n ∧ -(2 ^ 63) ≤ n ∧ n < 2 ^ 20 ∧ z.length ≤ 2 ^ 20 ∧ z.length * n.toNat ≤ 100000 ∧ Q (.str (repS z n)) H) ∨ rRep x y H Q)) (uMul o) := fun x y u w H M Q' rm ru rw h Q c => by
  unfold uMul at h
  split at h
  · rename_i i j
    exact .inl (sim_int2c (C := CMulB) (f := fun i j => i * j) x y (.int i) (.int j) H M Q' rm ru rw h Q c)
  · rename_i z n
    cases ru.str; cases rw.int
    exact .inr (.inl ⟨z, n, rfl, rfl, h.1, h.2.1, h.2.2.1, h.2.2.2.1, c.here rm relU_str h.2.2.2.2⟩)
  · rename_i a k
    split at h
    · rename_i us e
      obtain ⟨vs, hv, r⟩ := rm a _ e
      cases ru.ref; cases rw.int
      exact .inr (.inr ⟨a, k, vs, rfl, rfl, hv, h.1, h.2.1, by rw [← r.length]; exact h.2.2.1, fun p hp => c.lst rm (r.rep k.toNat) hp h.2.2.2⟩)
    · exact h.elim
  · exact h.elim
theorem ue_mulX (own : Bool := false) (ha : PEU D a ta) (hb : PEU D b tb) : PEU D (.BinOp a .Mult b pos) (uOp (uMul own) ta tb) := ue_op (fun _ _ => op_mulB.or (op_repS.or op_rep)) sim_mul ha hb
/-! ### // by a divisor of at most 64 bits -/
def CDivB (_ j : Int) : Prop := 0 < j ∧ j < 2 ^ 64
theorem op_fdivB {X : Cx} : OpR X (binaryOp .FloorDiv) (rI CDivB fun i j => .int (i / j)) := opI fun i j _ _ _ _ _ hc q => by
  have h1 : (0 : Int) < j := hc.1
  have h2 : j.natAbs.log2 < 9000 := by
    have h3 : j.natAbs < 2 ^ 64 := by have := hc.2; omega
    by_cases h : j.natAbs = 0
    · rw [h]; decide
    · have := (Nat.log2_lt h).mpr h3
      omega
  exact floordiv_int (by omega) (by rw [Int.fdiv_eq_ediv_of_nonneg i (by omega)]; exact q) (.inl (PyProof.noPylong_of_log2 h2))
theorem ue_divX (ha : PEU D a ta) (hb : PEU D b tb) : PEU D (.BinOp a .FloorDiv b pos) (uOp (uI CDivB fun i j => .int (i / j)) ta tb) := ue_op (fun _ _ => op_fdivB) sim_int2c ha hb
end
end U2

set_option linter.all false
set_option maxRecDepth 100000
namespace HT
open PySem PySem.Spec PyProof.Rows L2
variable {prog : Program} {w : World} {A : Around} {E : Value → Shared → Prop} {s : Shared}
theorem getItem_tuple_whole {t sl : Addr} {items : Array Value} {vl vu : Value} {lo hi : Option Int} {Q : Value → Shared → Prop} (ht : IsTup s.heap t items) (hs : s.heap.IsSliceOf sl vl vu .none) (pl : IsPart vl lo) (pu : IsPart vu hi)
    (hw : sIx items.size 0 lo = 0 ∧ sIx items.size items.size hi = items.size)
    (h : Q (.ref t) s) : wpAny (model prog w) A (getItem (.ref t) (.ref sl)) Q E s := by
  obtain ⟨os, hos, hcs, hds⟩ := id hs
  have hTs : s.TypeIs (.ref sl) "slice" := ⟨os, hos, hcs⟩
  unfold getItem
  try with_reducible refine wpAny_holding ?_
  first | refine wpAny_bind (wpAny_pure ?_) | skip
  refine wpAny_bind (wpAny_sequenceKey ht.typeIs (by decide) ?_)
  refine wpAny_bind (wpAny_callSpecial?_slot (name := Str.ofString "__getitem__") ht.typeIs PyProof.Rows.slot_tuple_getitem
    (wpAny_call_entry PyProof.Rows.slot_tuple_getitem ht.typeIs entry_tuple_getitem ?_ (args_tuple_getitem _ _)))
  show wpAny _ _ (Builtin.Tuple.tupleItemsOf (.ref t) >>= _) _ _ s
  refine wpAny_bind (tupleItemsOf_ ht ?_)
  refine wpAny_bind (wpAny_typeOf hTs ?_)
  rw [if_pos (by decide)]
  refine wpAny_bind (sliceApplied_gen hs pl pu ?_)
  have hyes : ((((sIx items.size 0 lo : Nat) : Int) == 0 && (1 : Int) == 1 && (sIx items.size items.size hi - sIx items.size 0 lo) == items.size) = true) := by
    rw [hw.1, hw.2]; simp
  show wpAny _ _ (if (((sIx items.size 0 lo : Nat) : Int) == 0 && (1 : Int) == 1 && (sIx items.size items.size hi - sIx items.size 0 lo) == items.size) = true then _ else _) _ _ s
  rw [if_pos hyes]
  unfold Builtin.Tuple.tupleIsExact
  refine wpAny_bind (wpAny_bind (wpAny_typeOf ht.typeIs (wpAny_pure ?_)))
  rw [if_pos (by decide)]
  refine wpAny_bind (wpAny_rule ?_)
  exact wpAny_pure ⟨_, rfl, wpAny_pure h⟩
end HT
namespace U2
open PySem PySem.Spec PyProof.Rows L2
def rSlW (K : PySem.W.Frag) : V → Option Int → Option Int → Hp → VK → Prop := fun x lo hi H Q => ∃ a xs, x = .ref a ∧ SqT K H a xs ∧ (HT.sIx xs.length 0 lo = 0 ∧ HT.sIx xs.length xs.length hi = xs.length) ∧ Q (.ref a) H
theorem sl_tupW {X : Cx} : SlR X (rSlW X.K) := by
  intro pins s σ H x v vl vu lo hi sl Q I rx hs pl pu h
  obtain ⟨a, xs, rfl, hx, hw, q⟩ := h
  cases rx
  obtain ⟨its, r, ht, hz⟩ := I.tuple hx
  have hlen : its.toArray.size = xs.length := by rw [List.size_toArray]; exact r.length.symm
  refine ⟨"tuple", _, PyProof.Rows.slot_tuple_getitem.lookup, ht.typeIs, ?_⟩
  refine HT.getItem_tuple_whole ht hs pl pu (by rw [hlen]; exact hw) ⟨.ref a, H, I, rfl, q⟩
def uSlX (o : Bool) (te : UE) (tl th : UO) : UE := fun τ M Q => te τ M fun x M1 => tl τ M1 fun l M2 => th τ M2 fun h M3 => match view M3 x with
  | .lst us => mkL o (cutU us l h) M3 Q
  | .tup us => Q (.tup (cutU us l h)) M3
  | .str z => z.length ≤ sizeLine ∧ Q (.str (Txt.slice z l h)) M3
  | _ => False
theorem sim_slX {K : PySem.W.Frag} {o : Bool} {te : TE} {te' : UE} {tl th : TO} {tl' th' : UO} (h0 : SimE K te te') (h1 : SimO K tl tl') (h2 : SimO K th th') : SimE K (tSl (fun x lo hi H Q => rSlA K x lo hi H Q ∨ rSlW K x lo hi H Q) te tl th) (uSlX o te' tl' th') := fun σ τ H M Q' rs rm q Q c =>
  h0 σ τ H M _ rs rm q _ fun u v M1 H1 s1 rm1 ru q1 => h1 σ τ H1 M1 _ (rs.stp s1) rm1 q1 _ fun lo M2 H2 s2 rm2 q2 => h2 σ τ H2 M2 _ ((rs.stp s1).stp s2) rm2 q2 _ fun hi M3 H3 s3 rm3 q3 => by
    have c3 := Cont.stp c ((s1.trans s2).trans s3)
    have ru3 := ru.stp (s2.trans s3)
    split at q3
    · rename_i us e
      obtain ⟨a, xs, rfl, r1, r2⟩ := view_lst rm3 ru3 e
      exact .inl (.inl ⟨a, xs, rfl, r1, fun p hp => c3.lst rm3 (cut_rel r2 lo hi) hp q3⟩)
    · rename_i us e
      have e' := view_tup e
      subst e'
      obtain ⟨a, xs, rfl, r1, r2⟩ := ru3.tup
      by_cases hw : HT.sIx xs.length 0 lo = 0 ∧ HT.sIx xs.length xs.length hi = xs.length
      · refine .inr ⟨a, xs, rfl, r1, hw, c3 _ _ M3 H3 (Stp.refl _ _) rm3 ?_ q3⟩
        have e4 : cutU us lo hi = us := by
          unfold cutU
          rw [r2.length, hw.1, hw.2, List.drop_zero, Nat.sub_zero, ← r2.length, List.take_length]
        rw [e4]
        exact ru3
      · exact .inl (.inr (.inl ⟨a, xs, rfl, r1, hw, fun p hp => c3.tup rm3 (cut_rel r2 lo hi) hp q3⟩))
    · rename_i z e
      have e' := view_str e
      subst e'
      exact .inl (.inr (.inr ⟨z, ru3.str, q3.1, c3 _ _ M3 H3 (Stp.refl _ _) rm3 relU_str q3.2⟩))
    · exact q3.elim
theorem ue_slX {D : Dat} {a : Expr} {ta : UE} {pos : Pos} (own : Bool := false) {lo hi : Option Expr} {tl th : UO} {p2 : Pos} (ha : PEU D a ta) (hl : POU D lo tl) (hh : POU D hi th) : PEU D (.Subscript a (.Slice lo hi none p2) pos) (uSlX own ta tl th) := by
  obtain ⟨_, p, s⟩ := ha; obtain ⟨_, q, r⟩ := hl; obtain ⟨_, u, v⟩ := hh
  refine ⟨_, fun X h => ?_, sim_slX s r v⟩
  have := pe_slice (pos := pos) (p2 := p2) (sl_any.or sl_tupW) (p X h) (q X h) (u X h)
  rw [h.K] at this
  exact this
end U2

set_option linter.all false
set_option maxRecDepth 100000
namespace U2
open PySem PySem.Spec PyProof.Rows L2
/-! ### enumerate(x), x a settled list -/
section
variable {prog : Program} {w : World} {A : Around} {E : Value → Shared → Prop} {s : Shared}
theorem meets_enum_list (l : Addr) (items : Array Value) (n : Nat) (dd : Option Addr) (sl : Array (Option Value)) :
    Meets (Builtin.«enumerate.__new__» ⟨[.type "enumerate", .ref l], []⟩) (fun _ R s => s.heap.get? l = some { cls := .type "list", dict := dd, data := .seq items n, slots := sl } ∧
      R (.ok (.ret (.ref (s.heap.push { cls := .type "list_iterator", data := .fields #[.ref l, .int 0 0] }).objs.size)))
        { s with heap := (s.heap.push { cls := .type "list_iterator", data := .fields #[.ref l, .int 0 0] }).push { cls := .type "enumerate", data := .fields #[.none, .bool false, .ref s.heap.objs.size, rawInt 0, .none, .none] } }) :=
  .of_wp fun prog w A R s h => by
    obtain ⟨hp, g, d, tk, os⟩ := s; obtain ⟨hl, h⟩ := h
    have hsub := PySem.sub_enumerate
    have hL : Heap.IsList (Shared.heap ⟨hp, g, d, tk, os⟩) l items := ⟨_, hl, rfl, n, rfl⟩
    wp_walk using wpAny_loadPart' hl
    refine wpAny_stack_any fun st => wpAny_pure ?_
    split
    · rename_i c _ _ _ _ _
      cases (c == Value.type "enumerate")
      · wp_walk using wpAny_loadPart' hl, wpAny_pyIter_list hL
        exact ⟨_, rfl, h⟩
      · wp_walk using wpAny_loadPart' hl, wpAny_pyIter_list hL
        exact ⟨_, rfl, h⟩
    · wp_walk using wpAny_loadPart' hl, wpAny_pyIter_list hL
      exact ⟨_, rfl, h⟩
end
def IteL (K : PySem.W.Frag) (a : Addr) : It :=
  ⟨fun i H => ∃ xs x, SqL K H a xs ∧ xs[i]? = some x, fun i H x H' => ∃ p v, (∀ xs, SqL K H a xs → xs[i]? = some v) ∧ H p = none ∧ x = .ref p ∧ H' = upd H p (.tup [.int i, v]), fun i H => ∃ xs, SqL K H a xs ∧ xs.length = i⟩
theorem turn_enumL {P : Program} {w : World} {K : PySem.W.Frag} {elts : List Expr} {kk : Nat} {pos : Pos} (a it e : Addr) : Turn P w K (.Tuple elts kk pos) (IteL K a) [e, it] e (fun i h => (∃ old, IsEnum h e it i old) ∧ h.IsListIter it a i) where
  mem := by simp
  obj := fun i h st b hb => by
    obtain ⟨⟨old, he⟩, o, ho, hc, hd⟩ := st
    have : b = e ∨ b = it := by simpa using hb
    rcases this with rfl | rfl
    · exact ⟨_, he, fun v z => by
        have z' : Data.fields _ = Data.cell v := z
        cases z'⟩
    · exact ⟨o, ho, fun v z => by rw [hd] at z; cases z⟩
  keep := fun i h h' st k => let ⟨⟨old, he⟩, hi⟩ := st; ⟨⟨old, k e (by simp) _ he⟩, hi.at fun o q => k it (by simp) o q⟩
  item := by
    intro X hP hw hK hc i pins s σ H E I hf st hg
    subst hP hw hK
    obtain ⟨⟨old, he⟩, hit⟩ := st
    obtain ⟨xs, x, hq, hx⟩ := hg
    obtain ⟨its, rv, p, hz⟩ := I.list hq
    obtain ⟨u, hu, ru⟩ := rv.get hx
    have p' : s.heap.IsList a its.toArray := p.isList
    obtain ⟨oi, hoi, hci, hdi⟩ := id hit
    obtain ⟨oa, hoa, hca, na, hda⟩ := id p'
    have n1 : a ≠ it := fun z => by subst z; rw [hoa] at hoi; cases hoi; rw [hca] at hci; exact absurd (Value.type.inj hci) (by decide)
    have n2 : e ≠ it := fun z => by subst z; rw [he] at hoi; cases hoi; exact absurd (Value.type.inj hci) (by decide)
    have n3 : e ≠ a := fun z => by subst z; rw [he] at hoa; cases hoa; exact absurd (Value.type.inj hca) (by decide)
    have W := WalksT.enumerateD (prog := X.prog) (w := X.w) (A := X.A) (Draws.list (A := X.A.in1) (show X.A.in1.handled = none from I.ok.hd hc) it a n1 its.toArray) e n2 (by simp [n2, n3]) (by simp)
    have hlt : i < its.toArray.size := by
      have := (List.getElem?_eq_some_iff.mp hu).1
      simpa using this
    refine W.item i s _ E hlt ⟨⟨old, he⟩, hit, p'⟩ fun T vals h' tk hP hT hTup hMid hk => ?_
    refine ⟨.ref T, rfl, W.go elts kk pos i T _ _ E hMid fun h'' hSt hk2 => ?_⟩
    obtain ⟨t, y, hy, rfl⟩ := hP
    have hy' : y = u := by
      have h3 : its[i]? = some y := by simpa using hy
      rw [hu] at h3; exact (Option.some.inj h3).symm
    subst hy'
    have hTT : h''.IsTuple T #[.int i t, y] := let ⟨o, ho, r⟩ := hTup; ⟨o, hk2 T o (W.apart i T _ hMid) ho, r⟩
    refine ⟨.ref T, upd H T (.tup [.int i, x]), inv_turnedLaid (s := s) (h' := h'') (tk := tk) (ch := [e, it]) I hf (fun b o hb q => hk2 b o (by simpa using hb) (hk b o (by simpa using hb) q)) hT ⟨by show 2 ≤ sizeLine; decide, [.int i t, y], .cons ⟨t, rfl⟩ (.cons ru .nil), hTT⟩, rfl, ⟨T, x, fun ys hy => by rw [← I.list_inj hq hy]; exact hx, I.hok.fresh hT, rfl, rfl⟩, ⟨by simpa using hSt.1, hSt.2.1⟩, fun b hb => ?_⟩
    have hn := (hf b hb).1
    rw [upd_ne (Nat.ne_of_lt (Nat.lt_of_lt_of_le ?_ hT))]
    · exact hn
    · have : b = e ∨ b = it := by simpa using hb
      rcases this with rfl | rfl
      · exact Heap.lt_size he
      · exact Heap.lt_size hoi
  done := by
    intro X hP hw hK hc i pins s σ H E I hf st hg
    subst hP hw hK
    obtain ⟨⟨old, he⟩, hit⟩ := st
    obtain ⟨xs, hq, hx⟩ := hg
    obtain ⟨its, rv, p, hz⟩ := I.list hq
    have p' : s.heap.IsList a its.toArray := p.isList
    obtain ⟨oi, hoi, hci, hdi⟩ := id hit
    obtain ⟨oa, hoa, hca, na, hda⟩ := id p'
    have n1 : a ≠ it := fun z => by subst z; rw [hoa] at hoi; cases hoi; rw [hca] at hci; exact absurd (Value.type.inj hci) (by decide)
    have n2 : e ≠ it := fun z => by subst z; rw [he] at hoi; cases hoi; exact absurd (Value.type.inj hci) (by decide)
    have n3 : e ≠ a := fun z => by subst z; rw [he] at hoa; cases hoa; exact absurd (Value.type.inj hca) (by decide)
    have W := WalksT.enumerateD (prog := X.prog) (w := X.w) (A := X.A) (Draws.list (A := X.A.in1) (show X.A.in1.handled = none from I.ok.hd hc) it a n1 its.toArray) e n2 (by simp [n2, n3]) (by simp)
    have hi : i = its.toArray.size := by rw [List.size_toArray, ← rv.length]; exact hx.symm
    subst hi
    refine W.done s _ E ⟨⟨old, he⟩, hit, p'⟩ fun h' tk hk => ⟨rfl, ?_⟩
    have := I.call' (ch := [e, it]) (H' := H) (s' := { s with heap := h', toks := tk }) rfl ⟨fun b u q n hb hx => hk b u (by simpa using hx) q, fun b u q n hb hx => ⟨u.slots, hk b u (by simpa using hx) q⟩, fun b u q n hx => n, fun b u q hx => ⟨u, hk b u (by simpa using hx) q⟩, fun b xs q => q, fun b u xs q => q, fun b ps q => ⟨#[], by rw [q]; simp⟩⟩
      (fun a u e' => ?_) I.bare fun b hb => ⟨(hf b hb).2.2.2.1, (hf b hb).2.1, (hf b hb).2.2.2.2.1, (hf b hb).2.2.2.2.2⟩
    · exact this
    · refine (I.hok a u e').stay (fun b z hb q => hk b z (fun hc => ?_) q) (fun _ q => q) fun _ _ q => q
      have hnone := (hf b (by simpa using hc)).1
      rcases hb with rfl | hb
      · rw [hnone] at e'; cases e'
      · rw [hnone] at hb; cases hb
  self := fun _ _ _ _ _ st h => let ⟨⟨old, he⟩, _⟩ := st; wpAny_pyIter_enum he h
theorem call_enum_list {prog : Program} {w : World} {A : Around} {E : Value → Shared → Prop} {s : Shared} {l : Addr} {items : Array Value} {Q : Value → Shared → Prop}
    (hl : s.heap.IsList l items)
    (h : ∀ h', IsEnum h' (s.heap.objs.size + 1) s.heap.objs.size 0 .none → h'.IsListIter s.heap.objs.size l 0 → h'.objs.size = s.heap.objs.size + 2 →
      (∀ b o, s.heap.get? b = some o → h'.get? b = some o) → Q (.ref (s.heap.objs.size + 1)) { s with heap := h' }) :
    wpAny (model prog w) A (call (.type "enumerate") [.ref l]) Q E s := by
  obtain ⟨⟨oc, od, odt, osl⟩, ho, hc, n, hd⟩ := hl
  have hc' : oc = .type "list" := hc
  have hd' : odt = .seq items n := hd
  subst hc' hd'
  refine callType_new F.called_enumerate (by decide) (F.typeCall_enumerate_1 _) (F.newCall_enumerate_1 _) (fun obj => F.args_object_init_2 obj _) F.entry_enumerate_new
    (meets_enum_list l items n od osl) ⟨ho, ?_⟩
  have hz : (s.heap.push { cls := .type "list_iterator", data := .fields #[.ref l, .int 0 0] }).objs.size = s.heap.objs.size + 1 := Heap.size_push ..
  show _ ∧ _
  rw [hz]
  have he : IsEnum ((s.heap.push { cls := .type "list_iterator", data := .fields #[.ref l, .int 0 0] }).push
      { cls := .type "enumerate", data := .fields #[.none, .bool false, .ref s.heap.objs.size, rawInt 0, .none, .none] }) (s.heap.objs.size + 1) s.heap.objs.size 0 .none := by
    have := Heap.get?_push_size (s.heap.push { cls := .type "list_iterator", data := .fields #[.ref l, .int 0 0] })
      (o := { cls := .type "enumerate", data := .fields #[.none, .bool false, .ref s.heap.objs.size, rawInt 0, .none, .none] }) rfl
    rw [hz] at this; exact this
  refine ⟨⟨_, he, rfl⟩, h _ he ⟨_, Heap.get?_push_of_some _ (Heap.get?_push_size _ rfl), rfl, rfl⟩ (by rw [Heap.size_push, hz]) fun b o x => Heap.get?_push_of_some _ (Heap.get?_push_of_some _ x)⟩
def iEnumL (K : PySem.W.Frag) (ta : TA) : TI := fun σ H R => ta σ H fun vs H1 => ∃ a, vs = [.ref a] ∧ (∃ xs, SqL K H1 a xs) ∧ R (IteL K a) H1
theorem pi_enumL {X : Cx} {elts : List Expr} {kk : Nat} {tpos : Pos} {a : Expr} {ta : TA} {p pos : Pos} (hg : Gl X "enumerate") (hm : X.mg "enumerate" = none) (ha : PA X [a] ta) (hs : starEach [a] X.env = [(false, eval a X.env)]) :
    PI X (.Tuple elts kk tpos) (.Call (.Name "enumerate" p) [a] [] pos) (iEnumL X.K ta) := by
  intro pins s σ H R I h
  refine Call_ (ld_blt I hg hm boot_enumerate (PyProof.Rows.callWith_type1 (thn (ha pos pins s σ H _ I h) fun us s1 ⟨vs, H1, I1, r1, q1⟩ => ?_) hs rfl))
  obtain ⟨a, e, ⟨xs, hq⟩, q⟩ := q1
  subst e
  cases r1 with
  | cons r rr =>
    cases rr
    cases r
    obtain ⟨its, rv, p, hz⟩ := I1.list hq
    refine call_enum_list p.isList fun h' he hit hsz hk => ?_
    refine wpAny_pyIter_enum (s := { s1 with heap := h' }) he ?_
    have I2 : L2.Inv X pins σ H1 { s1 with heap := h', toks := s1.toks } := I1.kept hk
    refine ⟨s1.heap.objs.size + 1, [s1.heap.objs.size + 1, s1.heap.objs.size], _, _, H1, rfl, I2, turn_enumL a s1.heap.objs.size (s1.heap.objs.size + 1), ⟨⟨_, he⟩, hit⟩, fun b hb => ?_, q⟩
    have e : b = s1.heap.objs.size + 1 ∨ b = s1.heap.objs.size := by simpa using hb
    rcases e with rfl | rfl
    · exact I1.fpOk (Nat.le_succ _) (I1.hok.fresh (Nat.le_succ _))
    · exact I1.fpOk (Nat.le_refl _) (I1.hok.fresh (Nat.le_refl _))
theorem walk_enumL {K : PySem.W.Frag} {a : Addr} {us : List U} {vs : List V} {H : Hp} {M : MHp} (m : (M a = none ∧ Rd H a (.lst vs)) ∨ KL K a vs) (r : RelUs K H M us vs) : Walk K (IteL K a) ⟨none, numbered us⟩ H M := by
  have sq : ∀ H1 M1, Stp H M H1 M1 → SqL K H1 a vs := fun H1 M1 s => by
    rcases m with ⟨m, h⟩ | k
    · exact .inl (Rd.stp s m h).2
    · exact .inr k
  refine ⟨fun H1 M1 s rm _ i u e => ?_, fun H1 M1 s rm _ => ⟨vs, sq H1 M1 s, by show vs.length = (numbered us).length; rw [numbered_len, r.length]⟩⟩
  obtain ⟨w, e1, rfl⟩ := numbered_get e
  obtain ⟨v, e2, ru⟩ := r.get e1
  refine ⟨⟨vs, v, sq H1 M1 s, e2⟩, fun x H2 y => ?_⟩
  obtain ⟨p, v', y, hp, rfl, rfl⟩ := y
  have := y vs (sq _ M1 s)
  rw [e2] at this; cases this
  have st := Stp.laid (o := .tup [.int i, v]) rm hp
  have rr : RelUs K H1 M1 [.int i, w] [.int i, v] := by
    simp only [RelUs]
    exact ⟨_, _, rfl, relU_int, _, _, rfl, ru.stp s, rfl⟩
  exact ⟨st, rm.laid hp, relU_tup (rm.no hp) upd_same (rr.stp st)⟩
def uEnumL (ta : UA) : UI := fun τ M R => ta τ M fun us M1 => match us with
  | [.lst us] => R ⟨none, numbered us⟩ M1
  | _ => False
theorem sim_enumL {K : PySem.W.Frag} {ta : TA} {ta' : UA} (h : SimA K ta ta') : SimI K (iEnumL K ta) (uEnumL ta') := fun σ τ H M R' rs rm q R c => h σ τ H M _ rs rm q _ fun us vs M1 H1 s1 rm1 ru h1 => by
  split at h1
  · rename_i xs
    obtain ⟨v, rfl, a⟩ := ru.one
    simp only [RelU] at a
    obtain ⟨a, vs, rfl, m, r⟩ := a
    refine ⟨a, rfl, ⟨vs, ?_⟩, c _ _ M1 H1 s1 rm1 (walk_enumL m r) h1⟩
    rcases m with ⟨_, m⟩ | k
    · exact .inl m
    · exact .inr k
  · exact h1.elim
theorem ui_enumerateL {D : Dat} {elts : List Expr} {kk : Nat} {tpos : Pos} {a : Expr} {p pos : Pos} {ta : UA} (hm : D.mg "enumerate" = none) (ha : PAU D [a] ta) (hg : D.sc.names.lookup ("enumerate" : Str) = some .globalImplicit := by rfl) (hs : ∀ env, starEach [a] env = [(false, eval a env)] := by intro _; rfl) : PIU D (.Tuple elts kk tpos) (.Call (.Name "enumerate" p) [a] [] pos) (uEnumL ta) := by
  obtain ⟨_, q, s⟩ := ha
  exact ⟨_, fun X h => h.K ▸ pi_enumL (by show X.env.scope.names.lookup _ = _; rw [h.sc]; exact hg) (by rw [h.mg]; exact hm) (q X h) (hs _), sim_enumL s⟩
end U2

set_option linter.all false
set_option maxRecDepth 100000
namespace U2
open PySem PySem.Spec PyProof.Rows L2
/-! ### zip(t, x), t a tuple, x a settled list -/
abbrev yH1 (h : Heap) (a : Addr) : Heap := h.push { cls := .type "tuple_iterator", data := .fields #[.ref a, .int 0 0] }
abbrev yH2 (h : Heap) (a c : Addr) : Heap := (yH1 h a).push { cls := .type "list_iterator", data := .fields #[.ref c, .int 0 0] }
abbrev yH3 (h : Heap) (a c : Addr) : Heap := (yH2 h a c).push { cls := .type "tuple", data := .seq #[.ref h.objs.size, .ref (yH1 h a).objs.size] }
abbrev yH4 (h : Heap) (a c : Addr) : Heap := (yH3 h a c).push { cls := .type "tuple", data := .seq #[.none, .none] }
abbrev yH5 (h : Heap) (a c : Addr) : Heap := (yH4 h a c).push { cls := .type "zip", data := .fields #[.none, .bool false, .bool false, .ref (yH2 h a c).objs.size, .ref (yH3 h a c).objs.size] }
def uZipL (ta : UA) : UI := fun τ M R => ta τ M fun us M1 => match us with
  | [.tup us, .lst ws] => R ⟨none, zipped us ws⟩ M1
  | _ => False
end U2

set_option linter.all false
set_option maxRecDepth 100000
namespace Att
open PySem PySem.Spec PyProof.Rows PySem.W Calls
end Att

namespace L2
open PySem PySem.Spec PyProof.Rows
end L2

set_option linter.all false
set_option maxRecDepth 100000
namespace U2
open PySem PySem.Spec PyProof.Rows L2
/-! ### for x in reversed(y), y a settled list -/
def uRev (ta : UA) : UI := fun τ M R => ta τ M fun us M1 => match us with
  | [.lst us] => R ⟨none, us.reverse⟩ M1
  | _ => False
end U2

set_option linter.all false
set_option maxRecDepth 100000
namespace U2
open PySem PySem.Spec PyProof.Rows L2
/-! ### list(reversed(x)), x a list -/
section
variable {prog : Program} {w : World} {A : Around} {E : Value → Shared → Prop} {s : Shared}
end
def uListRev (o : Bool) (ta : UA) : UE := fun τ M Q => ta τ M fun us M1 => match us with
  | [x] => match view M1 x with
    | .lst us => mkL o us.reverse M1 Q
    | _ => False
  | _ => False
end U2

set_option linter.all false
set_option maxRecDepth 100000
namespace U2
open PySem PySem.Spec PyProof.Rows L2
section
variable {prog : Program} {w : World} {A : Around} {E : Value → Shared → Prop} {s : Shared}
end
def uSetFrom (te to ti : UE) : US := fun D τ M => te τ M fun v M1 => to τ M1 fun x M2 => ti τ M2 fun y M3 => match v, x, y with
  | .ref b, .ref l, .int a => match M3 b, M3 l with
    | some (.lst ws), some (.lst us) => l ≠ b ∧ 0 ≤ a ∧ a ≤ us.length ∧ us.length + ws.length ≤ sizeLine ∧ D.nx τ (mup M3 l (.lst (us.take a.toNat ++ ws)))
    | _, _ => False
  | _, _, _ => False
end U2

set_option linter.all false
set_option maxRecDepth 100000
namespace U2
open PySem PySem.Spec PyProof.Rows L2
/-! ### not x as a value, x anything with a truth -/
end U2

set_option linter.all false
set_option maxRecDepth 100000
namespace U2
open PySem PySem.Spec PyProof.Rows L2
/-! ### sorted(x), x a list of fewer than 64 whole numbers -/
theorem vals_of : ∀ {us : List Value} {ns : List Int}, IntsAre us ns → Vals (ns.map V.int) us
  | _, _, .nil => .nil
  | _, _, .cons n t r => .cons ⟨t, rfl⟩ (vals_of r)
theorem call_sortedL {X : Cx} : CallR X (.builtin "sorted") (fun xs H Q => ∃ p ns, xs = [.ref p] ∧ SqL X.K H p (ns.map V.int) ∧ ns.length < 64 ∧ ∀ (ns' : List Int) (q : Addr), ns'.Perm ns → ns'.Pairwise (· ≤ ·) → H q = none → Q (.ref q) (upd H q (.lst (ns'.map V.int)))) := by
  intro pins s σ H xs us Q I r h
  obtain ⟨p, ns, rfl, hq, h64, q⟩ := h
  obtain ⟨u, rfl, rx⟩ := vals1 r
  cases rx
  obtain ⟨its, r', pl, hz⟩ := I.list hq
  have hi : IntsAre its ns := intsAre_of r'
  have hlen : its.length = ns.length := by have := r'.length; rw [List.length_map] at this; exact this.symm
  refine sorted_ints pl.isList hi (by omega) fun out ns' a1 a2 a3 => ?_
  obtain ⟨e, he⟩ := sortedAll_at s.heap its out
  have hD : H (s.heap.objs.size + 1) = none := I.hok.fresh (Nat.le_succ _)
  have hl' : ns'.length = ns.length := a2.length_eq
  refine ⟨.ref (s.heap.objs.size + 1), _, I.laid (t' := s.toks) (o := .lst (ns'.map V.int)) (fun c o e => sortedAll_old e) (Nat.le_succ _) ⟨?_, out.toList, e, vals_of a1, ?_⟩, rfl, q ns' _ a2 a3 hD⟩
  · rw [List.length_map, hl']; exact Nat.le_trans (Nat.le_of_lt h64) (by decide)
  · simpa using he
def bSorted (o : Bool) : List U → MHp → UK → Prop := fun us M Q => match us with
  | [x] => match view M x with
    | .lst ws => ∃ ns, intsOf ws = some ns ∧ ns.length < 64 ∧ ∀ ns' : List Int, ns'.Perm ns → ns'.Pairwise (· ≤ ·) → mkL o (ns'.map U.int) M Q
    | _ => False
  | _ => False
theorem relUs_ints {K : PySem.W.Frag} {H : Hp} {M : MHp} : ∀ ns : List Int, RelUs K H M (ns.map U.int) (ns.map V.int)
  | [] => .nil
  | n :: ns => by
    have := relUs_ints (K := K) (H := H) (M := M) ns
    simp only [List.map_cons, RelUs]
    exact ⟨_, _, rfl, relU_int, this⟩
theorem b_sorted (own : Bool := false) {D : Dat} : Blt D (.builtin "sorted") (bSorted own) := ⟨⟨_, fun X h => by
    have := (call_sortedL (X := X)); rw [h.K] at this; exact this, fun xs us H M Q' rm rus h Q c => by
  unfold bSorted at h
  split at h
  · rename_i x
    obtain ⟨v, rfl, a1⟩ := rus.one
    split at h
    · rename_i ws e
      obtain ⟨ns, e2, h64, q⟩ := h
      obtain ⟨b, zvs, rfl, s2, r2⟩ := view_lst rm a1 e
      rw [intsOf_rel r2 e2] at s2
      exact ⟨b, ns, rfl, s2, h64, fun ns' q2 p1 p2 hq => c.lst rm (relUs_ints ns') hq (q ns' p1 p2)⟩
    · exact h.elim
  · exact h.elim⟩⟩
/-! ### in, not in, over lists and tuples of data -/
theorem DatVs.len {K : PySem.W.Frag} {H : Hp} : ∀ {ds : List PyData} {vs : List V}, DatVs K H ds vs → ds.length = vs.length
  | [], vs, h => by simp only [DatVs] at h; subst h; rfl
  | d :: ds, vs, h => by
    simp only [DatVs] at h
    obtain ⟨v, vs', rfl, _, h2⟩ := h
    simp only [List.length_cons, DatVs.len h2]
theorem DatVs.at {X : Cx} {pins : List (Addr × Obj)} {σ : L2.St} {H : Hp} {s : Shared} (I : L2.Inv X pins σ H s) : ∀ {ds : List PyData} {vs : List V} {us : List Value}, DatVs X.K H ds vs → Vals vs us → ∀ (j : Nat) (d : PyData) (u : Value), ds[j]? = some d → us[j]? = some u → ∃ as, Reads s.heap u d as
  | [], vs, us, h, r, j, d, u, e, _ => by cases e
  | d0 :: ds, vs, us, h, r, j, d, u, e, e' => by
    simp only [DatVs] at h
    obtain ⟨v, vs', rfl, h1, h2⟩ := h
    cases r with
    | cons r rr =>
      cases j with
      | zero => cases e; cases e'; exact h1.reads I r
      | succ j => exact DatVs.at I h2 rr j d u e e'
def rInD (K : PySem.W.Frag) (neg : Bool) : R2 := fun x y H Q => ∃ a xs ds d, y = .ref a ∧ (SqL K H a xs ∨ SqT K H a xs) ∧ DatVs K H ds xs ∧ DatV K H d x ∧ PyData.canLayAll0 ds = true ∧ d.canLay0 = true ∧ d.depth ≤ 60 ∧ Q (.bl (if neg then !ds.any (fun e => PyData.eqv e d) else ds.any (fun e => PyData.eqv e d))) H
theorem lay_mem : ∀ {ds : List PyData}, PyData.canLayAll0 ds = true → ∀ d ∈ ds, d.canLay0 = true
  | [], _, d, h => by cases h
  | a :: ds, hh, d, h => by
    simp only [PyData.canLayAll0, Bool.and_eq_true] at hh
    rcases List.mem_cons.mp h with rfl | h
    · exact hh.1
    · exact lay_mem hh.2 d h
open Classical in
theorem in_core {X : Cx} {k : Nat} (hr : Room k X.A) {pins : List (Addr × Obj)} {σ : L2.St} {H : Hp} {s : Shared} (I : L2.Inv X pins σ H s) {ds : List PyData} {vs : List V} {its : List Value} (h : DatVs X.K H ds vs) (r : Vals vs its) {d : PyData} {x : V} {v : Value} (hd : DatV X.K H d x) (rx : RelV x v) (c1 : PyData.canLayAll0 ds = true) (c2 : d.canLay0 = true) (hdep : d.depth ≤ 60) :
    ∃ e : Value → Bool, (∀ y ∈ its, SeqAt.EqAt X.A.in1 s y v (e y)) ∧ its.any e = ds.any fun d' => PyData.eqv d' d := by
  have hl : ds.length = its.length := by rw [h.len, r.length]
  obtain ⟨bs, rb⟩ := hd.reads I rx
  have key : ∀ (j : Nat) (d' : PyData) (u : Value), ds[j]? = some d' → its[j]? = some u → SeqAt.EqAt X.A.in1 s u v (PyData.eqv d' d) := fun j d' u e1 e2 => by
    obtain ⟨as, ra⟩ := DatVs.at I h r j d' u e1 e2
    exact SeqAt.eqAt_reads d' d _ _ _ _ _ _ ra rb (lay_mem c1 d' (List.mem_of_getElem? e1)) c2 (by have := hr.units; show X.A.units + 1 + _ < _; omega)
  refine ⟨fun u => decide (∃ (j : Nat) (d' : PyData), ds[j]? = some d' ∧ its[j]? = some u ∧ PyData.eqv d' d = true), fun y hy => ?_, ?_⟩
  · obtain ⟨j, hj⟩ := List.getElem?_of_mem hy
    have hjl : j < ds.length := by rw [hl]; exact (List.getElem?_eq_some_iff.mp hj).1
    have hdj : ds[j]? = some ds[j] := List.getElem?_eq_getElem hjl
    dsimp only
    by_cases hh : ∃ (j : Nat) (d' : PyData), ds[j]? = some d' ∧ its[j]? = some y ∧ PyData.eqv d' d = true
    · rw [decide_eq_true hh]
      obtain ⟨i, d', e1, e2, e3⟩ := hh
      rw [← e3]; exact key i d' y e1 e2
    · rw [decide_eq_false hh]
      have hf : PyData.eqv ds[j] d = false := by
        cases hc : PyData.eqv ds[j] d with
        | false => rfl
        | true => exact absurd ⟨j, ds[j], hdj, hj, hc⟩ hh
      rw [← hf]; exact key j ds[j] y hdj hj
  · rw [Bool.eq_iff_iff, List.any_eq_true, List.any_eq_true]
    constructor
    · rintro ⟨u, hu, he⟩
      obtain ⟨j, d', e1, e2, e3⟩ := of_decide_eq_true he
      exact ⟨d', List.mem_of_getElem? e1, e3⟩
    · rintro ⟨d', hd', he⟩
      obtain ⟨j, hj⟩ := List.getElem?_of_mem hd'
      have hjl : j < its.length := by rw [← hl]; exact (List.getElem?_eq_some_iff.mp hj).1
      have hij : its[j]? = some its[j] := List.getElem?_eq_getElem hjl
      exact ⟨its[j], List.getElem_mem hjl, decide_eq_true ⟨j, d', hj, hij, he⟩⟩
theorem op_notInD {X : Cx} {k : Nat} (hr : Room k X.A) : OpR X (compareOp .NotIn) (rInD X.K true) := by
  intro pins s σ H x y v u Q I rx ry h
  obtain ⟨p, xs, ds, d, rfl, hq, hds, hd, c1, c2, hdep, q⟩ := h
  cases ry
  rcases hq with hq | hq
  · obtain ⟨its, r, pl, hz⟩ := I.list hq
    obtain ⟨e, he, hany⟩ := in_core hr I hds r hd rx c1 c2 hdep
    refine SeqAt.notIn_listAt e pl.isList (fun w hw => he w (by simpa using hw)) ⟨.bl _, H, I, rfl, ?_⟩
    rw [show its.toArray.any e = its.any e by simp, hany]
    exact q
  · obtain ⟨its, r, pl, hz⟩ := I.tuple hq
    obtain ⟨e, he, hany⟩ := in_core hr I hds r hd rx c1 c2 hdep
    refine SeqAt.notIn_tupleAt e pl (fun w hw => he w (by simpa using hw)) ⟨.bl _, H, I, rfl, ?_⟩
    rw [show its.toArray.any e = its.any e by simp, hany]
    exact q
def uInD (neg : Bool) : UR2 := fun x y M Q => ∃ us ds d, items M y = some us ∧ toDs us = some ds ∧ topD M x = some d ∧ PyData.canLayAll0 ds = true ∧ d.canLay0 = true ∧ d.depth ≤ 60 ∧ Q (.bl (if neg then !ds.any (fun e => PyData.eqv e d) else ds.any (fun e => PyData.eqv e d))) M
theorem sim_inD {K : PySem.W.Frag} {neg : Bool} : SimR2 K (rInD K neg) (uInD neg) := fun x y u w H M Q' rm ru rw h Q c => by
  obtain ⟨us, ds, d, e1, e2, e3, c1, c2, hdep, q⟩ := h
  obtain ⟨p, xs, rfl, hs, rs⟩ := items_rel rm rw e1
  exact ⟨p, xs, ds, d, rfl, hs, toDs_rel rs e2, topD_rel rm ru e3, c1, c2, hdep, c.here rm relU_bl q⟩
theorem k_notInD {D : Dat} : Cmp D .NotIn (uInD true) := ⟨⟨_, fun X h => h.K ▸ op_notInD h.room, sim_inD⟩⟩
/-! ### a list that is read, times an int -/
theorem list_mulW (l : Addr) (items : Array Value) (n : Nat) (dd : Option Addr) (sl : Array (Option Value)) (x : Int) (u : Tok) (hc0 : ¬(!Builtin.List.listFitsIndex x) = true) (hc1 : ¬items.size * x.toNat > (2 ^ 63 - 1) / 8) (hc2 : ¬Builtin.List.listTooLong (items.size * x.toNat) = true) :
    Meets (Builtin.«list.__mul__» ⟨[.ref l, .int x u], []⟩) (fun _ R s => s.heap.get? l = some { cls := .type "list", dict := dd, data := .seq items n, slots := sl } ∧ R (.ok (.ret (Value.ref s.heap.objs.size))) { s with heap := s.heap.push { cls := .type "list", data := .seq (List.foldl (fun x1 x2 => x1 ++ x2) #[] (List.replicate (if items.isEmpty = true then 0 else x.toNat) items)) 0 } }) :=
  .of_wp fun prog w A R s h => by
    obtain ⟨hp, g, d, tk, os⟩ := s; obtain ⟨hl, h⟩ := h
    have hsz := PySem.AutoListH.joined_fits hc2
    wp_walk; refine wpAny_ite_false (decide_eq_false (Nat.not_lt.mpr hsz)) ?_; wp_walk; exact ⟨_, rfl, h⟩
theorem int_rmulW (a : Int) (t : Tok) (l : Addr) (items : Array Value) (n : Nat) (dd : Option Addr) (sl : Array (Option Value)) :
    Meets (Builtin.«int.__rmul__» ⟨[.int a t, .ref l], []⟩) (fun _ R s => s.heap.get? l = some { cls := .type "list", dict := dd, data := .seq items n, slots := sl } ∧ R (.ok (.ret Value.notImplemented)) s) :=
  .of_wp fun prog w A R s h => by obtain ⟨hp, g, d, tk, os⟩ := s; obtain ⟨hl, h⟩ := h; wp_walk; exact ⟨_, rfl, h⟩
def rRepL (K : PySem.W.Frag) : R2 := fun x y H Q => ∃ l k xs, x = .ref l ∧ y = .int k ∧ SqL K H l xs ∧ -(2 ^ 63) ≤ k ∧ k < 2 ^ 63 ∧ xs.length * k.toNat ≤ sizeLine ∧
  ∀ p, H p = none → Q (.ref p) (upd H p (.lst (List.replicate k.toNat xs).flatten))
theorem op_repL {X : Cx} : OpR X (binaryOp .Mult) (rRepL X.K) := by
  intro pins s σ H x y v u Q I rx ry h
  obtain ⟨l, k, xs, rfl, rfl, hH, h1, h2, hz, q⟩ := h
  cases rx
  obtain ⟨t, rfl⟩ := ry
  obtain ⟨its, r, p, hl'⟩ := I.list hH
  have hl := r.length
  obtain ⟨⟨cls, dd, data, sl⟩, n, e, hc, _, hd⟩ := p
  simp only at hc hd
  subst hc hd
  have hlen : its.toArray.size * k.toNat ≤ sizeLine := by rw [List.size_toArray, ← hl]; exact hz
  have hcap : ¬ its.toArray.size * k.toNat > (2 ^ 63 - 1) / 8 := by
    have : (sizeLine : Nat) ≤ (2 ^ 63 - 1) / 8 := by decide
    omega
  have hfit : ¬ (!Builtin.List.listFitsIndex k) = true := by
    rw [fitsIndex_both h1 h2]
    exact Bool.false_ne_true
  have hlong : ¬ Builtin.List.listTooLong (its.toArray.size * k.toNat) = true := by
    rw [notLongL hlen]
    exact Bool.false_ne_true
  have hnew : List.foldl (fun x1 x2 => x1 ++ x2) #[] (List.replicate (if its.toArray.isEmpty = true then 0 else k.toNat) its.toArray) = (List.replicate k.toNat its).flatten.toArray := by
    have f0 : ∀ m : Nat, List.foldl (fun x1 x2 => x1 ++ x2) #[] (List.replicate m its.toArray) = (List.replicate m its).flatten.toArray := fun m => by
      have := foldl_rep its m []
      rw [List.nil_append] at this
      exact this
    rw [f0]
    cases its with
    | nil => simp
    | cons a r' => rw [if_neg (by simp)]
  refine wpAny_binaryOp_repeat_ref (T := "list") (U := "int") (by decide) ⟨_, e, rfl⟩ (fun s' => typeIs_int s' k t) noFill_list_mul F.fills_int_mul F.slot_int_rmul repeat_list F.slot_int_index.lookup
    (call_meets F.slot_int_rmul (typeIs_int s k t) F.entry_int_rmul (F.args_int_rmul_2 _ _) (int_rmulW k t l its.toArray n dd sl)
      ⟨e, rfl, ⟨_, e, rfl⟩, call_meets F.slot_list_mul ⟨_, e, rfl⟩ F.entry_list_mul (F.args_list_mul_2 _ _) (list_mulW l its.toArray n dd sl k t hfit hcap hlong) ⟨e, ?_⟩⟩)
  rw [hnew]
  exact ⟨.ref _, _, I.lnew (t' := s.toks) (r.rep k.toNat) (by rw [len_rep, Nat.mul_comm]; exact hz), rfl, q _ I.fresh⟩
def uRepL (o : Bool) : UR2 := fun x y M Q => match view M x, y with
  | .lst us, .int k => -(2 ^ 63) ≤ k ∧ k < 2 ^ 63 ∧ us.length * k.toNat ≤ sizeLine ∧ mkL o (List.replicate k.toNat us).flatten M Q
  | _, _ => False
theorem sim_repL {K : PySem.W.Frag} {o : Bool} : SimR2 K (rRepL K) (uRepL o) := fun x y u w H M Q' rm ru rw h Q c => by
  unfold uRepL at h
  split at h
  · rename_i us k e
    obtain ⟨a, vs, rfl, s2, r2⟩ := view_lst rm ru e
    cases rw.int
    exact ⟨a, k, vs, rfl, rfl, s2, h.1, h.2.1, by rw [← r2.length]; exact h.2.2.1, fun p hp => c.lst rm (r2.rep k.toNat) hp h.2.2.2⟩
  · exact h.elim
theorem ue_repL {D : Dat} (own : Bool := false) {a b : Expr} {ta tb : UE} {pos : Pos} (ha : PEU D a ta) (hb : PEU D b tb) : PEU D (.BinOp a .Mult b pos) (uOp (uRepL own) ta tb) := ue_op (fun X h => by have := op_repL (X := X); rw [h.K] at this; exact this) sim_repL ha hb
end U2

set_option linter.all false
set_option maxRecDepth 100000
namespace K54
open PySem L2 U2
def top (i : Nat) : Stmt := PySem.Challenge.pw_rowsmith_k54_columns.main.body.getD i (.Pass ⟨0, 0, 0, 0⟩)
abbrev s_parts_of : Stmt := top 2
theorem sc_parts_of : FnScope ["shape"] ["shape"] (defScope s_parts_of) := ⟨rfl, rfl, rfl, by decide +kernel, rfl, by decide +kernel, by decide +kernel⟩
abbrev s_places_of : Stmt := top 3
theorem sc_places_of : FnScope ["shape", "found", "number", "part"] ["shape"] (defScope s_places_of) := ⟨rfl, rfl, rfl, by decide +kernel, rfl, by decide +kernel, by decide +kernel⟩
abbrev s_shape_at : Stmt := top 4
theorem sc_shape_at : FnScope ["shape", "place", "here", "number"] ["shape", "place"] (defScope s_shape_at) := ⟨rfl, rfl, rfl, by decide +kernel, rfl, by decide +kernel, by decide +kernel⟩
abbrev s_columns_of : Stmt := top 5
theorem sc_columns_of : FnScope ["table", "found", "tile", "inner", "piece"] ["table"] (defScope s_columns_of) := ⟨rfl, rfl, rfl, by decide +kernel, rfl, by decide +kernel, by decide +kernel⟩
abbrev s_columns : Stmt := top 7
theorem sc_columns : FnScope ["table"] ["table"] (defScope s_columns) := ⟨rfl, rfl, rfl, by decide +kernel, rfl, by decide +kernel, by decide +kernel⟩
abbrev s_law_draw : Stmt := top 9
theorem sc_law_draw : FnScope ["tape", "many", "spot", "cell", "some", "rest"] ["tape", "many"] (defScope s_law_draw) := ⟨rfl, rfl, rfl, by decide +kernel, rfl, by decide +kernel, by decide +kernel⟩
abbrev s_law_number : Stmt := top 10
theorem sc_law_number : FnScope ["tape", "some", "way"] ["tape"] (defScope s_law_number) := ⟨rfl, rfl, rfl, by decide +kernel, rfl, by decide +kernel, by decide +kernel⟩
abbrev s_law_pattern : Stmt := top 11
theorem sc_law_pattern : FnScope ["tape", "classes", "left", "room", "way", "ends", "one", "sign"] ["tape", "classes", "left", "room"] (defScope s_law_pattern) := ⟨rfl, rfl, rfl, by decide +kernel, rfl, by decide +kernel, by decide +kernel⟩
abbrev s_law_tile : Stmt := top 12
theorem sc_law_tile : FnScope ["tape", "classes", "cls", "pattern", "cost"] ["tape", "classes"] (defScope s_law_tile) := ⟨rfl, rfl, rfl, by decide +kernel, rfl, by decide +kernel, by decide +kernel⟩
abbrev s_law_plain : Stmt := top 13
theorem sc_law_plain : FnScope ["tape", "classes", "cls", "here", "some", "found", "pattern"] ["tape", "classes"] (defScope s_law_plain) := ⟨rfl, rfl, rfl, by decide +kernel, rfl, by decide +kernel, by decide +kernel⟩
abbrev s_law_table : Stmt := top 14
theorem sc_law_table : FnScope ["tape", "pool", "at", "many", "classes", "tiles", "k", "spot", "names", "found", "tile", "name"] ["tape"] (defScope s_law_table) := ⟨rfl, rfl, rfl, by decide +kernel, rfl, by decide +kernel, by decide +kernel⟩
abbrev s_law_tree : Stmt := top 15
abbrev s_law_parts : Stmt := top 16
theorem sc_law_parts : FnScope ["table", "found", "tile", "part"] ["table"] (defScope s_law_parts) := ⟨rfl, rfl, rfl, by decide +kernel, rfl, by decide +kernel, by decide +kernel⟩
abbrev s_law_below : Stmt := top 17
theorem sc_law_below : FnScope ["part", "found", "one"] ["part", "found"] (defScope s_law_below) := ⟨rfl, rfl, rfl, by decide +kernel, rfl, by decide +kernel, by decide +kernel⟩
abbrev s_law : Stmt := top 18
theorem sc_law : FnScope ["script", "tape", "table", "due", "told"] ["script"] (defScope s_law) := ⟨rfl, rfl, rfl, by decide +kernel, rfl, by decide +kernel, by decide +kernel⟩

inductive Op where
  | sum | less | by_
def Op.word : Op → Str
  | .sum => "sum" | .less => "less" | .by_ => "by"
inductive Tr where
  | num (n : Int) | name (x : Str) | turn (a : Tr) | two (o : Op) (a b : Tr)
def Tr.toU : Tr → U
  | .num n => .tup [.str "num", .int n]
  | .name x => .tup [.str "name", .str x]
  | .turn a => .tup [.str "turn", a.toU]
  | .two o a b => .tup [.str o.word, a.toU, b.toU]
def Tr.ok : Tr → Prop
  | .num _ => True
  | .name x => PyData.strOk x = true ∧ x.length ≤ 100
  | .turn a => a.ok
  | .two _ a b => a.ok ∧ b.ok
def Tr.dep : Tr → Nat
  | .num _ => 1
  | .name _ => 1
  | .turn a => a.dep + 1
  | .two _ a b => max a.dep b.dep + 1
inductive Pt where
  | hole (c : Str) | any | fr (l h : Int) | turn (a : Pt) | two (o : Op) (a b : Pt)
def Pt.toU : Pt → U
  | .hole c => .tup [.str "at", .str c]
  | .any => .tup [.str "any"]
  | .fr l h => .tup [.str "from", .int l, .int h]
  | .turn a => .tup [.str "turn", a.toU]
  | .two o a b => .tup [.str o.word, a.toU, b.toU]
def Pt.ok : Pt → Prop
  | .hole c => PyData.strOk c = true
  | .any => True
  | .fr l h => 0 ≤ l ∧ l ≤ h
  | .turn a => a.ok
  | .two _ a b => a.ok ∧ b.ok
def Pt.dep : Pt → Nat
  | .hole _ => 1
  | .any => 1
  | .fr _ _ => 1
  | .turn a => a.dep + 1
  | .two _ a b => max a.dep b.dep + 1
def Pt.holes : Pt → Nat
  | .hole _ => 1
  | .any => 0
  | .fr _ _ => 0
  | .turn a => a.holes
  | .two _ a b => a.holes + b.holes
def Pt.leafy : Pt → Bool
  | .turn _ => false
  | .two _ _ _ => false
  | _ => true
/-- all leaves, in the order of places -/
def Pt.ends : Pt → List Pt
  | .turn a => a.ends
  | .two _ a b => a.ends ++ b.ends
  | p => [p]
instance : DecidableEq Op := fun a b => by cases a <;> cases b <;> first | exact isTrue rfl | exact isFalse (fun h => nomatch h)
def lieF : Pt → Tr → Bool
  | .hole _, _ => true
  | .any, .name _ => true
  | .any, _ => false
  | .fr l h, .num n => decide (l ≤ n) && decide (n ≤ h)
  | .fr _ _, _ => false
  | .turn p, .turn a => lieF p a
  | .turn _, _ => false
  | .two o p q, .two o' a b => decide (o = o') && (lieF p a && lieF q b)
  | .two _ _ _, _ => false
def SIGNS : List (Str × Fl) := [("turn", .int 1), ("sum", .int 2), ("less", .int 2), ("by", .int 2)]
theorem app_toList (x y : Str) : (x ++ y).cps.toList = x.cps.toList ++ y.cps.toList := by
  show (x.cps ++ y.cps).toList = _
  simp
theorem atI_mem {α : Type} {l : List α} {i : Int} {c : α} (h : atI l i = some c) : c ∈ l := by
  unfold atI at h
  cases e : ixN l.length i with
  | none => rw [e] at h; cases h
  | some j => rw [e] at h; exact List.mem_of_getElem? h
theorem small {n : Nat} (h : n ≤ 100000) : n ≤ sizeLine := Nat.le_trans h (by decide)
theorem szl {n : Nat} (h : n ≤ 100000) : (n ≤ sizeLine) = True := eq_true (small h)
theorem w_at_any : (Str.ofString "at" = Str.ofString "any") = False := eq_false (by decide +kernel)
theorem w_at_from : (Str.ofString "at" = Str.ofString "from") = False := eq_false (by decide +kernel)
theorem w_at_turn : (Str.ofString "at" = Str.ofString "turn") = False := eq_false (by decide +kernel)
theorem w_at_num : (Str.ofString "at" = Str.ofString "num") = False := eq_false (by decide +kernel)
theorem w_at_name : (Str.ofString "at" = Str.ofString "name") = False := eq_false (by decide +kernel)
theorem w_any_at : (Str.ofString "any" = Str.ofString "at") = False := eq_false (by decide +kernel)
theorem w_any_from : (Str.ofString "any" = Str.ofString "from") = False := eq_false (by decide +kernel)
theorem w_any_turn : (Str.ofString "any" = Str.ofString "turn") = False := eq_false (by decide +kernel)
theorem w_any_num : (Str.ofString "any" = Str.ofString "num") = False := eq_false (by decide +kernel)
theorem w_any_name : (Str.ofString "any" = Str.ofString "name") = False := eq_false (by decide +kernel)
theorem w_from_at : (Str.ofString "from" = Str.ofString "at") = False := eq_false (by decide +kernel)
theorem w_from_any : (Str.ofString "from" = Str.ofString "any") = False := eq_false (by decide +kernel)
theorem w_from_turn : (Str.ofString "from" = Str.ofString "turn") = False := eq_false (by decide +kernel)
theorem w_from_num : (Str.ofString "from" = Str.ofString "num") = False := eq_false (by decide +kernel)
theorem w_from_name : (Str.ofString "from" = Str.ofString "name") = False := eq_false (by decide +kernel)
theorem w_turn_at : (Str.ofString "turn" = Str.ofString "at") = False := eq_false (by decide +kernel)
theorem w_turn_any : (Str.ofString "turn" = Str.ofString "any") = False := eq_false (by decide +kernel)
theorem w_turn_from : (Str.ofString "turn" = Str.ofString "from") = False := eq_false (by decide +kernel)
theorem w_turn_num : (Str.ofString "turn" = Str.ofString "num") = False := eq_false (by decide +kernel)
theorem w_turn_name : (Str.ofString "turn" = Str.ofString "name") = False := eq_false (by decide +kernel)
theorem w_num_at : (Str.ofString "num" = Str.ofString "at") = False := eq_false (by decide +kernel)
theorem w_num_any : (Str.ofString "num" = Str.ofString "any") = False := eq_false (by decide +kernel)
theorem w_num_from : (Str.ofString "num" = Str.ofString "from") = False := eq_false (by decide +kernel)
theorem w_num_turn : (Str.ofString "num" = Str.ofString "turn") = False := eq_false (by decide +kernel)
theorem w_num_name : (Str.ofString "num" = Str.ofString "name") = False := eq_false (by decide +kernel)
theorem w_name_at : (Str.ofString "name" = Str.ofString "at") = False := eq_false (by decide +kernel)
theorem w_name_any : (Str.ofString "name" = Str.ofString "any") = False := eq_false (by decide +kernel)
theorem w_name_from : (Str.ofString "name" = Str.ofString "from") = False := eq_false (by decide +kernel)
theorem w_name_turn : (Str.ofString "name" = Str.ofString "turn") = False := eq_false (by decide +kernel)
theorem w_name_num : (Str.ofString "name" = Str.ofString "num") = False := eq_false (by decide +kernel)
theorem w_o_at (o : Op) : (o.word = Str.ofString "at") = False := eq_false (by cases o <;> decide +kernel)
theorem w_o_any (o : Op) : (o.word = Str.ofString "any") = False := eq_false (by cases o <;> decide +kernel)
theorem w_o_from (o : Op) : (o.word = Str.ofString "from") = False := eq_false (by cases o <;> decide +kernel)
theorem w_o_turn (o : Op) : (o.word = Str.ofString "turn") = False := eq_false (by cases o <;> decide +kernel)
theorem w_o_num (o : Op) : (o.word = Str.ofString "num") = False := eq_false (by cases o <;> decide +kernel)
theorem w_o_name (o : Op) : (o.word = Str.ofString "name") = False := eq_false (by cases o <;> decide +kernel)
theorem w_at_o (o : Op) : (Str.ofString "at" = o.word) = False := eq_false (by cases o <;> decide +kernel)
theorem w_any_o (o : Op) : (Str.ofString "any" = o.word) = False := eq_false (by cases o <;> decide +kernel)
theorem w_from_o (o : Op) : (Str.ofString "from" = o.word) = False := eq_false (by cases o <;> decide +kernel)
theorem w_turn_o (o : Op) : (Str.ofString "turn" = o.word) = False := eq_false (by cases o <;> decide +kernel)
theorem w_num_o (o : Op) : (Str.ofString "num" = o.word) = False := eq_false (by cases o <;> decide +kernel)
theorem w_name_o (o : Op) : (Str.ofString "name" = o.word) = False := eq_false (by cases o <;> decide +kernel)
theorem ww : (Str.ofString "at" = Str.ofString "any") = False ∧ (Str.ofString "at" = Str.ofString "from") = False ∧ (Str.ofString "at" = Str.ofString "turn") = False ∧ (Str.ofString "at" = Str.ofString "num") = False ∧ (Str.ofString "at" = Str.ofString "name") = False ∧ (Str.ofString "any" = Str.ofString "at") = False ∧ (Str.ofString "any" = Str.ofString "from") = False ∧ (Str.ofString "any" = Str.ofString "turn") = False ∧ (Str.ofString "any" = Str.ofString "num") = False ∧ (Str.ofString "any" = Str.ofString "name") = False ∧ (Str.ofString "from" = Str.ofString "at") = False ∧ (Str.ofString "from" = Str.ofString "any") = False ∧ (Str.ofString "from" = Str.ofString "turn") = False ∧ (Str.ofString "from" = Str.ofString "num") = False ∧ (Str.ofString "from" = Str.ofString "name") = False ∧ (Str.ofString "turn" = Str.ofString "at") = False ∧ (Str.ofString "turn" = Str.ofString "any") = False ∧ (Str.ofString "turn" = Str.ofString "from") = False ∧ (Str.ofString "turn" = Str.ofString "num") = False ∧ (Str.ofString "turn" = Str.ofString "name") = False ∧ (Str.ofString "num" = Str.ofString "at") = False ∧ (Str.ofString "num" = Str.ofString "any") = False ∧ (Str.ofString "num" = Str.ofString "from") = False ∧ (Str.ofString "num" = Str.ofString "turn") = False ∧ (Str.ofString "num" = Str.ofString "name") = False ∧ (Str.ofString "name" = Str.ofString "at") = False ∧ (Str.ofString "name" = Str.ofString "any") = False ∧ (Str.ofString "name" = Str.ofString "from") = False ∧ (Str.ofString "name" = Str.ofString "turn") = False ∧ (Str.ofString "name" = Str.ofString "num") = False ∧ (∀ o : Op, (o.word = Str.ofString "at") = False) ∧ (∀ o : Op, (o.word = Str.ofString "any") = False) ∧ (∀ o : Op, (o.word = Str.ofString "from") = False) ∧ (∀ o : Op, (o.word = Str.ofString "turn") = False) ∧ (∀ o : Op, (o.word = Str.ofString "num") = False) ∧ (∀ o : Op, (o.word = Str.ofString "name") = False) ∧ (∀ o : Op, (Str.ofString "at" = o.word) = False) ∧ (∀ o : Op, (Str.ofString "any" = o.word) = False) ∧ (∀ o : Op, (Str.ofString "from" = o.word) = False) ∧ (∀ o : Op, (Str.ofString "turn" = o.word) = False) ∧ (∀ o : Op, (Str.ofString "num" = o.word) = False) ∧ (∀ o : Op, (Str.ofString "name" = o.word) = False) := ⟨w_at_any, w_at_from, w_at_turn, w_at_num, w_at_name, w_any_at, w_any_from, w_any_turn, w_any_num, w_any_name, w_from_at, w_from_any, w_from_turn, w_from_num, w_from_name, w_turn_at, w_turn_any, w_turn_from, w_turn_num, w_turn_name, w_num_at, w_num_any, w_num_from, w_num_turn, w_num_name, w_name_at, w_name_any, w_name_from, w_name_turn, w_name_num, w_o_at, w_o_any, w_o_from, w_o_turn, w_o_num, w_o_name, w_at_o, w_any_o, w_from_o, w_turn_o, w_num_o, w_name_o⟩
section
variable {P : Program} {w : World} {K : PySem.W.Frag} {mg : Str → Option Value} {base : Heap} {f d d2 fl : Addr} {fd : FuncData}
theorem eqX_int {neg : Bool} {i j : Int} {M : MHp} {Q : UK} : uEqX neg (.int i) (.int j) M Q = Q (.bl (if neg then !decide (i = j) else decide (i = j))) M := rfl
theorem eqX_str {neg : Bool} {i j : Str} {M : MHp} {Q : UK} : uEqX neg (.str i) (.str j) M Q = Q (.bl (if neg then !decide (i = j) else decide (i = j))) M := rfl
theorem big {k : Nat} (h : k < 100000) : k < sizeLine := Nat.lt_of_lt_of_le h (by decide)
def spPartsG : USp := fun us M Q => ∃ (z : Str) (r : List U) (b : Bool), us = [.tup (.str z :: r)] ∧ (tabGet SIGNS z).isSome = b ∧ r.length ≤ 1000 ∧ Q (.tup (if b then r else [])) M
theorem ok_parts_of (F : Fun K "parts_of" "parts_of" s_parts_of f fd) (hm : mg "parts_of" = some (.ref f)) (T_SIGNS : IsTab P w K d SIGNS) (g_SIGNS : mg "SIGNS" = some (.ref d)) : Callee P w K mg base 1 "parts_of" spPartsG [] := by
  refine callee_of F hm sc_parts_of (fun _ _ _ _ _ _ us hl => match us, hl with | [_], _ => rfl) (fun us M Q h => by obtain ⟨x, y, b, rfl, _⟩ := h; rfl) (uss_one (us_ret (ue_if (ut_c (k_inTab T_SIGNS) (ue_ix (uv 0) un_) (ug_ref g_SIGNS)) (ue_slX (own := false) (uv 0) (uo_some un_) uo_none) (ue_tup ua_nil)))) ?_
  rintro us M Q ⟨z, r, b, rfl, hb, hl, q⟩
  simp only [hb, eqX_int, eqX_str, capt, hTup, hCons, hNil, uLtX, uIn, items, uEnum, uZip, mExtend, mClear, at0, at1, at2, at3, Option.some.injEq, exists_eq_left', true_and, and_true, uBM, uBM0, mAppend, mPop, uCallV, inTab, ixTab, bMax, bSum, cLt, cLe, cGt, cGe, uAddL, startU, uSeq, uIfS, uOr, uAnd, uNot, uTru, uTest, uCB, uCons, uVar, uC, uNil, uNext, uRet, uRetN, uAsg, hName, uOp, uUn, uChain, uI0, uI, uAndV, uOrV, uNotV, uIf, uTup, uLst, mkL, uDrop, uCall, bIsi2, bLen, bAll, bInt1, bInt2, bList, bTuple, vw_non, vw_bl, vw_int, vw_str, vw_tup, vw_lst, vw_own, mup_same, mup_mup, typU, uEqS, uNeS, uIsN, uNotN, isNon, uAdd, uIx, uSlX, uNoPart, uPart, inSt, uIter, uRng1, uRng2, uBreak, uCont, List.map_cons, List.map_nil, List.length_cons, List.length_nil, List.cons_append, List.nil_append, List.replicate, List.getElem?_cons_zero, List.getElem?_cons_succ, List.set_cons_zero, List.set_cons_succ, List.append_nil, Nat.reduceAdd, Nat.reduceSub, Nat.sub_self, Nat.add_sub_cancel, Bool.not_false, Bool.not_true, if_true, if_false, Bool.false_eq_true, reduceCtorEq, decide_true, decide_false, isi_NoneType_bool, isi_NoneType_int, isi_NoneType_str, isi_NoneType_tuple, isi_NoneType_list, isi_NoneType_dict, isi_bool_bool, isi_bool_int, isi_bool_str, isi_bool_tuple, isi_bool_list, isi_bool_dict, isi_int_bool, isi_int_int, isi_int_str, isi_int_tuple, isi_int_list, isi_int_dict, isi_str_bool, isi_str_int, isi_str_str, isi_str_tuple, isi_str_list, isi_str_dict, isi_tuple_bool, isi_tuple_int, isi_tuple_str, isi_tuple_tuple, isi_tuple_list, isi_tuple_dict, isi_list_bool, isi_list_int, isi_list_str, isi_list_tuple, isi_list_list, isi_list_dict, isi_dict_bool, isi_dict_int, isi_dict_str, isi_dict_tuple, isi_dict_list, isi_dict_dict, uMul, bInt, mPopAt, uSetI, uEnumL, szl, Nat.reduceLeDiff, Option.getD_some]
  cases b with
  | true =>
    simp only [cut1, eqX_int, eqX_str, capt, hTup, hCons, hNil, uLtX, uIn, items, uEnum, uZip, mExtend, mClear, at0, at1, at2, at3, Option.some.injEq, exists_eq_left', true_and, and_true, uBM, uBM0, mAppend, mPop, uCallV, inTab, ixTab, bMax, bSum, cLt, cLe, cGt, cGe, uAddL, startU, uSeq, uIfS, uOr, uAnd, uNot, uTru, uTest, uCB, uCons, uVar, uC, uNil, uNext, uRet, uRetN, uAsg, hName, uOp, uUn, uChain, uI0, uI, uAndV, uOrV, uNotV, uIf, uTup, uLst, mkL, uDrop, uCall, bIsi2, bLen, bAll, bInt1, bInt2, bList, bTuple, vw_non, vw_bl, vw_int, vw_str, vw_tup, vw_lst, vw_own, mup_same, mup_mup, typU, uEqS, uNeS, uIsN, uNotN, isNon, uAdd, uIx, uSlX, uNoPart, uPart, inSt, uIter, uRng1, uRng2, uBreak, uCont, List.map_cons, List.map_nil, List.length_cons, List.length_nil, List.cons_append, List.nil_append, List.replicate, List.getElem?_cons_zero, List.getElem?_cons_succ, List.set_cons_zero, List.set_cons_succ, List.append_nil, Nat.reduceAdd, Nat.reduceSub, Nat.sub_self, Nat.add_sub_cancel, Bool.not_false, Bool.not_true, if_true, if_false, Bool.false_eq_true, reduceCtorEq, decide_true, decide_false, isi_NoneType_bool, isi_NoneType_int, isi_NoneType_str, isi_NoneType_tuple, isi_NoneType_list, isi_NoneType_dict, isi_bool_bool, isi_bool_int, isi_bool_str, isi_bool_tuple, isi_bool_list, isi_bool_dict, isi_int_bool, isi_int_int, isi_int_str, isi_int_tuple, isi_int_list, isi_int_dict, isi_str_bool, isi_str_int, isi_str_str, isi_str_tuple, isi_str_list, isi_str_dict, isi_tuple_bool, isi_tuple_int, isi_tuple_str, isi_tuple_tuple, isi_tuple_list, isi_tuple_dict, isi_list_bool, isi_list_int, isi_list_str, isi_list_tuple, isi_list_list, isi_list_dict, isi_dict_bool, isi_dict_int, isi_dict_str, isi_dict_tuple, isi_dict_list, isi_dict_dict, uMul, bInt, mPopAt, uSetI, uEnumL, szl, Nat.reduceLeDiff, Option.getD_some]
    exact rt_same q
  | false =>
    simp only [eqX_int, eqX_str, capt, hTup, hCons, hNil, uLtX, uIn, items, uEnum, uZip, mExtend, mClear, at0, at1, at2, at3, Option.some.injEq, exists_eq_left', true_and, and_true, uBM, uBM0, mAppend, mPop, uCallV, inTab, ixTab, bMax, bSum, cLt, cLe, cGt, cGe, uAddL, startU, uSeq, uIfS, uOr, uAnd, uNot, uTru, uTest, uCB, uCons, uVar, uC, uNil, uNext, uRet, uRetN, uAsg, hName, uOp, uUn, uChain, uI0, uI, uAndV, uOrV, uNotV, uIf, uTup, uLst, mkL, uDrop, uCall, bIsi2, bLen, bAll, bInt1, bInt2, bList, bTuple, vw_non, vw_bl, vw_int, vw_str, vw_tup, vw_lst, vw_own, mup_same, mup_mup, typU, uEqS, uNeS, uIsN, uNotN, isNon, uAdd, uIx, uSlX, uNoPart, uPart, inSt, uIter, uRng1, uRng2, uBreak, uCont, List.map_cons, List.map_nil, List.length_cons, List.length_nil, List.cons_append, List.nil_append, List.replicate, List.getElem?_cons_zero, List.getElem?_cons_succ, List.set_cons_zero, List.set_cons_succ, List.append_nil, Nat.reduceAdd, Nat.reduceSub, Nat.sub_self, Nat.add_sub_cancel, Bool.not_false, Bool.not_true, if_true, if_false, Bool.false_eq_true, reduceCtorEq, decide_true, decide_false, isi_NoneType_bool, isi_NoneType_int, isi_NoneType_str, isi_NoneType_tuple, isi_NoneType_list, isi_NoneType_dict, isi_bool_bool, isi_bool_int, isi_bool_str, isi_bool_tuple, isi_bool_list, isi_bool_dict, isi_int_bool, isi_int_int, isi_int_str, isi_int_tuple, isi_int_list, isi_int_dict, isi_str_bool, isi_str_int, isi_str_str, isi_str_tuple, isi_str_list, isi_str_dict, isi_tuple_bool, isi_tuple_int, isi_tuple_str, isi_tuple_tuple, isi_tuple_list, isi_tuple_dict, isi_list_bool, isi_list_int, isi_list_str, isi_list_tuple, isi_list_list, isi_list_dict, isi_dict_bool, isi_dict_int, isi_dict_str, isi_dict_tuple, isi_dict_list, isi_dict_dict, uMul, bInt, mPopAt, uSetI, uEnumL, szl, Nat.reduceLeDiff, Option.getD_some]
    exact rt_same q
theorem sg_turn : (tabGet SIGNS (Str.ofString "turn")).isSome = true := by decide +kernel
theorem sg_two (o : Op) : (tabGet SIGNS o.word).isSome = true := by cases o <;> decide +kernel
theorem pdep_pos : ∀ p : Pt, 1 ≤ p.dep
  | .hole _ => Nat.le_refl _
  | .any => Nat.le_refl _
  | .fr _ _ => Nat.le_refl _
  | .turn a => by simp only [Pt.dep]; omega
  | .two o a b => by simp only [Pt.dep]; omega
theorem mulL {i j : Int} (h1 : -(2 ^ 64) < i) (h2 : i < 2 ^ 64) : CMulB i j := .inl (.inl ⟨h1, h2⟩)
def sortsU (l : List Str) : U := .tup (l.map .str)
def datP : Pt → PyData
  | .hole c => .tuple [.str "at", .str c]
  | .any => .tuple [.str "any"]
  | .fr l h => .tuple [.str "from", .int l, .int h]
  | .turn a => .tuple [.str "turn", datP a]
  | .two o a b => .tuple [.str o.word, datP a, datP b]
theorem toD_P : ∀ p : Pt, toD p.toU = some (datP p)
  | .hole c => by simp [Pt.toU, toD, toDs, datP]
  | .any => by simp [Pt.toU, toD, toDs, datP]
  | .fr l h => by simp [Pt.toU, toD, toDs, datP]
  | .turn a => by simp [Pt.toU, toD, toDs, datP, toD_P a]
  | .two o a b => by simp [Pt.toU, toD, toDs, datP, toD_P a, toD_P b]
theorem layP : ∀ p : Pt, p.ok → (datP p).canLay0 = true
  | .hole c, h => by
    have h' : PyData.strOk c = true := h
    simp only [datP, PyData.canLay0, PyData.canLayAll0, h']; decide +kernel
  | .any, _ => by decide +kernel
  | .fr l h, _ => by simp only [datP, PyData.canLay0, PyData.canLayAll0]; decide +kernel
  | .turn a, h => by simp only [datP, PyData.canLay0, PyData.canLayAll0, layP a h]; decide +kernel
  | .two o a b, h => by
    have : PyData.strOk o.word = true := by cases o <;> decide +kernel
    simp only [datP, PyData.canLay0, PyData.canLayAll0, layP a h.1, layP b h.2, this]; decide +kernel
def datT : Tr → PyData
  | .num n => .tuple [.str "num", .int n]
  | .name x => .tuple [.str "name", .str x]
  | .turn a => .tuple [.str "turn", datT a]
  | .two o a b => .tuple [.str o.word, datT a, datT b]
theorem toD_T : ∀ p : Tr, toD p.toU = some (datT p)
  | .num c => by simp [Tr.toU, toD, toDs, datT]
  | .name c => by simp [Tr.toU, toD, toDs, datT]
  | .turn a => by simp [Tr.toU, toD, toDs, datT, toD_T a]
  | .two o a b => by simp [Tr.toU, toD, toDs, datT, toD_T a, toD_T b]
theorem layT : ∀ p : Tr, p.ok → (datT p).canLay0 = true
  | .num c, h => by simp only [datT, PyData.canLay0, PyData.canLayAll0]; decide +kernel
  | .name c, h => by
    have h' : PyData.strOk c = true := h.1
    simp only [datT, PyData.canLay0, PyData.canLayAll0, h']; decide +kernel
  | .turn a, h => by simp only [datT, PyData.canLay0, PyData.canLayAll0, layT a h]; decide +kernel
  | .two o a b, h => by
    have : PyData.strOk o.word = true := by cases o <;> decide +kernel
    simp only [datT, PyData.canLay0, PyData.canLayAll0, layT a h.1, layT b h.2, this]; decide +kernel
def entP (p : Pt) : U := .tup [p.toU, .int (p.dep : Nat)]
def sumH : List Pt → Nat
  | [] => 0
  | p :: r => p.holes + sumH r
theorem sumH_app : ∀ l r : List Pt, sumH (l ++ r) = sumH l + sumH r
  | [], _ => by simp [sumH]
  | t :: l, r => by simp [sumH, sumH_app l r]; omega
def op3 (n : Int) : Op := if n % 3 = 0 then .sum else if n % 3 = 1 then .less else .by_
theorem seq_gen {u v : US} {D : UEnds} {τ : SU} {M : MHp} (h : ∀ V : SU → MHp → Prop, V = v D → u { D with nx := V } τ M) : uSeq u v D τ M := h _ rfl
theorem if_gen {c : UT} {t u : US} {D : UEnds} {τ : SU} {M : MHp} (h : ∀ A B : MHp → Prop, A = t D τ → B = u D τ → c τ M fun b M1 => if b = true then A M1 else B M1) : uIfS c t u D τ M := h _ _ rfl rfl

def placeU (p : List Nat) : U := .tup (p.map fun (n : Nat) => .int (n : Int))
def entE (x : List Nat × Pt) : U := .tup [placeU x.1, x.2.toU]
def endsP : Pt → List Nat → List (List Nat × Pt)
  | .turn a, pl => endsP a (pl ++ [0])
  | .two _ a b, pl => endsP a (pl ++ [0]) ++ endsP b (pl ++ [1])
  | p, pl => [(pl, p)]
theorem endsP_ends : ∀ (p : Pt) (pl : List Nat), (endsP p pl).map (·.2) = p.ends
  | .turn a, pl => by simp only [endsP, Pt.ends, endsP_ends a]
  | .two _ a b, pl => by simp only [endsP, Pt.ends, List.map_append, endsP_ends a, endsP_ends b]
  | .hole _, pl => rfl
  | .any, pl => rfl
  | .fr _ _, pl => rfl
theorem in3 (z : Str) : ([U.str (Str.ofString "at"), U.str (Str.ofString "any"), U.str (Str.ofString "from")].any fun u => eqF u (.str z)) = (decide (Str.ofString "at" = z) || (decide (Str.ofString "any" = z) || decide (Str.ofString "from" = z))) := by
  have e : ∀ a : Str, eqF (.str a) (.str z) = decide (a = z) := fun a => by
    show (a == z) = _
    by_cases h : a = z
    · subst h; simp
    · simp [h]
  simp only [List.any_cons, List.any_nil, e, Bool.or_false]
def bearF : Pt → Tr → List U
  | .any, .name x => [.str x]
  | .fr _ _, .num n => [.int n]
  | .turn p, .turn a => bearF p a
  | .two _ p q, .two _ a b => bearF p a ++ bearF q b
  | _, _ => []
theorem at_draw (l : List Int) (k : Nat) (h : k < l.length) : atI (l.map U.int) (k : Int) = some (.int l[k]) := atI_nat (by rw [List.getElem?_map, List.getElem?_eq_getElem h]; rfl)
def uIsB : UR2 := fun x y M Q => match x, y with
  | .bl i, .bl j => Q (.bl (decide (i = j))) M
  | _, _ => False
def Pt.parts : Pt → List Pt
  | .turn a => [a]
  | .two _ a b => [a, b]
  | _ => []
def subsP : Pt → List Nat → List (List Nat × Pt)
  | .turn a, pl => (pl, .turn a) :: subsP a (pl ++ [0])
  | .two o a b, pl => (pl, .two o a b) :: (subsP a (pl ++ [0]) ++ subsP b (pl ++ [1]))
  | p, pl => [(pl, p)]
def Pt.places : Pt → List (List Nat)
  | .turn a => [] :: a.places.map (0 :: ·)
  | .two _ a b => [] :: (a.places.map (0 :: ·) ++ b.places.map (1 :: ·))
  | _ => [[]]
theorem subs_places : ∀ (p : Pt) (pl : List Nat), (subsP p pl).map (·.1) = p.places.map (pl ++ ·)
  | .turn a, pl => by simp [subsP, Pt.places, subs_places a]
  | .two o a b, pl => by
    simp only [subsP, Pt.places, List.map_cons, List.map_append, subs_places a, subs_places b, List.map_map, List.append_nil]
    simp [Function.comp_def]
  | .hole _, pl => by simp [subsP, Pt.places]
  | .any, pl => by simp [subsP, Pt.places]
  | .fr _ _, pl => by simp [subsP, Pt.places]
theorem places_len : ∀ p : Pt, p.places.length < 2 ^ p.dep
  | .turn a => by have := places_len a; simp only [Pt.places, Pt.dep, List.length_cons, List.length_map, Nat.pow_succ]; omega
  | .two _ a b => by
    have h1 := places_len a
    have h2 := places_len b
    have h3 : 2 ^ a.dep ≤ 2 ^ max a.dep b.dep := Nat.pow_le_pow_right (by decide) (Nat.le_max_left _ _)
    have h4 : 2 ^ b.dep ≤ 2 ^ max a.dep b.dep := Nat.pow_le_pow_right (by decide) (Nat.le_max_right _ _)
    simp only [Pt.places, Pt.dep, Nat.pow_succ, List.length_cons, List.length_append, List.length_map]; omega
  | .hole _ => by simp [Pt.places, Pt.dep]
  | .any => by simp [Pt.places, Pt.dep]
  | .fr _ _ => by simp [Pt.places, Pt.dep]
theorem place_short : ∀ (p : Pt) (pl : List Nat), pl ∈ p.places → pl.length < p.dep
  | .turn a, pl, h => by
    simp only [Pt.places, List.mem_cons, List.mem_map] at h
    rcases h with rfl | ⟨q, hq, rfl⟩
    · simp [Pt.dep]
    · have := place_short a q hq; simp only [Pt.dep, List.length_cons]; omega
  | .two o a b, pl, h => by
    simp only [Pt.places, List.mem_cons, List.mem_append, List.mem_map] at h
    rcases h with rfl | ⟨q, hq, rfl⟩ | ⟨q, hq, rfl⟩
    · simp [Pt.dep]
    · have := place_short a q hq; simp only [Pt.dep, List.length_cons]; omega
    · have := place_short b q hq; simp only [Pt.dep, List.length_cons]; omega
  | .hole _, pl, h => by simp [Pt.places] at h; subst h; simp [Pt.dep]
  | .any, pl, h => by simp [Pt.places] at h; subst h; simp [Pt.dep]
  | .fr _ _, pl, h => by simp [Pt.places] at h; subst h; simp [Pt.dep]
def spPlaces (n : Nat) : USp := fun us M Q => ∃ p : Pt, us = [p.toU] ∧ p.dep ≤ n ∧ n ≤ 10 ∧ Q (.lst (p.places.map placeU)) M
theorem s_at : (tabGet SIGNS (Str.ofString "at")).isSome = false := by decide +kernel
theorem s_any : (tabGet SIGNS (Str.ofString "any")).isSome = false := by decide +kernel
theorem s_from : (tabGet SIGNS (Str.ofString "from")).isSome = false := by decide +kernel
theorem head_sign (p : Pt) : ∃ z r, p.toU = .tup (.str z :: r) ∧ (tabGet SIGNS z).isSome = !p.leafy ∧ (p.leafy = false → r = p.parts.map Pt.toU) ∧ r.length ≤ 3 := by
  cases p with
  | hole c => exact ⟨_, _, rfl, s_at, (fun h => by cases h), by simp⟩
  | any => exact ⟨_, _, rfl, s_any, (fun h => by cases h), by simp⟩
  | fr l h => exact ⟨_, _, rfl, s_from, (fun h => by cases h), by simp⟩
  | turn a => exact ⟨_, _, rfl, sg_turn, fun _ => rfl, by simp⟩
  | two o a b => exact ⟨_, _, rfl, sg_two o, fun _ => rfl, by simp⟩
theorem parts_leaf {p : Pt} (h : p.leafy = true) : p.parts = [] := by cases p <;> first | rfl | cases h
def innerP : Nat → List Pt → List (List Nat)
  | _, [] => []
  | k, a :: r => a.places.map (k :: ·) ++ innerP (k + 1) r
theorem places_eq (p : Pt) : p.places = [] :: innerP 0 p.parts := by cases p <;> simp [Pt.places, Pt.parts, innerP]
theorem inner_snoc (l : List Pt) (a : Pt) : ∀ k, innerP k (l ++ [a]) = innerP k l ++ a.places.map ((k + l.length) :: ·) := by
  induction l with
  | nil => intro k; simp [innerP]
  | cons b l ih => intro k; simp only [List.cons_append, innerP, ih, List.length_cons, List.append_assoc]; rw [show k + 1 + l.length = k + (l.length + 1) by omega]
theorem inner_le (p : Pt) (i : Nat) : (innerP 0 (p.parts.take i)).length + 1 ≤ p.places.length := by
  have : ∀ (l : List Pt) (k j : Nat), (innerP k (l.take j)).length ≤ (innerP k l).length := by
    intro l
    induction l with
    | nil => intro k j; simp [innerP]
    | cons a l ih =>
      intro k j
      cases j with
      | zero => simp [innerP]
      | succ j => simp only [List.take_succ_cons, innerP, List.length_append]; have := ih (k + 1) j; omega
  have h1 := this p.parts 0 i
  rw [places_eq p, List.length_cons]
  omega
theorem part_dep {p a : Pt} {i : Nat} (h : p.parts[i]? = some a) : a.dep < p.dep := by
  have hm := List.mem_of_getElem? h
  cases p with
  | turn b =>
    have : a = b := by simpa [Pt.parts] using hm
    subst this; simp only [Pt.dep]; omega
  | two o b c =>
    have : a = b ∨ a = c := by simpa [Pt.parts] using hm
    simp only [Pt.dep]
    rcases this with rfl | rfl <;> omega
  | _ => cases hm
theorem ok_places_of {n : Nat} (F : Fun K "places_of" "places_of" s_places_of f fd) (hm : mg "places_of" = some (.ref f)) (m_enumerate : mg "enumerate" = none)
    (C_parts_of : Callee P w K mg base 1 "parts_of" spPartsG []) (C_places_of : Callee P w K mg base (n + 1) "places_of" (spPlaces n) []) : Callee P w K mg base (n + 2) "places_of" (spPlaces (n + 1)) [] := by
  refine callee_of F hm sc_places_of (fun _ _ _ _ _ _ us hl => match us, hl with | [_], _ => rfl) (fun us M Q h => by obtain ⟨x, rfl, _⟩ := h; rfl) (uss_cons (us_set 1 sc_places_of.nd (ue_lst (own := true) (ua_cons (ue_tup ua_nil) ua_nil)))
  (uss_cons (us_for (ui_enumerate m_enumerate (ua_cons (ue_call C_parts_of (ua_cons (uv 0) ua_nil)) ua_nil)) (ug_tup (n := 2) (ugs_cons (ug_name (k := 1000) 2 sc_places_of.nd) (ugs_cons (ug_name (k := 1000) 3 sc_places_of.nd) ugs_nil)))
  (uss_one (us_expr (ue_extend (uv 1) (ua_cons (ue_comp false ["place", "number"] 1 [2] (ui_seq (ue_call C_places_of (ua_cons (uv 3) ua_nil))) (ug_name (k := 1) 0 (by dsimp only [compD]; decide +kernel)) uif_nil (ue_add (own := false) (ue_tup (ua_cons (uv 1) ua_nil)) (uv 0))) ua_nil)))))
  (uss_one (us_ret (uv 1))))) ?_
  rintro us M Q ⟨t, rfl, hd, hz, q⟩
  have hbig : ∀ a : Pt, a.dep ≤ 10 → a.places.length ≤ 1024 := fun a ha => by
    have h1 := places_len a
    have h2 : 2 ^ a.dep ≤ 2 ^ 10 := Nat.pow_le_pow_right (by decide) ha
    omega
  simp only [eqX_int, eqX_str, capt, hTup, hCons, hNil, uLtX, uIn, items, uEnum, uZip, mExtend, mClear, at0, at1, at2, at3, Option.some.injEq, exists_eq_left', true_and, and_true, uBM, uBM0, mAppend, mPop, uCallV, inTab, ixTab, bMax, bSum, cLt, cLe, cGt, cGe, uAddL, startU, uSeq, uIfS, uOr, uAnd, uNot, uTru, uTest, uCB, uCons, uVar, uC, uNil, uNext, uRet, uRetN, uAsg, hName, uOp, uUn, uChain, uI0, uI, uAndV, uOrV, uNotV, uIf, uTup, uLst, mkL, uDrop, uCall, bIsi2, bLen, bAll, bInt1, bInt2, bList, bTuple, vw_non, vw_bl, vw_int, vw_str, vw_tup, vw_lst, vw_own, mup_same, mup_mup, typU, uEqS, uNeS, uIsN, uNotN, isNon, uAdd, uIx, uSlX, uNoPart, uPart, inSt, uIter, uRng1, uRng2, uBreak, uCont, List.map_cons, List.map_nil, List.length_cons, List.length_nil, List.cons_append, List.nil_append, List.replicate, List.getElem?_cons_zero, List.getElem?_cons_succ, List.set_cons_zero, List.set_cons_succ, List.append_nil, Nat.reduceAdd, Nat.reduceSub, Nat.sub_self, Nat.add_sub_cancel, Bool.not_false, Bool.not_true, if_true, if_false, Bool.false_eq_true, reduceCtorEq, decide_true, decide_false, isi_NoneType_bool, isi_NoneType_int, isi_NoneType_str, isi_NoneType_tuple, isi_NoneType_list, isi_NoneType_dict, isi_bool_bool, isi_bool_int, isi_bool_str, isi_bool_tuple, isi_bool_list, isi_bool_dict, isi_int_bool, isi_int_int, isi_int_str, isi_int_tuple, isi_int_list, isi_int_dict, isi_str_bool, isi_str_int, isi_str_str, isi_str_tuple, isi_str_list, isi_str_dict, isi_tuple_bool, isi_tuple_int, isi_tuple_str, isi_tuple_tuple, isi_tuple_list, isi_tuple_dict, isi_list_bool, isi_list_int, isi_list_str, isi_list_tuple, isi_list_list, isi_list_dict, isi_dict_bool, isi_dict_int, isi_dict_str, isi_dict_tuple, isi_dict_list, isi_dict_dict, uMul, bInt, mPopAt, uSetI, uEnumL, szl, Nat.reduceLeDiff, Option.getD_some, uZipL, uIsB]
  refine fun p hp => ?_
  refine for_by (S := ⟨none, numbered (t.parts.map Pt.toU)⟩) (M1 := mup M p (.lst [.tup []])) (fun R r => ?_)
    (fun i τ Mi => ∃ b c, τ = [some t.toU, some (.ref p), b, c] ∧ Mi = mup M p (.lst (([] :: innerP 0 (t.parts.take i)).map placeU))) ⟨none, none, rfl, rfl⟩ (fun i τ M' _ a e => by cases e) ?_ ?_
  · obtain ⟨z, rr, e, e1, e2, e3⟩ := head_sign t
    refine ⟨z, rr, !t.leafy, by rw [← e]; rfl, e1, by omega, ?_⟩
    cases hl : t.leafy with
    | true => simp only [hl, Bool.not_true, Bool.false_eq_true, if_false]; rw [parts_leaf hl] at r; exact r
    | false => simp only [hl, Bool.not_false, if_true]; rw [e2 hl]; exact r
  · rintro i x τ Mi e ⟨b, c, rfl, rfl⟩
    obtain ⟨u, hu, rfl⟩ := numbered_get e
    rw [List.getElem?_map] at hu
    cases hp' : t.parts[i]? with
    | none => rw [hp'] at hu; cases hu
    | some a =>
      rw [hp'] at hu
      cases hu
      have ha := part_dep hp'
      have hin : innerP 0 (t.parts.take (i + 1)) = innerP 0 (t.parts.take i) ++ a.places.map (i :: ·) := by
        have hlt := (List.getElem?_eq_some_iff.mp hp').1
        rw [List.take_add_one, hp']
        have := inner_snoc (t.parts.take i) a 0
        rw [List.length_take, Nat.min_eq_left (Nat.le_of_lt hlt), Nat.zero_add] at this
        exact this
      have hb1 := hbig a (by omega)
      simp only [eqX_int, eqX_str, capt, hTup, hCons, hNil, uLtX, uIn, items, uEnum, uZip, mExtend, mClear, at0, at1, at2, at3, Option.some.injEq, exists_eq_left', true_and, and_true, uBM, uBM0, mAppend, mPop, uCallV, inTab, ixTab, bMax, bSum, cLt, cLe, cGt, cGe, uAddL, startU, uSeq, uIfS, uOr, uAnd, uNot, uTru, uTest, uCB, uCons, uVar, uC, uNil, uNext, uRet, uRetN, uAsg, hName, uOp, uUn, uChain, uI0, uI, uAndV, uOrV, uNotV, uIf, uTup, uLst, mkL, uDrop, uCall, bIsi2, bLen, bAll, bInt1, bInt2, bList, bTuple, vw_non, vw_bl, vw_int, vw_str, vw_tup, vw_lst, vw_own, mup_same, mup_mup, typU, uEqS, uNeS, uIsN, uNotN, isNon, uAdd, uIx, uSlX, uNoPart, uPart, inSt, uIter, uRng1, uRng2, uBreak, uCont, List.map_cons, List.map_nil, List.length_cons, List.length_nil, List.cons_append, List.nil_append, List.replicate, List.getElem?_cons_zero, List.getElem?_cons_succ, List.set_cons_zero, List.set_cons_succ, List.append_nil, Nat.reduceAdd, Nat.reduceSub, Nat.sub_self, Nat.add_sub_cancel, Bool.not_false, Bool.not_true, if_true, if_false, Bool.false_eq_true, reduceCtorEq, decide_true, decide_false, isi_NoneType_bool, isi_NoneType_int, isi_NoneType_str, isi_NoneType_tuple, isi_NoneType_list, isi_NoneType_dict, isi_bool_bool, isi_bool_int, isi_bool_str, isi_bool_tuple, isi_bool_list, isi_bool_dict, isi_int_bool, isi_int_int, isi_int_str, isi_int_tuple, isi_int_list, isi_int_dict, isi_str_bool, isi_str_int, isi_str_str, isi_str_tuple, isi_str_list, isi_str_dict, isi_tuple_bool, isi_tuple_int, isi_tuple_str, isi_tuple_tuple, isi_tuple_list, isi_tuple_dict, isi_list_bool, isi_list_int, isi_list_str, isi_list_tuple, isi_list_list, isi_list_dict, isi_dict_bool, isi_dict_int, isi_dict_str, isi_dict_tuple, isi_dict_list, isi_dict_dict, uMul, bInt, mPopAt, uSetI, uEnumL, szl, Nat.reduceLeDiff, Option.getD_some, uZipL, uIsB]
      refine ⟨isL_own, uComp_list (S := ⟨none, a.places.map placeU⟩) (M1 := mup M p (MO.lst (placeU [] :: List.map placeU (innerP 0 (List.take i t.parts))))) (a.places.map fun pl => placeU (i :: pl)) (fun R r' => ⟨a, rfl, by omega, by omega, r'⟩) (by simp) ?_ (fun a e => by cases e) ?_ ?_⟩
      · show (a.places.map placeU).length ≤ sizeLine
        rw [List.length_map]
        exact small (by omega)
      · intro j x y hx hy M' _ R r'
        have hx' : (a.places.map placeU)[j]? = some x := hx
        rw [List.getElem?_map] at hx' hy
        cases hpl : a.places[j]? with
        | none => rw [hpl] at hx'; cases hx'
        | some pl =>
          rw [hpl] at hx' hy
          cases hx'
          cases hy
          have h1 := place_short a pl (List.mem_of_getElem? hpl)
          simp only [placeU, eqX_int, eqX_str, capt, hTup, hCons, hNil, uLtX, uIn, items, uEnum, uZip, mExtend, mClear, at0, at1, at2, at3, Option.some.injEq, exists_eq_left', true_and, and_true, uBM, uBM0, mAppend, mPop, uCallV, inTab, ixTab, bMax, bSum, cLt, cLe, cGt, cGe, uAddL, startU, uSeq, uIfS, uOr, uAnd, uNot, uTru, uTest, uCB, uCons, uVar, uC, uNil, uNext, uRet, uRetN, uAsg, hName, uOp, uUn, uChain, uI0, uI, uAndV, uOrV, uNotV, uIf, uTup, uLst, mkL, uDrop, uCall, bIsi2, bLen, bAll, bInt1, bInt2, bList, bTuple, vw_non, vw_bl, vw_int, vw_str, vw_tup, vw_lst, vw_own, mup_same, mup_mup, typU, uEqS, uNeS, uIsN, uNotN, isNon, uAdd, uIx, uSlX, uNoPart, uPart, inSt, uIter, uRng1, uRng2, uBreak, uCont, List.map_cons, List.map_nil, List.length_cons, List.length_nil, List.cons_append, List.nil_append, List.replicate, List.getElem?_cons_zero, List.getElem?_cons_succ, List.set_cons_zero, List.set_cons_succ, List.append_nil, Nat.reduceAdd, Nat.reduceSub, Nat.sub_self, Nat.add_sub_cancel, Bool.not_false, Bool.not_true, if_true, if_false, Bool.false_eq_true, reduceCtorEq, decide_true, decide_false, isi_NoneType_bool, isi_NoneType_int, isi_NoneType_str, isi_NoneType_tuple, isi_NoneType_list, isi_NoneType_dict, isi_bool_bool, isi_bool_int, isi_bool_str, isi_bool_tuple, isi_bool_list, isi_bool_dict, isi_int_bool, isi_int_int, isi_int_str, isi_int_tuple, isi_int_list, isi_int_dict, isi_str_bool, isi_str_int, isi_str_str, isi_str_tuple, isi_str_list, isi_str_dict, isi_tuple_bool, isi_tuple_int, isi_tuple_str, isi_tuple_tuple, isi_tuple_list, isi_tuple_dict, isi_list_bool, isi_list_int, isi_list_str, isi_list_tuple, isi_list_list, isi_list_dict, isi_dict_bool, isi_dict_int, isi_dict_str, isi_dict_tuple, isi_dict_list, isi_dict_dict, uMul, bInt, mPopAt, uSetI, uEnumL, szl, Nat.reduceLeDiff, Option.getD_some, uZipL, uIsB]
          refine ⟨small ?_, ?_⟩
          · simp only [List.length_cons, List.length_nil, List.length_map]; omega
          · simpa [placeU] using r'
      · have h1 := inner_le t i
        have h2 := hbig t (by omega)
        simp only [mkL, mup_same, mup_mup, vw_lst, eqX_int, eqX_str, capt, hTup, hCons, hNil, uLtX, uIn, items, uEnum, uZip, mExtend, mClear, at0, at1, at2, at3, Option.some.injEq, exists_eq_left', true_and, and_true, uBM, uBM0, mAppend, mPop, uCallV, inTab, ixTab, bMax, bSum, cLt, cLe, cGt, cGe, uAddL, startU, uSeq, uIfS, uOr, uAnd, uNot, uTru, uTest, uCB, uCons, uVar, uC, uNil, uNext, uRet, uRetN, uAsg, hName, uOp, uUn, uChain, uI0, uI, uAndV, uOrV, uNotV, uIf, uTup, uLst, mkL, uDrop, uCall, bIsi2, bLen, bAll, bInt1, bInt2, bList, bTuple, vw_non, vw_bl, vw_int, vw_str, vw_tup, vw_lst, vw_own, mup_same, mup_mup, typU, uEqS, uNeS, uIsN, uNotN, isNon, uAdd, uIx, uSlX, uNoPart, uPart, inSt, uIter, uRng1, uRng2, uBreak, uCont, List.map_cons, List.map_nil, List.length_cons, List.length_nil, List.cons_append, List.nil_append, List.replicate, List.getElem?_cons_zero, List.getElem?_cons_succ, List.set_cons_zero, List.set_cons_succ, List.append_nil, Nat.reduceAdd, Nat.reduceSub, Nat.sub_self, Nat.add_sub_cancel, Bool.not_false, Bool.not_true, if_true, if_false, Bool.false_eq_true, reduceCtorEq, decide_true, decide_false, isi_NoneType_bool, isi_NoneType_int, isi_NoneType_str, isi_NoneType_tuple, isi_NoneType_list, isi_NoneType_dict, isi_bool_bool, isi_bool_int, isi_bool_str, isi_bool_tuple, isi_bool_list, isi_bool_dict, isi_int_bool, isi_int_int, isi_int_str, isi_int_tuple, isi_int_list, isi_int_dict, isi_str_bool, isi_str_int, isi_str_str, isi_str_tuple, isi_str_list, isi_str_dict, isi_tuple_bool, isi_tuple_int, isi_tuple_str, isi_tuple_tuple, isi_tuple_list, isi_tuple_dict, isi_list_bool, isi_list_int, isi_list_str, isi_list_tuple, isi_list_list, isi_list_dict, isi_dict_bool, isi_dict_int, isi_dict_str, isi_dict_tuple, isi_dict_list, isi_dict_dict, uMul, bInt, mPopAt, uSetI, uEnumL, szl, Nat.reduceLeDiff, Option.getD_some, uZipL, uIsB]
        refine ⟨small ?_, _, _, rfl, ?_⟩
        · simp only [List.length_map]; omega
        · rw [hin, List.map_append, List.map_map]; rfl
  · rintro τ Mi ⟨b, c, rfl, rfl⟩
    rw [numbered_len, List.length_map, List.take_length, ← places_eq]
    simp only [eqX_int, eqX_str, capt, hTup, hCons, hNil, uLtX, uIn, items, uEnum, uZip, mExtend, mClear, at0, at1, at2, at3, Option.some.injEq, exists_eq_left', true_and, and_true, uBM, uBM0, mAppend, mPop, uCallV, inTab, ixTab, bMax, bSum, cLt, cLe, cGt, cGe, uAddL, startU, uSeq, uIfS, uOr, uAnd, uNot, uTru, uTest, uCB, uCons, uVar, uC, uNil, uNext, uRet, uRetN, uAsg, hName, uOp, uUn, uChain, uI0, uI, uAndV, uOrV, uNotV, uIf, uTup, uLst, mkL, uDrop, uCall, bIsi2, bLen, bAll, bInt1, bInt2, bList, bTuple, vw_non, vw_bl, vw_int, vw_str, vw_tup, vw_lst, vw_own, mup_same, mup_mup, typU, uEqS, uNeS, uIsN, uNotN, isNon, uAdd, uIx, uSlX, uNoPart, uPart, inSt, uIter, uRng1, uRng2, uBreak, uCont, List.map_cons, List.map_nil, List.length_cons, List.length_nil, List.cons_append, List.nil_append, List.replicate, List.getElem?_cons_zero, List.getElem?_cons_succ, List.set_cons_zero, List.set_cons_succ, List.append_nil, Nat.reduceAdd, Nat.reduceSub, Nat.sub_self, Nat.add_sub_cancel, Bool.not_false, Bool.not_true, if_true, if_false, Bool.false_eq_true, reduceCtorEq, decide_true, decide_false, isi_NoneType_bool, isi_NoneType_int, isi_NoneType_str, isi_NoneType_tuple, isi_NoneType_list, isi_NoneType_dict, isi_bool_bool, isi_bool_int, isi_bool_str, isi_bool_tuple, isi_bool_list, isi_bool_dict, isi_int_bool, isi_int_int, isi_int_str, isi_int_tuple, isi_int_list, isi_int_dict, isi_str_bool, isi_str_int, isi_str_str, isi_str_tuple, isi_str_list, isi_str_dict, isi_tuple_bool, isi_tuple_int, isi_tuple_str, isi_tuple_tuple, isi_tuple_list, isi_tuple_dict, isi_list_bool, isi_list_int, isi_list_str, isi_list_tuple, isi_list_list, isi_list_dict, isi_dict_bool, isi_dict_int, isi_dict_str, isi_dict_tuple, isi_dict_list, isi_dict_dict, uMul, bInt, mPopAt, uSetI, uEnumL, szl, Nat.reduceLeDiff, Option.getD_some, uZipL, uIsB]
    exact ⟨_, M, (Sub.refl M).mup hp, .inr ⟨p, _, rfl, mup_same, hp, rfl⟩, q⟩
theorem places_all (F : Fun K "places_of" "places_of" s_places_of f fd) (hm : mg "places_of" = some (.ref f)) (m_enumerate : mg "enumerate" = none) (C_parts_of : Callee P w K mg base 1 "parts_of" spPartsG []) : ∀ n, Callee P w K mg base (n + 1) "places_of" (spPlaces n) []
  | 0 => by
    have no : ∀ us M Q, ¬ spPlaces 0 us M Q := fun us M Q h => by
      obtain ⟨p, _, h, _⟩ := h
      have := pdep_pos p
      omega
    refine ⟨f, fd, ["shape"], [], [], ⟨fun vs H Q E h => ?_, fun A outer s H args us vs Q E _ _ _ _ h => ?_⟩, hm, F.kp, F.binds (fun _ _ _ _ _ _ us hl => match us, hl with | [_], _ => rfl), .nil, fun H M => .nil⟩
    · obtain ⟨us, M, Q', _, _, h, _⟩ := h; exact absurd h (no us M Q')
    · obtain ⟨us, M, Q', _, _, h, _⟩ := h; exact absurd h (no us M Q')
  | n + 1 => ok_places_of F hm m_enumerate C_parts_of (places_all F hm m_enumerate C_parts_of n)
def stepU : U → Nat → Option U
  | .tup (.str z :: r), k => if (tabGet SIGNS z).isSome then (if r.length ≤ 1000 then r[k]? else none) else none
  | _, _ => none
def atU : U → List Nat → Option U
  | u, [] => some u
  | u, k :: pl => (stepU u k).bind fun v => atU v pl
theorem step_inv {h w : U} {k : Nat} (e : stepU h k = some w) : ∃ z r, h = .tup (.str z :: r) ∧ (tabGet SIGNS z).isSome = true ∧ r.length ≤ 1000 ∧ r[k]? = some w := by
  match h, e with
  | .tup (.str z :: r), e =>
    simp only [stepU] at e
    split at e
    · rename_i h1
      split at e
      · rename_i h2
        exact ⟨z, r, rfl, h1, h2, e⟩
      · cases e
    · cases e
  | .tup [], e => cases e
  | .tup (.non :: _), e => cases e
  | .tup (.bl _ :: _), e => cases e
  | .tup (.int _ :: _), e => cases e
  | .tup (.ty _ :: _), e => cases e
  | .tup (.ref _ :: _), e => cases e
  | .tup (.tup _ :: _), e => cases e
  | .tup (.lst _ :: _), e => cases e
  | .non, e => cases e
  | .bl _, e => cases e
  | .int _, e => cases e
  | .str _, e => cases e
  | .ty _, e => cases e
  | .ref _, e => cases e
  | .lst _, e => cases e
theorem atU_snoc : ∀ (l : List Nat) (u : U) (k : Nat), atU u (l ++ [k]) = (atU u l).bind fun v => stepU v k
  | [], u, k => by simp only [List.nil_append, atU, Option.bind_some]; cases stepU u k <;> rfl
  | j :: l, u, k => by
    simp only [List.cons_append, atU]
    cases stepU u j with
    | none => rfl
    | some v => exact atU_snoc l v k
theorem atU_none : ∀ (l r : List Nat) (u : U), atU u l = none → atU u (l ++ r) = none
  | [], r, u, z => by cases z
  | j :: l, r, u, z => by
    simp only [List.cons_append, atU] at z ⊢
    cases hj : stepU u j with
    | none => rfl
    | some v => rw [hj] at z; exact atU_none l r v z
def spAtU : USp := fun us M Q => ∃ (u v : U) (pl : List Nat), us = [u, placeU pl] ∧ atU u pl = some v ∧ Q v M
theorem ok_shape_at (F : Fun K "shape_at" "shape_at" s_shape_at f fd) (hm : mg "shape_at" = some (.ref f)) (C_parts_of : Callee P w K mg base 1 "parts_of" spPartsG []) : Callee P w K mg base 2 "shape_at" spAtU [] := by
  refine callee_of F hm sc_shape_at (fun _ _ _ _ _ _ us hl => match us, hl with | [_, _], _ => rfl) (fun us M Q h => by obtain ⟨x, y, z, rfl, _⟩ := h; rfl) (uss_cons (us_set 2 sc_shape_at.nd (uv 0))
  (uss_cons (us_for (ui_seq (uv 1)) (ug_name (k := 1000) 3 sc_shape_at.nd)
  (uss_one (us_set 2 sc_shape_at.nd (ue_ix (ue_call C_parts_of (ua_cons (uv 2) ua_nil)) (uv 3)))))
  (uss_one (us_ret (uv 2))))) ?_
  rintro us M Q ⟨u, v, pl, rfl, hpl, q⟩
  simp only [eqX_int, eqX_str, capt, hTup, hCons, hNil, uLtX, uIn, items, uEnum, uZip, mExtend, mClear, at0, at1, at2, at3, Option.some.injEq, exists_eq_left', true_and, and_true, uBM, uBM0, mAppend, mPop, uCallV, inTab, ixTab, bMax, bSum, cLt, cLe, cGt, cGe, uAddL, startU, uSeq, uIfS, uOr, uAnd, uNot, uTru, uTest, uCB, uCons, uVar, uC, uNil, uNext, uRet, uRetN, uAsg, hName, uOp, uUn, uChain, uI0, uI, uAndV, uOrV, uNotV, uIf, uTup, uLst, mkL, uDrop, uCall, bIsi2, bLen, bAll, bInt1, bInt2, bList, bTuple, vw_non, vw_bl, vw_int, vw_str, vw_tup, vw_lst, vw_own, mup_same, mup_mup, typU, uEqS, uNeS, uIsN, uNotN, isNon, uAdd, uIx, uSlX, uNoPart, uPart, inSt, uIter, uRng1, uRng2, uBreak, uCont, List.map_cons, List.map_nil, List.length_cons, List.length_nil, List.cons_append, List.nil_append, List.replicate, List.getElem?_cons_zero, List.getElem?_cons_succ, List.set_cons_zero, List.set_cons_succ, List.append_nil, Nat.reduceAdd, Nat.reduceSub, Nat.sub_self, Nat.add_sub_cancel, Bool.not_false, Bool.not_true, if_true, if_false, Bool.false_eq_true, reduceCtorEq, decide_true, decide_false, isi_NoneType_bool, isi_NoneType_int, isi_NoneType_str, isi_NoneType_tuple, isi_NoneType_list, isi_NoneType_dict, isi_bool_bool, isi_bool_int, isi_bool_str, isi_bool_tuple, isi_bool_list, isi_bool_dict, isi_int_bool, isi_int_int, isi_int_str, isi_int_tuple, isi_int_list, isi_int_dict, isi_str_bool, isi_str_int, isi_str_str, isi_str_tuple, isi_str_list, isi_str_dict, isi_tuple_bool, isi_tuple_int, isi_tuple_str, isi_tuple_tuple, isi_tuple_list, isi_tuple_dict, isi_list_bool, isi_list_int, isi_list_str, isi_list_tuple, isi_list_list, isi_list_dict, isi_dict_bool, isi_dict_int, isi_dict_str, isi_dict_tuple, isi_dict_list, isi_dict_dict, uMul, bInt, mPopAt, uSetI, uEnumL, szl, Nat.reduceLeDiff, Option.getD_some, uZipL, uIsB]
  refine for_by (S := ⟨none, pl.map fun (n : Nat) => U.int (n : Int)⟩) (M1 := M) (fun R r => r)
    (fun i τ Mi => ∃ (h : U) (c : Option U), τ = [some u, some (placeU pl), some h, c] ∧ Mi = M ∧ atU u (pl.take i) = some h) ⟨u, none, rfl, rfl, rfl⟩ (fun i τ M' _ a e => by cases e) ?_ ?_
  · rintro i x τ Mi e ⟨h, c, rfl, rfl, hh⟩
    have e' : (pl.map fun (n : Nat) => U.int (n : Int))[i]? = some x := e
    rw [List.getElem?_map] at e'
    cases hk : pl[i]? with
    | none => rw [hk] at e'; cases e'
    | some k =>
      rw [hk] at e'
      cases e'
      have hnx : atU u (pl.take (i + 1)) = stepU h k := by
        rw [List.take_add_one, hk]
        show atU u (pl.take i ++ [k]) = _
        rw [atU_snoc, hh]; rfl
      cases hs : stepU h k with
      | none =>
        rw [hs] at hnx
        have := atU_none (pl.take (i + 1)) (pl.drop (i + 1)) u hnx
        rw [List.take_append_drop, hpl] at this
        cases this
      | some w' =>
        rw [hs] at hnx
        obtain ⟨z, r, rfl, hz, hr, hs'⟩ := step_inv hs
        simp only [eqX_int, eqX_str, capt, hTup, hCons, hNil, uLtX, uIn, items, uEnum, uZip, mExtend, mClear, at0, at1, at2, at3, Option.some.injEq, exists_eq_left', true_and, and_true, uBM, uBM0, mAppend, mPop, uCallV, inTab, ixTab, bMax, bSum, cLt, cLe, cGt, cGe, uAddL, startU, uSeq, uIfS, uOr, uAnd, uNot, uTru, uTest, uCB, uCons, uVar, uC, uNil, uNext, uRet, uRetN, uAsg, hName, uOp, uUn, uChain, uI0, uI, uAndV, uOrV, uNotV, uIf, uTup, uLst, mkL, uDrop, uCall, bIsi2, bLen, bAll, bInt1, bInt2, bList, bTuple, vw_non, vw_bl, vw_int, vw_str, vw_tup, vw_lst, vw_own, mup_same, mup_mup, typU, uEqS, uNeS, uIsN, uNotN, isNon, uAdd, uIx, uSlX, uNoPart, uPart, inSt, uIter, uRng1, uRng2, uBreak, uCont, List.map_cons, List.map_nil, List.length_cons, List.length_nil, List.cons_append, List.nil_append, List.replicate, List.getElem?_cons_zero, List.getElem?_cons_succ, List.set_cons_zero, List.set_cons_succ, List.append_nil, Nat.reduceAdd, Nat.reduceSub, Nat.sub_self, Nat.add_sub_cancel, Bool.not_false, Bool.not_true, if_true, if_false, Bool.false_eq_true, reduceCtorEq, decide_true, decide_false, isi_NoneType_bool, isi_NoneType_int, isi_NoneType_str, isi_NoneType_tuple, isi_NoneType_list, isi_NoneType_dict, isi_bool_bool, isi_bool_int, isi_bool_str, isi_bool_tuple, isi_bool_list, isi_bool_dict, isi_int_bool, isi_int_int, isi_int_str, isi_int_tuple, isi_int_list, isi_int_dict, isi_str_bool, isi_str_int, isi_str_str, isi_str_tuple, isi_str_list, isi_str_dict, isi_tuple_bool, isi_tuple_int, isi_tuple_str, isi_tuple_tuple, isi_tuple_list, isi_tuple_dict, isi_list_bool, isi_list_int, isi_list_str, isi_list_tuple, isi_list_list, isi_list_dict, isi_dict_bool, isi_dict_int, isi_dict_str, isi_dict_tuple, isi_dict_list, isi_dict_dict, uMul, bInt, mPopAt, uSetI, uEnumL, szl, Nat.reduceLeDiff, Option.getD_some, uZipL, uIsB]
        refine ⟨z, r, true, rfl, hz, hr, ?_⟩
        simp only [eqX_int, eqX_str, capt, hTup, hCons, hNil, uLtX, uIn, items, uEnum, uZip, mExtend, mClear, at0, at1, at2, at3, Option.some.injEq, exists_eq_left', true_and, and_true, uBM, uBM0, mAppend, mPop, uCallV, inTab, ixTab, bMax, bSum, cLt, cLe, cGt, cGe, uAddL, startU, uSeq, uIfS, uOr, uAnd, uNot, uTru, uTest, uCB, uCons, uVar, uC, uNil, uNext, uRet, uRetN, uAsg, hName, uOp, uUn, uChain, uI0, uI, uAndV, uOrV, uNotV, uIf, uTup, uLst, mkL, uDrop, uCall, bIsi2, bLen, bAll, bInt1, bInt2, bList, bTuple, vw_non, vw_bl, vw_int, vw_str, vw_tup, vw_lst, vw_own, mup_same, mup_mup, typU, uEqS, uNeS, uIsN, uNotN, isNon, uAdd, uIx, uSlX, uNoPart, uPart, inSt, uIter, uRng1, uRng2, uBreak, uCont, List.map_cons, List.map_nil, List.length_cons, List.length_nil, List.cons_append, List.nil_append, List.replicate, List.getElem?_cons_zero, List.getElem?_cons_succ, List.set_cons_zero, List.set_cons_succ, List.append_nil, Nat.reduceAdd, Nat.reduceSub, Nat.sub_self, Nat.add_sub_cancel, Bool.not_false, Bool.not_true, if_true, if_false, Bool.false_eq_true, reduceCtorEq, decide_true, decide_false, isi_NoneType_bool, isi_NoneType_int, isi_NoneType_str, isi_NoneType_tuple, isi_NoneType_list, isi_NoneType_dict, isi_bool_bool, isi_bool_int, isi_bool_str, isi_bool_tuple, isi_bool_list, isi_bool_dict, isi_int_bool, isi_int_int, isi_int_str, isi_int_tuple, isi_int_list, isi_int_dict, isi_str_bool, isi_str_int, isi_str_str, isi_str_tuple, isi_str_list, isi_str_dict, isi_tuple_bool, isi_tuple_int, isi_tuple_str, isi_tuple_tuple, isi_tuple_list, isi_tuple_dict, isi_list_bool, isi_list_int, isi_list_str, isi_list_tuple, isi_list_list, isi_list_dict, isi_dict_bool, isi_dict_int, isi_dict_str, isi_dict_tuple, isi_dict_list, isi_dict_dict, uMul, bInt, mPopAt, uSetI, uEnumL, szl, Nat.reduceLeDiff, Option.getD_some, uZipL, uIsB]
        exact ⟨w', atI_nat hs', w', _, rfl, hnx⟩
  · rintro τ Mi ⟨h, c, rfl, rfl, hh⟩
    simp only [List.length_map, List.take_length] at hh
    rw [hpl] at hh
    cases hh
    simp only [eqX_int, eqX_str, capt, hTup, hCons, hNil, uLtX, uIn, items, uEnum, uZip, mExtend, mClear, at0, at1, at2, at3, Option.some.injEq, exists_eq_left', true_and, and_true, uBM, uBM0, mAppend, mPop, uCallV, inTab, ixTab, bMax, bSum, cLt, cLe, cGt, cGe, uAddL, startU, uSeq, uIfS, uOr, uAnd, uNot, uTru, uTest, uCB, uCons, uVar, uC, uNil, uNext, uRet, uRetN, uAsg, hName, uOp, uUn, uChain, uI0, uI, uAndV, uOrV, uNotV, uIf, uTup, uLst, mkL, uDrop, uCall, bIsi2, bLen, bAll, bInt1, bInt2, bList, bTuple, vw_non, vw_bl, vw_int, vw_str, vw_tup, vw_lst, vw_own, mup_same, mup_mup, typU, uEqS, uNeS, uIsN, uNotN, isNon, uAdd, uIx, uSlX, uNoPart, uPart, inSt, uIter, uRng1, uRng2, uBreak, uCont, List.map_cons, List.map_nil, List.length_cons, List.length_nil, List.cons_append, List.nil_append, List.replicate, List.getElem?_cons_zero, List.getElem?_cons_succ, List.set_cons_zero, List.set_cons_succ, List.append_nil, Nat.reduceAdd, Nat.reduceSub, Nat.sub_self, Nat.add_sub_cancel, Bool.not_false, Bool.not_true, if_true, if_false, Bool.false_eq_true, reduceCtorEq, decide_true, decide_false, isi_NoneType_bool, isi_NoneType_int, isi_NoneType_str, isi_NoneType_tuple, isi_NoneType_list, isi_NoneType_dict, isi_bool_bool, isi_bool_int, isi_bool_str, isi_bool_tuple, isi_bool_list, isi_bool_dict, isi_int_bool, isi_int_int, isi_int_str, isi_int_tuple, isi_int_list, isi_int_dict, isi_str_bool, isi_str_int, isi_str_str, isi_str_tuple, isi_str_list, isi_str_dict, isi_tuple_bool, isi_tuple_int, isi_tuple_str, isi_tuple_tuple, isi_tuple_list, isi_tuple_dict, isi_list_bool, isi_list_int, isi_list_str, isi_list_tuple, isi_list_list, isi_list_dict, isi_dict_bool, isi_dict_int, isi_dict_str, isi_dict_tuple, isi_dict_list, isi_dict_dict, uMul, bInt, mPopAt, uSetI, uEnumL, szl, Nat.reduceLeDiff, Option.getD_some, uZipL, uIsB]
    exact rt_same q
theorem st_turn (a : U) : stepU (.tup [.str (Str.ofString "turn"), a]) 0 = some a := by
  simp only [stepU]; rw [if_pos sg_turn, if_pos (by simp)]; rfl
theorem st_two0 (o : Op) (a b : U) : stepU (.tup [.str o.word, a, b]) 0 = some a := by
  simp only [stepU]; rw [if_pos (sg_two o), if_pos (by simp)]; rfl
theorem st_two1 (o : Op) (a b : U) : stepU (.tup [.str o.word, a, b]) 1 = some b := by
  simp only [stepU]; rw [if_pos (sg_two o), if_pos (by simp)]; rfl
theorem subs_at : ∀ (p : Pt) (pre : List Nat) (e : List Nat × Pt), e ∈ subsP p pre → ∃ s, e.1 = pre ++ s ∧ atU p.toU s = some e.2.toU
  | .turn a, pre, e, h => by
    simp only [subsP] at h
    rcases List.mem_cons.mp h with rfl | h
    · exact ⟨[], by simp, rfl⟩
    · obtain ⟨s, h1, h2⟩ := subs_at a _ e h
      refine ⟨0 :: s, by rw [h1]; simp, ?_⟩
      simp only [atU, Pt.toU, st_turn, Option.bind_some, h2]
  | .two o a b, pre, e, h => by
    simp only [subsP] at h
    rcases List.mem_cons.mp h with rfl | h
    · exact ⟨[], by simp, rfl⟩
    · rcases List.mem_append.mp h with h | h
      · obtain ⟨s, h1, h2⟩ := subs_at a _ e h
        refine ⟨0 :: s, by rw [h1]; simp, ?_⟩
        simp only [atU, Pt.toU, st_two0, Option.bind_some, h2]
      · obtain ⟨s, h1, h2⟩ := subs_at b _ e h
        refine ⟨1 :: s, by rw [h1]; simp, ?_⟩
        simp only [atU, Pt.toU, st_two1, Option.bind_some, h2]
  | .hole _, pre, e, h => by cases List.mem_singleton.mp h; exact ⟨[], by simp, rfl⟩
  | .any, pre, e, h => by cases List.mem_singleton.mp h; exact ⟨[], by simp, rfl⟩
  | .fr _ _, pre, e, h => by cases List.mem_singleton.mp h; exact ⟨[], by simp, rfl⟩
def noHole (e : List Nat × Pt) : Bool := decide (e.2.holes = 0)
def fU : U → Option U
  | .tup [a, .tup (.str z :: r)] => if (!decide (z = Str.ofString "at")) && !(tabGet SIGNS z).isSome then some (.tup [a, .tup (.str z :: r)]) else none
  | _ => none
theorem fU_ent (e : List Nat × Pt) : fU (entE e) = if e.2.leafy && noHole e then some (entE e) else none := by
  obtain ⟨pl, q⟩ := e
  have e1 : decide (Str.ofString "at" = Str.ofString "at") = true := by simp
  cases q with
  | hole c => simp only [entE, Pt.toU, fU, e1, Pt.leafy, noHole, Pt.holes]; rfl
  | any => simp only [entE, Pt.toU, fU, ww, s_any, Pt.leafy, noHole, Pt.holes]; rfl
  | fr l h => simp only [entE, Pt.toU, fU, ww, s_from, Pt.leafy, noHole, Pt.holes]; rfl
  | turn a => simp only [entE, Pt.toU, fU, ww, sg_turn, Pt.leafy]; rfl
  | two o a b => simp only [entE, Pt.toU, fU, ww, sg_two, Pt.leafy]; rfl
end
end K54

set_option linter.all false
set_option maxRecDepth 100000
namespace K54
open PySem L2 U2
section
variable {P : Program} {w : World} {K : PySem.W.Frag} {mg : Str → Option Value} {base : Heap} {f d d2 fl : Addr} {fd : FuncData}

theorem mup_self {M : MHp} {p : Addr} {o : MO} (h : M p = some o) : mup M p o = M := by
  funext x
  by_cases e : x = p
  · subst e; rw [mup_same, h]
  · rw [mup_ne e]
def tapeU (ns : List Int) (a b c : Int) : List U := [.lst (ns.map .int), .int a, .int b, .int c]
def spDraw : USp := fun us M Q => ∃ (t : Addr) (ns : List Int) (a b c m : Int), us = [.ref t, .int m] ∧ 0 < m ∧ m < 2 ^ 64 ∧ M t = some (.lst (tapeU ns a b c)) ∧ 0 ≤ a ∧ a ≤ 1000000 ∧ ∀ n a' b' c' : Int, 0 ≤ n → n < m → a ≤ a' → a' ≤ a + 1 → Q (.int n) (mup M t (.lst (tapeU ns a' b' c')))
set_option maxHeartbeats 1000000 in
theorem ok_draw (F : Fun K "_law_draw" "_law_draw" s_law_draw f fd) (hm : mg "_law_draw" = some (.ref f)) (m_len : mg "len" = none) : Callee P w K mg base 1 "_law_draw" spDraw [] := by
  refine callee_of F hm sc_law_draw (fun _ _ _ _ _ _ us hl => match us, hl with | [_, _], _ => rfl) (fun us M Q h => by obtain ⟨_, _, _, _, _, _, rfl, _⟩ := h; rfl) (uss_cons (us_if (ut_c k_eqX (ue_ix (uv 0) un_) un_)
  (uss_cons (us_set 2 sc_law_draw.nd (ue_ix (uv 0) un_))
  (uss_cons (us_asub (ue_add (own := false) (uv 2) un_) (uv 0) un_)
  (uss_cons (us_set 3 sc_law_draw.nd un_)
  (uss_cons (us_if (ut_c k_gt (ue_b b_len m_len (ua_cons (ue_ix (uv 0) un_) ua_nil)) un_)
  (uss_one (us_set 3 sc_law_draw.nd (ue_ix (ue_ix (uv 0) un_) (ue_mod (uv 2) (ue_b b_len m_len (ua_cons (ue_ix (uv 0) un_) ua_nil))))))
  uss_nil)
  (uss_cons (us_if (PWU.pt (uw_or (ut_c k_ge (uv 2) (ue_b b_len m_len (ua_cons (ue_ix (uv 0) un_) ua_nil))) (uw_or1 (ut_c k_ltX (uv 3) (ue_pow un_ un_)))))
  (uss_cons (us_set 4 sc_law_draw.nd (ue_add (own := false) (ue_add (own := false) (ue_mod (ue_mulX (own := false) (uv 2) (uv 2)) un_) (ue_mulX (own := false) un_ (uv 2))) un_))
  (uss_cons (us_set 4 sc_law_draw.nd (ue_mod (ue_mulX (own := false) (ue_add (own := false) (ue_mod (uv 3) un_) un_) (uv 4)) un_))
  (uss_one (us_ret (ue_mod (ue_mod (ue_add (own := false) (ue_divX (ue_mod (ue_mulX (own := false) (uv 4) (uv 4)) un_) un_) (ue_mulX (own := false) un_ (uv 2))) un_) (uv 1))))))
  uss_nil)
  (uss_cons (us_asub (ue_sub (uv 3) (ue_pow un_ un_)) (uv 0) un_)
  (uss_one (us_asub un_ (uv 0) un_))))))))
  uss_nil)
  (uss_cons (us_asub (ue_sub (ue_ix (uv 0) un_) un_) (uv 0) un_)
  (uss_cons (us_set 5 sc_law_draw.nd (ue_ix (uv 0) un_))
  (uss_cons (us_asub (ue_divX (uv 5) (uv 1)) (uv 0) un_)
  (uss_one (us_ret (ue_mod (uv 5) (uv 1)))))))) ?_
  rintro us M Q ⟨t, ns, a, b, c, m, rfl, hm0, hm1, hM, ha0, ha1, q⟩
  have pw : CPow 10 18 := ⟨by decide, by decide, by decide⟩
  have hMM := mup_self hM
  rw [← hMM]
  refine seq_gen fun V hV => ?_
  have tail : ∀ (a' b' c' : Int) (x2 x3 x4 x5 : Option U), a ≤ a' → a' ≤ a + 1 → V [some (.ref t), some (.int m), x2, x3, x4, x5] (mup M t (.lst (tapeU ns a' b' c'))) := by
    intro a' b' c' x2 x3 x4 x5 h1 h2
    subst hV
    refine seq_gen fun V1 hV1 => ?_
    simp only [uSetI, tapeU, eqX_int, eqX_str, capt, uLtX, uIn, items, uEnum, uZip, mExtend, mClear, at0, at1, at2, at3, Option.some.injEq, exists_eq_left', true_and, and_true, uBM, uBM0, mAppend, mPop, uCallV, inTab, ixTab, bMax, bSum, cLt, cLe, cGt, cGe, uAddL, startU, uOr, uAnd, uNot, uTru, uTest, uCB, uCons, uVar, uC, uNil, uOp, uUn, uChain, uI0, uI, uAndV, uOrV, uNotV, uIf, uTup, uLst, mkL, uCall, bIsi2, bLen, bAll, bInt1, bInt2, bList, bTuple, vw_non, vw_bl, vw_int, vw_str, vw_tup, vw_lst, vw_own, mup_same, mup_mup, typU, uEqS, uNeS, uIsN, uNotN, isNon, uAdd, uIx, uSlX, uNoPart, uPart, inSt, uIter, uRng1, uRng2, List.map_cons, List.map_nil, List.length_cons, List.length_nil, List.cons_append, List.nil_append, List.replicate, List.getElem?_cons_zero, List.getElem?_cons_succ, List.set_cons_zero, List.set_cons_succ, List.append_nil, Nat.reduceAdd, Nat.reduceSub, Nat.sub_self, Nat.add_sub_cancel, Bool.not_false, Bool.not_true, if_true, if_false, Bool.false_eq_true, reduceCtorEq, decide_true, decide_false, isi_NoneType_bool, isi_NoneType_int, isi_NoneType_str, isi_NoneType_tuple, isi_NoneType_list, isi_NoneType_dict, isi_bool_bool, isi_bool_int, isi_bool_str, isi_bool_tuple, isi_bool_list, isi_bool_dict, isi_int_bool, isi_int_int, isi_int_str, isi_int_tuple, isi_int_list, isi_int_dict, isi_str_bool, isi_str_int, isi_str_str, isi_str_tuple, isi_str_list, isi_str_dict, isi_tuple_bool, isi_tuple_int, isi_tuple_str, isi_tuple_tuple, isi_tuple_list, isi_tuple_dict, isi_list_bool, isi_list_int, isi_list_str, isi_list_tuple, isi_list_list, isi_list_dict, isi_dict_bool, isi_dict_int, isi_dict_str, isi_dict_tuple, isi_dict_list, isi_dict_dict, uMul, bInt, mPopAt, uEnumL, szl, Nat.reduceLeDiff, Option.getD_some, uZipL, uListRev, uRev, uSetFrom, bSorted, uRepL]
    refine ⟨3, by decide, ?_⟩
    simp only [mup_mup, List.set_cons_succ, List.set_cons_zero]
    subst hV1
    refine seq_gen fun V1 hV1 => ?_
    simp only [uAsg, hName, eqX_int, eqX_str, capt, uLtX, uIn, items, uEnum, uZip, mExtend, mClear, at0, at1, at2, at3, Option.some.injEq, exists_eq_left', true_and, and_true, uBM, uBM0, mAppend, mPop, uCallV, inTab, ixTab, bMax, bSum, cLt, cLe, cGt, cGe, uAddL, startU, uOr, uAnd, uNot, uTru, uTest, uCB, uCons, uVar, uC, uNil, uOp, uUn, uChain, uI0, uI, uAndV, uOrV, uNotV, uIf, uTup, uLst, mkL, uCall, bIsi2, bLen, bAll, bInt1, bInt2, bList, bTuple, vw_non, vw_bl, vw_int, vw_str, vw_tup, vw_lst, vw_own, mup_same, mup_mup, typU, uEqS, uNeS, uIsN, uNotN, isNon, uAdd, uIx, uSlX, uNoPart, uPart, inSt, uIter, uRng1, uRng2, List.map_cons, List.map_nil, List.length_cons, List.length_nil, List.cons_append, List.nil_append, List.replicate, List.getElem?_cons_zero, List.getElem?_cons_succ, List.set_cons_zero, List.set_cons_succ, List.append_nil, Nat.reduceAdd, Nat.reduceSub, Nat.sub_self, Nat.add_sub_cancel, Bool.not_false, Bool.not_true, if_true, if_false, Bool.false_eq_true, reduceCtorEq, decide_true, decide_false, isi_NoneType_bool, isi_NoneType_int, isi_NoneType_str, isi_NoneType_tuple, isi_NoneType_list, isi_NoneType_dict, isi_bool_bool, isi_bool_int, isi_bool_str, isi_bool_tuple, isi_bool_list, isi_bool_dict, isi_int_bool, isi_int_int, isi_int_str, isi_int_tuple, isi_int_list, isi_int_dict, isi_str_bool, isi_str_int, isi_str_str, isi_str_tuple, isi_str_list, isi_str_dict, isi_tuple_bool, isi_tuple_int, isi_tuple_str, isi_tuple_tuple, isi_tuple_list, isi_tuple_dict, isi_list_bool, isi_list_int, isi_list_str, isi_list_tuple, isi_list_list, isi_list_dict, isi_dict_bool, isi_dict_int, isi_dict_str, isi_dict_tuple, isi_dict_list, isi_dict_dict, uMul, bInt, mPopAt, uEnumL, szl, Nat.reduceLeDiff, Option.getD_some, uZipL, uListRev, uRev, uSetFrom, bSorted, uRepL]
    subst hV1
    refine seq_gen fun V1 hV1 => ?_
    simp only [uSetI, eqX_int, eqX_str, capt, uLtX, uIn, items, uEnum, uZip, mExtend, mClear, at0, at1, at2, at3, Option.some.injEq, exists_eq_left', true_and, and_true, uBM, uBM0, mAppend, mPop, uCallV, inTab, ixTab, bMax, bSum, cLt, cLe, cGt, cGe, uAddL, startU, uOr, uAnd, uNot, uTru, uTest, uCB, uCons, uVar, uC, uNil, uOp, uUn, uChain, uI0, uI, uAndV, uOrV, uNotV, uIf, uTup, uLst, mkL, uCall, bIsi2, bLen, bAll, bInt1, bInt2, bList, bTuple, vw_non, vw_bl, vw_int, vw_str, vw_tup, vw_lst, vw_own, mup_same, mup_mup, typU, uEqS, uNeS, uIsN, uNotN, isNon, uAdd, uIx, uSlX, uNoPart, uPart, inSt, uIter, uRng1, uRng2, List.map_cons, List.map_nil, List.length_cons, List.length_nil, List.cons_append, List.nil_append, List.replicate, List.getElem?_cons_zero, List.getElem?_cons_succ, List.set_cons_zero, List.set_cons_succ, List.append_nil, Nat.reduceAdd, Nat.reduceSub, Nat.sub_self, Nat.add_sub_cancel, Bool.not_false, Bool.not_true, if_true, if_false, Bool.false_eq_true, reduceCtorEq, decide_true, decide_false, isi_NoneType_bool, isi_NoneType_int, isi_NoneType_str, isi_NoneType_tuple, isi_NoneType_list, isi_NoneType_dict, isi_bool_bool, isi_bool_int, isi_bool_str, isi_bool_tuple, isi_bool_list, isi_bool_dict, isi_int_bool, isi_int_int, isi_int_str, isi_int_tuple, isi_int_list, isi_int_dict, isi_str_bool, isi_str_int, isi_str_str, isi_str_tuple, isi_str_list, isi_str_dict, isi_tuple_bool, isi_tuple_int, isi_tuple_str, isi_tuple_tuple, isi_tuple_list, isi_tuple_dict, isi_list_bool, isi_list_int, isi_list_str, isi_list_tuple, isi_list_list, isi_list_dict, isi_dict_bool, isi_dict_int, isi_dict_str, isi_dict_tuple, isi_dict_list, isi_dict_dict, uMul, bInt, mPopAt, uEnumL, szl, Nat.reduceLeDiff, Option.getD_some, uZipL, uListRev, uRev, uSetFrom, bSorted, uRepL]
    refine ⟨⟨hm0, hm1⟩, 2, by decide, ?_⟩
    simp only [mup_mup, List.set_cons_succ, List.set_cons_zero]
    subst hV1
    simp only [uRet, eqX_int, eqX_str, capt, uLtX, uIn, items, uEnum, uZip, mExtend, mClear, at0, at1, at2, at3, Option.some.injEq, exists_eq_left', true_and, and_true, uBM, uBM0, mAppend, mPop, uCallV, inTab, ixTab, bMax, bSum, cLt, cLe, cGt, cGe, uAddL, startU, uOr, uAnd, uNot, uTru, uTest, uCB, uCons, uVar, uC, uNil, uOp, uUn, uChain, uI0, uI, uAndV, uOrV, uNotV, uIf, uTup, uLst, mkL, uCall, bIsi2, bLen, bAll, bInt1, bInt2, bList, bTuple, vw_non, vw_bl, vw_int, vw_str, vw_tup, vw_lst, vw_own, mup_same, mup_mup, typU, uEqS, uNeS, uIsN, uNotN, isNon, uAdd, uIx, uSlX, uNoPart, uPart, inSt, uIter, uRng1, uRng2, List.map_cons, List.map_nil, List.length_cons, List.length_nil, List.cons_append, List.nil_append, List.replicate, List.getElem?_cons_zero, List.getElem?_cons_succ, List.set_cons_zero, List.set_cons_succ, List.append_nil, Nat.reduceAdd, Nat.reduceSub, Nat.sub_self, Nat.add_sub_cancel, Bool.not_false, Bool.not_true, if_true, if_false, Bool.false_eq_true, reduceCtorEq, decide_true, decide_false, isi_NoneType_bool, isi_NoneType_int, isi_NoneType_str, isi_NoneType_tuple, isi_NoneType_list, isi_NoneType_dict, isi_bool_bool, isi_bool_int, isi_bool_str, isi_bool_tuple, isi_bool_list, isi_bool_dict, isi_int_bool, isi_int_int, isi_int_str, isi_int_tuple, isi_int_list, isi_int_dict, isi_str_bool, isi_str_int, isi_str_str, isi_str_tuple, isi_str_list, isi_str_dict, isi_tuple_bool, isi_tuple_int, isi_tuple_str, isi_tuple_tuple, isi_tuple_list, isi_tuple_dict, isi_list_bool, isi_list_int, isi_list_str, isi_list_tuple, isi_list_list, isi_list_dict, isi_dict_bool, isi_dict_int, isi_dict_str, isi_dict_tuple, isi_dict_list, isi_dict_dict, uMul, bInt, mPopAt, uEnumL, szl, Nat.reduceLeDiff, Option.getD_some, uZipL, uListRev, uRev, uSetFrom, bSorted, uRepL]
    exact ⟨hm0, rt_same (q _ a' _ _ (Int.emod_nonneg _ (by omega)) (Int.emod_lt_of_pos _ hm0) h1 h2)⟩
  refine if_gen fun A B hA hB => ?_
  have hb : B (mup M t (.lst (tapeU ns a b c))) := by
    subst hB
    exact tail a b c none none none none (by omega) (by omega)
  simp only [tapeU, startU, eqX_int, eqX_str, capt, uLtX, uIn, items, uEnum, uZip, mExtend, mClear, at0, at1, at2, at3, Option.some.injEq, exists_eq_left', true_and, and_true, uBM, uBM0, mAppend, mPop, uCallV, inTab, ixTab, bMax, bSum, cLt, cLe, cGt, cGe, uAddL, startU, uOr, uAnd, uNot, uTru, uTest, uCB, uCons, uVar, uC, uNil, uOp, uUn, uChain, uI0, uI, uAndV, uOrV, uNotV, uIf, uTup, uLst, mkL, uCall, bIsi2, bLen, bAll, bInt1, bInt2, bList, bTuple, vw_non, vw_bl, vw_int, vw_str, vw_tup, vw_lst, vw_own, mup_same, mup_mup, typU, uEqS, uNeS, uIsN, uNotN, isNon, uAdd, uIx, uSlX, uNoPart, uPart, inSt, uIter, uRng1, uRng2, List.map_cons, List.map_nil, List.length_cons, List.length_nil, List.cons_append, List.nil_append, List.replicate, List.getElem?_cons_zero, List.getElem?_cons_succ, List.set_cons_zero, List.set_cons_succ, List.append_nil, Nat.reduceAdd, Nat.reduceSub, Nat.sub_self, Nat.add_sub_cancel, Bool.not_false, Bool.not_true, if_true, if_false, Bool.false_eq_true, reduceCtorEq, decide_true, decide_false, isi_NoneType_bool, isi_NoneType_int, isi_NoneType_str, isi_NoneType_tuple, isi_NoneType_list, isi_NoneType_dict, isi_bool_bool, isi_bool_int, isi_bool_str, isi_bool_tuple, isi_bool_list, isi_bool_dict, isi_int_bool, isi_int_int, isi_int_str, isi_int_tuple, isi_int_list, isi_int_dict, isi_str_bool, isi_str_int, isi_str_str, isi_str_tuple, isi_str_list, isi_str_dict, isi_tuple_bool, isi_tuple_int, isi_tuple_str, isi_tuple_tuple, isi_tuple_list, isi_tuple_dict, isi_list_bool, isi_list_int, isi_list_str, isi_list_tuple, isi_list_list, isi_list_dict, isi_dict_bool, isi_dict_int, isi_dict_str, isi_dict_tuple, isi_dict_list, isi_dict_dict, uMul, bInt, mPopAt, uEnumL, szl, Nat.reduceLeDiff, Option.getD_some, uZipL, uListRev, uRev, uSetFrom, bSorted, uRepL]
  refine ite2 (fun hc => ?_) (fun _ => hb)
  subst hA
  refine seq_gen fun V1 hV1 => ?_
  simp only [uAsg, hName, startU, eqX_int, eqX_str, capt, uLtX, uIn, items, uEnum, uZip, mExtend, mClear, at0, at1, at2, at3, Option.some.injEq, exists_eq_left', true_and, and_true, uBM, uBM0, mAppend, mPop, uCallV, inTab, ixTab, bMax, bSum, cLt, cLe, cGt, cGe, uAddL, startU, uOr, uAnd, uNot, uTru, uTest, uCB, uCons, uVar, uC, uNil, uOp, uUn, uChain, uI0, uI, uAndV, uOrV, uNotV, uIf, uTup, uLst, mkL, uCall, bIsi2, bLen, bAll, bInt1, bInt2, bList, bTuple, vw_non, vw_bl, vw_int, vw_str, vw_tup, vw_lst, vw_own, mup_same, mup_mup, typU, uEqS, uNeS, uIsN, uNotN, isNon, uAdd, uIx, uSlX, uNoPart, uPart, inSt, uIter, uRng1, uRng2, List.map_cons, List.map_nil, List.length_cons, List.length_nil, List.cons_append, List.nil_append, List.replicate, List.getElem?_cons_zero, List.getElem?_cons_succ, List.set_cons_zero, List.set_cons_succ, List.append_nil, Nat.reduceAdd, Nat.reduceSub, Nat.sub_self, Nat.add_sub_cancel, Bool.not_false, Bool.not_true, if_true, if_false, Bool.false_eq_true, reduceCtorEq, decide_true, decide_false, isi_NoneType_bool, isi_NoneType_int, isi_NoneType_str, isi_NoneType_tuple, isi_NoneType_list, isi_NoneType_dict, isi_bool_bool, isi_bool_int, isi_bool_str, isi_bool_tuple, isi_bool_list, isi_bool_dict, isi_int_bool, isi_int_int, isi_int_str, isi_int_tuple, isi_int_list, isi_int_dict, isi_str_bool, isi_str_int, isi_str_str, isi_str_tuple, isi_str_list, isi_str_dict, isi_tuple_bool, isi_tuple_int, isi_tuple_str, isi_tuple_tuple, isi_tuple_list, isi_tuple_dict, isi_list_bool, isi_list_int, isi_list_str, isi_list_tuple, isi_list_list, isi_list_dict, isi_dict_bool, isi_dict_int, isi_dict_str, isi_dict_tuple, isi_dict_list, isi_dict_dict, uMul, bInt, mPopAt, uEnumL, szl, Nat.reduceLeDiff, Option.getD_some, uZipL, uListRev, uRev, uSetFrom, bSorted, uRepL]
  subst hV1
  refine seq_gen fun V1 hV1 => ?_
  simp only [uSetI, eqX_int, eqX_str, capt, uLtX, uIn, items, uEnum, uZip, mExtend, mClear, at0, at1, at2, at3, Option.some.injEq, exists_eq_left', true_and, and_true, uBM, uBM0, mAppend, mPop, uCallV, inTab, ixTab, bMax, bSum, cLt, cLe, cGt, cGe, uAddL, startU, uOr, uAnd, uNot, uTru, uTest, uCB, uCons, uVar, uC, uNil, uOp, uUn, uChain, uI0, uI, uAndV, uOrV, uNotV, uIf, uTup, uLst, mkL, uCall, bIsi2, bLen, bAll, bInt1, bInt2, bList, bTuple, vw_non, vw_bl, vw_int, vw_str, vw_tup, vw_lst, vw_own, mup_same, mup_mup, typU, uEqS, uNeS, uIsN, uNotN, isNon, uAdd, uIx, uSlX, uNoPart, uPart, inSt, uIter, uRng1, uRng2, List.map_cons, List.map_nil, List.length_cons, List.length_nil, List.cons_append, List.nil_append, List.replicate, List.getElem?_cons_zero, List.getElem?_cons_succ, List.set_cons_zero, List.set_cons_succ, List.append_nil, Nat.reduceAdd, Nat.reduceSub, Nat.sub_self, Nat.add_sub_cancel, Bool.not_false, Bool.not_true, if_true, if_false, Bool.false_eq_true, reduceCtorEq, decide_true, decide_false, isi_NoneType_bool, isi_NoneType_int, isi_NoneType_str, isi_NoneType_tuple, isi_NoneType_list, isi_NoneType_dict, isi_bool_bool, isi_bool_int, isi_bool_str, isi_bool_tuple, isi_bool_list, isi_bool_dict, isi_int_bool, isi_int_int, isi_int_str, isi_int_tuple, isi_int_list, isi_int_dict, isi_str_bool, isi_str_int, isi_str_str, isi_str_tuple, isi_str_list, isi_str_dict, isi_tuple_bool, isi_tuple_int, isi_tuple_str, isi_tuple_tuple, isi_tuple_list, isi_tuple_dict, isi_list_bool, isi_list_int, isi_list_str, isi_list_tuple, isi_list_list, isi_list_dict, isi_dict_bool, isi_dict_int, isi_dict_str, isi_dict_tuple, isi_dict_list, isi_dict_dict, uMul, bInt, mPopAt, uEnumL, szl, Nat.reduceLeDiff, Option.getD_some, uZipL, uListRev, uRev, uSetFrom, bSorted, uRepL]
  refine ⟨1, by decide, ?_⟩
  simp only [mup_mup, List.set_cons_succ, List.set_cons_zero]
  subst hV1
  refine seq_gen fun V1 hV1 => ?_
  simp only [uAsg, hName, eqX_int, eqX_str, capt, uLtX, uIn, items, uEnum, uZip, mExtend, mClear, at0, at1, at2, at3, Option.some.injEq, exists_eq_left', true_and, and_true, uBM, uBM0, mAppend, mPop, uCallV, inTab, ixTab, bMax, bSum, cLt, cLe, cGt, cGe, uAddL, startU, uOr, uAnd, uNot, uTru, uTest, uCB, uCons, uVar, uC, uNil, uOp, uUn, uChain, uI0, uI, uAndV, uOrV, uNotV, uIf, uTup, uLst, mkL, uCall, bIsi2, bLen, bAll, bInt1, bInt2, bList, bTuple, vw_non, vw_bl, vw_int, vw_str, vw_tup, vw_lst, vw_own, mup_same, mup_mup, typU, uEqS, uNeS, uIsN, uNotN, isNon, uAdd, uIx, uSlX, uNoPart, uPart, inSt, uIter, uRng1, uRng2, List.map_cons, List.map_nil, List.length_cons, List.length_nil, List.cons_append, List.nil_append, List.replicate, List.getElem?_cons_zero, List.getElem?_cons_succ, List.set_cons_zero, List.set_cons_succ, List.append_nil, Nat.reduceAdd, Nat.reduceSub, Nat.sub_self, Nat.add_sub_cancel, Bool.not_false, Bool.not_true, if_true, if_false, Bool.false_eq_true, reduceCtorEq, decide_true, decide_false, isi_NoneType_bool, isi_NoneType_int, isi_NoneType_str, isi_NoneType_tuple, isi_NoneType_list, isi_NoneType_dict, isi_bool_bool, isi_bool_int, isi_bool_str, isi_bool_tuple, isi_bool_list, isi_bool_dict, isi_int_bool, isi_int_int, isi_int_str, isi_int_tuple, isi_int_list, isi_int_dict, isi_str_bool, isi_str_int, isi_str_str, isi_str_tuple, isi_str_list, isi_str_dict, isi_tuple_bool, isi_tuple_int, isi_tuple_str, isi_tuple_tuple, isi_tuple_list, isi_tuple_dict, isi_list_bool, isi_list_int, isi_list_str, isi_list_tuple, isi_list_list, isi_list_dict, isi_dict_bool, isi_dict_int, isi_dict_str, isi_dict_tuple, isi_dict_list, isi_dict_dict, uMul, bInt, mPopAt, uEnumL, szl, Nat.reduceLeDiff, Option.getD_some, uZipL, uListRev, uRev, uSetFrom, bSorted, uRepL]
  subst hV1
  refine seq_gen fun V1 hV1 => ?_
  have go : ∀ cell : Int, V1 [some (.ref t), some (.int m), some (.int a), some (.int cell), none, none] (mup M t (.lst [.lst (ns.map .int), .int (a + 1), .int b, .int c])) := by
    intro cell
    subst hV1
    refine seq_gen fun V2 hV2 => ?_
    refine if_gen fun A2 B2 hA2 hB2 => ?_
    have hA2' : A2 (mup M t (.lst [.lst (ns.map .int), .int (a + 1), .int b, .int c])) := by
      subst hA2
      refine seq_gen fun V3 hV3 => ?_
      simp only [uAsg, hName, eqX_int, eqX_str, capt, uLtX, uIn, items, uEnum, uZip, mExtend, mClear, at0, at1, at2, at3, Option.some.injEq, exists_eq_left', true_and, and_true, uBM, uBM0, mAppend, mPop, uCallV, inTab, ixTab, bMax, bSum, cLt, cLe, cGt, cGe, uAddL, startU, uOr, uAnd, uNot, uTru, uTest, uCB, uCons, uVar, uC, uNil, uOp, uUn, uChain, uI0, uI, uAndV, uOrV, uNotV, uIf, uTup, uLst, mkL, uCall, bIsi2, bLen, bAll, bInt1, bInt2, bList, bTuple, vw_non, vw_bl, vw_int, vw_str, vw_tup, vw_lst, vw_own, mup_same, mup_mup, typU, uEqS, uNeS, uIsN, uNotN, isNon, uAdd, uIx, uSlX, uNoPart, uPart, inSt, uIter, uRng1, uRng2, List.map_cons, List.map_nil, List.length_cons, List.length_nil, List.cons_append, List.nil_append, List.replicate, List.getElem?_cons_zero, List.getElem?_cons_succ, List.set_cons_zero, List.set_cons_succ, List.append_nil, Nat.reduceAdd, Nat.reduceSub, Nat.sub_self, Nat.add_sub_cancel, Bool.not_false, Bool.not_true, if_true, if_false, Bool.false_eq_true, reduceCtorEq, decide_true, decide_false, isi_NoneType_bool, isi_NoneType_int, isi_NoneType_str, isi_NoneType_tuple, isi_NoneType_list, isi_NoneType_dict, isi_bool_bool, isi_bool_int, isi_bool_str, isi_bool_tuple, isi_bool_list, isi_bool_dict, isi_int_bool, isi_int_int, isi_int_str, isi_int_tuple, isi_int_list, isi_int_dict, isi_str_bool, isi_str_int, isi_str_str, isi_str_tuple, isi_str_list, isi_str_dict, isi_tuple_bool, isi_tuple_int, isi_tuple_str, isi_tuple_tuple, isi_tuple_list, isi_tuple_dict, isi_list_bool, isi_list_int, isi_list_str, isi_list_tuple, isi_list_list, isi_list_dict, isi_dict_bool, isi_dict_int, isi_dict_str, isi_dict_tuple, isi_dict_list, isi_dict_dict, uMul, bInt, mPopAt, uEnumL, szl, Nat.reduceLeDiff, Option.getD_some, uZipL, uListRev, uRev, uSetFrom, bSorted, uRepL]
      refine ⟨mulL (by omega) (by omega), by decide, mulL (by decide) (by decide), ?_⟩
      subst hV3
      refine seq_gen fun V3 hV3 => ?_
      simp only [uAsg, hName, eqX_int, eqX_str, capt, uLtX, uIn, items, uEnum, uZip, mExtend, mClear, at0, at1, at2, at3, Option.some.injEq, exists_eq_left', true_and, and_true, uBM, uBM0, mAppend, mPop, uCallV, inTab, ixTab, bMax, bSum, cLt, cLe, cGt, cGe, uAddL, startU, uOr, uAnd, uNot, uTru, uTest, uCB, uCons, uVar, uC, uNil, uOp, uUn, uChain, uI0, uI, uAndV, uOrV, uNotV, uIf, uTup, uLst, mkL, uCall, bIsi2, bLen, bAll, bInt1, bInt2, bList, bTuple, vw_non, vw_bl, vw_int, vw_str, vw_tup, vw_lst, vw_own, mup_same, mup_mup, typU, uEqS, uNeS, uIsN, uNotN, isNon, uAdd, uIx, uSlX, uNoPart, uPart, inSt, uIter, uRng1, uRng2, List.map_cons, List.map_nil, List.length_cons, List.length_nil, List.cons_append, List.nil_append, List.replicate, List.getElem?_cons_zero, List.getElem?_cons_succ, List.set_cons_zero, List.set_cons_succ, List.append_nil, Nat.reduceAdd, Nat.reduceSub, Nat.sub_self, Nat.add_sub_cancel, Bool.not_false, Bool.not_true, if_true, if_false, Bool.false_eq_true, reduceCtorEq, decide_true, decide_false, isi_NoneType_bool, isi_NoneType_int, isi_NoneType_str, isi_NoneType_tuple, isi_NoneType_list, isi_NoneType_dict, isi_bool_bool, isi_bool_int, isi_bool_str, isi_bool_tuple, isi_bool_list, isi_bool_dict, isi_int_bool, isi_int_int, isi_int_str, isi_int_tuple, isi_int_list, isi_int_dict, isi_str_bool, isi_str_int, isi_str_str, isi_str_tuple, isi_str_list, isi_str_dict, isi_tuple_bool, isi_tuple_int, isi_tuple_str, isi_tuple_tuple, isi_tuple_list, isi_tuple_dict, isi_list_bool, isi_list_int, isi_list_str, isi_list_tuple, isi_list_list, isi_list_dict, isi_dict_bool, isi_dict_int, isi_dict_str, isi_dict_tuple, isi_dict_list, isi_dict_dict, uMul, bInt, mPopAt, uEnumL, szl, Nat.reduceLeDiff, Option.getD_some, uZipL, uListRev, uRev, uSetFrom, bSorted, uRepL]
      have i0 := Int.emod_nonneg cell (show (999983 : Int) ≠ 0 by decide)
      have i1 := Int.emod_lt_of_pos cell (show (0 : Int) < 999983 by decide)
      refine ⟨by decide, mulL (by omega) (by omega), by decide, ?_⟩
      subst hV3
      simp only [uRet, eqX_int, eqX_str, capt, uLtX, uIn, items, uEnum, uZip, mExtend, mClear, at0, at1, at2, at3, Option.some.injEq, exists_eq_left', true_and, and_true, uBM, uBM0, mAppend, mPop, uCallV, inTab, ixTab, bMax, bSum, cLt, cLe, cGt, cGe, uAddL, startU, uOr, uAnd, uNot, uTru, uTest, uCB, uCons, uVar, uC, uNil, uOp, uUn, uChain, uI0, uI, uAndV, uOrV, uNotV, uIf, uTup, uLst, mkL, uCall, bIsi2, bLen, bAll, bInt1, bInt2, bList, bTuple, vw_non, vw_bl, vw_int, vw_str, vw_tup, vw_lst, vw_own, mup_same, mup_mup, typU, uEqS, uNeS, uIsN, uNotN, isNon, uAdd, uIx, uSlX, uNoPart, uPart, inSt, uIter, uRng1, uRng2, List.map_cons, List.map_nil, List.length_cons, List.length_nil, List.cons_append, List.nil_append, List.replicate, List.getElem?_cons_zero, List.getElem?_cons_succ, List.set_cons_zero, List.set_cons_succ, List.append_nil, Nat.reduceAdd, Nat.reduceSub, Nat.sub_self, Nat.add_sub_cancel, Bool.not_false, Bool.not_true, if_true, if_false, Bool.false_eq_true, reduceCtorEq, decide_true, decide_false, isi_NoneType_bool, isi_NoneType_int, isi_NoneType_str, isi_NoneType_tuple, isi_NoneType_list, isi_NoneType_dict, isi_bool_bool, isi_bool_int, isi_bool_str, isi_bool_tuple, isi_bool_list, isi_bool_dict, isi_int_bool, isi_int_int, isi_int_str, isi_int_tuple, isi_int_list, isi_int_dict, isi_str_bool, isi_str_int, isi_str_str, isi_str_tuple, isi_str_list, isi_str_dict, isi_tuple_bool, isi_tuple_int, isi_tuple_str, isi_tuple_tuple, isi_tuple_list, isi_tuple_dict, isi_list_bool, isi_list_int, isi_list_str, isi_list_tuple, isi_list_list, isi_list_dict, isi_dict_bool, isi_dict_int, isi_dict_str, isi_dict_tuple, isi_dict_list, isi_dict_dict, uMul, bInt, mPopAt, uEnumL, szl, Nat.reduceLeDiff, Option.getD_some, uZipL, uListRev, uRev, uSetFrom, bSorted, uRepL]
      generalize hx : (cell % 999983 + 3) * (a * a % 10007 + 61 * a + 7) % 1000003 = x
      have x0 : 0 ≤ x := by rw [← hx]; exact Int.emod_nonneg _ (by decide)
      have x1 : x < 1000003 := by rw [← hx]; exact Int.emod_lt_of_pos _ (by decide)
      refine ⟨mulL (by omega) (by omega), by decide, ⟨by decide, by decide⟩, mulL (by decide) (by decide), by decide, hm0, rt_same (q _ (a + 1) _ _ (Int.emod_nonneg _ (by omega)) (Int.emod_lt_of_pos _ hm0) (by omega) (by omega))⟩
    have hB2' : B2 (mup M t (.lst [.lst (ns.map .int), .int (a + 1), .int b, .int c])) := by
      subst hB2
      simp only [uNext]
      subst hV2
      refine seq_gen fun V3 hV3 => ?_
      simp only [uSetI, eqX_int, eqX_str, capt, uLtX, uIn, items, uEnum, uZip, mExtend, mClear, at0, at1, at2, at3, Option.some.injEq, exists_eq_left', true_and, and_true, uBM, uBM0, mAppend, mPop, uCallV, inTab, ixTab, bMax, bSum, cLt, cLe, cGt, cGe, uAddL, startU, uOr, uAnd, uNot, uTru, uTest, uCB, uCons, uVar, uC, uNil, uOp, uUn, uChain, uI0, uI, uAndV, uOrV, uNotV, uIf, uTup, uLst, mkL, uCall, bIsi2, bLen, bAll, bInt1, bInt2, bList, bTuple, vw_non, vw_bl, vw_int, vw_str, vw_tup, vw_lst, vw_own, mup_same, mup_mup, typU, uEqS, uNeS, uIsN, uNotN, isNon, uAdd, uIx, uSlX, uNoPart, uPart, inSt, uIter, uRng1, uRng2, List.map_cons, List.map_nil, List.length_cons, List.length_nil, List.cons_append, List.nil_append, List.replicate, List.getElem?_cons_zero, List.getElem?_cons_succ, List.set_cons_zero, List.set_cons_succ, List.append_nil, Nat.reduceAdd, Nat.reduceSub, Nat.sub_self, Nat.add_sub_cancel, Bool.not_false, Bool.not_true, if_true, if_false, Bool.false_eq_true, reduceCtorEq, decide_true, decide_false, isi_NoneType_bool, isi_NoneType_int, isi_NoneType_str, isi_NoneType_tuple, isi_NoneType_list, isi_NoneType_dict, isi_bool_bool, isi_bool_int, isi_bool_str, isi_bool_tuple, isi_bool_list, isi_bool_dict, isi_int_bool, isi_int_int, isi_int_str, isi_int_tuple, isi_int_list, isi_int_dict, isi_str_bool, isi_str_int, isi_str_str, isi_str_tuple, isi_str_list, isi_str_dict, isi_tuple_bool, isi_tuple_int, isi_tuple_str, isi_tuple_tuple, isi_tuple_list, isi_tuple_dict, isi_list_bool, isi_list_int, isi_list_str, isi_list_tuple, isi_list_list, isi_list_dict, isi_dict_bool, isi_dict_int, isi_dict_str, isi_dict_tuple, isi_dict_list, isi_dict_dict, uMul, bInt, mPopAt, uEnumL, szl, Nat.reduceLeDiff, Option.getD_some, uZipL, uListRev, uRev, uSetFrom, bSorted, uRepL]
      refine ⟨pw, 2, by decide, ?_⟩
      simp only [mup_mup, List.set_cons_succ, List.set_cons_zero]
      subst hV3
      simp only [uSetI, eqX_int, eqX_str, capt, uLtX, uIn, items, uEnum, uZip, mExtend, mClear, at0, at1, at2, at3, Option.some.injEq, exists_eq_left', true_and, and_true, uBM, uBM0, mAppend, mPop, uCallV, inTab, ixTab, bMax, bSum, cLt, cLe, cGt, cGe, uAddL, startU, uOr, uAnd, uNot, uTru, uTest, uCB, uCons, uVar, uC, uNil, uOp, uUn, uChain, uI0, uI, uAndV, uOrV, uNotV, uIf, uTup, uLst, mkL, uCall, bIsi2, bLen, bAll, bInt1, bInt2, bList, bTuple, vw_non, vw_bl, vw_int, vw_str, vw_tup, vw_lst, vw_own, mup_same, mup_mup, typU, uEqS, uNeS, uIsN, uNotN, isNon, uAdd, uIx, uSlX, uNoPart, uPart, inSt, uIter, uRng1, uRng2, List.map_cons, List.map_nil, List.length_cons, List.length_nil, List.cons_append, List.nil_append, List.replicate, List.getElem?_cons_zero, List.getElem?_cons_succ, List.set_cons_zero, List.set_cons_succ, List.append_nil, Nat.reduceAdd, Nat.reduceSub, Nat.sub_self, Nat.add_sub_cancel, Bool.not_false, Bool.not_true, if_true, if_false, Bool.false_eq_true, reduceCtorEq, decide_true, decide_false, isi_NoneType_bool, isi_NoneType_int, isi_NoneType_str, isi_NoneType_tuple, isi_NoneType_list, isi_NoneType_dict, isi_bool_bool, isi_bool_int, isi_bool_str, isi_bool_tuple, isi_bool_list, isi_bool_dict, isi_int_bool, isi_int_int, isi_int_str, isi_int_tuple, isi_int_list, isi_int_dict, isi_str_bool, isi_str_int, isi_str_str, isi_str_tuple, isi_str_list, isi_str_dict, isi_tuple_bool, isi_tuple_int, isi_tuple_str, isi_tuple_tuple, isi_tuple_list, isi_tuple_dict, isi_list_bool, isi_list_int, isi_list_str, isi_list_tuple, isi_list_list, isi_list_dict, isi_dict_bool, isi_dict_int, isi_dict_str, isi_dict_tuple, isi_dict_list, isi_dict_dict, uMul, bInt, mPopAt, uEnumL, szl, Nat.reduceLeDiff, Option.getD_some, uZipL, uListRev, uRev, uSetFrom, bSorted, uRepL]
      refine ⟨3, by decide, ?_⟩
      simp only [mup_mup, List.set_cons_succ, List.set_cons_zero]
      exact tail (a + 1) _ _ _ _ _ _ (by omega) (by omega)
    simp only [List.length_map, eqX_int, eqX_str, capt, uLtX, uIn, items, uEnum, uZip, mExtend, mClear, at0, at1, at2, at3, Option.some.injEq, exists_eq_left', true_and, and_true, uBM, uBM0, mAppend, mPop, uCallV, inTab, ixTab, bMax, bSum, cLt, cLe, cGt, cGe, uAddL, startU, uOr, uAnd, uNot, uTru, uTest, uCB, uCons, uVar, uC, uNil, uOp, uUn, uChain, uI0, uI, uAndV, uOrV, uNotV, uIf, uTup, uLst, mkL, uCall, bIsi2, bLen, bAll, bInt1, bInt2, bList, bTuple, vw_non, vw_bl, vw_int, vw_str, vw_tup, vw_lst, vw_own, mup_same, mup_mup, typU, uEqS, uNeS, uIsN, uNotN, isNon, uAdd, uIx, uSlX, uNoPart, uPart, inSt, uIter, uRng1, uRng2, List.map_cons, List.map_nil, List.length_cons, List.length_nil, List.cons_append, List.nil_append, List.replicate, List.getElem?_cons_zero, List.getElem?_cons_succ, List.set_cons_zero, List.set_cons_succ, List.append_nil, Nat.reduceAdd, Nat.reduceSub, Nat.sub_self, Nat.add_sub_cancel, Bool.not_false, Bool.not_true, if_true, if_false, Bool.false_eq_true, reduceCtorEq, decide_true, decide_false, isi_NoneType_bool, isi_NoneType_int, isi_NoneType_str, isi_NoneType_tuple, isi_NoneType_list, isi_NoneType_dict, isi_bool_bool, isi_bool_int, isi_bool_str, isi_bool_tuple, isi_bool_list, isi_bool_dict, isi_int_bool, isi_int_int, isi_int_str, isi_int_tuple, isi_int_list, isi_int_dict, isi_str_bool, isi_str_int, isi_str_str, isi_str_tuple, isi_str_list, isi_str_dict, isi_tuple_bool, isi_tuple_int, isi_tuple_str, isi_tuple_tuple, isi_tuple_list, isi_tuple_dict, isi_list_bool, isi_list_int, isi_list_str, isi_list_tuple, isi_list_list, isi_list_dict, isi_dict_bool, isi_dict_int, isi_dict_str, isi_dict_tuple, isi_dict_list, isi_dict_dict, uMul, bInt, mPopAt, uEnumL, szl, Nat.reduceLeDiff, Option.getD_some, uZipL, uListRev, uRev, uSetFrom, bSorted, uRepL]
    exact ite2 (fun _ => hA2') (fun _ => ⟨pw, ite2 (fun _ => hA2') (fun _ => hB2')⟩)
  simp only [uIfS, List.length_map, eqX_int, eqX_str, capt, uLtX, uIn, items, uEnum, uZip, mExtend, mClear, at0, at1, at2, at3, Option.some.injEq, exists_eq_left', true_and, and_true, uBM, uBM0, mAppend, mPop, uCallV, inTab, ixTab, bMax, bSum, cLt, cLe, cGt, cGe, uAddL, startU, uOr, uAnd, uNot, uTru, uTest, uCB, uCons, uVar, uC, uNil, uOp, uUn, uChain, uI0, uI, uAndV, uOrV, uNotV, uIf, uTup, uLst, mkL, uCall, bIsi2, bLen, bAll, bInt1, bInt2, bList, bTuple, vw_non, vw_bl, vw_int, vw_str, vw_tup, vw_lst, vw_own, mup_same, mup_mup, typU, uEqS, uNeS, uIsN, uNotN, isNon, uAdd, uIx, uSlX, uNoPart, uPart, inSt, uIter, uRng1, uRng2, List.map_cons, List.map_nil, List.length_cons, List.length_nil, List.cons_append, List.nil_append, List.replicate, List.getElem?_cons_zero, List.getElem?_cons_succ, List.set_cons_zero, List.set_cons_succ, List.append_nil, Nat.reduceAdd, Nat.reduceSub, Nat.sub_self, Nat.add_sub_cancel, Bool.not_false, Bool.not_true, if_true, if_false, Bool.false_eq_true, reduceCtorEq, decide_true, decide_false, isi_NoneType_bool, isi_NoneType_int, isi_NoneType_str, isi_NoneType_tuple, isi_NoneType_list, isi_NoneType_dict, isi_bool_bool, isi_bool_int, isi_bool_str, isi_bool_tuple, isi_bool_list, isi_bool_dict, isi_int_bool, isi_int_int, isi_int_str, isi_int_tuple, isi_int_list, isi_int_dict, isi_str_bool, isi_str_int, isi_str_str, isi_str_tuple, isi_str_list, isi_str_dict, isi_tuple_bool, isi_tuple_int, isi_tuple_str, isi_tuple_tuple, isi_tuple_list, isi_tuple_dict, isi_list_bool, isi_list_int, isi_list_str, isi_list_tuple, isi_list_list, isi_list_dict, isi_dict_bool, isi_dict_int, isi_dict_str, isi_dict_tuple, isi_dict_list, isi_dict_dict, uMul, bInt, mPopAt, uEnumL, szl, Nat.reduceLeDiff, Option.getD_some, uZipL, uListRev, uRev, uSetFrom, bSorted, uRepL]
  refine ite2 (fun hl => ?_) (fun _ => ?_)
  · have hl' : 0 < (ns.length : Int) := by simpa using hl
    obtain ⟨cell, hcell⟩ := atI_ex ns (a % (ns.length : Int)) (Int.emod_nonneg _ (by omega)) (Int.emod_lt_of_pos _ hl')
    have hc2 : atI (ns.map U.int) (a % (ns.length : Int)) = some (.int cell) := by
      have e : (((a % (ns.length : Int)).toNat : Nat) : Int) = a % (ns.length : Int) := Int.toNat_of_nonneg (Int.emod_nonneg _ (by omega))
      have h3 := Int.emod_lt_of_pos a hl'
      have a1 := at_draw ns (a % (ns.length : Int)).toNat (by omega)
      rw [e] at a1
      have b1 := atI_nat (xs := ns) (j := (a % (ns.length : Int)).toNat) (v := ns[(a % (ns.length : Int)).toNat]'(by omega)) (by simp)
      rw [e, hcell] at b1
      rw [a1, Option.some.inj b1]
    simp only [uAsg, hName, List.length_map, hc2, eqX_int, eqX_str, capt, uLtX, uIn, items, uEnum, uZip, mExtend, mClear, at0, at1, at2, at3, Option.some.injEq, exists_eq_left', true_and, and_true, uBM, uBM0, mAppend, mPop, uCallV, inTab, ixTab, bMax, bSum, cLt, cLe, cGt, cGe, uAddL, startU, uOr, uAnd, uNot, uTru, uTest, uCB, uCons, uVar, uC, uNil, uOp, uUn, uChain, uI0, uI, uAndV, uOrV, uNotV, uIf, uTup, uLst, mkL, uCall, bIsi2, bLen, bAll, bInt1, bInt2, bList, bTuple, vw_non, vw_bl, vw_int, vw_str, vw_tup, vw_lst, vw_own, mup_same, mup_mup, typU, uEqS, uNeS, uIsN, uNotN, isNon, uAdd, uIx, uSlX, uNoPart, uPart, inSt, uIter, uRng1, uRng2, List.map_cons, List.map_nil, List.length_cons, List.length_nil, List.cons_append, List.nil_append, List.replicate, List.getElem?_cons_zero, List.getElem?_cons_succ, List.set_cons_zero, List.set_cons_succ, List.append_nil, Nat.reduceAdd, Nat.reduceSub, Nat.sub_self, Nat.add_sub_cancel, Bool.not_false, Bool.not_true, if_true, if_false, Bool.false_eq_true, reduceCtorEq, decide_true, decide_false, isi_NoneType_bool, isi_NoneType_int, isi_NoneType_str, isi_NoneType_tuple, isi_NoneType_list, isi_NoneType_dict, isi_bool_bool, isi_bool_int, isi_bool_str, isi_bool_tuple, isi_bool_list, isi_bool_dict, isi_int_bool, isi_int_int, isi_int_str, isi_int_tuple, isi_int_list, isi_int_dict, isi_str_bool, isi_str_int, isi_str_str, isi_str_tuple, isi_str_list, isi_str_dict, isi_tuple_bool, isi_tuple_int, isi_tuple_str, isi_tuple_tuple, isi_tuple_list, isi_tuple_dict, isi_list_bool, isi_list_int, isi_list_str, isi_list_tuple, isi_list_list, isi_list_dict, isi_dict_bool, isi_dict_int, isi_dict_str, isi_dict_tuple, isi_dict_list, isi_dict_dict, uMul, bInt, mPopAt, uEnumL, szl, Nat.reduceLeDiff, Option.getD_some, uZipL, uListRev, uRev, uSetFrom, bSorted, uRepL]
    exact ⟨hl', go cell⟩
  · simp only [uNext, eqX_int, eqX_str, capt, uLtX, uIn, items, uEnum, uZip, mExtend, mClear, at0, at1, at2, at3, Option.some.injEq, exists_eq_left', true_and, and_true, uBM, uBM0, mAppend, mPop, uCallV, inTab, ixTab, bMax, bSum, cLt, cLe, cGt, cGe, uAddL, startU, uOr, uAnd, uNot, uTru, uTest, uCB, uCons, uVar, uC, uNil, uOp, uUn, uChain, uI0, uI, uAndV, uOrV, uNotV, uIf, uTup, uLst, mkL, uCall, bIsi2, bLen, bAll, bInt1, bInt2, bList, bTuple, vw_non, vw_bl, vw_int, vw_str, vw_tup, vw_lst, vw_own, mup_same, mup_mup, typU, uEqS, uNeS, uIsN, uNotN, isNon, uAdd, uIx, uSlX, uNoPart, uPart, inSt, uIter, uRng1, uRng2, List.map_cons, List.map_nil, List.length_cons, List.length_nil, List.cons_append, List.nil_append, List.replicate, List.getElem?_cons_zero, List.getElem?_cons_succ, List.set_cons_zero, List.set_cons_succ, List.append_nil, Nat.reduceAdd, Nat.reduceSub, Nat.sub_self, Nat.add_sub_cancel, Bool.not_false, Bool.not_true, if_true, if_false, Bool.false_eq_true, reduceCtorEq, decide_true, decide_false, isi_NoneType_bool, isi_NoneType_int, isi_NoneType_str, isi_NoneType_tuple, isi_NoneType_list, isi_NoneType_dict, isi_bool_bool, isi_bool_int, isi_bool_str, isi_bool_tuple, isi_bool_list, isi_bool_dict, isi_int_bool, isi_int_int, isi_int_str, isi_int_tuple, isi_int_list, isi_int_dict, isi_str_bool, isi_str_int, isi_str_str, isi_str_tuple, isi_str_list, isi_str_dict, isi_tuple_bool, isi_tuple_int, isi_tuple_str, isi_tuple_tuple, isi_tuple_list, isi_tuple_dict, isi_list_bool, isi_list_int, isi_list_str, isi_list_tuple, isi_list_list, isi_list_dict, isi_dict_bool, isi_dict_int, isi_dict_str, isi_dict_tuple, isi_dict_list, isi_dict_dict, uMul, bInt, mPopAt, uEnumL, szl, Nat.reduceLeDiff, Option.getD_some, uZipL, uListRev, uRev, uSetFrom, bSorted, uRepL]
    exact go 0

end
end K54

set_option linter.all false
set_option maxRecDepth 100000
namespace K54
open PySem L2 U2
section
variable {P : Program} {w : World} {K : PySem.W.Frag} {mg : Str → Option Value} {base : Heap} {f d d2 fl : Addr} {fd : FuncData}

theorem some_at (w : Int) (h0 : 0 ≤ w) (h1 : w < 11) : ∃ n : Int, atI [U.int 0, U.int 1, U.int 2, U.int 5, U.int 9, U.int 10, U.int 99, U.int 256, U.int (10 ^ Int.toNat 9), U.int (10 ^ Int.toNat 18 - 1), U.int (10 ^ Int.toNat 18)] w = some (.int n) ∧ 0 ≤ n ∧ n ≤ 10 ^ 18 := by
  have e : w = 0 ∨ w = 1 ∨ w = 2 ∨ w = 3 ∨ w = 4 ∨ w = 5 ∨ w = 6 ∨ w = 7 ∨ w = 8 ∨ w = 9 ∨ w = 10 := by omega
  rcases e with rfl | rfl | rfl | rfl | rfl | rfl | rfl | rfl | rfl | rfl | rfl <;> exact ⟨_, rfl, by decide +kernel, by decide +kernel⟩
def spNumber : USp := fun us M Q => ∃ (t : Addr) (ns : List Int) (a b c : Int), us = [.ref t] ∧ M t = some (.lst (tapeU ns a b c)) ∧ 0 ≤ a ∧ a ≤ 900000 ∧ ∀ n a' b' c' : Int, 0 ≤ n → n ≤ 10 ^ 18 → a ≤ a' → a' ≤ a + 2 → Q (.int n) (mup M t (.lst (tapeU ns a' b' c')))
set_option maxHeartbeats 1000000 in
theorem ok_number (F : Fun K "_law_number" "_law_number" s_law_number f fd) (hm : mg "_law_number" = some (.ref f)) (C_law_draw : Callee P w K mg base 1 "_law_draw" spDraw []) : Callee P w K mg base 2 "_law_number" spNumber [] := by
  refine callee_of F hm sc_law_number (fun _ _ _ _ _ _ us hl => match us, hl with | [_], _ => rfl) (fun us M Q h => by obtain ⟨_, _, _, _, _, rfl, _⟩ := h; rfl) (uss_cons (us_set 1 sc_law_number.nd (ue_lst (own := false) (ua_cons un_ (ua_cons un_ (ua_cons un_ (ua_cons un_ (ua_cons un_ (ua_cons un_ (ua_cons un_ (ua_cons un_ (ua_cons (ue_pow un_ un_) (ua_cons (ue_sub (ue_pow un_ un_) un_) (ua_cons (ue_pow un_ un_) ua_nil)))))))))))))
  (uss_cons (us_set 2 sc_law_number.nd (ue_call C_law_draw (ua_cons (uv 0) (ua_cons un_ ua_nil))))
  (uss_cons (us_if (ut_c k_ltX (uv 2) un_)
  (uss_one (us_ret (ue_ix (uv 1) (uv 2))))
  uss_nil)
  (uss_cons (us_if (ut_c k_eqX (uv 2) un_)
  (uss_one (us_ret (ue_call C_law_draw (ua_cons (uv 0) (ua_cons (ue_add (own := false) (ue_pow un_ un_) un_) ua_nil)))))
  uss_nil)
  (uss_one (us_ret (ue_call C_law_draw (ua_cons (uv 0) (ua_cons un_ ua_nil))))))))) ?_
  rintro us M Q ⟨t, ns, a, b, c, rfl, hM, ha0, ha1, q⟩
  have pw : CPow 10 18 := ⟨by decide, by decide, by decide⟩
  have pw9 : CPow 10 9 := ⟨by decide, by decide, by decide⟩
  refine seq_gen fun V hV => ?_
  simp only [uAsg, hName, startU, eqX_int, eqX_str, capt, uLtX, uIn, items, uEnum, uZip, mExtend, mClear, at0, at1, at2, at3, Option.some.injEq, exists_eq_left', true_and, and_true, uBM, uBM0, mAppend, mPop, uCallV, inTab, ixTab, bMax, bSum, cLt, cLe, cGt, cGe, uAddL, startU, uOr, uAnd, uNot, uTru, uTest, uCB, uCons, uVar, uC, uNil, uOp, uUn, uChain, uI0, uI, uAndV, uOrV, uNotV, uIf, uTup, uLst, mkL, uCall, bIsi2, bLen, bAll, bInt1, bInt2, bList, bTuple, vw_non, vw_bl, vw_int, vw_str, vw_tup, vw_lst, vw_own, mup_same, mup_mup, typU, uEqS, uNeS, uIsN, uNotN, isNon, uAdd, uIx, uSlX, uNoPart, uPart, inSt, uIter, uRng1, uRng2, List.map_cons, List.map_nil, List.length_cons, List.length_nil, List.cons_append, List.nil_append, List.replicate, List.getElem?_cons_zero, List.getElem?_cons_succ, List.set_cons_zero, List.set_cons_succ, List.append_nil, Nat.reduceAdd, Nat.reduceSub, Nat.sub_self, Nat.add_sub_cancel, Bool.not_false, Bool.not_true, if_true, if_false, Bool.false_eq_true, reduceCtorEq, decide_true, decide_false, isi_NoneType_bool, isi_NoneType_int, isi_NoneType_str, isi_NoneType_tuple, isi_NoneType_list, isi_NoneType_dict, isi_bool_bool, isi_bool_int, isi_bool_str, isi_bool_tuple, isi_bool_list, isi_bool_dict, isi_int_bool, isi_int_int, isi_int_str, isi_int_tuple, isi_int_list, isi_int_dict, isi_str_bool, isi_str_int, isi_str_str, isi_str_tuple, isi_str_list, isi_str_dict, isi_tuple_bool, isi_tuple_int, isi_tuple_str, isi_tuple_tuple, isi_tuple_list, isi_tuple_dict, isi_list_bool, isi_list_int, isi_list_str, isi_list_tuple, isi_list_list, isi_list_dict, isi_dict_bool, isi_dict_int, isi_dict_str, isi_dict_tuple, isi_dict_list, isi_dict_dict, uMul, bInt, mPopAt, uEnumL, szl, Nat.reduceLeDiff, Option.getD_some, uZipL, uListRev, uRev, uSetFrom, bSorted, uRepL]
  refine ⟨pw9, pw, pw, ?_⟩
  subst hV
  refine seq_gen fun V hV => ?_
  simp only [uAsg, hName, eqX_int, eqX_str, capt, uLtX, uIn, items, uEnum, uZip, mExtend, mClear, at0, at1, at2, at3, Option.some.injEq, exists_eq_left', true_and, and_true, uBM, uBM0, mAppend, mPop, uCallV, inTab, ixTab, bMax, bSum, cLt, cLe, cGt, cGe, uAddL, startU, uOr, uAnd, uNot, uTru, uTest, uCB, uCons, uVar, uC, uNil, uOp, uUn, uChain, uI0, uI, uAndV, uOrV, uNotV, uIf, uTup, uLst, mkL, uCall, bIsi2, bLen, bAll, bInt1, bInt2, bList, bTuple, vw_non, vw_bl, vw_int, vw_str, vw_tup, vw_lst, vw_own, mup_same, mup_mup, typU, uEqS, uNeS, uIsN, uNotN, isNon, uAdd, uIx, uSlX, uNoPart, uPart, inSt, uIter, uRng1, uRng2, List.map_cons, List.map_nil, List.length_cons, List.length_nil, List.cons_append, List.nil_append, List.replicate, List.getElem?_cons_zero, List.getElem?_cons_succ, List.set_cons_zero, List.set_cons_succ, List.append_nil, Nat.reduceAdd, Nat.reduceSub, Nat.sub_self, Nat.add_sub_cancel, Bool.not_false, Bool.not_true, if_true, if_false, Bool.false_eq_true, reduceCtorEq, decide_true, decide_false, isi_NoneType_bool, isi_NoneType_int, isi_NoneType_str, isi_NoneType_tuple, isi_NoneType_list, isi_NoneType_dict, isi_bool_bool, isi_bool_int, isi_bool_str, isi_bool_tuple, isi_bool_list, isi_bool_dict, isi_int_bool, isi_int_int, isi_int_str, isi_int_tuple, isi_int_list, isi_int_dict, isi_str_bool, isi_str_int, isi_str_str, isi_str_tuple, isi_str_list, isi_str_dict, isi_tuple_bool, isi_tuple_int, isi_tuple_str, isi_tuple_tuple, isi_tuple_list, isi_tuple_dict, isi_list_bool, isi_list_int, isi_list_str, isi_list_tuple, isi_list_list, isi_list_dict, isi_dict_bool, isi_dict_int, isi_dict_str, isi_dict_tuple, isi_dict_list, isi_dict_dict, uMul, bInt, mPopAt, uEnumL, szl, Nat.reduceLeDiff, Option.getD_some, uZipL, uListRev, uRev, uSetFrom, bSorted, uRepL]
  refine ⟨t, ns, a, b, c, 16, rfl, by decide, by decide, hM, ha0, by omega, fun w a1 b1 c1 w0 w1 l1 l2 => ?_⟩
  subst hV
  refine seq_gen fun V hV => ?_
  refine if_gen fun A B hA hB => ?_
  simp only [eqX_int, eqX_str, capt, uLtX, uIn, items, uEnum, uZip, mExtend, mClear, at0, at1, at2, at3, Option.some.injEq, exists_eq_left', true_and, and_true, uBM, uBM0, mAppend, mPop, uCallV, inTab, ixTab, bMax, bSum, cLt, cLe, cGt, cGe, uAddL, startU, uOr, uAnd, uNot, uTru, uTest, uCB, uCons, uVar, uC, uNil, uOp, uUn, uChain, uI0, uI, uAndV, uOrV, uNotV, uIf, uTup, uLst, mkL, uCall, bIsi2, bLen, bAll, bInt1, bInt2, bList, bTuple, vw_non, vw_bl, vw_int, vw_str, vw_tup, vw_lst, vw_own, mup_same, mup_mup, typU, uEqS, uNeS, uIsN, uNotN, isNon, uAdd, uIx, uSlX, uNoPart, uPart, inSt, uIter, uRng1, uRng2, List.map_cons, List.map_nil, List.length_cons, List.length_nil, List.cons_append, List.nil_append, List.replicate, List.getElem?_cons_zero, List.getElem?_cons_succ, List.set_cons_zero, List.set_cons_succ, List.append_nil, Nat.reduceAdd, Nat.reduceSub, Nat.sub_self, Nat.add_sub_cancel, Bool.not_false, Bool.not_true, if_true, if_false, Bool.false_eq_true, reduceCtorEq, decide_true, decide_false, isi_NoneType_bool, isi_NoneType_int, isi_NoneType_str, isi_NoneType_tuple, isi_NoneType_list, isi_NoneType_dict, isi_bool_bool, isi_bool_int, isi_bool_str, isi_bool_tuple, isi_bool_list, isi_bool_dict, isi_int_bool, isi_int_int, isi_int_str, isi_int_tuple, isi_int_list, isi_int_dict, isi_str_bool, isi_str_int, isi_str_str, isi_str_tuple, isi_str_list, isi_str_dict, isi_tuple_bool, isi_tuple_int, isi_tuple_str, isi_tuple_tuple, isi_tuple_list, isi_tuple_dict, isi_list_bool, isi_list_int, isi_list_str, isi_list_tuple, isi_list_list, isi_list_dict, isi_dict_bool, isi_dict_int, isi_dict_str, isi_dict_tuple, isi_dict_list, isi_dict_dict, uMul, bInt, mPopAt, uEnumL, szl, Nat.reduceLeDiff, Option.getD_some, uZipL, uListRev, uRev, uSetFrom, bSorted, uRepL]
  refine ite2 (fun h => ?_) (fun _ => ?_)
  · have hw : w < 11 := by simpa using h
    obtain ⟨n, hn, n0, n1⟩ := some_at w w0 hw
    subst hA
    simp only [uRet, hn, eqX_int, eqX_str, capt, uLtX, uIn, items, uEnum, uZip, mExtend, mClear, at0, at1, at2, at3, Option.some.injEq, exists_eq_left', true_and, and_true, uBM, uBM0, mAppend, mPop, uCallV, inTab, ixTab, bMax, bSum, cLt, cLe, cGt, cGe, uAddL, startU, uOr, uAnd, uNot, uTru, uTest, uCB, uCons, uVar, uC, uNil, uOp, uUn, uChain, uI0, uI, uAndV, uOrV, uNotV, uIf, uTup, uLst, mkL, uCall, bIsi2, bLen, bAll, bInt1, bInt2, bList, bTuple, vw_non, vw_bl, vw_int, vw_str, vw_tup, vw_lst, vw_own, mup_same, mup_mup, typU, uEqS, uNeS, uIsN, uNotN, isNon, uAdd, uIx, uSlX, uNoPart, uPart, inSt, uIter, uRng1, uRng2, List.map_cons, List.map_nil, List.length_cons, List.length_nil, List.cons_append, List.nil_append, List.replicate, List.getElem?_cons_zero, List.getElem?_cons_succ, List.set_cons_zero, List.set_cons_succ, List.append_nil, Nat.reduceAdd, Nat.reduceSub, Nat.sub_self, Nat.add_sub_cancel, Bool.not_false, Bool.not_true, if_true, if_false, Bool.false_eq_true, reduceCtorEq, decide_true, decide_false, isi_NoneType_bool, isi_NoneType_int, isi_NoneType_str, isi_NoneType_tuple, isi_NoneType_list, isi_NoneType_dict, isi_bool_bool, isi_bool_int, isi_bool_str, isi_bool_tuple, isi_bool_list, isi_bool_dict, isi_int_bool, isi_int_int, isi_int_str, isi_int_tuple, isi_int_list, isi_int_dict, isi_str_bool, isi_str_int, isi_str_str, isi_str_tuple, isi_str_list, isi_str_dict, isi_tuple_bool, isi_tuple_int, isi_tuple_str, isi_tuple_tuple, isi_tuple_list, isi_tuple_dict, isi_list_bool, isi_list_int, isi_list_str, isi_list_tuple, isi_list_list, isi_list_dict, isi_dict_bool, isi_dict_int, isi_dict_str, isi_dict_tuple, isi_dict_list, isi_dict_dict, uMul, bInt, mPopAt, uEnumL, szl, Nat.reduceLeDiff, Option.getD_some, uZipL, uListRev, uRev, uSetFrom, bSorted, uRepL]
    exact rt_same (q n a1 b1 c1 n0 n1 l1 (by omega))
  · subst hB
    simp only [uNext]
    subst hV
    refine seq_gen fun V hV => ?_
    refine if_gen fun A B hA hB => ?_
    simp only [eqX_int, eqX_str, capt, uLtX, uIn, items, uEnum, uZip, mExtend, mClear, at0, at1, at2, at3, Option.some.injEq, exists_eq_left', true_and, and_true, uBM, uBM0, mAppend, mPop, uCallV, inTab, ixTab, bMax, bSum, cLt, cLe, cGt, cGe, uAddL, startU, uOr, uAnd, uNot, uTru, uTest, uCB, uCons, uVar, uC, uNil, uOp, uUn, uChain, uI0, uI, uAndV, uOrV, uNotV, uIf, uTup, uLst, mkL, uCall, bIsi2, bLen, bAll, bInt1, bInt2, bList, bTuple, vw_non, vw_bl, vw_int, vw_str, vw_tup, vw_lst, vw_own, mup_same, mup_mup, typU, uEqS, uNeS, uIsN, uNotN, isNon, uAdd, uIx, uSlX, uNoPart, uPart, inSt, uIter, uRng1, uRng2, List.map_cons, List.map_nil, List.length_cons, List.length_nil, List.cons_append, List.nil_append, List.replicate, List.getElem?_cons_zero, List.getElem?_cons_succ, List.set_cons_zero, List.set_cons_succ, List.append_nil, Nat.reduceAdd, Nat.reduceSub, Nat.sub_self, Nat.add_sub_cancel, Bool.not_false, Bool.not_true, if_true, if_false, Bool.false_eq_true, reduceCtorEq, decide_true, decide_false, isi_NoneType_bool, isi_NoneType_int, isi_NoneType_str, isi_NoneType_tuple, isi_NoneType_list, isi_NoneType_dict, isi_bool_bool, isi_bool_int, isi_bool_str, isi_bool_tuple, isi_bool_list, isi_bool_dict, isi_int_bool, isi_int_int, isi_int_str, isi_int_tuple, isi_int_list, isi_int_dict, isi_str_bool, isi_str_int, isi_str_str, isi_str_tuple, isi_str_list, isi_str_dict, isi_tuple_bool, isi_tuple_int, isi_tuple_str, isi_tuple_tuple, isi_tuple_list, isi_tuple_dict, isi_list_bool, isi_list_int, isi_list_str, isi_list_tuple, isi_list_list, isi_list_dict, isi_dict_bool, isi_dict_int, isi_dict_str, isi_dict_tuple, isi_dict_list, isi_dict_dict, uMul, bInt, mPopAt, uEnumL, szl, Nat.reduceLeDiff, Option.getD_some, uZipL, uListRev, uRev, uSetFrom, bSorted, uRepL]
    refine ite2 (fun h => ?_) (fun _ => ?_)
    · subst hA
      simp only [uRet, eqX_int, eqX_str, capt, uLtX, uIn, items, uEnum, uZip, mExtend, mClear, at0, at1, at2, at3, Option.some.injEq, exists_eq_left', true_and, and_true, uBM, uBM0, mAppend, mPop, uCallV, inTab, ixTab, bMax, bSum, cLt, cLe, cGt, cGe, uAddL, startU, uOr, uAnd, uNot, uTru, uTest, uCB, uCons, uVar, uC, uNil, uOp, uUn, uChain, uI0, uI, uAndV, uOrV, uNotV, uIf, uTup, uLst, mkL, uCall, bIsi2, bLen, bAll, bInt1, bInt2, bList, bTuple, vw_non, vw_bl, vw_int, vw_str, vw_tup, vw_lst, vw_own, mup_same, mup_mup, typU, uEqS, uNeS, uIsN, uNotN, isNon, uAdd, uIx, uSlX, uNoPart, uPart, inSt, uIter, uRng1, uRng2, List.map_cons, List.map_nil, List.length_cons, List.length_nil, List.cons_append, List.nil_append, List.replicate, List.getElem?_cons_zero, List.getElem?_cons_succ, List.set_cons_zero, List.set_cons_succ, List.append_nil, Nat.reduceAdd, Nat.reduceSub, Nat.sub_self, Nat.add_sub_cancel, Bool.not_false, Bool.not_true, if_true, if_false, Bool.false_eq_true, reduceCtorEq, decide_true, decide_false, isi_NoneType_bool, isi_NoneType_int, isi_NoneType_str, isi_NoneType_tuple, isi_NoneType_list, isi_NoneType_dict, isi_bool_bool, isi_bool_int, isi_bool_str, isi_bool_tuple, isi_bool_list, isi_bool_dict, isi_int_bool, isi_int_int, isi_int_str, isi_int_tuple, isi_int_list, isi_int_dict, isi_str_bool, isi_str_int, isi_str_str, isi_str_tuple, isi_str_list, isi_str_dict, isi_tuple_bool, isi_tuple_int, isi_tuple_str, isi_tuple_tuple, isi_tuple_list, isi_tuple_dict, isi_list_bool, isi_list_int, isi_list_str, isi_list_tuple, isi_list_list, isi_list_dict, isi_dict_bool, isi_dict_int, isi_dict_str, isi_dict_tuple, isi_dict_list, isi_dict_dict, uMul, bInt, mPopAt, uEnumL, szl, Nat.reduceLeDiff, Option.getD_some, uZipL, uListRev, uRev, uSetFrom, bSorted, uRepL]
      refine ⟨pw, t, ns, a1, b1, c1, _, rfl, by decide, by decide, mup_same, by omega, by omega, fun n a2 b2 c2 n0 n1 l3 l4 => ?_⟩
      rw [mup_mup]
      exact rt_same (q n a2 b2 c2 n0 (by have e : (10 : Int) ^ Int.toNat 18 = 10 ^ 18 := rfl; omega) (by omega) (by omega))
    · subst hB
      simp only [uNext]
      subst hV
      simp only [uRet, eqX_int, eqX_str, capt, uLtX, uIn, items, uEnum, uZip, mExtend, mClear, at0, at1, at2, at3, Option.some.injEq, exists_eq_left', true_and, and_true, uBM, uBM0, mAppend, mPop, uCallV, inTab, ixTab, bMax, bSum, cLt, cLe, cGt, cGe, uAddL, startU, uOr, uAnd, uNot, uTru, uTest, uCB, uCons, uVar, uC, uNil, uOp, uUn, uChain, uI0, uI, uAndV, uOrV, uNotV, uIf, uTup, uLst, mkL, uCall, bIsi2, bLen, bAll, bInt1, bInt2, bList, bTuple, vw_non, vw_bl, vw_int, vw_str, vw_tup, vw_lst, vw_own, mup_same, mup_mup, typU, uEqS, uNeS, uIsN, uNotN, isNon, uAdd, uIx, uSlX, uNoPart, uPart, inSt, uIter, uRng1, uRng2, List.map_cons, List.map_nil, List.length_cons, List.length_nil, List.cons_append, List.nil_append, List.replicate, List.getElem?_cons_zero, List.getElem?_cons_succ, List.set_cons_zero, List.set_cons_succ, List.append_nil, Nat.reduceAdd, Nat.reduceSub, Nat.sub_self, Nat.add_sub_cancel, Bool.not_false, Bool.not_true, if_true, if_false, Bool.false_eq_true, reduceCtorEq, decide_true, decide_false, isi_NoneType_bool, isi_NoneType_int, isi_NoneType_str, isi_NoneType_tuple, isi_NoneType_list, isi_NoneType_dict, isi_bool_bool, isi_bool_int, isi_bool_str, isi_bool_tuple, isi_bool_list, isi_bool_dict, isi_int_bool, isi_int_int, isi_int_str, isi_int_tuple, isi_int_list, isi_int_dict, isi_str_bool, isi_str_int, isi_str_str, isi_str_tuple, isi_str_list, isi_str_dict, isi_tuple_bool, isi_tuple_int, isi_tuple_str, isi_tuple_tuple, isi_tuple_list, isi_tuple_dict, isi_list_bool, isi_list_int, isi_list_str, isi_list_tuple, isi_list_list, isi_list_dict, isi_dict_bool, isi_dict_int, isi_dict_str, isi_dict_tuple, isi_dict_list, isi_dict_dict, uMul, bInt, mPopAt, uEnumL, szl, Nat.reduceLeDiff, Option.getD_some, uZipL, uListRev, uRev, uSetFrom, bSorted, uRepL]
      refine ⟨t, ns, a1, b1, c1, 13, rfl, by decide, by decide, mup_same, by omega, by omega, fun n a2 b2 c2 n0 n1 l3 l4 => ?_⟩
      rw [mup_mup]
      exact rt_same (q n a2 b2 c2 n0 (by omega) (by omega) (by omega))
/-! ### two own lists -/
def st2 (M : MHp) (t r : Addr) (T R : List U) : MHp := mup (mup M t (.lst T)) r (.lst R)
theorem st2_t {M : MHp} {t r : Addr} {T R : List U} (h : t ≠ r) : st2 M t r T R t = some (.lst T) := by unfold st2; rw [mup_ne h, mup_same]
theorem st2_r {M : MHp} {t r : Addr} {T R : List U} : st2 M t r T R r = some (.lst R) := mup_same
theorem st2_setT {M : MHp} {t r : Addr} {T R T' : List U} (h : t ≠ r) : mup (st2 M t r T R) t (.lst T') = st2 M t r T' R := by
  funext x
  unfold st2
  by_cases e1 : x = t
  · subst e1; rw [mup_same, mup_ne h, mup_same]
  · rw [mup_ne e1]
    by_cases e2 : x = r
    · subst e2; rw [mup_same, mup_same]
    · rw [mup_ne e2, mup_ne e2, mup_ne e1, mup_ne e1]
theorem st2_setR {M : MHp} {t r : Addr} {T R R' : List U} : mup (st2 M t r T R) r (.lst R') = st2 M t r T R' := by unfold st2; rw [mup_mup]
theorem st2_self {M : MHp} {t r : Addr} {T R : List U} (h1 : M t = some (.lst T)) (h2 : M r = some (.lst R)) : st2 M t r T R = M := by unfold st2; rw [mup_self h1, mup_self h2]
theorem st2_st2 {M : MHp} {t r : Addr} {T R T' R' : List U} (h : t ≠ r) : st2 (st2 M t r T R) t r T' R' = st2 M t r T' R' := by
  show mup (mup (st2 M t r T R) t (.lst T')) r (.lst R') = _
  rw [st2_setT h, st2_setR]
def roomU (x y : Int) : List U := [.int x, .int y]
def spPat (n : Nat) : USp := fun us M Q => ∃ (t r : Addr) (ns : List Int) (a b c x y : Int) (cs : List Str), us = [.ref t, sortsU cs, .int (n : Int), .ref r] ∧ 1 ≤ n ∧ n ≤ 4 ∧ t ≠ r ∧ M t = some (.lst (tapeU ns a b c)) ∧ M r = some (.lst (roomU x y)) ∧ cs ≠ [] ∧ cs.length ≤ 6 ∧ (∀ s ∈ cs, PyData.strOk s = true) ∧ 0 ≤ a ∧ a + 1000 * (n : Int) ≤ 510000 ∧
  ∀ (p : Pt) (a' b' c' x' y' : Int), p.ok → p.dep ≤ n → a ≤ a' → a' ≤ a + (10 * 2 ^ n - 2) → Q p.toU (st2 M t r (tapeU ns a' b' c') (roomU x' y'))

end
end K54

set_option linter.all false
set_option maxRecDepth 100000
namespace K54
open PySem L2 U2
section
variable {P : Program} {w : World} {K : PySem.W.Frag} {mg : Str → Option Value} {base : Heap} {f d d2 fl : Addr} {fd : FuncData}

theorem cls_at {ss : List Str} {i : Int} {s : Str} (hat : atI ss i = some s) : atI (ss.map U.str) i = some (.str s) := by
  unfold atI at hat ⊢
  rw [List.length_map]
  cases e : ixN ss.length i with
  | none => rw [e] at hat; cases hat
  | some j =>
    rw [e] at hat
    have hat' : ss[j]? = some s := hat
    show (ss.map U.str)[j]? = _
    rw [List.getElem?_map, hat']; rfl
def sgn (w : Int) : Op := if w = 5 then .less else if w = 6 then .by_ else .sum
theorem sgn_at (w : Int) (h0 : 4 ≤ w) (h1 : w < 8) : atI [U.str (Str.ofString "sum"), U.str (Str.ofString "less"), U.str (Str.ofString "by"), U.str (Str.ofString "sum")] (w - 4) = some (.str (sgn w).word) := by
  have e : w = 4 ∨ w = 5 ∨ w = 6 ∨ w = 7 := by omega
  rcases e with rfl | rfl | rfl | rfl <;> rfl
theorem two_sorted {a b : Int} {l : List Int} (h : l.Perm [a, b]) (hs : l.Pairwise (· ≤ ·)) : ∃ lo hi, l = [lo, hi] ∧ lo ≤ hi ∧ (lo = a ∨ lo = b) := by
  have hl : l.length = 2 := h.length_eq
  match l, hl with
  | [lo, hi], _ =>
    refine ⟨lo, hi, rfl, ?_, ?_⟩
    · have := List.pairwise_cons.mp hs
      exact this.1 hi (by simp)
    · have := h.mem_iff.mp (show lo ∈ [lo, hi] by simp)
      simpa using this
set_option maxHeartbeats 2000000 in
theorem ok_pat {n : Nat} (F : Fun K "_law_pattern" "_law_pattern" s_law_pattern f fd) (hm : mg "_law_pattern" = some (.ref f)) (m_len : mg "len" = none) (m_sorted : mg "sorted" = none) (C_law_draw : Callee P w K mg base 1 "_law_draw" spDraw []) (C_law_number : Callee P w K mg base 2 "_law_number" spNumber []) (C_law_pattern : Callee P w K mg base (n + 2) "_law_pattern" (spPat n) []) : Callee P w K mg base (n + 3) "_law_pattern" (spPat (n + 1)) [] := by
  refine callee_of F hm sc_law_pattern (fun _ _ _ _ _ _ us hl => match us, hl with | [_, _, _, _], _ => rfl) (fun us M Q h => by obtain ⟨_, _, _, _, _, _, _, _, _, rfl, _⟩ := h; rfl) (uss_cons (us_asub (ue_sub (ue_ix (uv 3) un_) un_) (uv 3) un_)
  (uss_cons (us_set 4 sc_law_pattern.nd (ue_call C_law_draw (ua_cons (uv 0) (ua_cons un_ ua_nil))))
  (uss_cons (us_if (PWU.pt (uw_or (ut_c k_eqX (uv 2) un_) (uw_or (ut_c k_ltX (ue_ix (uv 3) un_) un_) (uw_or1 (ut_c k_ltX (uv 4) un_)))))
  (uss_cons (us_if (PWU.pt (uw_and (ut_c k_gt (ue_ix (uv 3) un_) un_) (uw_and1 (ut_c k_gt (ue_call C_law_draw (ua_cons (uv 0) (ua_cons un_ ua_nil))) un_))))
  (uss_cons (us_asub (ue_sub (ue_ix (uv 3) un_) un_) (uv 3) un_)
  (uss_one (us_ret (ue_tup (ua_cons us_ (ua_cons (ue_ix (uv 1) (ue_call C_law_draw (ua_cons (uv 0) (ua_cons (ue_b b_len m_len (ua_cons (uv 1) ua_nil)) ua_nil)))) ua_nil))))))
  uss_nil)
  (uss_cons (us_if (ut_c k_eqX (ue_call C_law_draw (ua_cons (uv 0) (ua_cons un_ ua_nil))) un_)
  (uss_one (us_ret (ue_tup (ua_cons us_ ua_nil))))
  uss_nil)
  (uss_cons (us_set 5 sc_law_pattern.nd (ue_b b_sorted m_sorted (ua_cons (ue_lst (own := false) (ua_cons (ue_call C_law_number (ua_cons (uv 0) ua_nil)) (ua_cons (ue_call C_law_number (ua_cons (uv 0) ua_nil)) ua_nil))) ua_nil)))
  (uss_one (us_ret (ue_tup (ua_cons us_ (ua_cons (ue_ix (uv 5) un_) (ua_cons (ue_ix (uv 5) un_) ua_nil)))))))))
  uss_nil)
  (uss_cons (us_set 6 sc_law_pattern.nd (ue_call C_law_pattern (ua_cons (uv 0) (ua_cons (uv 1) (ua_cons (ue_sub (uv 2) un_) (ua_cons (uv 3) ua_nil))))))
  (uss_cons (us_if (ut_c k_eqX (uv 4) un_)
  (uss_one (us_ret (ue_tup (ua_cons us_ (ua_cons (uv 6) ua_nil)))))
  uss_nil)
  (uss_cons (us_set 7 sc_law_pattern.nd (ue_ix (ue_lst (own := false) (ua_cons us_ (ua_cons us_ (ua_cons us_ (ua_cons us_ ua_nil))))) (ue_sub (uv 4) un_)))
  (uss_one (us_ret (ue_tup (ua_cons (uv 7) (ua_cons (uv 6) (ua_cons (ue_call C_law_pattern (ua_cons (uv 0) (ua_cons (uv 1) (ua_cons (ue_sub (uv 2) un_) (ua_cons (uv 3) ua_nil))))) ua_nil)))))))))))) ?_
  rintro us M Q ⟨t, r, ns, a, b, c, x, y, cs, rfl, hn1, hn4, htr, hMt, hMr, hne, hc6, hcs, ha0, ha1, q⟩
  have hrt : r ≠ t := fun z => htr z.symm
  have e2 : (2 : Int) ^ (n + 1) = 2 * 2 ^ n := by rw [Int.pow_succ]; omega
  have p1 : (1 : Int) ≤ 2 ^ n := by have := Int.pow_pos (n := 2) (m := n) (by decide); omega
  have p4 : (2 : Int) ^ n ≤ 8 := by
    have h : n = 0 ∨ n = 1 ∨ n = 2 ∨ n = 3 := by omega
    rcases h with rfl | rfl | rfl | rfl <;> decide
  have hln : 0 < (cs.length : Int) := by have := List.length_pos_iff.mpr hne; omega
  have hMM := st2_self hMt hMr
  rw [← hMM]
  have vt : ∀ T R, view (st2 M t r T R) (.ref t) = .lst T := fun T R => view_ref (st2_t htr)
  have vr : ∀ T R, view (st2 M t r T R) (.ref r) = .lst R := fun T R => view_ref st2_r
  refine seq_gen fun V hV => ?_
  simp only [uSetI, startU, vr, roomU, eqX_int, eqX_str, capt, uLtX, uIn, items, uEnum, uZip, mExtend, mClear, at0, at1, at2, at3, Option.some.injEq, exists_eq_left', true_and, and_true, uBM, uBM0, mAppend, mPop, uCallV, inTab, ixTab, bMax, bSum, cLt, cLe, cGt, cGe, uAddL, startU, uOr, uAnd, uNot, uTru, uTest, uCB, uCons, uVar, uC, uNil, uOp, uUn, uChain, uI0, uI, uAndV, uOrV, uNotV, uIf, uTup, uLst, mkL, uCall, bIsi2, bLen, bAll, bInt1, bInt2, bList, bTuple, vw_non, vw_bl, vw_int, vw_str, vw_tup, vw_lst, vw_own, mup_same, mup_mup, typU, uEqS, uNeS, uIsN, uNotN, isNon, uAdd, uIx, uSlX, uNoPart, uPart, inSt, uIter, uRng1, uRng2, List.map_cons, List.map_nil, List.length_cons, List.length_nil, List.cons_append, List.nil_append, List.replicate, List.getElem?_cons_zero, List.getElem?_cons_succ, List.set_cons_zero, List.set_cons_succ, List.append_nil, Nat.reduceAdd, Nat.reduceSub, Nat.sub_self, Nat.add_sub_cancel, Bool.not_false, Bool.not_true, if_true, if_false, Bool.false_eq_true, reduceCtorEq, decide_true, decide_false, isi_NoneType_bool, isi_NoneType_int, isi_NoneType_str, isi_NoneType_tuple, isi_NoneType_list, isi_NoneType_dict, isi_bool_bool, isi_bool_int, isi_bool_str, isi_bool_tuple, isi_bool_list, isi_bool_dict, isi_int_bool, isi_int_int, isi_int_str, isi_int_tuple, isi_int_list, isi_int_dict, isi_str_bool, isi_str_int, isi_str_str, isi_str_tuple, isi_str_list, isi_str_dict, isi_tuple_bool, isi_tuple_int, isi_tuple_str, isi_tuple_tuple, isi_tuple_list, isi_tuple_dict, isi_list_bool, isi_list_int, isi_list_str, isi_list_tuple, isi_list_list, isi_list_dict, isi_dict_bool, isi_dict_int, isi_dict_str, isi_dict_tuple, isi_dict_list, isi_dict_dict, uMul, bInt, mPopAt, uEnumL, szl, Nat.reduceLeDiff, Option.getD_some, uZipL, uListRev, uRev, uSetFrom, bSorted, uRepL]
  simp only [st2_r]
  refine ⟨0, rfl, ?_⟩
  simp only [st2_setR, List.set_cons_zero]
  subst hV
  refine seq_gen fun V hV => ?_
  simp only [uAsg, hName, eqX_int, eqX_str, capt, uLtX, uIn, items, uEnum, uZip, mExtend, mClear, at0, at1, at2, at3, Option.some.injEq, exists_eq_left', true_and, and_true, uBM, uBM0, mAppend, mPop, uCallV, inTab, ixTab, bMax, bSum, cLt, cLe, cGt, cGe, uAddL, startU, uOr, uAnd, uNot, uTru, uTest, uCB, uCons, uVar, uC, uNil, uOp, uUn, uChain, uI0, uI, uAndV, uOrV, uNotV, uIf, uTup, uLst, mkL, uCall, bIsi2, bLen, bAll, bInt1, bInt2, bList, bTuple, vw_non, vw_bl, vw_int, vw_str, vw_tup, vw_lst, vw_own, mup_same, mup_mup, typU, uEqS, uNeS, uIsN, uNotN, isNon, uAdd, uIx, uSlX, uNoPart, uPart, inSt, uIter, uRng1, uRng2, List.map_cons, List.map_nil, List.length_cons, List.length_nil, List.cons_append, List.nil_append, List.replicate, List.getElem?_cons_zero, List.getElem?_cons_succ, List.set_cons_zero, List.set_cons_succ, List.append_nil, Nat.reduceAdd, Nat.reduceSub, Nat.sub_self, Nat.add_sub_cancel, Bool.not_false, Bool.not_true, if_true, if_false, Bool.false_eq_true, reduceCtorEq, decide_true, decide_false, isi_NoneType_bool, isi_NoneType_int, isi_NoneType_str, isi_NoneType_tuple, isi_NoneType_list, isi_NoneType_dict, isi_bool_bool, isi_bool_int, isi_bool_str, isi_bool_tuple, isi_bool_list, isi_bool_dict, isi_int_bool, isi_int_int, isi_int_str, isi_int_tuple, isi_int_list, isi_int_dict, isi_str_bool, isi_str_int, isi_str_str, isi_str_tuple, isi_str_list, isi_str_dict, isi_tuple_bool, isi_tuple_int, isi_tuple_str, isi_tuple_tuple, isi_tuple_list, isi_tuple_dict, isi_list_bool, isi_list_int, isi_list_str, isi_list_tuple, isi_list_list, isi_list_dict, isi_dict_bool, isi_dict_int, isi_dict_str, isi_dict_tuple, isi_dict_list, isi_dict_dict, uMul, bInt, mPopAt, uEnumL, szl, Nat.reduceLeDiff, Option.getD_some, uZipL, uListRev, uRev, uSetFrom, bSorted, uRepL]
  refine ⟨t, ns, a, b, c, 8, rfl, by decide, by decide, st2_t htr, ha0, by omega, fun way a1 b1 c1 w0 w1 l1 l2 => ?_⟩
  rw [st2_setT htr]
  subst hV
  refine seq_gen fun V hV => ?_
  refine if_gen fun A B hA hB => ?_
  have leaf : A (st2 M t r (tapeU ns a1 b1 c1) [.int (x - 1), .int y]) := by
    subst hA
    refine seq_gen fun V1 hV1 => ?_
    refine if_gen fun A1 B1 hA1 hB1 => ?_
    have nohole : ∀ a2 b2 c2 : Int, a1 ≤ a2 → a2 ≤ a1 + 1 → B1 (st2 M t r (tapeU ns a2 b2 c2) [.int (x - 1), .int y]) := by
      intro a2 b2 c2 g1 g2
      subst hB1
      simp only [uNext]
      subst hV1
      refine seq_gen fun V2 hV2 => ?_
      refine if_gen fun A2 B2 hA2 hB2 => ?_
      simp only [eqX_int, eqX_str, capt, uLtX, uIn, items, uEnum, uZip, mExtend, mClear, at0, at1, at2, at3, Option.some.injEq, exists_eq_left', true_and, and_true, uBM, uBM0, mAppend, mPop, uCallV, inTab, ixTab, bMax, bSum, cLt, cLe, cGt, cGe, uAddL, startU, uOr, uAnd, uNot, uTru, uTest, uCB, uCons, uVar, uC, uNil, uOp, uUn, uChain, uI0, uI, uAndV, uOrV, uNotV, uIf, uTup, uLst, mkL, uCall, bIsi2, bLen, bAll, bInt1, bInt2, bList, bTuple, vw_non, vw_bl, vw_int, vw_str, vw_tup, vw_lst, vw_own, mup_same, mup_mup, typU, uEqS, uNeS, uIsN, uNotN, isNon, uAdd, uIx, uSlX, uNoPart, uPart, inSt, uIter, uRng1, uRng2, List.map_cons, List.map_nil, List.length_cons, List.length_nil, List.cons_append, List.nil_append, List.replicate, List.getElem?_cons_zero, List.getElem?_cons_succ, List.set_cons_zero, List.set_cons_succ, List.append_nil, Nat.reduceAdd, Nat.reduceSub, Nat.sub_self, Nat.add_sub_cancel, Bool.not_false, Bool.not_true, if_true, if_false, Bool.false_eq_true, reduceCtorEq, decide_true, decide_false, isi_NoneType_bool, isi_NoneType_int, isi_NoneType_str, isi_NoneType_tuple, isi_NoneType_list, isi_NoneType_dict, isi_bool_bool, isi_bool_int, isi_bool_str, isi_bool_tuple, isi_bool_list, isi_bool_dict, isi_int_bool, isi_int_int, isi_int_str, isi_int_tuple, isi_int_list, isi_int_dict, isi_str_bool, isi_str_int, isi_str_str, isi_str_tuple, isi_str_list, isi_str_dict, isi_tuple_bool, isi_tuple_int, isi_tuple_str, isi_tuple_tuple, isi_tuple_list, isi_tuple_dict, isi_list_bool, isi_list_int, isi_list_str, isi_list_tuple, isi_list_list, isi_list_dict, isi_dict_bool, isi_dict_int, isi_dict_str, isi_dict_tuple, isi_dict_list, isi_dict_dict, uMul, bInt, mPopAt, uEnumL, szl, Nat.reduceLeDiff, Option.getD_some, uZipL, uListRev, uRev, uSetFrom, bSorted, uRepL]
      refine ⟨t, ns, a2, b2, c2, 3, rfl, by decide, by decide, st2_t htr, by omega, by omega, fun k a3 b3 c3 k0 k1 g3 g4 => ?_⟩
      rw [st2_setT htr]
      simp only [eqX_int, eqX_str, capt, uLtX, uIn, items, uEnum, uZip, mExtend, mClear, at0, at1, at2, at3, Option.some.injEq, exists_eq_left', true_and, and_true, uBM, uBM0, mAppend, mPop, uCallV, inTab, ixTab, bMax, bSum, cLt, cLe, cGt, cGe, uAddL, startU, uOr, uAnd, uNot, uTru, uTest, uCB, uCons, uVar, uC, uNil, uOp, uUn, uChain, uI0, uI, uAndV, uOrV, uNotV, uIf, uTup, uLst, mkL, uCall, bIsi2, bLen, bAll, bInt1, bInt2, bList, bTuple, vw_non, vw_bl, vw_int, vw_str, vw_tup, vw_lst, vw_own, mup_same, mup_mup, typU, uEqS, uNeS, uIsN, uNotN, isNon, uAdd, uIx, uSlX, uNoPart, uPart, inSt, uIter, uRng1, uRng2, List.map_cons, List.map_nil, List.length_cons, List.length_nil, List.cons_append, List.nil_append, List.replicate, List.getElem?_cons_zero, List.getElem?_cons_succ, List.set_cons_zero, List.set_cons_succ, List.append_nil, Nat.reduceAdd, Nat.reduceSub, Nat.sub_self, Nat.add_sub_cancel, Bool.not_false, Bool.not_true, if_true, if_false, Bool.false_eq_true, reduceCtorEq, decide_true, decide_false, isi_NoneType_bool, isi_NoneType_int, isi_NoneType_str, isi_NoneType_tuple, isi_NoneType_list, isi_NoneType_dict, isi_bool_bool, isi_bool_int, isi_bool_str, isi_bool_tuple, isi_bool_list, isi_bool_dict, isi_int_bool, isi_int_int, isi_int_str, isi_int_tuple, isi_int_list, isi_int_dict, isi_str_bool, isi_str_int, isi_str_str, isi_str_tuple, isi_str_list, isi_str_dict, isi_tuple_bool, isi_tuple_int, isi_tuple_str, isi_tuple_tuple, isi_tuple_list, isi_tuple_dict, isi_list_bool, isi_list_int, isi_list_str, isi_list_tuple, isi_list_list, isi_list_dict, isi_dict_bool, isi_dict_int, isi_dict_str, isi_dict_tuple, isi_dict_list, isi_dict_dict, uMul, bInt, mPopAt, uEnumL, szl, Nat.reduceLeDiff, Option.getD_some, uZipL, uListRev, uRev, uSetFrom, bSorted, uRepL]
      refine ite2 (fun _ => ?_) (fun _ => ?_)
      · subst hA2
        simp only [uRet, eqX_int, eqX_str, capt, uLtX, uIn, items, uEnum, uZip, mExtend, mClear, at0, at1, at2, at3, Option.some.injEq, exists_eq_left', true_and, and_true, uBM, uBM0, mAppend, mPop, uCallV, inTab, ixTab, bMax, bSum, cLt, cLe, cGt, cGe, uAddL, startU, uOr, uAnd, uNot, uTru, uTest, uCB, uCons, uVar, uC, uNil, uOp, uUn, uChain, uI0, uI, uAndV, uOrV, uNotV, uIf, uTup, uLst, mkL, uCall, bIsi2, bLen, bAll, bInt1, bInt2, bList, bTuple, vw_non, vw_bl, vw_int, vw_str, vw_tup, vw_lst, vw_own, mup_same, mup_mup, typU, uEqS, uNeS, uIsN, uNotN, isNon, uAdd, uIx, uSlX, uNoPart, uPart, inSt, uIter, uRng1, uRng2, List.map_cons, List.map_nil, List.length_cons, List.length_nil, List.cons_append, List.nil_append, List.replicate, List.getElem?_cons_zero, List.getElem?_cons_succ, List.set_cons_zero, List.set_cons_succ, List.append_nil, Nat.reduceAdd, Nat.reduceSub, Nat.sub_self, Nat.add_sub_cancel, Bool.not_false, Bool.not_true, if_true, if_false, Bool.false_eq_true, reduceCtorEq, decide_true, decide_false, isi_NoneType_bool, isi_NoneType_int, isi_NoneType_str, isi_NoneType_tuple, isi_NoneType_list, isi_NoneType_dict, isi_bool_bool, isi_bool_int, isi_bool_str, isi_bool_tuple, isi_bool_list, isi_bool_dict, isi_int_bool, isi_int_int, isi_int_str, isi_int_tuple, isi_int_list, isi_int_dict, isi_str_bool, isi_str_int, isi_str_str, isi_str_tuple, isi_str_list, isi_str_dict, isi_tuple_bool, isi_tuple_int, isi_tuple_str, isi_tuple_tuple, isi_tuple_list, isi_tuple_dict, isi_list_bool, isi_list_int, isi_list_str, isi_list_tuple, isi_list_list, isi_list_dict, isi_dict_bool, isi_dict_int, isi_dict_str, isi_dict_tuple, isi_dict_list, isi_dict_dict, uMul, bInt, mPopAt, uEnumL, szl, Nat.reduceLeDiff, Option.getD_some, uZipL, uListRev, uRev, uSetFrom, bSorted, uRepL]
        exact rt_same (q .any a3 b3 c3 (x - 1) y trivial (by simp [Pt.dep]) (by omega) (by omega))
      · subst hB2
        simp only [uNext]
        subst hV2
        refine seq_gen fun V3 hV3 => ?_
        simp only [uAsg, hName, eqX_int, eqX_str, capt, uLtX, uIn, items, uEnum, uZip, mExtend, mClear, at0, at1, at2, at3, Option.some.injEq, exists_eq_left', true_and, and_true, uBM, uBM0, mAppend, mPop, uCallV, inTab, ixTab, bMax, bSum, cLt, cLe, cGt, cGe, uAddL, startU, uOr, uAnd, uNot, uTru, uTest, uCB, uCons, uVar, uC, uNil, uOp, uUn, uChain, uI0, uI, uAndV, uOrV, uNotV, uIf, uTup, uLst, mkL, uCall, bIsi2, bLen, bAll, bInt1, bInt2, bList, bTuple, vw_non, vw_bl, vw_int, vw_str, vw_tup, vw_lst, vw_own, mup_same, mup_mup, typU, uEqS, uNeS, uIsN, uNotN, isNon, uAdd, uIx, uSlX, uNoPart, uPart, inSt, uIter, uRng1, uRng2, List.map_cons, List.map_nil, List.length_cons, List.length_nil, List.cons_append, List.nil_append, List.replicate, List.getElem?_cons_zero, List.getElem?_cons_succ, List.set_cons_zero, List.set_cons_succ, List.append_nil, Nat.reduceAdd, Nat.reduceSub, Nat.sub_self, Nat.add_sub_cancel, Bool.not_false, Bool.not_true, if_true, if_false, Bool.false_eq_true, reduceCtorEq, decide_true, decide_false, isi_NoneType_bool, isi_NoneType_int, isi_NoneType_str, isi_NoneType_tuple, isi_NoneType_list, isi_NoneType_dict, isi_bool_bool, isi_bool_int, isi_bool_str, isi_bool_tuple, isi_bool_list, isi_bool_dict, isi_int_bool, isi_int_int, isi_int_str, isi_int_tuple, isi_int_list, isi_int_dict, isi_str_bool, isi_str_int, isi_str_str, isi_str_tuple, isi_str_list, isi_str_dict, isi_tuple_bool, isi_tuple_int, isi_tuple_str, isi_tuple_tuple, isi_tuple_list, isi_tuple_dict, isi_list_bool, isi_list_int, isi_list_str, isi_list_tuple, isi_list_list, isi_list_dict, isi_dict_bool, isi_dict_int, isi_dict_str, isi_dict_tuple, isi_dict_list, isi_dict_dict, uMul, bInt, mPopAt, uEnumL, szl, Nat.reduceLeDiff, Option.getD_some, uZipL, uListRev, uRev, uSetFrom, bSorted, uRepL]
        refine ⟨t, ns, a3, b3, c3, rfl, st2_t htr, by omega, by omega, fun n1 a4 b4 c4 f0 f1 g5 g6 => ?_⟩
        rw [st2_setT htr]
        refine ⟨t, ns, a4, b4, c4, rfl, st2_t htr, by omega, by omega, fun n2 a5 b5 c5 f2 f3 g7 g8 => ?_⟩
        rw [st2_setT htr]
        simp only [eqX_int, eqX_str, capt, uLtX, uIn, items, uEnum, uZip, mExtend, mClear, at0, at1, at2, at3, Option.some.injEq, exists_eq_left', true_and, and_true, uBM, uBM0, mAppend, mPop, uCallV, inTab, ixTab, bMax, bSum, cLt, cLe, cGt, cGe, uAddL, startU, uOr, uAnd, uNot, uTru, uTest, uCB, uCons, uVar, uC, uNil, uOp, uUn, uChain, uI0, uI, uAndV, uOrV, uNotV, uIf, uTup, uLst, mkL, uCall, bIsi2, bLen, bAll, bInt1, bInt2, bList, bTuple, vw_non, vw_bl, vw_int, vw_str, vw_tup, vw_lst, vw_own, mup_same, mup_mup, typU, uEqS, uNeS, uIsN, uNotN, isNon, uAdd, uIx, uSlX, uNoPart, uPart, inSt, uIter, uRng1, uRng2, List.map_cons, List.map_nil, List.length_cons, List.length_nil, List.cons_append, List.nil_append, List.replicate, List.getElem?_cons_zero, List.getElem?_cons_succ, List.set_cons_zero, List.set_cons_succ, List.append_nil, Nat.reduceAdd, Nat.reduceSub, Nat.sub_self, Nat.add_sub_cancel, Bool.not_false, Bool.not_true, if_true, if_false, Bool.false_eq_true, reduceCtorEq, decide_true, decide_false, isi_NoneType_bool, isi_NoneType_int, isi_NoneType_str, isi_NoneType_tuple, isi_NoneType_list, isi_NoneType_dict, isi_bool_bool, isi_bool_int, isi_bool_str, isi_bool_tuple, isi_bool_list, isi_bool_dict, isi_int_bool, isi_int_int, isi_int_str, isi_int_tuple, isi_int_list, isi_int_dict, isi_str_bool, isi_str_int, isi_str_str, isi_str_tuple, isi_str_list, isi_str_dict, isi_tuple_bool, isi_tuple_int, isi_tuple_str, isi_tuple_tuple, isi_tuple_list, isi_tuple_dict, isi_list_bool, isi_list_int, isi_list_str, isi_list_tuple, isi_list_list, isi_list_dict, isi_dict_bool, isi_dict_int, isi_dict_str, isi_dict_tuple, isi_dict_list, isi_dict_dict, uMul, bInt, mPopAt, uEnumL, szl, Nat.reduceLeDiff, Option.getD_some, uZipL, uListRev, uRev, uSetFrom, bSorted, uRepL]
        refine ⟨[n1, n2], rfl, by simp, fun l hp hs => ?_⟩
        obtain ⟨lo, hi, rfl, hlh, hlo⟩ := two_sorted hp hs
        simp only [mkL, List.map_cons, List.map_nil]
        subst hV3
        simp only [uRet, eqX_int, eqX_str, capt, uLtX, uIn, items, uEnum, uZip, mExtend, mClear, at0, at1, at2, at3, Option.some.injEq, exists_eq_left', true_and, and_true, uBM, uBM0, mAppend, mPop, uCallV, inTab, ixTab, bMax, bSum, cLt, cLe, cGt, cGe, uAddL, startU, uOr, uAnd, uNot, uTru, uTest, uCB, uCons, uVar, uC, uNil, uOp, uUn, uChain, uI0, uI, uAndV, uOrV, uNotV, uIf, uTup, uLst, mkL, uCall, bIsi2, bLen, bAll, bInt1, bInt2, bList, bTuple, vw_non, vw_bl, vw_int, vw_str, vw_tup, vw_lst, vw_own, mup_same, mup_mup, typU, uEqS, uNeS, uIsN, uNotN, isNon, uAdd, uIx, uSlX, uNoPart, uPart, inSt, uIter, uRng1, uRng2, List.map_cons, List.map_nil, List.length_cons, List.length_nil, List.cons_append, List.nil_append, List.replicate, List.getElem?_cons_zero, List.getElem?_cons_succ, List.set_cons_zero, List.set_cons_succ, List.append_nil, Nat.reduceAdd, Nat.reduceSub, Nat.sub_self, Nat.add_sub_cancel, Bool.not_false, Bool.not_true, if_true, if_false, Bool.false_eq_true, reduceCtorEq, decide_true, decide_false, isi_NoneType_bool, isi_NoneType_int, isi_NoneType_str, isi_NoneType_tuple, isi_NoneType_list, isi_NoneType_dict, isi_bool_bool, isi_bool_int, isi_bool_str, isi_bool_tuple, isi_bool_list, isi_bool_dict, isi_int_bool, isi_int_int, isi_int_str, isi_int_tuple, isi_int_list, isi_int_dict, isi_str_bool, isi_str_int, isi_str_str, isi_str_tuple, isi_str_list, isi_str_dict, isi_tuple_bool, isi_tuple_int, isi_tuple_str, isi_tuple_tuple, isi_tuple_list, isi_tuple_dict, isi_list_bool, isi_list_int, isi_list_str, isi_list_tuple, isi_list_list, isi_list_dict, isi_dict_bool, isi_dict_int, isi_dict_str, isi_dict_tuple, isi_dict_list, isi_dict_dict, uMul, bInt, mPopAt, uEnumL, szl, Nat.reduceLeDiff, Option.getD_some, uZipL, uListRev, uRev, uSetFrom, bSorted, uRepL]
        exact rt_same (q (.fr lo hi) a5 b5 c5 (x - 1) y ⟨by rcases hlo with rfl | rfl <;> omega, hlh⟩ (by simp [Pt.dep]) (by omega) (by omega))
    simp only [vr, eqX_int, eqX_str, capt, uLtX, uIn, items, uEnum, uZip, mExtend, mClear, at0, at1, at2, at3, Option.some.injEq, exists_eq_left', true_and, and_true, uBM, uBM0, mAppend, mPop, uCallV, inTab, ixTab, bMax, bSum, cLt, cLe, cGt, cGe, uAddL, startU, uOr, uAnd, uNot, uTru, uTest, uCB, uCons, uVar, uC, uNil, uOp, uUn, uChain, uI0, uI, uAndV, uOrV, uNotV, uIf, uTup, uLst, mkL, uCall, bIsi2, bLen, bAll, bInt1, bInt2, bList, bTuple, vw_non, vw_bl, vw_int, vw_str, vw_tup, vw_lst, vw_own, mup_same, mup_mup, typU, uEqS, uNeS, uIsN, uNotN, isNon, uAdd, uIx, uSlX, uNoPart, uPart, inSt, uIter, uRng1, uRng2, List.map_cons, List.map_nil, List.length_cons, List.length_nil, List.cons_append, List.nil_append, List.replicate, List.getElem?_cons_zero, List.getElem?_cons_succ, List.set_cons_zero, List.set_cons_succ, List.append_nil, Nat.reduceAdd, Nat.reduceSub, Nat.sub_self, Nat.add_sub_cancel, Bool.not_false, Bool.not_true, if_true, if_false, Bool.false_eq_true, reduceCtorEq, decide_true, decide_false, isi_NoneType_bool, isi_NoneType_int, isi_NoneType_str, isi_NoneType_tuple, isi_NoneType_list, isi_NoneType_dict, isi_bool_bool, isi_bool_int, isi_bool_str, isi_bool_tuple, isi_bool_list, isi_bool_dict, isi_int_bool, isi_int_int, isi_int_str, isi_int_tuple, isi_int_list, isi_int_dict, isi_str_bool, isi_str_int, isi_str_str, isi_str_tuple, isi_str_list, isi_str_dict, isi_tuple_bool, isi_tuple_int, isi_tuple_str, isi_tuple_tuple, isi_tuple_list, isi_tuple_dict, isi_list_bool, isi_list_int, isi_list_str, isi_list_tuple, isi_list_list, isi_list_dict, isi_dict_bool, isi_dict_int, isi_dict_str, isi_dict_tuple, isi_dict_list, isi_dict_dict, uMul, bInt, mPopAt, uEnumL, szl, Nat.reduceLeDiff, Option.getD_some, uZipL, uListRev, uRev, uSetFrom, bSorted, uRepL]
    refine ite2 (fun _ => ?_) (fun _ => nohole a1 b1 c1 (by omega) (by omega))
    refine ⟨t, ns, a1, b1, c1, 4, rfl, by decide, by decide, st2_t htr, by omega, by omega, fun k a2 b2 c2 k0 k1 g1 g2 => ?_⟩
    rw [st2_setT htr]
    simp only [eqX_int, eqX_str, capt, uLtX, uIn, items, uEnum, uZip, mExtend, mClear, at0, at1, at2, at3, Option.some.injEq, exists_eq_left', true_and, and_true, uBM, uBM0, mAppend, mPop, uCallV, inTab, ixTab, bMax, bSum, cLt, cLe, cGt, cGe, uAddL, startU, uOr, uAnd, uNot, uTru, uTest, uCB, uCons, uVar, uC, uNil, uOp, uUn, uChain, uI0, uI, uAndV, uOrV, uNotV, uIf, uTup, uLst, mkL, uCall, bIsi2, bLen, bAll, bInt1, bInt2, bList, bTuple, vw_non, vw_bl, vw_int, vw_str, vw_tup, vw_lst, vw_own, mup_same, mup_mup, typU, uEqS, uNeS, uIsN, uNotN, isNon, uAdd, uIx, uSlX, uNoPart, uPart, inSt, uIter, uRng1, uRng2, List.map_cons, List.map_nil, List.length_cons, List.length_nil, List.cons_append, List.nil_append, List.replicate, List.getElem?_cons_zero, List.getElem?_cons_succ, List.set_cons_zero, List.set_cons_succ, List.append_nil, Nat.reduceAdd, Nat.reduceSub, Nat.sub_self, Nat.add_sub_cancel, Bool.not_false, Bool.not_true, if_true, if_false, Bool.false_eq_true, reduceCtorEq, decide_true, decide_false, isi_NoneType_bool, isi_NoneType_int, isi_NoneType_str, isi_NoneType_tuple, isi_NoneType_list, isi_NoneType_dict, isi_bool_bool, isi_bool_int, isi_bool_str, isi_bool_tuple, isi_bool_list, isi_bool_dict, isi_int_bool, isi_int_int, isi_int_str, isi_int_tuple, isi_int_list, isi_int_dict, isi_str_bool, isi_str_int, isi_str_str, isi_str_tuple, isi_str_list, isi_str_dict, isi_tuple_bool, isi_tuple_int, isi_tuple_str, isi_tuple_tuple, isi_tuple_list, isi_tuple_dict, isi_list_bool, isi_list_int, isi_list_str, isi_list_tuple, isi_list_list, isi_list_dict, isi_dict_bool, isi_dict_int, isi_dict_str, isi_dict_tuple, isi_dict_list, isi_dict_dict, uMul, bInt, mPopAt, uEnumL, szl, Nat.reduceLeDiff, Option.getD_some, uZipL, uListRev, uRev, uSetFrom, bSorted, uRepL]
    refine ite2 (fun _ => ?_) (fun _ => nohole a2 b2 c2 (by omega) (by omega))
    subst hA1
    refine seq_gen fun V2 hV2 => ?_
    simp only [uSetI, vr, eqX_int, eqX_str, capt, uLtX, uIn, items, uEnum, uZip, mExtend, mClear, at0, at1, at2, at3, Option.some.injEq, exists_eq_left', true_and, and_true, uBM, uBM0, mAppend, mPop, uCallV, inTab, ixTab, bMax, bSum, cLt, cLe, cGt, cGe, uAddL, startU, uOr, uAnd, uNot, uTru, uTest, uCB, uCons, uVar, uC, uNil, uOp, uUn, uChain, uI0, uI, uAndV, uOrV, uNotV, uIf, uTup, uLst, mkL, uCall, bIsi2, bLen, bAll, bInt1, bInt2, bList, bTuple, vw_non, vw_bl, vw_int, vw_str, vw_tup, vw_lst, vw_own, mup_same, mup_mup, typU, uEqS, uNeS, uIsN, uNotN, isNon, uAdd, uIx, uSlX, uNoPart, uPart, inSt, uIter, uRng1, uRng2, List.map_cons, List.map_nil, List.length_cons, List.length_nil, List.cons_append, List.nil_append, List.replicate, List.getElem?_cons_zero, List.getElem?_cons_succ, List.set_cons_zero, List.set_cons_succ, List.append_nil, Nat.reduceAdd, Nat.reduceSub, Nat.sub_self, Nat.add_sub_cancel, Bool.not_false, Bool.not_true, if_true, if_false, Bool.false_eq_true, reduceCtorEq, decide_true, decide_false, isi_NoneType_bool, isi_NoneType_int, isi_NoneType_str, isi_NoneType_tuple, isi_NoneType_list, isi_NoneType_dict, isi_bool_bool, isi_bool_int, isi_bool_str, isi_bool_tuple, isi_bool_list, isi_bool_dict, isi_int_bool, isi_int_int, isi_int_str, isi_int_tuple, isi_int_list, isi_int_dict, isi_str_bool, isi_str_int, isi_str_str, isi_str_tuple, isi_str_list, isi_str_dict, isi_tuple_bool, isi_tuple_int, isi_tuple_str, isi_tuple_tuple, isi_tuple_list, isi_tuple_dict, isi_list_bool, isi_list_int, isi_list_str, isi_list_tuple, isi_list_list, isi_list_dict, isi_dict_bool, isi_dict_int, isi_dict_str, isi_dict_tuple, isi_dict_list, isi_dict_dict, uMul, bInt, mPopAt, uEnumL, szl, Nat.reduceLeDiff, Option.getD_some, uZipL, uListRev, uRev, uSetFrom, bSorted, uRepL]
    simp only [st2_r]
    refine ⟨1, rfl, ?_⟩
    simp only [st2_setR, List.set_cons_succ, List.set_cons_zero]
    subst hV2
    simp only [uRet, sortsU, List.length_map, eqX_int, eqX_str, capt, uLtX, uIn, items, uEnum, uZip, mExtend, mClear, at0, at1, at2, at3, Option.some.injEq, exists_eq_left', true_and, and_true, uBM, uBM0, mAppend, mPop, uCallV, inTab, ixTab, bMax, bSum, cLt, cLe, cGt, cGe, uAddL, startU, uOr, uAnd, uNot, uTru, uTest, uCB, uCons, uVar, uC, uNil, uOp, uUn, uChain, uI0, uI, uAndV, uOrV, uNotV, uIf, uTup, uLst, mkL, uCall, bIsi2, bLen, bAll, bInt1, bInt2, bList, bTuple, vw_non, vw_bl, vw_int, vw_str, vw_tup, vw_lst, vw_own, mup_same, mup_mup, typU, uEqS, uNeS, uIsN, uNotN, isNon, uAdd, uIx, uSlX, uNoPart, uPart, inSt, uIter, uRng1, uRng2, List.map_cons, List.map_nil, List.length_cons, List.length_nil, List.cons_append, List.nil_append, List.replicate, List.getElem?_cons_zero, List.getElem?_cons_succ, List.set_cons_zero, List.set_cons_succ, List.append_nil, Nat.reduceAdd, Nat.reduceSub, Nat.sub_self, Nat.add_sub_cancel, Bool.not_false, Bool.not_true, if_true, if_false, Bool.false_eq_true, reduceCtorEq, decide_true, decide_false, isi_NoneType_bool, isi_NoneType_int, isi_NoneType_str, isi_NoneType_tuple, isi_NoneType_list, isi_NoneType_dict, isi_bool_bool, isi_bool_int, isi_bool_str, isi_bool_tuple, isi_bool_list, isi_bool_dict, isi_int_bool, isi_int_int, isi_int_str, isi_int_tuple, isi_int_list, isi_int_dict, isi_str_bool, isi_str_int, isi_str_str, isi_str_tuple, isi_str_list, isi_str_dict, isi_tuple_bool, isi_tuple_int, isi_tuple_str, isi_tuple_tuple, isi_tuple_list, isi_tuple_dict, isi_list_bool, isi_list_int, isi_list_str, isi_list_tuple, isi_list_list, isi_list_dict, isi_dict_bool, isi_dict_int, isi_dict_str, isi_dict_tuple, isi_dict_list, isi_dict_dict, uMul, bInt, mPopAt, uEnumL, szl, Nat.reduceLeDiff, Option.getD_some, uZipL, uListRev, uRev, uSetFrom, bSorted, uRepL]
    refine ⟨t, ns, a2, b2, c2, (cs.length : Int), rfl, hln, by omega, st2_t htr, by omega, by omega, fun k a3 b3 c3 k0 k1 g3 g4 => ?_⟩
    rw [st2_setT htr]
    obtain ⟨s, hat⟩ := atI_ex cs k k0 k1
    have hat' := cls_at hat
    simp only [hat', eqX_int, eqX_str, capt, uLtX, uIn, items, uEnum, uZip, mExtend, mClear, at0, at1, at2, at3, Option.some.injEq, exists_eq_left', true_and, and_true, uBM, uBM0, mAppend, mPop, uCallV, inTab, ixTab, bMax, bSum, cLt, cLe, cGt, cGe, uAddL, startU, uOr, uAnd, uNot, uTru, uTest, uCB, uCons, uVar, uC, uNil, uOp, uUn, uChain, uI0, uI, uAndV, uOrV, uNotV, uIf, uTup, uLst, mkL, uCall, bIsi2, bLen, bAll, bInt1, bInt2, bList, bTuple, vw_non, vw_bl, vw_int, vw_str, vw_tup, vw_lst, vw_own, mup_same, mup_mup, typU, uEqS, uNeS, uIsN, uNotN, isNon, uAdd, uIx, uSlX, uNoPart, uPart, inSt, uIter, uRng1, uRng2, List.map_cons, List.map_nil, List.length_cons, List.length_nil, List.cons_append, List.nil_append, List.replicate, List.getElem?_cons_zero, List.getElem?_cons_succ, List.set_cons_zero, List.set_cons_succ, List.append_nil, Nat.reduceAdd, Nat.reduceSub, Nat.sub_self, Nat.add_sub_cancel, Bool.not_false, Bool.not_true, if_true, if_false, Bool.false_eq_true, reduceCtorEq, decide_true, decide_false, isi_NoneType_bool, isi_NoneType_int, isi_NoneType_str, isi_NoneType_tuple, isi_NoneType_list, isi_NoneType_dict, isi_bool_bool, isi_bool_int, isi_bool_str, isi_bool_tuple, isi_bool_list, isi_bool_dict, isi_int_bool, isi_int_int, isi_int_str, isi_int_tuple, isi_int_list, isi_int_dict, isi_str_bool, isi_str_int, isi_str_str, isi_str_tuple, isi_str_list, isi_str_dict, isi_tuple_bool, isi_tuple_int, isi_tuple_str, isi_tuple_tuple, isi_tuple_list, isi_tuple_dict, isi_list_bool, isi_list_int, isi_list_str, isi_list_tuple, isi_list_list, isi_list_dict, isi_dict_bool, isi_dict_int, isi_dict_str, isi_dict_tuple, isi_dict_list, isi_dict_dict, uMul, bInt, mPopAt, uEnumL, szl, Nat.reduceLeDiff, Option.getD_some, uZipL, uListRev, uRev, uSetFrom, bSorted, uRepL]
    exact rt_same (q (.hole s) a3 b3 c3 (x - 1) (y - 1) (hcs s (atI_mem hat)) (by simp [Pt.dep]) (by omega) (by omega))
  simp only [vr, eqX_int, eqX_str, capt, uLtX, uIn, items, uEnum, uZip, mExtend, mClear, at0, at1, at2, at3, Option.some.injEq, exists_eq_left', true_and, and_true, uBM, uBM0, mAppend, mPop, uCallV, inTab, ixTab, bMax, bSum, cLt, cLe, cGt, cGe, uAddL, startU, uOr, uAnd, uNot, uTru, uTest, uCB, uCons, uVar, uC, uNil, uOp, uUn, uChain, uI0, uI, uAndV, uOrV, uNotV, uIf, uTup, uLst, mkL, uCall, bIsi2, bLen, bAll, bInt1, bInt2, bList, bTuple, vw_non, vw_bl, vw_int, vw_str, vw_tup, vw_lst, vw_own, mup_same, mup_mup, typU, uEqS, uNeS, uIsN, uNotN, isNon, uAdd, uIx, uSlX, uNoPart, uPart, inSt, uIter, uRng1, uRng2, List.map_cons, List.map_nil, List.length_cons, List.length_nil, List.cons_append, List.nil_append, List.replicate, List.getElem?_cons_zero, List.getElem?_cons_succ, List.set_cons_zero, List.set_cons_succ, List.append_nil, Nat.reduceAdd, Nat.reduceSub, Nat.sub_self, Nat.add_sub_cancel, Bool.not_false, Bool.not_true, if_true, if_false, Bool.false_eq_true, reduceCtorEq, decide_true, decide_false, isi_NoneType_bool, isi_NoneType_int, isi_NoneType_str, isi_NoneType_tuple, isi_NoneType_list, isi_NoneType_dict, isi_bool_bool, isi_bool_int, isi_bool_str, isi_bool_tuple, isi_bool_list, isi_bool_dict, isi_int_bool, isi_int_int, isi_int_str, isi_int_tuple, isi_int_list, isi_int_dict, isi_str_bool, isi_str_int, isi_str_str, isi_str_tuple, isi_str_list, isi_str_dict, isi_tuple_bool, isi_tuple_int, isi_tuple_str, isi_tuple_tuple, isi_tuple_list, isi_tuple_dict, isi_list_bool, isi_list_int, isi_list_str, isi_list_tuple, isi_list_list, isi_list_dict, isi_dict_bool, isi_dict_int, isi_dict_str, isi_dict_tuple, isi_dict_list, isi_dict_dict, uMul, bInt, mPopAt, uEnumL, szl, Nat.reduceLeDiff, Option.getD_some, uZipL, uListRev, uRev, uSetFrom, bSorted, uRepL]
  refine ite2 (fun _ => leaf) (fun hn => ite2 (fun _ => leaf) (fun _ => ite2 (fun _ => leaf) (fun hw => ?_)))
  have hn' : 1 ≤ n := by
    have : ¬ ((n + 1 : Nat) : Int) = 1 := by simpa using hn
    omega
  have hw3 : 3 ≤ way := by
    have : ¬ way < 3 := by simpa using hw
    omega
  have en : ((n + 1 : Nat) : Int) - 1 = (n : Int) := by omega
  subst hB
  simp only [uNext]
  subst hV
  refine seq_gen fun V hV => ?_
  simp only [uAsg, hName, en, eqX_int, eqX_str, capt, uLtX, uIn, items, uEnum, uZip, mExtend, mClear, at0, at1, at2, at3, Option.some.injEq, exists_eq_left', true_and, and_true, uBM, uBM0, mAppend, mPop, uCallV, inTab, ixTab, bMax, bSum, cLt, cLe, cGt, cGe, uAddL, startU, uOr, uAnd, uNot, uTru, uTest, uCB, uCons, uVar, uC, uNil, uOp, uUn, uChain, uI0, uI, uAndV, uOrV, uNotV, uIf, uTup, uLst, mkL, uCall, bIsi2, bLen, bAll, bInt1, bInt2, bList, bTuple, vw_non, vw_bl, vw_int, vw_str, vw_tup, vw_lst, vw_own, mup_same, mup_mup, typU, uEqS, uNeS, uIsN, uNotN, isNon, uAdd, uIx, uSlX, uNoPart, uPart, inSt, uIter, uRng1, uRng2, List.map_cons, List.map_nil, List.length_cons, List.length_nil, List.cons_append, List.nil_append, List.replicate, List.getElem?_cons_zero, List.getElem?_cons_succ, List.set_cons_zero, List.set_cons_succ, List.append_nil, Nat.reduceAdd, Nat.reduceSub, Nat.sub_self, Nat.add_sub_cancel, Bool.not_false, Bool.not_true, if_true, if_false, Bool.false_eq_true, reduceCtorEq, decide_true, decide_false, isi_NoneType_bool, isi_NoneType_int, isi_NoneType_str, isi_NoneType_tuple, isi_NoneType_list, isi_NoneType_dict, isi_bool_bool, isi_bool_int, isi_bool_str, isi_bool_tuple, isi_bool_list, isi_bool_dict, isi_int_bool, isi_int_int, isi_int_str, isi_int_tuple, isi_int_list, isi_int_dict, isi_str_bool, isi_str_int, isi_str_str, isi_str_tuple, isi_str_list, isi_str_dict, isi_tuple_bool, isi_tuple_int, isi_tuple_str, isi_tuple_tuple, isi_tuple_list, isi_tuple_dict, isi_list_bool, isi_list_int, isi_list_str, isi_list_tuple, isi_list_list, isi_list_dict, isi_dict_bool, isi_dict_int, isi_dict_str, isi_dict_tuple, isi_dict_list, isi_dict_dict, uMul, bInt, mPopAt, uEnumL, szl, Nat.reduceLeDiff, Option.getD_some, uZipL, uListRev, uRev, uSetFrom, bSorted, uRepL]
  refine ⟨t, r, ns, a1, b1, c1, x - 1, y, cs, rfl, hn', by omega, htr, st2_t htr, st2_r, hne, hc6, hcs, by omega, by omega, fun p1' a2 b2 c2 x2 y2 po1 pd1 g1 g2 => ?_⟩
  rw [st2_st2 htr]
  have pt1 : (Pt.turn p1').dep ≤ n + 1 := by simp only [Pt.dep]; omega
  subst hV
  refine seq_gen fun V hV => ?_
  refine if_gen fun A B hA hB => ?_
  simp only [eqX_int, eqX_str, capt, uLtX, uIn, items, uEnum, uZip, mExtend, mClear, at0, at1, at2, at3, Option.some.injEq, exists_eq_left', true_and, and_true, uBM, uBM0, mAppend, mPop, uCallV, inTab, ixTab, bMax, bSum, cLt, cLe, cGt, cGe, uAddL, startU, uOr, uAnd, uNot, uTru, uTest, uCB, uCons, uVar, uC, uNil, uOp, uUn, uChain, uI0, uI, uAndV, uOrV, uNotV, uIf, uTup, uLst, mkL, uCall, bIsi2, bLen, bAll, bInt1, bInt2, bList, bTuple, vw_non, vw_bl, vw_int, vw_str, vw_tup, vw_lst, vw_own, mup_same, mup_mup, typU, uEqS, uNeS, uIsN, uNotN, isNon, uAdd, uIx, uSlX, uNoPart, uPart, inSt, uIter, uRng1, uRng2, List.map_cons, List.map_nil, List.length_cons, List.length_nil, List.cons_append, List.nil_append, List.replicate, List.getElem?_cons_zero, List.getElem?_cons_succ, List.set_cons_zero, List.set_cons_succ, List.append_nil, Nat.reduceAdd, Nat.reduceSub, Nat.sub_self, Nat.add_sub_cancel, Bool.not_false, Bool.not_true, if_true, if_false, Bool.false_eq_true, reduceCtorEq, decide_true, decide_false, isi_NoneType_bool, isi_NoneType_int, isi_NoneType_str, isi_NoneType_tuple, isi_NoneType_list, isi_NoneType_dict, isi_bool_bool, isi_bool_int, isi_bool_str, isi_bool_tuple, isi_bool_list, isi_bool_dict, isi_int_bool, isi_int_int, isi_int_str, isi_int_tuple, isi_int_list, isi_int_dict, isi_str_bool, isi_str_int, isi_str_str, isi_str_tuple, isi_str_list, isi_str_dict, isi_tuple_bool, isi_tuple_int, isi_tuple_str, isi_tuple_tuple, isi_tuple_list, isi_tuple_dict, isi_list_bool, isi_list_int, isi_list_str, isi_list_tuple, isi_list_list, isi_list_dict, isi_dict_bool, isi_dict_int, isi_dict_str, isi_dict_tuple, isi_dict_list, isi_dict_dict, uMul, bInt, mPopAt, uEnumL, szl, Nat.reduceLeDiff, Option.getD_some, uZipL, uListRev, uRev, uSetFrom, bSorted, uRepL]
  refine ite2 (fun _ => ?_) (fun h3 => ?_)
  · subst hA
    simp only [uRet, eqX_int, eqX_str, capt, uLtX, uIn, items, uEnum, uZip, mExtend, mClear, at0, at1, at2, at3, Option.some.injEq, exists_eq_left', true_and, and_true, uBM, uBM0, mAppend, mPop, uCallV, inTab, ixTab, bMax, bSum, cLt, cLe, cGt, cGe, uAddL, startU, uOr, uAnd, uNot, uTru, uTest, uCB, uCons, uVar, uC, uNil, uOp, uUn, uChain, uI0, uI, uAndV, uOrV, uNotV, uIf, uTup, uLst, mkL, uCall, bIsi2, bLen, bAll, bInt1, bInt2, bList, bTuple, vw_non, vw_bl, vw_int, vw_str, vw_tup, vw_lst, vw_own, mup_same, mup_mup, typU, uEqS, uNeS, uIsN, uNotN, isNon, uAdd, uIx, uSlX, uNoPart, uPart, inSt, uIter, uRng1, uRng2, List.map_cons, List.map_nil, List.length_cons, List.length_nil, List.cons_append, List.nil_append, List.replicate, List.getElem?_cons_zero, List.getElem?_cons_succ, List.set_cons_zero, List.set_cons_succ, List.append_nil, Nat.reduceAdd, Nat.reduceSub, Nat.sub_self, Nat.add_sub_cancel, Bool.not_false, Bool.not_true, if_true, if_false, Bool.false_eq_true, reduceCtorEq, decide_true, decide_false, isi_NoneType_bool, isi_NoneType_int, isi_NoneType_str, isi_NoneType_tuple, isi_NoneType_list, isi_NoneType_dict, isi_bool_bool, isi_bool_int, isi_bool_str, isi_bool_tuple, isi_bool_list, isi_bool_dict, isi_int_bool, isi_int_int, isi_int_str, isi_int_tuple, isi_int_list, isi_int_dict, isi_str_bool, isi_str_int, isi_str_str, isi_str_tuple, isi_str_list, isi_str_dict, isi_tuple_bool, isi_tuple_int, isi_tuple_str, isi_tuple_tuple, isi_tuple_list, isi_tuple_dict, isi_list_bool, isi_list_int, isi_list_str, isi_list_tuple, isi_list_list, isi_list_dict, isi_dict_bool, isi_dict_int, isi_dict_str, isi_dict_tuple, isi_dict_list, isi_dict_dict, uMul, bInt, mPopAt, uEnumL, szl, Nat.reduceLeDiff, Option.getD_some, uZipL, uListRev, uRev, uSetFrom, bSorted, uRepL]
    exact rt_same (q (.turn p1') a2 b2 c2 x2 y2 po1 pt1 (by omega) (by omega))
  · have hw4 : 4 ≤ way := by
      have : ¬ way = 3 := by simpa using h3
      omega
    have hsg := sgn_at way hw4 w1
    subst hB
    simp only [uNext]
    subst hV
    refine seq_gen fun V hV => ?_
    simp only [uAsg, hName, hsg, eqX_int, eqX_str, capt, uLtX, uIn, items, uEnum, uZip, mExtend, mClear, at0, at1, at2, at3, Option.some.injEq, exists_eq_left', true_and, and_true, uBM, uBM0, mAppend, mPop, uCallV, inTab, ixTab, bMax, bSum, cLt, cLe, cGt, cGe, uAddL, startU, uOr, uAnd, uNot, uTru, uTest, uCB, uCons, uVar, uC, uNil, uOp, uUn, uChain, uI0, uI, uAndV, uOrV, uNotV, uIf, uTup, uLst, mkL, uCall, bIsi2, bLen, bAll, bInt1, bInt2, bList, bTuple, vw_non, vw_bl, vw_int, vw_str, vw_tup, vw_lst, vw_own, mup_same, mup_mup, typU, uEqS, uNeS, uIsN, uNotN, isNon, uAdd, uIx, uSlX, uNoPart, uPart, inSt, uIter, uRng1, uRng2, List.map_cons, List.map_nil, List.length_cons, List.length_nil, List.cons_append, List.nil_append, List.replicate, List.getElem?_cons_zero, List.getElem?_cons_succ, List.set_cons_zero, List.set_cons_succ, List.append_nil, Nat.reduceAdd, Nat.reduceSub, Nat.sub_self, Nat.add_sub_cancel, Bool.not_false, Bool.not_true, if_true, if_false, Bool.false_eq_true, reduceCtorEq, decide_true, decide_false, isi_NoneType_bool, isi_NoneType_int, isi_NoneType_str, isi_NoneType_tuple, isi_NoneType_list, isi_NoneType_dict, isi_bool_bool, isi_bool_int, isi_bool_str, isi_bool_tuple, isi_bool_list, isi_bool_dict, isi_int_bool, isi_int_int, isi_int_str, isi_int_tuple, isi_int_list, isi_int_dict, isi_str_bool, isi_str_int, isi_str_str, isi_str_tuple, isi_str_list, isi_str_dict, isi_tuple_bool, isi_tuple_int, isi_tuple_str, isi_tuple_tuple, isi_tuple_list, isi_tuple_dict, isi_list_bool, isi_list_int, isi_list_str, isi_list_tuple, isi_list_list, isi_list_dict, isi_dict_bool, isi_dict_int, isi_dict_str, isi_dict_tuple, isi_dict_list, isi_dict_dict, uMul, bInt, mPopAt, uEnumL, szl, Nat.reduceLeDiff, Option.getD_some, uZipL, uListRev, uRev, uSetFrom, bSorted, uRepL]
    subst hV
    simp only [uRet, en, eqX_int, eqX_str, capt, uLtX, uIn, items, uEnum, uZip, mExtend, mClear, at0, at1, at2, at3, Option.some.injEq, exists_eq_left', true_and, and_true, uBM, uBM0, mAppend, mPop, uCallV, inTab, ixTab, bMax, bSum, cLt, cLe, cGt, cGe, uAddL, startU, uOr, uAnd, uNot, uTru, uTest, uCB, uCons, uVar, uC, uNil, uOp, uUn, uChain, uI0, uI, uAndV, uOrV, uNotV, uIf, uTup, uLst, mkL, uCall, bIsi2, bLen, bAll, bInt1, bInt2, bList, bTuple, vw_non, vw_bl, vw_int, vw_str, vw_tup, vw_lst, vw_own, mup_same, mup_mup, typU, uEqS, uNeS, uIsN, uNotN, isNon, uAdd, uIx, uSlX, uNoPart, uPart, inSt, uIter, uRng1, uRng2, List.map_cons, List.map_nil, List.length_cons, List.length_nil, List.cons_append, List.nil_append, List.replicate, List.getElem?_cons_zero, List.getElem?_cons_succ, List.set_cons_zero, List.set_cons_succ, List.append_nil, Nat.reduceAdd, Nat.reduceSub, Nat.sub_self, Nat.add_sub_cancel, Bool.not_false, Bool.not_true, if_true, if_false, Bool.false_eq_true, reduceCtorEq, decide_true, decide_false, isi_NoneType_bool, isi_NoneType_int, isi_NoneType_str, isi_NoneType_tuple, isi_NoneType_list, isi_NoneType_dict, isi_bool_bool, isi_bool_int, isi_bool_str, isi_bool_tuple, isi_bool_list, isi_bool_dict, isi_int_bool, isi_int_int, isi_int_str, isi_int_tuple, isi_int_list, isi_int_dict, isi_str_bool, isi_str_int, isi_str_str, isi_str_tuple, isi_str_list, isi_str_dict, isi_tuple_bool, isi_tuple_int, isi_tuple_str, isi_tuple_tuple, isi_tuple_list, isi_tuple_dict, isi_list_bool, isi_list_int, isi_list_str, isi_list_tuple, isi_list_list, isi_list_dict, isi_dict_bool, isi_dict_int, isi_dict_str, isi_dict_tuple, isi_dict_list, isi_dict_dict, uMul, bInt, mPopAt, uEnumL, szl, Nat.reduceLeDiff, Option.getD_some, uZipL, uListRev, uRev, uSetFrom, bSorted, uRepL]
    refine ⟨t, r, ns, a2, b2, c2, x2, y2, cs, rfl, hn', by omega, htr, st2_t htr, st2_r, hne, hc6, hcs, by omega, by omega, fun p2' a3 b3 c3 x3 y3 po2 pd2 g3 g4 => ?_⟩
    rw [st2_st2 htr]
    try simp only [eqX_int, eqX_str, capt, uLtX, uIn, items, uEnum, uZip, mExtend, mClear, at0, at1, at2, at3, Option.some.injEq, exists_eq_left', true_and, and_true, uBM, uBM0, mAppend, mPop, uCallV, inTab, ixTab, bMax, bSum, cLt, cLe, cGt, cGe, uAddL, startU, uOr, uAnd, uNot, uTru, uTest, uCB, uCons, uVar, uC, uNil, uOp, uUn, uChain, uI0, uI, uAndV, uOrV, uNotV, uIf, uTup, uLst, mkL, uCall, bIsi2, bLen, bAll, bInt1, bInt2, bList, bTuple, vw_non, vw_bl, vw_int, vw_str, vw_tup, vw_lst, vw_own, mup_same, mup_mup, typU, uEqS, uNeS, uIsN, uNotN, isNon, uAdd, uIx, uSlX, uNoPart, uPart, inSt, uIter, uRng1, uRng2, List.map_cons, List.map_nil, List.length_cons, List.length_nil, List.cons_append, List.nil_append, List.replicate, List.getElem?_cons_zero, List.getElem?_cons_succ, List.set_cons_zero, List.set_cons_succ, List.append_nil, Nat.reduceAdd, Nat.reduceSub, Nat.sub_self, Nat.add_sub_cancel, Bool.not_false, Bool.not_true, if_true, if_false, Bool.false_eq_true, reduceCtorEq, decide_true, decide_false, isi_NoneType_bool, isi_NoneType_int, isi_NoneType_str, isi_NoneType_tuple, isi_NoneType_list, isi_NoneType_dict, isi_bool_bool, isi_bool_int, isi_bool_str, isi_bool_tuple, isi_bool_list, isi_bool_dict, isi_int_bool, isi_int_int, isi_int_str, isi_int_tuple, isi_int_list, isi_int_dict, isi_str_bool, isi_str_int, isi_str_str, isi_str_tuple, isi_str_list, isi_str_dict, isi_tuple_bool, isi_tuple_int, isi_tuple_str, isi_tuple_tuple, isi_tuple_list, isi_tuple_dict, isi_list_bool, isi_list_int, isi_list_str, isi_list_tuple, isi_list_list, isi_list_dict, isi_dict_bool, isi_dict_int, isi_dict_str, isi_dict_tuple, isi_dict_list, isi_dict_dict, uMul, bInt, mPopAt, uEnumL, szl, Nat.reduceLeDiff, Option.getD_some, uZipL, uListRev, uRev, uSetFrom, bSorted, uRepL]
    exact rt_same (q (.two (sgn way) p1' p2') a3 b3 c3 x3 y3 ⟨po1, po2⟩ (by simp only [Pt.dep]; omega) (by omega) (by omega))
theorem pat_all (F : Fun K "_law_pattern" "_law_pattern" s_law_pattern f fd) (hm : mg "_law_pattern" = some (.ref f)) (m_len : mg "len" = none) (m_sorted : mg "sorted" = none) (C_law_draw : Callee P w K mg base 1 "_law_draw" spDraw []) (C_law_number : Callee P w K mg base 2 "_law_number" spNumber []) : ∀ n, Callee P w K mg base (n + 2) "_law_pattern" (spPat n) []
  | 0 => by
    have no : ∀ us M Q, ¬ spPat 0 us M Q := fun us M Q h => by
      obtain ⟨_, _, _, _, _, _, _, _, _, _, h, _⟩ := h
      omega
    refine ⟨f, fd, ["tape", "classes", "left", "room"], [], [], ⟨fun vs H Q E h => ?_, fun A outer s H args us vs Q E _ _ _ _ h => ?_⟩, hm, F.kp, F.binds (fun _ _ _ _ _ _ us hl => match us, hl with | [_, _, _, _], _ => rfl), .nil, fun H M => .nil⟩
    · obtain ⟨us, M, Q', _, _, h, _⟩ := h; exact absurd h (no us M Q')
    · obtain ⟨us, M, Q', _, _, h, _⟩ := h; exact absurd h (no us M Q')
  | n + 1 => ok_pat F hm m_len m_sorted C_law_draw C_law_number (pat_all F hm m_len m_sorted C_law_draw C_law_number n)

end
end K54

set_option linter.all false
set_option maxRecDepth 100000
namespace K54
open PySem L2 U2
section
variable {P : Program} {w : World} {K : PySem.W.Frag} {mg : Str → Option Value} {base : Heap} {f d d2 fl : Addr} {fd : FuncData}

theorem eqX_hole {pt : Pt} {s : Str} {M : MHp} {Q : UK} (h : pt.ok) (hd : pt.dep ≤ 60) (hs : PyData.strOk s = true) (q : ∀ b, Q (.bl b) M) : uEqX false pt.toU (.tup [.str (Str.ofString "at"), .str s]) M Q := by
  obtain ⟨z, r, e, _⟩ := head_sign pt
  have e1 : toD pt.toU = some (datP pt) := toD_P pt
  have h1 : topD M pt.toU = some (datP pt) := by rw [← e1, e]; rfl
  have h2 : topD M (.tup [.str (Str.ofString "at"), .str s]) = some (datP (.hole s)) := by rw [← toD_P (.hole s)]; rfl
  have h3 : (datP (.hole s)).depth ≤ 2 := by simp [datP, PyData.depth, PyData.depthAll]
  have h4 : uEqD false pt.toU (.tup [.str (Str.ofString "at"), .str s]) M Q := ⟨_, _, h1, h2, layP pt h, layP (.hole s) hs, by omega, q _⟩
  rw [e] at h4 ⊢
  exact h4
structure Tk where
  cls : Str
  pt : Pt
  cost : Int
def Tk.toU (k : Tk) : U := .tup [.str k.cls, k.pt.toU, .int k.cost]
def Tk.good (k : Tk) : Prop := k.pt.ok ∧ k.pt.dep ≤ 4
structure Cls (cs : List Str) : Prop where
  ne : cs ≠ []
  len : cs.length ≤ 6
  ok : ∀ s ∈ cs, PyData.strOk s = true
theorem cost4_at (x y w : Int) (h0 : 0 ≤ w) (h1 : w < 4) : ∃ n, atI [U.int x, U.int y, U.int 0, U.int 1000] w = some (.int n) := by
  have e : w = 0 ∨ w = 1 ∨ w = 2 ∨ w = 3 := by omega
  rcases e with rfl | rfl | rfl | rfl <;> exact ⟨_, rfl⟩
def spTile : USp := fun us M Q => ∃ (t : Addr) (ns : List Int) (a b c : Int) (cs : List Str), us = [.ref t, sortsU cs] ∧ M t = some (.lst (tapeU ns a b c)) ∧ Cls cs ∧ 0 ≤ a ∧ a ≤ 400000 ∧ ∀ (k : Tk) (a' b' c' : Int), k.good → a ≤ a' → a' ≤ a + 200 → Q k.toU (mup M t (.lst (tapeU ns a' b' c')))
set_option maxHeartbeats 1000000 in
theorem ok_tile (F : Fun K "_law_tile" "_law_tile" s_law_tile f fd) (hm : mg "_law_tile" = some (.ref f)) (m_len : mg "len" = none) (C_law_draw : Callee P w K mg base 1 "_law_draw" spDraw []) (C_law_pattern : Callee P w K mg base 6 "_law_pattern" (spPat 4) []) : Callee P w K mg base 7 "_law_tile" spTile [] := by
  refine callee_of F hm sc_law_tile (fun _ _ _ _ _ _ us hl => match us, hl with | [_, _], _ => rfl) (fun us M Q h => by obtain ⟨_, _, _, _, _, _, rfl, _⟩ := h; rfl) (uss_cons (us_set 2 sc_law_tile.nd (ue_ix (uv 1) (ue_call C_law_draw (ua_cons (uv 0) (ua_cons (ue_b b_len m_len (ua_cons (uv 1) ua_nil)) ua_nil)))))
  (uss_cons (us_set 3 sc_law_tile.nd (ue_call C_law_pattern (ua_cons (uv 0) (ua_cons (uv 1) (ua_cons un_ (ua_cons (ue_lst (own := true) (ua_cons un_ (ua_cons un_ ua_nil))) ua_nil))))))
  (uss_cons (us_if (ut_c k_eqX (uv 3) (ue_tup (ua_cons us_ (ua_cons (uv 2) ua_nil))))
  (uss_one (us_set 3 sc_law_tile.nd (ue_tup (ua_cons us_ ua_nil))))
  uss_nil)
  (uss_cons (us_set 4 sc_law_tile.nd (ue_ix (ue_lst (own := false) (ua_cons (ue_call C_law_draw (ua_cons (uv 0) (ua_cons un_ ua_nil))) (ua_cons (ue_call C_law_draw (ua_cons (uv 0) (ua_cons un_ ua_nil))) (ua_cons un_ (ua_cons un_ ua_nil))))) (ue_call C_law_draw (ua_cons (uv 0) (ua_cons un_ ua_nil)))))
  (uss_one (us_ret (ue_tup (ua_cons (uv 2) (ua_cons (uv 3) (ua_cons (uv 4) ua_nil)))))))))) ?_
  rintro us M Q ⟨t, ns, a, b, c, cs, rfl, hM, hC, ha0, ha1, q⟩
  have hln : 0 < (cs.length : Int) := by have := List.length_pos_iff.mpr hC.ne; omega
  have hc6 := hC.len
  refine seq_gen fun V hV => ?_
  simp only [uAsg, hName, startU, sortsU, List.length_map, eqX_int, eqX_str, capt, uLtX, uIn, items, uEnum, uZip, mExtend, mClear, at0, at1, at2, at3, Option.some.injEq, exists_eq_left', true_and, and_true, uBM, uBM0, mAppend, mPop, uCallV, inTab, ixTab, bMax, bSum, cLt, cLe, cGt, cGe, uAddL, startU, uOr, uAnd, uNot, uTru, uTest, uCB, uCons, uVar, uC, uNil, uOp, uUn, uChain, uI0, uI, uAndV, uOrV, uNotV, uIf, uTup, uLst, mkL, uCall, bIsi2, bLen, bAll, bInt1, bInt2, bList, bTuple, vw_non, vw_bl, vw_int, vw_str, vw_tup, vw_lst, vw_own, mup_same, mup_mup, typU, uEqS, uNeS, uIsN, uNotN, isNon, uAdd, uIx, uSlX, uNoPart, uPart, inSt, uIter, uRng1, uRng2, List.map_cons, List.map_nil, List.length_cons, List.length_nil, List.cons_append, List.nil_append, List.replicate, List.getElem?_cons_zero, List.getElem?_cons_succ, List.set_cons_zero, List.set_cons_succ, List.append_nil, Nat.reduceAdd, Nat.reduceSub, Nat.sub_self, Nat.add_sub_cancel, Bool.not_false, Bool.not_true, if_true, if_false, Bool.false_eq_true, reduceCtorEq, decide_true, decide_false, isi_NoneType_bool, isi_NoneType_int, isi_NoneType_str, isi_NoneType_tuple, isi_NoneType_list, isi_NoneType_dict, isi_bool_bool, isi_bool_int, isi_bool_str, isi_bool_tuple, isi_bool_list, isi_bool_dict, isi_int_bool, isi_int_int, isi_int_str, isi_int_tuple, isi_int_list, isi_int_dict, isi_str_bool, isi_str_int, isi_str_str, isi_str_tuple, isi_str_list, isi_str_dict, isi_tuple_bool, isi_tuple_int, isi_tuple_str, isi_tuple_tuple, isi_tuple_list, isi_tuple_dict, isi_list_bool, isi_list_int, isi_list_str, isi_list_tuple, isi_list_list, isi_list_dict, isi_dict_bool, isi_dict_int, isi_dict_str, isi_dict_tuple, isi_dict_list, isi_dict_dict, uMul, bInt, mPopAt, uEnumL, szl, Nat.reduceLeDiff, Option.getD_some, uZipL, uListRev, uRev, uSetFrom, bSorted, uRepL]
  refine ⟨t, ns, a, b, c, (cs.length : Int), rfl, hln, by omega, hM, ha0, by omega, fun k a1 b1 c1 k0 k1 g1 g2 => ?_⟩
  obtain ⟨s, hat⟩ := atI_ex cs k k0 k1
  have hat' := cls_at hat
  have hs := hC.ok s (atI_mem hat)
  simp only [hat', eqX_int, eqX_str, capt, uLtX, uIn, items, uEnum, uZip, mExtend, mClear, at0, at1, at2, at3, Option.some.injEq, exists_eq_left', true_and, and_true, uBM, uBM0, mAppend, mPop, uCallV, inTab, ixTab, bMax, bSum, cLt, cLe, cGt, cGe, uAddL, startU, uOr, uAnd, uNot, uTru, uTest, uCB, uCons, uVar, uC, uNil, uOp, uUn, uChain, uI0, uI, uAndV, uOrV, uNotV, uIf, uTup, uLst, mkL, uCall, bIsi2, bLen, bAll, bInt1, bInt2, bList, bTuple, vw_non, vw_bl, vw_int, vw_str, vw_tup, vw_lst, vw_own, mup_same, mup_mup, typU, uEqS, uNeS, uIsN, uNotN, isNon, uAdd, uIx, uSlX, uNoPart, uPart, inSt, uIter, uRng1, uRng2, List.map_cons, List.map_nil, List.length_cons, List.length_nil, List.cons_append, List.nil_append, List.replicate, List.getElem?_cons_zero, List.getElem?_cons_succ, List.set_cons_zero, List.set_cons_succ, List.append_nil, Nat.reduceAdd, Nat.reduceSub, Nat.sub_self, Nat.add_sub_cancel, Bool.not_false, Bool.not_true, if_true, if_false, Bool.false_eq_true, reduceCtorEq, decide_true, decide_false, isi_NoneType_bool, isi_NoneType_int, isi_NoneType_str, isi_NoneType_tuple, isi_NoneType_list, isi_NoneType_dict, isi_bool_bool, isi_bool_int, isi_bool_str, isi_bool_tuple, isi_bool_list, isi_bool_dict, isi_int_bool, isi_int_int, isi_int_str, isi_int_tuple, isi_int_list, isi_int_dict, isi_str_bool, isi_str_int, isi_str_str, isi_str_tuple, isi_str_list, isi_str_dict, isi_tuple_bool, isi_tuple_int, isi_tuple_str, isi_tuple_tuple, isi_tuple_list, isi_tuple_dict, isi_list_bool, isi_list_int, isi_list_str, isi_list_tuple, isi_list_list, isi_list_dict, isi_dict_bool, isi_dict_int, isi_dict_str, isi_dict_tuple, isi_dict_list, isi_dict_dict, uMul, bInt, mPopAt, uEnumL, szl, Nat.reduceLeDiff, Option.getD_some, uZipL, uListRev, uRev, uSetFrom, bSorted, uRepL]
  subst hV
  refine seq_gen fun V hV => ?_
  simp only [uAsg, hName, eqX_int, eqX_str, capt, uLtX, uIn, items, uEnum, uZip, mExtend, mClear, at0, at1, at2, at3, Option.some.injEq, exists_eq_left', true_and, and_true, uBM, uBM0, mAppend, mPop, uCallV, inTab, ixTab, bMax, bSum, cLt, cLe, cGt, cGe, uAddL, startU, uOr, uAnd, uNot, uTru, uTest, uCB, uCons, uVar, uC, uNil, uOp, uUn, uChain, uI0, uI, uAndV, uOrV, uNotV, uIf, uTup, uLst, mkL, uCall, bIsi2, bLen, bAll, bInt1, bInt2, bList, bTuple, vw_non, vw_bl, vw_int, vw_str, vw_tup, vw_lst, vw_own, mup_same, mup_mup, typU, uEqS, uNeS, uIsN, uNotN, isNon, uAdd, uIx, uSlX, uNoPart, uPart, inSt, uIter, uRng1, uRng2, List.map_cons, List.map_nil, List.length_cons, List.length_nil, List.cons_append, List.nil_append, List.replicate, List.getElem?_cons_zero, List.getElem?_cons_succ, List.set_cons_zero, List.set_cons_succ, List.append_nil, Nat.reduceAdd, Nat.reduceSub, Nat.sub_self, Nat.add_sub_cancel, Bool.not_false, Bool.not_true, if_true, if_false, Bool.false_eq_true, reduceCtorEq, decide_true, decide_false, isi_NoneType_bool, isi_NoneType_int, isi_NoneType_str, isi_NoneType_tuple, isi_NoneType_list, isi_NoneType_dict, isi_bool_bool, isi_bool_int, isi_bool_str, isi_bool_tuple, isi_bool_list, isi_bool_dict, isi_int_bool, isi_int_int, isi_int_str, isi_int_tuple, isi_int_list, isi_int_dict, isi_str_bool, isi_str_int, isi_str_str, isi_str_tuple, isi_str_list, isi_str_dict, isi_tuple_bool, isi_tuple_int, isi_tuple_str, isi_tuple_tuple, isi_tuple_list, isi_tuple_dict, isi_list_bool, isi_list_int, isi_list_str, isi_list_tuple, isi_list_list, isi_list_dict, isi_dict_bool, isi_dict_int, isi_dict_str, isi_dict_tuple, isi_dict_list, isi_dict_dict, uMul, bInt, mPopAt, uEnumL, szl, Nat.reduceLeDiff, Option.getD_some, uZipL, uListRev, uRev, uSetFrom, bSorted, uRepL]
  intro r hr
  have htr : t ≠ r := fun z => by subst z; rw [mup_same] at hr; cases hr
  have hMr : M r = none := by rw [mup_ne (fun z => htr z.symm)] at hr; exact hr
  refine ⟨t, r, ns, a1, b1, c1, 9, 4, cs, rfl, by decide, by decide, htr, by rw [mup_ne htr, mup_same], mup_same, hC.ne, hc6, hC.ok, by omega, by omega, fun p a2 b2 c2 x2 y2 po pd g3 g4 => ?_⟩
  have hst : st2 (mup (mup M t (.lst (tapeU ns a1 b1 c1))) r (.lst [.int 9, .int 4])) t r (tapeU ns a2 b2 c2) (roomU x2 y2) = st2 M t r (tapeU ns a2 b2 c2) (roomU x2 y2) := st2_st2 htr
  rw [hst]
  subst hV
  refine seq_gen fun V hV => ?_
  have go : ∀ pt : Pt, pt.ok → pt.dep ≤ 4 → V [some (.ref t), some (sortsU cs), some (.str s), some pt.toU, none] (st2 M t r (tapeU ns a2 b2 c2) (roomU x2 y2)) := by
    intro pt po pd
    subst hV
    refine seq_gen fun V1 hV1 => ?_
    simp only [uAsg, hName, eqX_int, eqX_str, capt, uLtX, uIn, items, uEnum, uZip, mExtend, mClear, at0, at1, at2, at3, Option.some.injEq, exists_eq_left', true_and, and_true, uBM, uBM0, mAppend, mPop, uCallV, inTab, ixTab, bMax, bSum, cLt, cLe, cGt, cGe, uAddL, startU, uOr, uAnd, uNot, uTru, uTest, uCB, uCons, uVar, uC, uNil, uOp, uUn, uChain, uI0, uI, uAndV, uOrV, uNotV, uIf, uTup, uLst, mkL, uCall, bIsi2, bLen, bAll, bInt1, bInt2, bList, bTuple, vw_non, vw_bl, vw_int, vw_str, vw_tup, vw_lst, vw_own, mup_same, mup_mup, typU, uEqS, uNeS, uIsN, uNotN, isNon, uAdd, uIx, uSlX, uNoPart, uPart, inSt, uIter, uRng1, uRng2, List.map_cons, List.map_nil, List.length_cons, List.length_nil, List.cons_append, List.nil_append, List.replicate, List.getElem?_cons_zero, List.getElem?_cons_succ, List.set_cons_zero, List.set_cons_succ, List.append_nil, Nat.reduceAdd, Nat.reduceSub, Nat.sub_self, Nat.add_sub_cancel, Bool.not_false, Bool.not_true, if_true, if_false, Bool.false_eq_true, reduceCtorEq, decide_true, decide_false, isi_NoneType_bool, isi_NoneType_int, isi_NoneType_str, isi_NoneType_tuple, isi_NoneType_list, isi_NoneType_dict, isi_bool_bool, isi_bool_int, isi_bool_str, isi_bool_tuple, isi_bool_list, isi_bool_dict, isi_int_bool, isi_int_int, isi_int_str, isi_int_tuple, isi_int_list, isi_int_dict, isi_str_bool, isi_str_int, isi_str_str, isi_str_tuple, isi_str_list, isi_str_dict, isi_tuple_bool, isi_tuple_int, isi_tuple_str, isi_tuple_tuple, isi_tuple_list, isi_tuple_dict, isi_list_bool, isi_list_int, isi_list_str, isi_list_tuple, isi_list_list, isi_list_dict, isi_dict_bool, isi_dict_int, isi_dict_str, isi_dict_tuple, isi_dict_list, isi_dict_dict, uMul, bInt, mPopAt, uEnumL, szl, Nat.reduceLeDiff, Option.getD_some, uZipL, uListRev, uRev, uSetFrom, bSorted, uRepL]
    refine ⟨t, ns, a2, b2, c2, 8, rfl, by decide, by decide, st2_t htr, by omega, by omega, fun d1 a3 b3 c3 k0 k1 g5 g6 => ?_⟩
    rw [st2_setT htr]
    refine ⟨t, ns, a3, b3, c3, 8, rfl, by decide, by decide, st2_t htr, by omega, by omega, fun d2 a4 b4 c4 k0 k1 g7 g8 => ?_⟩
    rw [st2_setT htr]
    simp only [eqX_int, eqX_str, capt, uLtX, uIn, items, uEnum, uZip, mExtend, mClear, at0, at1, at2, at3, Option.some.injEq, exists_eq_left', true_and, and_true, uBM, uBM0, mAppend, mPop, uCallV, inTab, ixTab, bMax, bSum, cLt, cLe, cGt, cGe, uAddL, startU, uOr, uAnd, uNot, uTru, uTest, uCB, uCons, uVar, uC, uNil, uOp, uUn, uChain, uI0, uI, uAndV, uOrV, uNotV, uIf, uTup, uLst, mkL, uCall, bIsi2, bLen, bAll, bInt1, bInt2, bList, bTuple, vw_non, vw_bl, vw_int, vw_str, vw_tup, vw_lst, vw_own, mup_same, mup_mup, typU, uEqS, uNeS, uIsN, uNotN, isNon, uAdd, uIx, uSlX, uNoPart, uPart, inSt, uIter, uRng1, uRng2, List.map_cons, List.map_nil, List.length_cons, List.length_nil, List.cons_append, List.nil_append, List.replicate, List.getElem?_cons_zero, List.getElem?_cons_succ, List.set_cons_zero, List.set_cons_succ, List.append_nil, Nat.reduceAdd, Nat.reduceSub, Nat.sub_self, Nat.add_sub_cancel, Bool.not_false, Bool.not_true, if_true, if_false, Bool.false_eq_true, reduceCtorEq, decide_true, decide_false, isi_NoneType_bool, isi_NoneType_int, isi_NoneType_str, isi_NoneType_tuple, isi_NoneType_list, isi_NoneType_dict, isi_bool_bool, isi_bool_int, isi_bool_str, isi_bool_tuple, isi_bool_list, isi_bool_dict, isi_int_bool, isi_int_int, isi_int_str, isi_int_tuple, isi_int_list, isi_int_dict, isi_str_bool, isi_str_int, isi_str_str, isi_str_tuple, isi_str_list, isi_str_dict, isi_tuple_bool, isi_tuple_int, isi_tuple_str, isi_tuple_tuple, isi_tuple_list, isi_tuple_dict, isi_list_bool, isi_list_int, isi_list_str, isi_list_tuple, isi_list_list, isi_list_dict, isi_dict_bool, isi_dict_int, isi_dict_str, isi_dict_tuple, isi_dict_list, isi_dict_dict, uMul, bInt, mPopAt, uEnumL, szl, Nat.reduceLeDiff, Option.getD_some, uZipL, uListRev, uRev, uSetFrom, bSorted, uRepL]
    refine ⟨t, ns, a4, b4, c4, 4, rfl, by decide, by decide, st2_t htr, by omega, by omega, fun d3 a5 b5 c5 k0 k1 g9 g10 => ?_⟩
    rw [st2_setT htr]
    obtain ⟨co, hco⟩ := cost4_at d1 d2 d3 k0 k1
    simp only [hco, eqX_int, eqX_str, capt, uLtX, uIn, items, uEnum, uZip, mExtend, mClear, at0, at1, at2, at3, Option.some.injEq, exists_eq_left', true_and, and_true, uBM, uBM0, mAppend, mPop, uCallV, inTab, ixTab, bMax, bSum, cLt, cLe, cGt, cGe, uAddL, startU, uOr, uAnd, uNot, uTru, uTest, uCB, uCons, uVar, uC, uNil, uOp, uUn, uChain, uI0, uI, uAndV, uOrV, uNotV, uIf, uTup, uLst, mkL, uCall, bIsi2, bLen, bAll, bInt1, bInt2, bList, bTuple, vw_non, vw_bl, vw_int, vw_str, vw_tup, vw_lst, vw_own, mup_same, mup_mup, typU, uEqS, uNeS, uIsN, uNotN, isNon, uAdd, uIx, uSlX, uNoPart, uPart, inSt, uIter, uRng1, uRng2, List.map_cons, List.map_nil, List.length_cons, List.length_nil, List.cons_append, List.nil_append, List.replicate, List.getElem?_cons_zero, List.getElem?_cons_succ, List.set_cons_zero, List.set_cons_succ, List.append_nil, Nat.reduceAdd, Nat.reduceSub, Nat.sub_self, Nat.add_sub_cancel, Bool.not_false, Bool.not_true, if_true, if_false, Bool.false_eq_true, reduceCtorEq, decide_true, decide_false, isi_NoneType_bool, isi_NoneType_int, isi_NoneType_str, isi_NoneType_tuple, isi_NoneType_list, isi_NoneType_dict, isi_bool_bool, isi_bool_int, isi_bool_str, isi_bool_tuple, isi_bool_list, isi_bool_dict, isi_int_bool, isi_int_int, isi_int_str, isi_int_tuple, isi_int_list, isi_int_dict, isi_str_bool, isi_str_int, isi_str_str, isi_str_tuple, isi_str_list, isi_str_dict, isi_tuple_bool, isi_tuple_int, isi_tuple_str, isi_tuple_tuple, isi_tuple_list, isi_tuple_dict, isi_list_bool, isi_list_int, isi_list_str, isi_list_tuple, isi_list_list, isi_list_dict, isi_dict_bool, isi_dict_int, isi_dict_str, isi_dict_tuple, isi_dict_list, isi_dict_dict, uMul, bInt, mPopAt, uEnumL, szl, Nat.reduceLeDiff, Option.getD_some, uZipL, uListRev, uRev, uSetFrom, bSorted, uRepL]
    subst hV1
    simp only [uRet, eqX_int, eqX_str, capt, uLtX, uIn, items, uEnum, uZip, mExtend, mClear, at0, at1, at2, at3, Option.some.injEq, exists_eq_left', true_and, and_true, uBM, uBM0, mAppend, mPop, uCallV, inTab, ixTab, bMax, bSum, cLt, cLe, cGt, cGe, uAddL, startU, uOr, uAnd, uNot, uTru, uTest, uCB, uCons, uVar, uC, uNil, uOp, uUn, uChain, uI0, uI, uAndV, uOrV, uNotV, uIf, uTup, uLst, mkL, uCall, bIsi2, bLen, bAll, bInt1, bInt2, bList, bTuple, vw_non, vw_bl, vw_int, vw_str, vw_tup, vw_lst, vw_own, mup_same, mup_mup, typU, uEqS, uNeS, uIsN, uNotN, isNon, uAdd, uIx, uSlX, uNoPart, uPart, inSt, uIter, uRng1, uRng2, List.map_cons, List.map_nil, List.length_cons, List.length_nil, List.cons_append, List.nil_append, List.replicate, List.getElem?_cons_zero, List.getElem?_cons_succ, List.set_cons_zero, List.set_cons_succ, List.append_nil, Nat.reduceAdd, Nat.reduceSub, Nat.sub_self, Nat.add_sub_cancel, Bool.not_false, Bool.not_true, if_true, if_false, Bool.false_eq_true, reduceCtorEq, decide_true, decide_false, isi_NoneType_bool, isi_NoneType_int, isi_NoneType_str, isi_NoneType_tuple, isi_NoneType_list, isi_NoneType_dict, isi_bool_bool, isi_bool_int, isi_bool_str, isi_bool_tuple, isi_bool_list, isi_bool_dict, isi_int_bool, isi_int_int, isi_int_str, isi_int_tuple, isi_int_list, isi_int_dict, isi_str_bool, isi_str_int, isi_str_str, isi_str_tuple, isi_str_list, isi_str_dict, isi_tuple_bool, isi_tuple_int, isi_tuple_str, isi_tuple_tuple, isi_tuple_list, isi_tuple_dict, isi_list_bool, isi_list_int, isi_list_str, isi_list_tuple, isi_list_list, isi_list_dict, isi_dict_bool, isi_dict_int, isi_dict_str, isi_dict_tuple, isi_dict_list, isi_dict_dict, uMul, bInt, mPopAt, uEnumL, szl, Nat.reduceLeDiff, Option.getD_some, uZipL, uListRev, uRev, uSetFrom, bSorted, uRepL]
    refine ⟨_, mup M t (.lst (tapeU ns a5 b5 c5)), fun z o hz => ?_, .inl rfl, q ⟨s, pt, co⟩ a5 b5 c5 ⟨po, pd⟩ (by omega) (by omega)⟩
    have hzr : z ≠ r := fun e => by subst e; rw [mup_ne (fun e => htr e.symm), hMr] at hz; cases hz
    show mup (mup M t _) r _ z = _
    rw [mup_ne hzr]; exact hz
  refine if_gen fun A B hA hB => ?_
  simp only [eqX_int, eqX_str, capt, uLtX, uIn, items, uEnum, uZip, mExtend, mClear, at0, at1, at2, at3, Option.some.injEq, exists_eq_left', true_and, and_true, uBM, uBM0, mAppend, mPop, uCallV, inTab, ixTab, bMax, bSum, cLt, cLe, cGt, cGe, uAddL, startU, uOr, uAnd, uNot, uTru, uTest, uCB, uCons, uVar, uC, uNil, uOp, uUn, uChain, uI0, uI, uAndV, uOrV, uNotV, uIf, uTup, uLst, mkL, uCall, bIsi2, bLen, bAll, bInt1, bInt2, bList, bTuple, vw_non, vw_bl, vw_int, vw_str, vw_tup, vw_lst, vw_own, mup_same, mup_mup, typU, uEqS, uNeS, uIsN, uNotN, isNon, uAdd, uIx, uSlX, uNoPart, uPart, inSt, uIter, uRng1, uRng2, List.map_cons, List.map_nil, List.length_cons, List.length_nil, List.cons_append, List.nil_append, List.replicate, List.getElem?_cons_zero, List.getElem?_cons_succ, List.set_cons_zero, List.set_cons_succ, List.append_nil, Nat.reduceAdd, Nat.reduceSub, Nat.sub_self, Nat.add_sub_cancel, Bool.not_false, Bool.not_true, if_true, if_false, Bool.false_eq_true, reduceCtorEq, decide_true, decide_false, isi_NoneType_bool, isi_NoneType_int, isi_NoneType_str, isi_NoneType_tuple, isi_NoneType_list, isi_NoneType_dict, isi_bool_bool, isi_bool_int, isi_bool_str, isi_bool_tuple, isi_bool_list, isi_bool_dict, isi_int_bool, isi_int_int, isi_int_str, isi_int_tuple, isi_int_list, isi_int_dict, isi_str_bool, isi_str_int, isi_str_str, isi_str_tuple, isi_str_list, isi_str_dict, isi_tuple_bool, isi_tuple_int, isi_tuple_str, isi_tuple_tuple, isi_tuple_list, isi_tuple_dict, isi_list_bool, isi_list_int, isi_list_str, isi_list_tuple, isi_list_list, isi_list_dict, isi_dict_bool, isi_dict_int, isi_dict_str, isi_dict_tuple, isi_dict_list, isi_dict_dict, uMul, bInt, mPopAt, uEnumL, szl, Nat.reduceLeDiff, Option.getD_some, uZipL, uListRev, uRev, uSetFrom, bSorted, uRepL]
  refine eqX_hole po (by omega) hs fun bb => ?_
  cases bb with
  | true =>
    subst hA
    simp only [uAsg, hName, eqX_int, eqX_str, capt, uLtX, uIn, items, uEnum, uZip, mExtend, mClear, at0, at1, at2, at3, Option.some.injEq, exists_eq_left', true_and, and_true, uBM, uBM0, mAppend, mPop, uCallV, inTab, ixTab, bMax, bSum, cLt, cLe, cGt, cGe, uAddL, startU, uOr, uAnd, uNot, uTru, uTest, uCB, uCons, uVar, uC, uNil, uOp, uUn, uChain, uI0, uI, uAndV, uOrV, uNotV, uIf, uTup, uLst, mkL, uCall, bIsi2, bLen, bAll, bInt1, bInt2, bList, bTuple, vw_non, vw_bl, vw_int, vw_str, vw_tup, vw_lst, vw_own, mup_same, mup_mup, typU, uEqS, uNeS, uIsN, uNotN, isNon, uAdd, uIx, uSlX, uNoPart, uPart, inSt, uIter, uRng1, uRng2, List.map_cons, List.map_nil, List.length_cons, List.length_nil, List.cons_append, List.nil_append, List.replicate, List.getElem?_cons_zero, List.getElem?_cons_succ, List.set_cons_zero, List.set_cons_succ, List.append_nil, Nat.reduceAdd, Nat.reduceSub, Nat.sub_self, Nat.add_sub_cancel, Bool.not_false, Bool.not_true, if_true, if_false, Bool.false_eq_true, reduceCtorEq, decide_true, decide_false, isi_NoneType_bool, isi_NoneType_int, isi_NoneType_str, isi_NoneType_tuple, isi_NoneType_list, isi_NoneType_dict, isi_bool_bool, isi_bool_int, isi_bool_str, isi_bool_tuple, isi_bool_list, isi_bool_dict, isi_int_bool, isi_int_int, isi_int_str, isi_int_tuple, isi_int_list, isi_int_dict, isi_str_bool, isi_str_int, isi_str_str, isi_str_tuple, isi_str_list, isi_str_dict, isi_tuple_bool, isi_tuple_int, isi_tuple_str, isi_tuple_tuple, isi_tuple_list, isi_tuple_dict, isi_list_bool, isi_list_int, isi_list_str, isi_list_tuple, isi_list_list, isi_list_dict, isi_dict_bool, isi_dict_int, isi_dict_str, isi_dict_tuple, isi_dict_list, isi_dict_dict, uMul, bInt, mPopAt, uEnumL, szl, Nat.reduceLeDiff, Option.getD_some, uZipL, uListRev, uRev, uSetFrom, bSorted, uRepL]
    exact go .any trivial (by simp [Pt.dep])
  | false =>
    subst hB
    simp only [uNext, Bool.false_eq_true, if_false]
    exact go p po pd
def plainP (s : Str) : List Pt := [.any, .fr 0 (10 ^ Int.toNat 18), .two .sum (.hole s) (.hole s), .two .less (.hole s) (.hole s), .two .by_ (.hole s) (.hole s), .turn (.hole s)]
def spPlain : USp := fun us M Q => ∃ (t : Addr) (ns : List Int) (a b c : Int) (cs : List Str), us = [.ref t, sortsU cs] ∧ M t = some (.lst (tapeU ns a b c)) ∧ Cls cs ∧ 0 ≤ a ∧ a ≤ 400000 ∧ ∀ (ks : List Tk) (a' b' c' : Int), (∀ k ∈ ks, k.good) → ks.length ≤ 6 → a ≤ a' → a' ≤ a + 200 → Q (.lst (ks.map Tk.toU)) (mup M t (.lst (tapeU ns a' b' c')))
theorem plainP_ok {s : Str} (h : PyData.strOk s = true) : ∀ p ∈ plainP s, p.ok ∧ p.dep ≤ 4 := by
  intro p hp
  simp only [plainP, List.mem_cons, List.not_mem_nil, or_false] at hp
  rcases hp with rfl | rfl | rfl | rfl | rfl | rfl
  · exact ⟨trivial, by simp [Pt.dep]⟩
  · exact ⟨⟨by decide +kernel, by decide +kernel⟩, by simp [Pt.dep]⟩
  · exact ⟨⟨h, h⟩, by simp [Pt.dep]⟩
  · exact ⟨⟨h, h⟩, by simp [Pt.dep]⟩
  · exact ⟨⟨h, h⟩, by simp [Pt.dep]⟩
  · exact ⟨h, by simp [Pt.dep]⟩
set_option maxHeartbeats 1000000 in
theorem ok_plain (F : Fun K "_law_plain" "_law_plain" s_law_plain f fd) (hm : mg "_law_plain" = some (.ref f)) (C_law_draw : Callee P w K mg base 1 "_law_draw" spDraw []) : Callee P w K mg base 2 "_law_plain" spPlain [] := by
  refine callee_of F hm sc_law_plain (fun _ _ _ _ _ _ us hl => match us, hl with | [_, _], _ => rfl) (fun us M Q h => by obtain ⟨_, _, _, _, _, _, rfl, _⟩ := h; rfl) (uss_cons (us_set 2 sc_law_plain.nd (ue_ix (uv 1) un_))
  (uss_cons (us_set 3 sc_law_plain.nd (ue_tup (ua_cons us_ (ua_cons (uv 2) ua_nil))))
  (uss_cons (us_set 4 sc_law_plain.nd (ue_lst (own := false) (ua_cons (ue_tup (ua_cons us_ ua_nil)) (ua_cons (ue_tup (ua_cons us_ (ua_cons un_ (ua_cons (ue_pow un_ un_) ua_nil)))) (ua_cons (ue_tup (ua_cons us_ (ua_cons (uv 3) (ua_cons (uv 3) ua_nil)))) ua_nil)))))
  (uss_cons (us_set 4 sc_law_plain.nd (ue_add (own := false) (uv 4) (ue_lst (own := false) (ua_cons (ue_tup (ua_cons us_ (ua_cons (uv 3) (ua_cons (uv 3) ua_nil)))) (ua_cons (ue_tup (ua_cons us_ (ua_cons (uv 3) (ua_cons (uv 3) ua_nil)))) (ua_cons (ue_tup (ua_cons us_ (ua_cons (uv 3) ua_nil))) ua_nil))))))
  (uss_cons (us_set 5 sc_law_plain.nd (ue_lst (own := true) ua_nil))
  (uss_cons (us_for (ui_seq (uv 4)) (ug_name (k := 1000) 6 sc_law_plain.nd)
  (uss_one (us_if (ut_c k_gt (ue_call C_law_draw (ua_cons (uv 0) (ua_cons un_ ua_nil))) un_)
  (uss_one (us_expr (ue_append (uv 5) (ua_cons (ue_tup (ua_cons (uv 2) (ua_cons (uv 6) (ua_cons (ue_call C_law_draw (ua_cons (uv 0) (ua_cons un_ ua_nil))) ua_nil)))) ua_nil))))
  uss_nil)))
  (uss_one (us_ret (uv 5))))))))) ?_
  rintro us M Q ⟨t, ns, a, b, c, cs, rfl, hM, hC, ha0, ha1, q⟩
  have pw : CPow 10 18 := ⟨by decide, by decide, by decide⟩
  obtain ⟨s, cr, rfl⟩ : ∃ s cr, cs = s :: cr := by
    cases cs with
    | nil => exact absurd rfl hC.ne
    | cons s cr => exact ⟨s, cr, rfl⟩
  have hs := hC.ok s List.mem_cons_self
  have hpo := plainP_ok hs
  rw [← mup_self hM]
  refine seq_gen fun V hV => ?_
  simp only [uAsg, hName, startU, sortsU, List.map_cons, eqX_int, eqX_str, capt, uLtX, uIn, items, uEnum, uZip, mExtend, mClear, at0, at1, at2, at3, Option.some.injEq, exists_eq_left', true_and, and_true, uBM, uBM0, mAppend, mPop, uCallV, inTab, ixTab, bMax, bSum, cLt, cLe, cGt, cGe, uAddL, startU, uOr, uAnd, uNot, uTru, uTest, uCB, uCons, uVar, uC, uNil, uOp, uUn, uChain, uI0, uI, uAndV, uOrV, uNotV, uIf, uTup, uLst, mkL, uCall, bIsi2, bLen, bAll, bInt1, bInt2, bList, bTuple, vw_non, vw_bl, vw_int, vw_str, vw_tup, vw_lst, vw_own, mup_same, mup_mup, typU, uEqS, uNeS, uIsN, uNotN, isNon, uAdd, uIx, uSlX, uNoPart, uPart, inSt, uIter, uRng1, uRng2, List.map_cons, List.map_nil, List.length_cons, List.length_nil, List.cons_append, List.nil_append, List.replicate, List.getElem?_cons_zero, List.getElem?_cons_succ, List.set_cons_zero, List.set_cons_succ, List.append_nil, Nat.reduceAdd, Nat.reduceSub, Nat.sub_self, Nat.add_sub_cancel, Bool.not_false, Bool.not_true, if_true, if_false, Bool.false_eq_true, reduceCtorEq, decide_true, decide_false, isi_NoneType_bool, isi_NoneType_int, isi_NoneType_str, isi_NoneType_tuple, isi_NoneType_list, isi_NoneType_dict, isi_bool_bool, isi_bool_int, isi_bool_str, isi_bool_tuple, isi_bool_list, isi_bool_dict, isi_int_bool, isi_int_int, isi_int_str, isi_int_tuple, isi_int_list, isi_int_dict, isi_str_bool, isi_str_int, isi_str_str, isi_str_tuple, isi_str_list, isi_str_dict, isi_tuple_bool, isi_tuple_int, isi_tuple_str, isi_tuple_tuple, isi_tuple_list, isi_tuple_dict, isi_list_bool, isi_list_int, isi_list_str, isi_list_tuple, isi_list_list, isi_list_dict, isi_dict_bool, isi_dict_int, isi_dict_str, isi_dict_tuple, isi_dict_list, isi_dict_dict, uMul, bInt, mPopAt, uEnumL, szl, Nat.reduceLeDiff, Option.getD_some, uZipL, uListRev, uRev, uSetFrom, bSorted, uRepL]
  subst hV
  refine seq_gen fun V hV => ?_
  simp only [uAsg, hName, eqX_int, eqX_str, capt, uLtX, uIn, items, uEnum, uZip, mExtend, mClear, at0, at1, at2, at3, Option.some.injEq, exists_eq_left', true_and, and_true, uBM, uBM0, mAppend, mPop, uCallV, inTab, ixTab, bMax, bSum, cLt, cLe, cGt, cGe, uAddL, startU, uOr, uAnd, uNot, uTru, uTest, uCB, uCons, uVar, uC, uNil, uOp, uUn, uChain, uI0, uI, uAndV, uOrV, uNotV, uIf, uTup, uLst, mkL, uCall, bIsi2, bLen, bAll, bInt1, bInt2, bList, bTuple, vw_non, vw_bl, vw_int, vw_str, vw_tup, vw_lst, vw_own, mup_same, mup_mup, typU, uEqS, uNeS, uIsN, uNotN, isNon, uAdd, uIx, uSlX, uNoPart, uPart, inSt, uIter, uRng1, uRng2, List.map_cons, List.map_nil, List.length_cons, List.length_nil, List.cons_append, List.nil_append, List.replicate, List.getElem?_cons_zero, List.getElem?_cons_succ, List.set_cons_zero, List.set_cons_succ, List.append_nil, Nat.reduceAdd, Nat.reduceSub, Nat.sub_self, Nat.add_sub_cancel, Bool.not_false, Bool.not_true, if_true, if_false, Bool.false_eq_true, reduceCtorEq, decide_true, decide_false, isi_NoneType_bool, isi_NoneType_int, isi_NoneType_str, isi_NoneType_tuple, isi_NoneType_list, isi_NoneType_dict, isi_bool_bool, isi_bool_int, isi_bool_str, isi_bool_tuple, isi_bool_list, isi_bool_dict, isi_int_bool, isi_int_int, isi_int_str, isi_int_tuple, isi_int_list, isi_int_dict, isi_str_bool, isi_str_int, isi_str_str, isi_str_tuple, isi_str_list, isi_str_dict, isi_tuple_bool, isi_tuple_int, isi_tuple_str, isi_tuple_tuple, isi_tuple_list, isi_tuple_dict, isi_list_bool, isi_list_int, isi_list_str, isi_list_tuple, isi_list_list, isi_list_dict, isi_dict_bool, isi_dict_int, isi_dict_str, isi_dict_tuple, isi_dict_list, isi_dict_dict, uMul, bInt, mPopAt, uEnumL, szl, Nat.reduceLeDiff, Option.getD_some, uZipL, uListRev, uRev, uSetFrom, bSorted, uRepL]
  subst hV
  refine seq_gen fun V hV => ?_
  simp only [uAsg, hName, eqX_int, eqX_str, capt, uLtX, uIn, items, uEnum, uZip, mExtend, mClear, at0, at1, at2, at3, Option.some.injEq, exists_eq_left', true_and, and_true, uBM, uBM0, mAppend, mPop, uCallV, inTab, ixTab, bMax, bSum, cLt, cLe, cGt, cGe, uAddL, startU, uOr, uAnd, uNot, uTru, uTest, uCB, uCons, uVar, uC, uNil, uOp, uUn, uChain, uI0, uI, uAndV, uOrV, uNotV, uIf, uTup, uLst, mkL, uCall, bIsi2, bLen, bAll, bInt1, bInt2, bList, bTuple, vw_non, vw_bl, vw_int, vw_str, vw_tup, vw_lst, vw_own, mup_same, mup_mup, typU, uEqS, uNeS, uIsN, uNotN, isNon, uAdd, uIx, uSlX, uNoPart, uPart, inSt, uIter, uRng1, uRng2, List.map_cons, List.map_nil, List.length_cons, List.length_nil, List.cons_append, List.nil_append, List.replicate, List.getElem?_cons_zero, List.getElem?_cons_succ, List.set_cons_zero, List.set_cons_succ, List.append_nil, Nat.reduceAdd, Nat.reduceSub, Nat.sub_self, Nat.add_sub_cancel, Bool.not_false, Bool.not_true, if_true, if_false, Bool.false_eq_true, reduceCtorEq, decide_true, decide_false, isi_NoneType_bool, isi_NoneType_int, isi_NoneType_str, isi_NoneType_tuple, isi_NoneType_list, isi_NoneType_dict, isi_bool_bool, isi_bool_int, isi_bool_str, isi_bool_tuple, isi_bool_list, isi_bool_dict, isi_int_bool, isi_int_int, isi_int_str, isi_int_tuple, isi_int_list, isi_int_dict, isi_str_bool, isi_str_int, isi_str_str, isi_str_tuple, isi_str_list, isi_str_dict, isi_tuple_bool, isi_tuple_int, isi_tuple_str, isi_tuple_tuple, isi_tuple_list, isi_tuple_dict, isi_list_bool, isi_list_int, isi_list_str, isi_list_tuple, isi_list_list, isi_list_dict, isi_dict_bool, isi_dict_int, isi_dict_str, isi_dict_tuple, isi_dict_list, isi_dict_dict, uMul, bInt, mPopAt, uEnumL, szl, Nat.reduceLeDiff, Option.getD_some, uZipL, uListRev, uRev, uSetFrom, bSorted, uRepL]
  refine ⟨pw, ?_⟩
  subst hV
  refine seq_gen fun V hV => ?_
  simp only [uAsg, hName, eqX_int, eqX_str, capt, uLtX, uIn, items, uEnum, uZip, mExtend, mClear, at0, at1, at2, at3, Option.some.injEq, exists_eq_left', true_and, and_true, uBM, uBM0, mAppend, mPop, uCallV, inTab, ixTab, bMax, bSum, cLt, cLe, cGt, cGe, uAddL, startU, uOr, uAnd, uNot, uTru, uTest, uCB, uCons, uVar, uC, uNil, uOp, uUn, uChain, uI0, uI, uAndV, uOrV, uNotV, uIf, uTup, uLst, mkL, uCall, bIsi2, bLen, bAll, bInt1, bInt2, bList, bTuple, vw_non, vw_bl, vw_int, vw_str, vw_tup, vw_lst, vw_own, mup_same, mup_mup, typU, uEqS, uNeS, uIsN, uNotN, isNon, uAdd, uIx, uSlX, uNoPart, uPart, inSt, uIter, uRng1, uRng2, List.map_cons, List.map_nil, List.length_cons, List.length_nil, List.cons_append, List.nil_append, List.replicate, List.getElem?_cons_zero, List.getElem?_cons_succ, List.set_cons_zero, List.set_cons_succ, List.append_nil, Nat.reduceAdd, Nat.reduceSub, Nat.sub_self, Nat.add_sub_cancel, Bool.not_false, Bool.not_true, if_true, if_false, Bool.false_eq_true, reduceCtorEq, decide_true, decide_false, isi_NoneType_bool, isi_NoneType_int, isi_NoneType_str, isi_NoneType_tuple, isi_NoneType_list, isi_NoneType_dict, isi_bool_bool, isi_bool_int, isi_bool_str, isi_bool_tuple, isi_bool_list, isi_bool_dict, isi_int_bool, isi_int_int, isi_int_str, isi_int_tuple, isi_int_list, isi_int_dict, isi_str_bool, isi_str_int, isi_str_str, isi_str_tuple, isi_str_list, isi_str_dict, isi_tuple_bool, isi_tuple_int, isi_tuple_str, isi_tuple_tuple, isi_tuple_list, isi_tuple_dict, isi_list_bool, isi_list_int, isi_list_str, isi_list_tuple, isi_list_list, isi_list_dict, isi_dict_bool, isi_dict_int, isi_dict_str, isi_dict_tuple, isi_dict_list, isi_dict_dict, uMul, bInt, mPopAt, uEnumL, szl, Nat.reduceLeDiff, Option.getD_some, uZipL, uListRev, uRev, uSetFrom, bSorted, uRepL]
  subst hV
  have e6 : [U.tup [U.str (Str.ofString "any")], U.tup [U.str (Str.ofString "from"), U.int 0, U.int (10 ^ Int.toNat 18)], U.tup [U.str (Str.ofString "sum"), U.tup [U.str (Str.ofString "at"), U.str s], U.tup [U.str (Str.ofString "at"), U.str s]], U.tup [U.str (Str.ofString "less"), U.tup [U.str (Str.ofString "at"), U.str s], U.tup [U.str (Str.ofString "at"), U.str s]], U.tup [U.str (Str.ofString "by"), U.tup [U.str (Str.ofString "at"), U.str s], U.tup [U.str (Str.ofString "at"), U.str s]], U.tup [U.str (Str.ofString "turn"), U.tup [U.str (Str.ofString "at"), U.str s]]] = (plainP s).map Pt.toU := rfl
  rw [e6]
  have hpl : (plainP s).length = 6 := rfl
  generalize plainP s = ps at *
  refine seq_gen fun V hV => ?_
  simp only [uAsg, hName, eqX_int, eqX_str, capt, uLtX, uIn, items, uEnum, uZip, mExtend, mClear, at0, at1, at2, at3, Option.some.injEq, exists_eq_left', true_and, and_true, uBM, uBM0, mAppend, mPop, uCallV, inTab, ixTab, bMax, bSum, cLt, cLe, cGt, cGe, uAddL, startU, uOr, uAnd, uNot, uTru, uTest, uCB, uCons, uVar, uC, uNil, uOp, uUn, uChain, uI0, uI, uAndV, uOrV, uNotV, uIf, uTup, uLst, mkL, uCall, bIsi2, bLen, bAll, bInt1, bInt2, bList, bTuple, vw_non, vw_bl, vw_int, vw_str, vw_tup, vw_lst, vw_own, mup_same, mup_mup, typU, uEqS, uNeS, uIsN, uNotN, isNon, uAdd, uIx, uSlX, uNoPart, uPart, inSt, uIter, uRng1, uRng2, List.map_cons, List.map_nil, List.length_cons, List.length_nil, List.cons_append, List.nil_append, List.replicate, List.getElem?_cons_zero, List.getElem?_cons_succ, List.set_cons_zero, List.set_cons_succ, List.append_nil, Nat.reduceAdd, Nat.reduceSub, Nat.sub_self, Nat.add_sub_cancel, Bool.not_false, Bool.not_true, if_true, if_false, Bool.false_eq_true, reduceCtorEq, decide_true, decide_false, isi_NoneType_bool, isi_NoneType_int, isi_NoneType_str, isi_NoneType_tuple, isi_NoneType_list, isi_NoneType_dict, isi_bool_bool, isi_bool_int, isi_bool_str, isi_bool_tuple, isi_bool_list, isi_bool_dict, isi_int_bool, isi_int_int, isi_int_str, isi_int_tuple, isi_int_list, isi_int_dict, isi_str_bool, isi_str_int, isi_str_str, isi_str_tuple, isi_str_list, isi_str_dict, isi_tuple_bool, isi_tuple_int, isi_tuple_str, isi_tuple_tuple, isi_tuple_list, isi_tuple_dict, isi_list_bool, isi_list_int, isi_list_str, isi_list_tuple, isi_list_list, isi_list_dict, isi_dict_bool, isi_dict_int, isi_dict_str, isi_dict_tuple, isi_dict_list, isi_dict_dict, uMul, bInt, mPopAt, uEnumL, szl, Nat.reduceLeDiff, Option.getD_some, uZipL, uListRev, uRev, uSetFrom, bSorted, uRepL]
  intro r hr
  have htr : t ≠ r := fun z => by subst z; rw [mup_same] at hr; cases hr
  have hMr : M r = none := by rw [mup_ne (fun z => htr z.symm)] at hr; exact hr
  subst hV
  refine seq_gen fun V hV => ?_
  refine for_by (S := ⟨none, ps.map Pt.toU⟩) (M1 := st2 M t r (tapeU ns a b c) []) (fun R r => by simp only [eqX_int, eqX_str, capt, uLtX, uIn, items, uEnum, uZip, mExtend, mClear, at0, at1, at2, at3, Option.some.injEq, exists_eq_left', true_and, and_true, uBM, uBM0, mAppend, mPop, uCallV, inTab, ixTab, bMax, bSum, cLt, cLe, cGt, cGe, uAddL, startU, uOr, uAnd, uNot, uTru, uTest, uCB, uCons, uVar, uC, uNil, uOp, uUn, uChain, uI0, uI, uAndV, uOrV, uNotV, uIf, uTup, uLst, mkL, uCall, bIsi2, bLen, bAll, bInt1, bInt2, bList, bTuple, vw_non, vw_bl, vw_int, vw_str, vw_tup, vw_lst, vw_own, mup_same, mup_mup, typU, uEqS, uNeS, uIsN, uNotN, isNon, uAdd, uIx, uSlX, uNoPart, uPart, inSt, uIter, uRng1, uRng2, List.map_cons, List.map_nil, List.length_cons, List.length_nil, List.cons_append, List.nil_append, List.replicate, List.getElem?_cons_zero, List.getElem?_cons_succ, List.set_cons_zero, List.set_cons_succ, List.append_nil, Nat.reduceAdd, Nat.reduceSub, Nat.sub_self, Nat.add_sub_cancel, Bool.not_false, Bool.not_true, if_true, if_false, Bool.false_eq_true, reduceCtorEq, decide_true, decide_false, isi_NoneType_bool, isi_NoneType_int, isi_NoneType_str, isi_NoneType_tuple, isi_NoneType_list, isi_NoneType_dict, isi_bool_bool, isi_bool_int, isi_bool_str, isi_bool_tuple, isi_bool_list, isi_bool_dict, isi_int_bool, isi_int_int, isi_int_str, isi_int_tuple, isi_int_list, isi_int_dict, isi_str_bool, isi_str_int, isi_str_str, isi_str_tuple, isi_str_list, isi_str_dict, isi_tuple_bool, isi_tuple_int, isi_tuple_str, isi_tuple_tuple, isi_tuple_list, isi_tuple_dict, isi_list_bool, isi_list_int, isi_list_str, isi_list_tuple, isi_list_list, isi_list_dict, isi_dict_bool, isi_dict_int, isi_dict_str, isi_dict_tuple, isi_dict_list, isi_dict_dict, uMul, bInt, mPopAt, uEnumL, szl, Nat.reduceLeDiff, Option.getD_some, uZipL, uListRev, uRev, uSetFrom, bSorted, uRepL]; exact r)
    (fun i τ Mi => ∃ (ks : List Tk) (a' b' c' : Int) (z2 z3 z6 : Option U), τ = [some (.ref t), z2, some (.str s), z3, some (.lst (ps.map Pt.toU)), some (.ref r), z6] ∧ Mi = st2 M t r (tapeU ns a' b' c') (ks.map Tk.toU) ∧ (∀ k ∈ ks, k.good) ∧ ks.length ≤ i ∧ a ≤ a' ∧ a' ≤ a + 2 * i)
    ⟨[], a, b, c, _, _, none, rfl, rfl, (fun k h => by cases h), by simp, by omega, by omega⟩ (fun i τ M' _ a e => by cases e) ?_ ?_
  · rintro i x τ Mi e ⟨ks, a1, b1, c1, z2, z3, z6, rfl, rfl, hk, hkl, g1, g2⟩
    have hi : i < 6 := by
      have := (List.getElem?_eq_some_iff.mp e).1
      simp at this; omega
    obtain ⟨p, hp, rfl⟩ := List.mem_map.mp (List.mem_of_getElem? e)
    simp only [hName, eqX_int, eqX_str, capt, uLtX, uIn, items, uEnum, uZip, mExtend, mClear, at0, at1, at2, at3, Option.some.injEq, exists_eq_left', true_and, and_true, uBM, uBM0, mAppend, mPop, uCallV, inTab, ixTab, bMax, bSum, cLt, cLe, cGt, cGe, uAddL, startU, uOr, uAnd, uNot, uTru, uTest, uCB, uCons, uVar, uC, uNil, uOp, uUn, uChain, uI0, uI, uAndV, uOrV, uNotV, uIf, uTup, uLst, mkL, uCall, bIsi2, bLen, bAll, bInt1, bInt2, bList, bTuple, vw_non, vw_bl, vw_int, vw_str, vw_tup, vw_lst, vw_own, mup_same, mup_mup, typU, uEqS, uNeS, uIsN, uNotN, isNon, uAdd, uIx, uSlX, uNoPart, uPart, inSt, uIter, uRng1, uRng2, List.map_cons, List.map_nil, List.length_cons, List.length_nil, List.cons_append, List.nil_append, List.replicate, List.getElem?_cons_zero, List.getElem?_cons_succ, List.set_cons_zero, List.set_cons_succ, List.append_nil, Nat.reduceAdd, Nat.reduceSub, Nat.sub_self, Nat.add_sub_cancel, Bool.not_false, Bool.not_true, if_true, if_false, Bool.false_eq_true, reduceCtorEq, decide_true, decide_false, isi_NoneType_bool, isi_NoneType_int, isi_NoneType_str, isi_NoneType_tuple, isi_NoneType_list, isi_NoneType_dict, isi_bool_bool, isi_bool_int, isi_bool_str, isi_bool_tuple, isi_bool_list, isi_bool_dict, isi_int_bool, isi_int_int, isi_int_str, isi_int_tuple, isi_int_list, isi_int_dict, isi_str_bool, isi_str_int, isi_str_str, isi_str_tuple, isi_str_list, isi_str_dict, isi_tuple_bool, isi_tuple_int, isi_tuple_str, isi_tuple_tuple, isi_tuple_list, isi_tuple_dict, isi_list_bool, isi_list_int, isi_list_str, isi_list_tuple, isi_list_list, isi_list_dict, isi_dict_bool, isi_dict_int, isi_dict_str, isi_dict_tuple, isi_dict_list, isi_dict_dict, uMul, bInt, mPopAt, uEnumL, szl, Nat.reduceLeDiff, Option.getD_some, uZipL, uListRev, uRev, uSetFrom, bSorted, uRepL]
    generalize hPP : (fun (τ : SU) (Mi : MHp) => ∃ (ks : List Tk) (a' b' c' : Int) (z2 z3 z6 : Option U), τ = [some (.ref t), z2, some (.str s), z3, some (.lst (ps.map Pt.toU)), some (.ref r), z6] ∧ Mi = st2 M t r (tapeU ns a' b' c') (ks.map Tk.toU) ∧ (∀ k ∈ ks, k.good) ∧ ks.length ≤ i + 1 ∧ a ≤ a' ∧ a' ≤ a + 2 * ((i + 1 : Nat) : Int)) = PP
    refine if_gen fun A B hA hB => ?_
    simp only [eqX_int, eqX_str, capt, uLtX, uIn, items, uEnum, uZip, mExtend, mClear, at0, at1, at2, at3, Option.some.injEq, exists_eq_left', true_and, and_true, uBM, uBM0, mAppend, mPop, uCallV, inTab, ixTab, bMax, bSum, cLt, cLe, cGt, cGe, uAddL, startU, uOr, uAnd, uNot, uTru, uTest, uCB, uCons, uVar, uC, uNil, uOp, uUn, uChain, uI0, uI, uAndV, uOrV, uNotV, uIf, uTup, uLst, mkL, uCall, bIsi2, bLen, bAll, bInt1, bInt2, bList, bTuple, vw_non, vw_bl, vw_int, vw_str, vw_tup, vw_lst, vw_own, mup_same, mup_mup, typU, uEqS, uNeS, uIsN, uNotN, isNon, uAdd, uIx, uSlX, uNoPart, uPart, inSt, uIter, uRng1, uRng2, List.map_cons, List.map_nil, List.length_cons, List.length_nil, List.cons_append, List.nil_append, List.replicate, List.getElem?_cons_zero, List.getElem?_cons_succ, List.set_cons_zero, List.set_cons_succ, List.append_nil, Nat.reduceAdd, Nat.reduceSub, Nat.sub_self, Nat.add_sub_cancel, Bool.not_false, Bool.not_true, if_true, if_false, Bool.false_eq_true, reduceCtorEq, decide_true, decide_false, isi_NoneType_bool, isi_NoneType_int, isi_NoneType_str, isi_NoneType_tuple, isi_NoneType_list, isi_NoneType_dict, isi_bool_bool, isi_bool_int, isi_bool_str, isi_bool_tuple, isi_bool_list, isi_bool_dict, isi_int_bool, isi_int_int, isi_int_str, isi_int_tuple, isi_int_list, isi_int_dict, isi_str_bool, isi_str_int, isi_str_str, isi_str_tuple, isi_str_list, isi_str_dict, isi_tuple_bool, isi_tuple_int, isi_tuple_str, isi_tuple_tuple, isi_tuple_list, isi_tuple_dict, isi_list_bool, isi_list_int, isi_list_str, isi_list_tuple, isi_list_list, isi_list_dict, isi_dict_bool, isi_dict_int, isi_dict_str, isi_dict_tuple, isi_dict_list, isi_dict_dict, uMul, bInt, mPopAt, uEnumL, szl, Nat.reduceLeDiff, Option.getD_some, uZipL, uListRev, uRev, uSetFrom, bSorted, uRepL]
    refine ⟨t, ns, a1, b1, c1, 6, rfl, by decide, by decide, st2_t htr, by omega, by omega, fun w a2 b2 c2 w0 w1 g3 g4 => ?_⟩
    rw [st2_setT htr]
    simp only [eqX_int, eqX_str, capt, uLtX, uIn, items, uEnum, uZip, mExtend, mClear, at0, at1, at2, at3, Option.some.injEq, exists_eq_left', true_and, and_true, uBM, uBM0, mAppend, mPop, uCallV, inTab, ixTab, bMax, bSum, cLt, cLe, cGt, cGe, uAddL, startU, uOr, uAnd, uNot, uTru, uTest, uCB, uCons, uVar, uC, uNil, uOp, uUn, uChain, uI0, uI, uAndV, uOrV, uNotV, uIf, uTup, uLst, mkL, uCall, bIsi2, bLen, bAll, bInt1, bInt2, bList, bTuple, vw_non, vw_bl, vw_int, vw_str, vw_tup, vw_lst, vw_own, mup_same, mup_mup, typU, uEqS, uNeS, uIsN, uNotN, isNon, uAdd, uIx, uSlX, uNoPart, uPart, inSt, uIter, uRng1, uRng2, List.map_cons, List.map_nil, List.length_cons, List.length_nil, List.cons_append, List.nil_append, List.replicate, List.getElem?_cons_zero, List.getElem?_cons_succ, List.set_cons_zero, List.set_cons_succ, List.append_nil, Nat.reduceAdd, Nat.reduceSub, Nat.sub_self, Nat.add_sub_cancel, Bool.not_false, Bool.not_true, if_true, if_false, Bool.false_eq_true, reduceCtorEq, decide_true, decide_false, isi_NoneType_bool, isi_NoneType_int, isi_NoneType_str, isi_NoneType_tuple, isi_NoneType_list, isi_NoneType_dict, isi_bool_bool, isi_bool_int, isi_bool_str, isi_bool_tuple, isi_bool_list, isi_bool_dict, isi_int_bool, isi_int_int, isi_int_str, isi_int_tuple, isi_int_list, isi_int_dict, isi_str_bool, isi_str_int, isi_str_str, isi_str_tuple, isi_str_list, isi_str_dict, isi_tuple_bool, isi_tuple_int, isi_tuple_str, isi_tuple_tuple, isi_tuple_list, isi_tuple_dict, isi_list_bool, isi_list_int, isi_list_str, isi_list_tuple, isi_list_list, isi_list_dict, isi_dict_bool, isi_dict_int, isi_dict_str, isi_dict_tuple, isi_dict_list, isi_dict_dict, uMul, bInt, mPopAt, uEnumL, szl, Nat.reduceLeDiff, Option.getD_some, uZipL, uListRev, uRev, uSetFrom, bSorted, uRepL]
    refine ite2 (fun _ => ?_) (fun _ => ?_)
    · subst hA
      simp only [uDrop, eqX_int, eqX_str, capt, uLtX, uIn, items, uEnum, uZip, mExtend, mClear, at0, at1, at2, at3, Option.some.injEq, exists_eq_left', true_and, and_true, uBM, uBM0, mAppend, mPop, uCallV, inTab, ixTab, bMax, bSum, cLt, cLe, cGt, cGe, uAddL, startU, uOr, uAnd, uNot, uTru, uTest, uCB, uCons, uVar, uC, uNil, uOp, uUn, uChain, uI0, uI, uAndV, uOrV, uNotV, uIf, uTup, uLst, mkL, uCall, bIsi2, bLen, bAll, bInt1, bInt2, bList, bTuple, vw_non, vw_bl, vw_int, vw_str, vw_tup, vw_lst, vw_own, mup_same, mup_mup, typU, uEqS, uNeS, uIsN, uNotN, isNon, uAdd, uIx, uSlX, uNoPart, uPart, inSt, uIter, uRng1, uRng2, List.map_cons, List.map_nil, List.length_cons, List.length_nil, List.cons_append, List.nil_append, List.replicate, List.getElem?_cons_zero, List.getElem?_cons_succ, List.set_cons_zero, List.set_cons_succ, List.append_nil, Nat.reduceAdd, Nat.reduceSub, Nat.sub_self, Nat.add_sub_cancel, Bool.not_false, Bool.not_true, if_true, if_false, Bool.false_eq_true, reduceCtorEq, decide_true, decide_false, isi_NoneType_bool, isi_NoneType_int, isi_NoneType_str, isi_NoneType_tuple, isi_NoneType_list, isi_NoneType_dict, isi_bool_bool, isi_bool_int, isi_bool_str, isi_bool_tuple, isi_bool_list, isi_bool_dict, isi_int_bool, isi_int_int, isi_int_str, isi_int_tuple, isi_int_list, isi_int_dict, isi_str_bool, isi_str_int, isi_str_str, isi_str_tuple, isi_str_list, isi_str_dict, isi_tuple_bool, isi_tuple_int, isi_tuple_str, isi_tuple_tuple, isi_tuple_list, isi_tuple_dict, isi_list_bool, isi_list_int, isi_list_str, isi_list_tuple, isi_list_list, isi_list_dict, isi_dict_bool, isi_dict_int, isi_dict_str, isi_dict_tuple, isi_dict_list, isi_dict_dict, uMul, bInt, mPopAt, uEnumL, szl, Nat.reduceLeDiff, Option.getD_some, uZipL, uListRev, uRev, uSetFrom, bSorted, uRepL]
      refine ⟨⟨_, view_ref st2_r⟩, t, ns, a2, b2, c2, 9, rfl, by decide, by decide, st2_t htr, by omega, by omega, fun d a3 b3 c3 d0 d1 g5 g6 => ?_⟩
      rw [st2_setT htr]
      simp only [st2_r, st2_setR, eqX_int, eqX_str, capt, uLtX, uIn, items, uEnum, uZip, mExtend, mClear, at0, at1, at2, at3, Option.some.injEq, exists_eq_left', true_and, and_true, uBM, uBM0, mAppend, mPop, uCallV, inTab, ixTab, bMax, bSum, cLt, cLe, cGt, cGe, uAddL, startU, uOr, uAnd, uNot, uTru, uTest, uCB, uCons, uVar, uC, uNil, uOp, uUn, uChain, uI0, uI, uAndV, uOrV, uNotV, uIf, uTup, uLst, mkL, uCall, bIsi2, bLen, bAll, bInt1, bInt2, bList, bTuple, vw_non, vw_bl, vw_int, vw_str, vw_tup, vw_lst, vw_own, mup_same, mup_mup, typU, uEqS, uNeS, uIsN, uNotN, isNon, uAdd, uIx, uSlX, uNoPart, uPart, inSt, uIter, uRng1, uRng2, List.map_cons, List.map_nil, List.length_cons, List.length_nil, List.cons_append, List.nil_append, List.replicate, List.getElem?_cons_zero, List.getElem?_cons_succ, List.set_cons_zero, List.set_cons_succ, List.append_nil, Nat.reduceAdd, Nat.reduceSub, Nat.sub_self, Nat.add_sub_cancel, Bool.not_false, Bool.not_true, if_true, if_false, Bool.false_eq_true, reduceCtorEq, decide_true, decide_false, isi_NoneType_bool, isi_NoneType_int, isi_NoneType_str, isi_NoneType_tuple, isi_NoneType_list, isi_NoneType_dict, isi_bool_bool, isi_bool_int, isi_bool_str, isi_bool_tuple, isi_bool_list, isi_bool_dict, isi_int_bool, isi_int_int, isi_int_str, isi_int_tuple, isi_int_list, isi_int_dict, isi_str_bool, isi_str_int, isi_str_str, isi_str_tuple, isi_str_list, isi_str_dict, isi_tuple_bool, isi_tuple_int, isi_tuple_str, isi_tuple_tuple, isi_tuple_list, isi_tuple_dict, isi_list_bool, isi_list_int, isi_list_str, isi_list_tuple, isi_list_list, isi_list_dict, isi_dict_bool, isi_dict_int, isi_dict_str, isi_dict_tuple, isi_dict_list, isi_dict_dict, uMul, bInt, mPopAt, uEnumL, szl, Nat.reduceLeDiff, Option.getD_some, uZipL, uListRev, uRev, uSetFrom, bSorted, uRepL]
      refine ⟨big (by rw [List.length_map]; omega), ?_⟩
      rw [← hPP]
      refine ⟨ks ++ [⟨s, p, d⟩], a3, b3, c3, _, _, _, rfl, by simp [Tk.toU], fun k hk' => ?_, by simp; omega, by omega, by omega⟩
      rcases List.mem_append.mp hk' with hk' | hk'
      · exact hk k hk'
      · cases List.mem_singleton.mp hk'; exact hpo p hp
    · subst hB
      simp only [uNext]
      rw [← hPP]
      exact ⟨ks, a2, b2, c2, _, _, _, rfl, rfl, hk, by omega, by omega, by omega⟩
  · rintro τ Mi ⟨ks, a1, b1, c1, z2, z3, z6, rfl, rfl, hk, hkl, g1, g2⟩
    have hl6 : (Src.mk none (ps.map Pt.toU)).xs.length = 6 := by show (ps.map Pt.toU).length = 6; rw [List.length_map, hpl]
    rw [hl6] at hkl g2
    subst hV
    simp only [uRet, eqX_int, eqX_str, capt, uLtX, uIn, items, uEnum, uZip, mExtend, mClear, at0, at1, at2, at3, Option.some.injEq, exists_eq_left', true_and, and_true, uBM, uBM0, mAppend, mPop, uCallV, inTab, ixTab, bMax, bSum, cLt, cLe, cGt, cGe, uAddL, startU, uOr, uAnd, uNot, uTru, uTest, uCB, uCons, uVar, uC, uNil, uOp, uUn, uChain, uI0, uI, uAndV, uOrV, uNotV, uIf, uTup, uLst, mkL, uCall, bIsi2, bLen, bAll, bInt1, bInt2, bList, bTuple, vw_non, vw_bl, vw_int, vw_str, vw_tup, vw_lst, vw_own, mup_same, mup_mup, typU, uEqS, uNeS, uIsN, uNotN, isNon, uAdd, uIx, uSlX, uNoPart, uPart, inSt, uIter, uRng1, uRng2, List.map_cons, List.map_nil, List.length_cons, List.length_nil, List.cons_append, List.nil_append, List.replicate, List.getElem?_cons_zero, List.getElem?_cons_succ, List.set_cons_zero, List.set_cons_succ, List.append_nil, Nat.reduceAdd, Nat.reduceSub, Nat.sub_self, Nat.add_sub_cancel, Bool.not_false, Bool.not_true, if_true, if_false, Bool.false_eq_true, reduceCtorEq, decide_true, decide_false, isi_NoneType_bool, isi_NoneType_int, isi_NoneType_str, isi_NoneType_tuple, isi_NoneType_list, isi_NoneType_dict, isi_bool_bool, isi_bool_int, isi_bool_str, isi_bool_tuple, isi_bool_list, isi_bool_dict, isi_int_bool, isi_int_int, isi_int_str, isi_int_tuple, isi_int_list, isi_int_dict, isi_str_bool, isi_str_int, isi_str_str, isi_str_tuple, isi_str_list, isi_str_dict, isi_tuple_bool, isi_tuple_int, isi_tuple_str, isi_tuple_tuple, isi_tuple_list, isi_tuple_dict, isi_list_bool, isi_list_int, isi_list_str, isi_list_tuple, isi_list_list, isi_list_dict, isi_dict_bool, isi_dict_int, isi_dict_str, isi_dict_tuple, isi_dict_list, isi_dict_dict, uMul, bInt, mPopAt, uEnumL, szl, Nat.reduceLeDiff, Option.getD_some, uZipL, uListRev, uRev, uSetFrom, bSorted, uRepL]
    refine ⟨_, mup M t (.lst (tapeU ns a1 b1 c1)), fun z o hz => ?_, .inr ⟨r, _, rfl, st2_r, by rw [mup_ne (fun e => htr e.symm)]; exact hMr, rfl⟩, q ks a1 b1 c1 hk hkl g1 (by omega)⟩
    have hzr : z ≠ r := fun e => by subst e; rw [mup_ne (fun e => htr e.symm), hMr] at hz; cases hz
    show mup (mup M t _) r _ z = _
    rw [mup_ne hzr]; exact hz

end
end K54

set_option linter.all false
set_option maxRecDepth 100000
namespace K54
open PySem L2 U2
section
variable {P : Program} {w : World} {K : PySem.W.Frag} {mg : Str → Option Value} {base : Heap} {f d d2 fl : Addr} {fd : FuncData}

def Pt.isHole : Pt → Bool
  | .hole _ => true
  | _ => false
theorem hole_head (p : Pt) : ∃ z rr, p.toU = .tup (.str z :: rr) ∧ decide (z = Str.ofString "at") = p.isHole := by
  cases p with
  | hole c => exact ⟨_, _, rfl, by simp [Pt.isHole]⟩
  | any => exact ⟨_, _, rfl, by simp [Pt.isHole, ww]⟩
  | fr l h => exact ⟨_, _, rfl, by simp [Pt.isHole, ww]⟩
  | turn a => exact ⟨_, _, rfl, by simp [Pt.isHole, ww]⟩
  | two o a b => exact ⟨_, _, rfl, by simp [Pt.isHole, ww]⟩
def addC (acc : List Pt) (q : Pt) : List Pt := if q.isHole then acc else if acc.any (fun e => PyData.eqv (datP e) (datP q)) then acc else acc ++ [q]
def preP : Pt → List Pt
  | .turn a => .turn a :: preP a
  | .two o a b => .two o a b :: (preP a ++ preP b)
  | p => [p]
theorem addC_len (acc : List Pt) (q : Pt) : (addC acc q).length ≤ acc.length + 1 := by
  unfold addC
  split
  · omega
  · split
    · omega
    · simp
theorem fold_len : ∀ (l acc : List Pt), (l.foldl addC acc).length ≤ acc.length + l.length
  | [], acc => by simp
  | q :: l, acc => by
    have h1 := addC_len acc q
    have h2 := fold_len l (addC acc q)
    simp only [List.foldl_cons, List.length_cons]; omega
def fineP (p : Pt) : Prop := p.ok ∧ p.dep ≤ 4
theorem addC_fine {acc : List Pt} {q : Pt} (h : ∀ p ∈ acc, fineP p) (hq : fineP q) : ∀ p ∈ addC acc q, fineP p := by
  unfold addC
  intro p hp
  split at hp
  · exact h p hp
  · split at hp
    · exact h p hp
    · rcases List.mem_append.mp hp with hp | hp
      · exact h p hp
      · cases List.mem_singleton.mp hp; exact hq
theorem fold_fine : ∀ (l acc : List Pt), (∀ p ∈ acc, fineP p) → (∀ p ∈ l, fineP p) → ∀ p ∈ l.foldl addC acc, fineP p
  | [], acc, h, _ => h
  | q :: l, acc, h, hl => fold_fine l (addC acc q) (addC_fine h (hl q List.mem_cons_self)) fun p hp => hl p (List.mem_cons_of_mem _ hp)
theorem pre_len : ∀ p : Pt, (preP p).length < 2 ^ p.dep
  | .hole _ => by simp [preP, Pt.dep]
  | .any => by simp [preP, Pt.dep]
  | .fr _ _ => by simp [preP, Pt.dep]
  | .turn a => by have := pre_len a; simp only [preP, Pt.dep, Nat.pow_succ, List.length_cons]; omega
  | .two _ a b => by
    have h1 := pre_len a
    have h2 := pre_len b
    have h3 : 2 ^ a.dep ≤ 2 ^ max a.dep b.dep := Nat.pow_le_pow_right (by decide) (Nat.le_max_left _ _)
    have h4 : 2 ^ b.dep ≤ 2 ^ max a.dep b.dep := Nat.pow_le_pow_right (by decide) (Nat.le_max_right _ _)
    simp only [preP, Pt.dep, Nat.pow_succ, List.length_cons, List.length_append]; omega
theorem pre_len4 {p : Pt} (h : p.dep ≤ 4) : (preP p).length ≤ 16 := by
  have h1 := pre_len p
  have h2 : 2 ^ p.dep ≤ 2 ^ 4 := Nat.pow_le_pow_right (by decide) h
  have h3 : (2 : Nat) ^ 4 = 16 := by decide
  omega
theorem pre_fine : ∀ p : Pt, p.ok → ∀ q ∈ preP p, q.ok ∧ q.dep ≤ p.dep
  | .hole _, h, q, hq => by cases List.mem_singleton.mp hq; exact ⟨h, Nat.le_refl _⟩
  | .any, h, q, hq => by cases List.mem_singleton.mp hq; exact ⟨h, Nat.le_refl _⟩
  | .fr _ _, h, q, hq => by cases List.mem_singleton.mp hq; exact ⟨h, Nat.le_refl _⟩
  | .turn a, h, q, hq => by
    rcases List.mem_cons.mp hq with rfl | hq
    · exact ⟨h, Nat.le_refl _⟩
    · have := pre_fine a h q hq; simp only [Pt.dep]; exact ⟨this.1, by omega⟩
  | .two _ a b, h, q, hq => by
    rcases List.mem_cons.mp hq with rfl | hq
    · exact ⟨h, Nat.le_refl _⟩
    · rcases List.mem_append.mp hq with hq | hq
      · have := pre_fine a h.1 q hq; simp only [Pt.dep]; exact ⟨this.1, by omega⟩
      · have := pre_fine b h.2 q hq; simp only [Pt.dep]; exact ⟨this.1, by omega⟩
theorem toDs_Ps (l : List Pt) : toDs (l.map Pt.toU) = some (l.map datP) := by
  induction l with
  | nil => simp [toDs]
  | cons p l ih => simp [toDs, toD_P, ih]
theorem lay_Ps (l : List Pt) (h : ∀ p ∈ l, fineP p) : PyData.canLayAll0 (l.map datP) = true := by
  induction l with
  | nil => simp [PyData.canLayAll0]
  | cons p l ih => simp only [List.map_cons, PyData.canLayAll0, layP p (h p List.mem_cons_self).1, ih fun x hx => h x (List.mem_cons_of_mem _ hx)]; rfl
theorem depth_P : ∀ p : Pt, (datP p).depth ≤ 2 * p.dep + 2
  | .hole _ => by simp [datP, PyData.depth, PyData.depthAll]
  | .any => by simp [datP, PyData.depth, PyData.depthAll]
  | .fr _ _ => by simp [datP, PyData.depth, PyData.depthAll]
  | .turn a => by have := depth_P a; simp [datP, PyData.depth, PyData.depthAll, Pt.dep]; omega
  | .two _ a b => by have h1 := depth_P a; have h2 := depth_P b; simp [datP, PyData.depth, PyData.depthAll, Pt.dep]; omega
/-- x not in (texts and) patterns -/
theorem notIn_P {cs : List Str} {acc : List Pt} {q : Pt} {p : Addr} {M : MHp} {Q : UK} (hM : M p = some (.lst (cs.map U.str ++ acc.map Pt.toU))) (hcs : ∀ s ∈ cs, PyData.strOk s = true) (ha : ∀ p ∈ acc, fineP p) (hq : fineP q) (h : Q (.bl (!acc.any fun e => PyData.eqv (datP e) (datP q))) M) : uInD true q.toU (.ref p) M Q := by
  have hs : ∀ l : List Str, (∀ s ∈ l, PyData.strOk s = true) → toDs (l.map U.str ++ acc.map Pt.toU) = some (l.map PyData.str ++ acc.map datP) ∧ PyData.canLayAll0 (l.map PyData.str ++ acc.map datP) = true ∧ (l.map PyData.str ++ acc.map datP).any (fun e => PyData.eqv e (datP q)) = acc.any fun e => PyData.eqv (datP e) (datP q) := by
    intro l
    induction l with
    | nil =>
      intro _
      refine ⟨by simpa using toDs_Ps acc, by simpa using lay_Ps acc ha, ?_⟩
      simp only [List.map_nil, List.nil_append, List.any_map]; rfl
    | cons a l ih =>
      intro hl
      obtain ⟨i1, i2, i3⟩ := ih fun s hs => hl s (List.mem_cons_of_mem _ hs)
      refine ⟨?_, ?_, ?_⟩
      · simp only [List.map_cons, List.cons_append, toDs, toD, i1]
      · simp only [List.map_cons, List.cons_append, PyData.canLayAll0, PyData.canLay0, hl a List.mem_cons_self, i2, Bool.and_self]
      · have : PyData.eqv (.str a) (datP q) = false := by cases q <;> rfl
        simp only [List.map_cons, List.cons_append, List.any_cons, this, Bool.false_or, i3]
  obtain ⟨h1, h2, h3⟩ := hs cs hcs
  obtain ⟨z, rr, e, _⟩ := hole_head q
  have ht : topD M q.toU = some (datP q) := by rw [← toD_P q, e]; rfl
  have hd := depth_P q
  refine ⟨_, _, _, by simp only [items, hM], h1, ht, h2, layP q hq.1, by have := hq.2; omega, ?_⟩
  rw [h3]; exact h
theorem addC_hole {acc : List Pt} {q : Pt} (h : q.isHole = true) : addC acc q = acc := by unfold addC; rw [if_pos h]
theorem addC_in {acc : List Pt} {q : Pt} (h : q.isHole = false) (k : (acc.any fun e => PyData.eqv (datP e) (datP q)) = true) : addC acc q = acc := by unfold addC; rw [if_neg (by rw [h]; simp), if_pos k]
theorem addC_new {acc : List Pt} {q : Pt} (h : q.isHole = false) (k : (acc.any fun e => PyData.eqv (datP e) (datP q)) = false) : addC acc q = acc ++ [q] := by unfold addC; rw [if_neg (by rw [h]; simp), if_neg (by rw [k]; simp)]
def spBelow (n : Nat) : USp := fun us M Q => ∃ (q : Pt) (p : Addr) (acc : List Pt), us = [q.toU, .ref p] ∧ q.dep ≤ n ∧ n ≤ 4 ∧ q.ok ∧ M p = some (.lst (acc.map Pt.toU)) ∧ (∀ x ∈ acc, fineP x) ∧ acc.length + 100 * n ≤ 5000 ∧ Q .non (mup M p (.lst (((preP q).foldl addC acc).map Pt.toU)))
set_option maxHeartbeats 2000000 in
theorem ok_below {n : Nat} (F : Fun K "_law_below" "_law_below" s_law_below f fd) (hm : mg "_law_below" = some (.ref f)) (C_law_below : Callee P w K mg base (n + 1) "_law_below" (spBelow n) []) : Callee P w K mg base (n + 2) "_law_below" (spBelow (n + 1)) [] := by
  refine callee_of F hm sc_law_below (fun _ _ _ _ _ _ us hl => match us, hl with | [_, _], _ => rfl) (fun us M Q h => by obtain ⟨_, _, _, rfl, _⟩ := h; rfl) (uss_cons (us_if (PWU.pt (uw_and (ut_c k_neX (ue_ix (uv 0) un_) us_) (uw_and1 (ut_c k_notInD (uv 0) (uv 1)))))
  (uss_one (us_expr (ue_append (uv 1) (ua_cons (uv 0) ua_nil))))
  uss_nil)
  (uss_one (us_if (ut_c k_notIn (ue_ix (uv 0) un_) (ue_tup (ua_cons us_ (ua_cons us_ (ua_cons us_ ua_nil)))))
  (uss_one (us_for (ui_seq (ue_slX (own := false) (uv 0) (uo_some un_) uo_none)) (ug_name (k := 1000) 2 sc_law_below.nd)
  (uss_one (us_expr (ue_call C_law_below (ua_cons (uv 2) (ua_cons (uv 1) ua_nil)))))))
  uss_nil))) ?_
  rintro us M Q ⟨q0, p, acc, rfl, hd, hn4, hqo, hM, hacc, hal, q⟩
  have fl : ∀ z : Str, flatU (.str z) = true := fun _ => rfl
  have fl2 : [U.str (Str.ofString "at"), U.str (Str.ofString "any"), U.str (Str.ofString "from")].all flatU = true := rfl
  have hqf : fineP q0 := ⟨hqo, by omega⟩
  rw [← mup_self hM]
  refine seq_gen fun V hV => ?_
  have tail : V [some q0.toU, some (.ref p), none] (mup M p (.lst ((addC acc q0).map Pt.toU))) := by
    subst hV
    have hac := addC_fine hacc hqf
    have hcl := addC_len acc q0
    cases q0 with
    | hole c =>
      simp only [uIfS, uNext, Pt.toU, in3, fl, fl2, ww, Bool.true_or, Bool.or_true, eqX_int, eqX_str, capt, uLtX, uIn, items, uEnum, uZip, mExtend, mClear, at0, at1, at2, at3, Option.some.injEq, exists_eq_left', true_and, and_true, uBM, uBM0, mAppend, mPop, uCallV, inTab, ixTab, bMax, bSum, cLt, cLe, cGt, cGe, uAddL, startU, uOr, uAnd, uNot, uTru, uTest, uCB, uCons, uVar, uC, uNil, uOp, uUn, uChain, uI0, uI, uAndV, uOrV, uNotV, uIf, uTup, uLst, mkL, uCall, bIsi2, bLen, bAll, bInt1, bInt2, bList, bTuple, vw_non, vw_bl, vw_int, vw_str, vw_tup, vw_lst, vw_own, mup_same, mup_mup, typU, uEqS, uNeS, uIsN, uNotN, isNon, uAdd, uIx, uSlX, uNoPart, uPart, inSt, uIter, uRng1, uRng2, List.map_cons, List.map_nil, List.length_cons, List.length_nil, List.cons_append, List.nil_append, List.replicate, List.getElem?_cons_zero, List.getElem?_cons_succ, List.set_cons_zero, List.set_cons_succ, List.append_nil, Nat.reduceAdd, Nat.reduceSub, Nat.sub_self, Nat.add_sub_cancel, Bool.not_false, Bool.not_true, if_true, if_false, Bool.false_eq_true, reduceCtorEq, decide_true, decide_false, isi_NoneType_bool, isi_NoneType_int, isi_NoneType_str, isi_NoneType_tuple, isi_NoneType_list, isi_NoneType_dict, isi_bool_bool, isi_bool_int, isi_bool_str, isi_bool_tuple, isi_bool_list, isi_bool_dict, isi_int_bool, isi_int_int, isi_int_str, isi_int_tuple, isi_int_list, isi_int_dict, isi_str_bool, isi_str_int, isi_str_str, isi_str_tuple, isi_str_list, isi_str_dict, isi_tuple_bool, isi_tuple_int, isi_tuple_str, isi_tuple_tuple, isi_tuple_list, isi_tuple_dict, isi_list_bool, isi_list_int, isi_list_str, isi_list_tuple, isi_list_list, isi_list_dict, isi_dict_bool, isi_dict_int, isi_dict_str, isi_dict_tuple, isi_dict_list, isi_dict_dict, uMul, bInt, mPopAt, uEnumL, szl, Nat.reduceLeDiff, Option.getD_some, uZipL, uListRev, uRev, uSetFrom, bSorted, uRepL]
      exact rt_same q
    | any =>
      simp only [uIfS, uNext, Pt.toU, in3, fl, fl2, ww, Bool.true_or, Bool.or_true, eqX_int, eqX_str, capt, uLtX, uIn, items, uEnum, uZip, mExtend, mClear, at0, at1, at2, at3, Option.some.injEq, exists_eq_left', true_and, and_true, uBM, uBM0, mAppend, mPop, uCallV, inTab, ixTab, bMax, bSum, cLt, cLe, cGt, cGe, uAddL, startU, uOr, uAnd, uNot, uTru, uTest, uCB, uCons, uVar, uC, uNil, uOp, uUn, uChain, uI0, uI, uAndV, uOrV, uNotV, uIf, uTup, uLst, mkL, uCall, bIsi2, bLen, bAll, bInt1, bInt2, bList, bTuple, vw_non, vw_bl, vw_int, vw_str, vw_tup, vw_lst, vw_own, mup_same, mup_mup, typU, uEqS, uNeS, uIsN, uNotN, isNon, uAdd, uIx, uSlX, uNoPart, uPart, inSt, uIter, uRng1, uRng2, List.map_cons, List.map_nil, List.length_cons, List.length_nil, List.cons_append, List.nil_append, List.replicate, List.getElem?_cons_zero, List.getElem?_cons_succ, List.set_cons_zero, List.set_cons_succ, List.append_nil, Nat.reduceAdd, Nat.reduceSub, Nat.sub_self, Nat.add_sub_cancel, Bool.not_false, Bool.not_true, if_true, if_false, Bool.false_eq_true, reduceCtorEq, decide_true, decide_false, isi_NoneType_bool, isi_NoneType_int, isi_NoneType_str, isi_NoneType_tuple, isi_NoneType_list, isi_NoneType_dict, isi_bool_bool, isi_bool_int, isi_bool_str, isi_bool_tuple, isi_bool_list, isi_bool_dict, isi_int_bool, isi_int_int, isi_int_str, isi_int_tuple, isi_int_list, isi_int_dict, isi_str_bool, isi_str_int, isi_str_str, isi_str_tuple, isi_str_list, isi_str_dict, isi_tuple_bool, isi_tuple_int, isi_tuple_str, isi_tuple_tuple, isi_tuple_list, isi_tuple_dict, isi_list_bool, isi_list_int, isi_list_str, isi_list_tuple, isi_list_list, isi_list_dict, isi_dict_bool, isi_dict_int, isi_dict_str, isi_dict_tuple, isi_dict_list, isi_dict_dict, uMul, bInt, mPopAt, uEnumL, szl, Nat.reduceLeDiff, Option.getD_some, uZipL, uListRev, uRev, uSetFrom, bSorted, uRepL]
      exact rt_same q
    | fr l h =>
      simp only [uIfS, uNext, Pt.toU, in3, fl, fl2, ww, Bool.true_or, Bool.or_true, eqX_int, eqX_str, capt, uLtX, uIn, items, uEnum, uZip, mExtend, mClear, at0, at1, at2, at3, Option.some.injEq, exists_eq_left', true_and, and_true, uBM, uBM0, mAppend, mPop, uCallV, inTab, ixTab, bMax, bSum, cLt, cLe, cGt, cGe, uAddL, startU, uOr, uAnd, uNot, uTru, uTest, uCB, uCons, uVar, uC, uNil, uOp, uUn, uChain, uI0, uI, uAndV, uOrV, uNotV, uIf, uTup, uLst, mkL, uCall, bIsi2, bLen, bAll, bInt1, bInt2, bList, bTuple, vw_non, vw_bl, vw_int, vw_str, vw_tup, vw_lst, vw_own, mup_same, mup_mup, typU, uEqS, uNeS, uIsN, uNotN, isNon, uAdd, uIx, uSlX, uNoPart, uPart, inSt, uIter, uRng1, uRng2, List.map_cons, List.map_nil, List.length_cons, List.length_nil, List.cons_append, List.nil_append, List.replicate, List.getElem?_cons_zero, List.getElem?_cons_succ, List.set_cons_zero, List.set_cons_succ, List.append_nil, Nat.reduceAdd, Nat.reduceSub, Nat.sub_self, Nat.add_sub_cancel, Bool.not_false, Bool.not_true, if_true, if_false, Bool.false_eq_true, reduceCtorEq, decide_true, decide_false, isi_NoneType_bool, isi_NoneType_int, isi_NoneType_str, isi_NoneType_tuple, isi_NoneType_list, isi_NoneType_dict, isi_bool_bool, isi_bool_int, isi_bool_str, isi_bool_tuple, isi_bool_list, isi_bool_dict, isi_int_bool, isi_int_int, isi_int_str, isi_int_tuple, isi_int_list, isi_int_dict, isi_str_bool, isi_str_int, isi_str_str, isi_str_tuple, isi_str_list, isi_str_dict, isi_tuple_bool, isi_tuple_int, isi_tuple_str, isi_tuple_tuple, isi_tuple_list, isi_tuple_dict, isi_list_bool, isi_list_int, isi_list_str, isi_list_tuple, isi_list_list, isi_list_dict, isi_dict_bool, isi_dict_int, isi_dict_str, isi_dict_tuple, isi_dict_list, isi_dict_dict, uMul, bInt, mPopAt, uEnumL, szl, Nat.reduceLeDiff, Option.getD_some, uZipL, uListRev, uRev, uSetFrom, bSorted, uRepL]
      exact rt_same q
    | turn x =>
      have hda : x.dep ≤ n := by simp only [Pt.dep] at hd; omega
      simp only [uIfS, Pt.toU, in3, fl, fl2, ww, Bool.or_false, eqX_int, eqX_str, capt, uLtX, uIn, items, uEnum, uZip, mExtend, mClear, at0, at1, at2, at3, Option.some.injEq, exists_eq_left', true_and, and_true, uBM, uBM0, mAppend, mPop, uCallV, inTab, ixTab, bMax, bSum, cLt, cLe, cGt, cGe, uAddL, startU, uOr, uAnd, uNot, uTru, uTest, uCB, uCons, uVar, uC, uNil, uOp, uUn, uChain, uI0, uI, uAndV, uOrV, uNotV, uIf, uTup, uLst, mkL, uCall, bIsi2, bLen, bAll, bInt1, bInt2, bList, bTuple, vw_non, vw_bl, vw_int, vw_str, vw_tup, vw_lst, vw_own, mup_same, mup_mup, typU, uEqS, uNeS, uIsN, uNotN, isNon, uAdd, uIx, uSlX, uNoPart, uPart, inSt, uIter, uRng1, uRng2, List.map_cons, List.map_nil, List.length_cons, List.length_nil, List.cons_append, List.nil_append, List.replicate, List.getElem?_cons_zero, List.getElem?_cons_succ, List.set_cons_zero, List.set_cons_succ, List.append_nil, Nat.reduceAdd, Nat.reduceSub, Nat.sub_self, Nat.add_sub_cancel, Bool.not_false, Bool.not_true, if_true, if_false, Bool.false_eq_true, reduceCtorEq, decide_true, decide_false, isi_NoneType_bool, isi_NoneType_int, isi_NoneType_str, isi_NoneType_tuple, isi_NoneType_list, isi_NoneType_dict, isi_bool_bool, isi_bool_int, isi_bool_str, isi_bool_tuple, isi_bool_list, isi_bool_dict, isi_int_bool, isi_int_int, isi_int_str, isi_int_tuple, isi_int_list, isi_int_dict, isi_str_bool, isi_str_int, isi_str_str, isi_str_tuple, isi_str_list, isi_str_dict, isi_tuple_bool, isi_tuple_int, isi_tuple_str, isi_tuple_tuple, isi_tuple_list, isi_tuple_dict, isi_list_bool, isi_list_int, isi_list_str, isi_list_tuple, isi_list_list, isi_list_dict, isi_dict_bool, isi_dict_int, isi_dict_str, isi_dict_tuple, isi_dict_list, isi_dict_dict, uMul, bInt, mPopAt, uEnumL, szl, Nat.reduceLeDiff, Option.getD_some, uZipL, uListRev, uRev, uSetFrom, bSorted, uRepL]
      refine for_by (S := ⟨none, [x.toU]⟩) (M1 := mup M p (.lst ((addC acc (.turn x)).map Pt.toU))) (fun R r => by simp only [cut1, eqX_int, eqX_str, capt, uLtX, uIn, items, uEnum, uZip, mExtend, mClear, at0, at1, at2, at3, Option.some.injEq, exists_eq_left', true_and, and_true, uBM, uBM0, mAppend, mPop, uCallV, inTab, ixTab, bMax, bSum, cLt, cLe, cGt, cGe, uAddL, startU, uOr, uAnd, uNot, uTru, uTest, uCB, uCons, uVar, uC, uNil, uOp, uUn, uChain, uI0, uI, uAndV, uOrV, uNotV, uIf, uTup, uLst, mkL, uCall, bIsi2, bLen, bAll, bInt1, bInt2, bList, bTuple, vw_non, vw_bl, vw_int, vw_str, vw_tup, vw_lst, vw_own, mup_same, mup_mup, typU, uEqS, uNeS, uIsN, uNotN, isNon, uAdd, uIx, uSlX, uNoPart, uPart, inSt, uIter, uRng1, uRng2, List.map_cons, List.map_nil, List.length_cons, List.length_nil, List.cons_append, List.nil_append, List.replicate, List.getElem?_cons_zero, List.getElem?_cons_succ, List.set_cons_zero, List.set_cons_succ, List.append_nil, Nat.reduceAdd, Nat.reduceSub, Nat.sub_self, Nat.add_sub_cancel, Bool.not_false, Bool.not_true, if_true, if_false, Bool.false_eq_true, reduceCtorEq, decide_true, decide_false, isi_NoneType_bool, isi_NoneType_int, isi_NoneType_str, isi_NoneType_tuple, isi_NoneType_list, isi_NoneType_dict, isi_bool_bool, isi_bool_int, isi_bool_str, isi_bool_tuple, isi_bool_list, isi_bool_dict, isi_int_bool, isi_int_int, isi_int_str, isi_int_tuple, isi_int_list, isi_int_dict, isi_str_bool, isi_str_int, isi_str_str, isi_str_tuple, isi_str_list, isi_str_dict, isi_tuple_bool, isi_tuple_int, isi_tuple_str, isi_tuple_tuple, isi_tuple_list, isi_tuple_dict, isi_list_bool, isi_list_int, isi_list_str, isi_list_tuple, isi_list_list, isi_list_dict, isi_dict_bool, isi_dict_int, isi_dict_str, isi_dict_tuple, isi_dict_list, isi_dict_dict, uMul, bInt, mPopAt, uEnumL, szl, Nat.reduceLeDiff, Option.getD_some, uZipL, uListRev, uRev, uSetFrom, bSorted, uRepL]; exact r)
        (fun i τ Mi => ∃ z : Option U, τ = [some (Pt.turn x).toU, some (.ref p), z] ∧ Mi = mup M p (.lst ((if i = 0 then addC acc (.turn x) else (preP x).foldl addC (addC acc (.turn x))).map Pt.toU))) ⟨none, rfl, rfl⟩ (fun i τ M' _ a e => by cases e) ?_ ?_
      · rintro i u τ Mi e ⟨z, rfl, rfl⟩
        match i, e with
        | 0, e =>
          cases e
          simp only [uDrop, hName, eqX_int, eqX_str, capt, uLtX, uIn, items, uEnum, uZip, mExtend, mClear, at0, at1, at2, at3, Option.some.injEq, exists_eq_left', true_and, and_true, uBM, uBM0, mAppend, mPop, uCallV, inTab, ixTab, bMax, bSum, cLt, cLe, cGt, cGe, uAddL, startU, uOr, uAnd, uNot, uTru, uTest, uCB, uCons, uVar, uC, uNil, uOp, uUn, uChain, uI0, uI, uAndV, uOrV, uNotV, uIf, uTup, uLst, mkL, uCall, bIsi2, bLen, bAll, bInt1, bInt2, bList, bTuple, vw_non, vw_bl, vw_int, vw_str, vw_tup, vw_lst, vw_own, mup_same, mup_mup, typU, uEqS, uNeS, uIsN, uNotN, isNon, uAdd, uIx, uSlX, uNoPart, uPart, inSt, uIter, uRng1, uRng2, List.map_cons, List.map_nil, List.length_cons, List.length_nil, List.cons_append, List.nil_append, List.replicate, List.getElem?_cons_zero, List.getElem?_cons_succ, List.set_cons_zero, List.set_cons_succ, List.append_nil, Nat.reduceAdd, Nat.reduceSub, Nat.sub_self, Nat.add_sub_cancel, Bool.not_false, Bool.not_true, if_true, if_false, Bool.false_eq_true, reduceCtorEq, decide_true, decide_false, isi_NoneType_bool, isi_NoneType_int, isi_NoneType_str, isi_NoneType_tuple, isi_NoneType_list, isi_NoneType_dict, isi_bool_bool, isi_bool_int, isi_bool_str, isi_bool_tuple, isi_bool_list, isi_bool_dict, isi_int_bool, isi_int_int, isi_int_str, isi_int_tuple, isi_int_list, isi_int_dict, isi_str_bool, isi_str_int, isi_str_str, isi_str_tuple, isi_str_list, isi_str_dict, isi_tuple_bool, isi_tuple_int, isi_tuple_str, isi_tuple_tuple, isi_tuple_list, isi_tuple_dict, isi_list_bool, isi_list_int, isi_list_str, isi_list_tuple, isi_list_list, isi_list_dict, isi_dict_bool, isi_dict_int, isi_dict_str, isi_dict_tuple, isi_dict_list, isi_dict_dict, uMul, bInt, mPopAt, uEnumL, szl, Nat.reduceLeDiff, Option.getD_some, uZipL, uListRev, uRev, uSetFrom, bSorted, uRepL]
          refine ⟨x, p, addC acc (.turn x), rfl, hda, by omega, hqo, mup_same, hac, by omega, ?_⟩
          rw [mup_mup]
          exact ⟨_, rfl, rfl⟩
        | i + 1, e => cases e
      · rintro τ Mi ⟨z, rfl, rfl⟩
        exact rt_same q
    | two o x y =>
      have hda : x.dep ≤ n ∧ y.dep ≤ n := by simp only [Pt.dep] at hd; omega
      have hf1 := fold_fine (preP x) _ hac fun v hv => by have := pre_fine x hqo.1 v hv; exact ⟨this.1, by omega⟩
      have hl1 := fold_len (preP x) (addC acc (.two o x y))
      have hl2 := pre_len4 (p := x) (by omega)
      simp only [uIfS, Pt.toU, in3, fl, fl2, ww, Bool.or_false, eqX_int, eqX_str, capt, uLtX, uIn, items, uEnum, uZip, mExtend, mClear, at0, at1, at2, at3, Option.some.injEq, exists_eq_left', true_and, and_true, uBM, uBM0, mAppend, mPop, uCallV, inTab, ixTab, bMax, bSum, cLt, cLe, cGt, cGe, uAddL, startU, uOr, uAnd, uNot, uTru, uTest, uCB, uCons, uVar, uC, uNil, uOp, uUn, uChain, uI0, uI, uAndV, uOrV, uNotV, uIf, uTup, uLst, mkL, uCall, bIsi2, bLen, bAll, bInt1, bInt2, bList, bTuple, vw_non, vw_bl, vw_int, vw_str, vw_tup, vw_lst, vw_own, mup_same, mup_mup, typU, uEqS, uNeS, uIsN, uNotN, isNon, uAdd, uIx, uSlX, uNoPart, uPart, inSt, uIter, uRng1, uRng2, List.map_cons, List.map_nil, List.length_cons, List.length_nil, List.cons_append, List.nil_append, List.replicate, List.getElem?_cons_zero, List.getElem?_cons_succ, List.set_cons_zero, List.set_cons_succ, List.append_nil, Nat.reduceAdd, Nat.reduceSub, Nat.sub_self, Nat.add_sub_cancel, Bool.not_false, Bool.not_true, if_true, if_false, Bool.false_eq_true, reduceCtorEq, decide_true, decide_false, isi_NoneType_bool, isi_NoneType_int, isi_NoneType_str, isi_NoneType_tuple, isi_NoneType_list, isi_NoneType_dict, isi_bool_bool, isi_bool_int, isi_bool_str, isi_bool_tuple, isi_bool_list, isi_bool_dict, isi_int_bool, isi_int_int, isi_int_str, isi_int_tuple, isi_int_list, isi_int_dict, isi_str_bool, isi_str_int, isi_str_str, isi_str_tuple, isi_str_list, isi_str_dict, isi_tuple_bool, isi_tuple_int, isi_tuple_str, isi_tuple_tuple, isi_tuple_list, isi_tuple_dict, isi_list_bool, isi_list_int, isi_list_str, isi_list_tuple, isi_list_list, isi_list_dict, isi_dict_bool, isi_dict_int, isi_dict_str, isi_dict_tuple, isi_dict_list, isi_dict_dict, uMul, bInt, mPopAt, uEnumL, szl, Nat.reduceLeDiff, Option.getD_some, uZipL, uListRev, uRev, uSetFrom, bSorted, uRepL]
      refine for_by (S := ⟨none, [x.toU, y.toU]⟩) (M1 := mup M p (.lst ((addC acc (.two o x y)).map Pt.toU))) (fun R r => by simp only [cut1, eqX_int, eqX_str, capt, uLtX, uIn, items, uEnum, uZip, mExtend, mClear, at0, at1, at2, at3, Option.some.injEq, exists_eq_left', true_and, and_true, uBM, uBM0, mAppend, mPop, uCallV, inTab, ixTab, bMax, bSum, cLt, cLe, cGt, cGe, uAddL, startU, uOr, uAnd, uNot, uTru, uTest, uCB, uCons, uVar, uC, uNil, uOp, uUn, uChain, uI0, uI, uAndV, uOrV, uNotV, uIf, uTup, uLst, mkL, uCall, bIsi2, bLen, bAll, bInt1, bInt2, bList, bTuple, vw_non, vw_bl, vw_int, vw_str, vw_tup, vw_lst, vw_own, mup_same, mup_mup, typU, uEqS, uNeS, uIsN, uNotN, isNon, uAdd, uIx, uSlX, uNoPart, uPart, inSt, uIter, uRng1, uRng2, List.map_cons, List.map_nil, List.length_cons, List.length_nil, List.cons_append, List.nil_append, List.replicate, List.getElem?_cons_zero, List.getElem?_cons_succ, List.set_cons_zero, List.set_cons_succ, List.append_nil, Nat.reduceAdd, Nat.reduceSub, Nat.sub_self, Nat.add_sub_cancel, Bool.not_false, Bool.not_true, if_true, if_false, Bool.false_eq_true, reduceCtorEq, decide_true, decide_false, isi_NoneType_bool, isi_NoneType_int, isi_NoneType_str, isi_NoneType_tuple, isi_NoneType_list, isi_NoneType_dict, isi_bool_bool, isi_bool_int, isi_bool_str, isi_bool_tuple, isi_bool_list, isi_bool_dict, isi_int_bool, isi_int_int, isi_int_str, isi_int_tuple, isi_int_list, isi_int_dict, isi_str_bool, isi_str_int, isi_str_str, isi_str_tuple, isi_str_list, isi_str_dict, isi_tuple_bool, isi_tuple_int, isi_tuple_str, isi_tuple_tuple, isi_tuple_list, isi_tuple_dict, isi_list_bool, isi_list_int, isi_list_str, isi_list_tuple, isi_list_list, isi_list_dict, isi_dict_bool, isi_dict_int, isi_dict_str, isi_dict_tuple, isi_dict_list, isi_dict_dict, uMul, bInt, mPopAt, uEnumL, szl, Nat.reduceLeDiff, Option.getD_some, uZipL, uListRev, uRev, uSetFrom, bSorted, uRepL]; exact r)
        (fun i τ Mi => ∃ z : Option U, τ = [some (Pt.two o x y).toU, some (.ref p), z] ∧ Mi = mup M p (.lst ((if i = 0 then addC acc (.two o x y) else if i = 1 then (preP x).foldl addC (addC acc (.two o x y)) else (preP y).foldl addC ((preP x).foldl addC (addC acc (.two o x y)))).map Pt.toU))) ⟨none, rfl, rfl⟩ (fun i τ M' _ a e => by cases e) ?_ ?_
      · rintro i u τ Mi e ⟨z, rfl, rfl⟩
        match i, e with
        | 0, e =>
          cases e
          simp only [uDrop, hName, eqX_int, eqX_str, capt, uLtX, uIn, items, uEnum, uZip, mExtend, mClear, at0, at1, at2, at3, Option.some.injEq, exists_eq_left', true_and, and_true, uBM, uBM0, mAppend, mPop, uCallV, inTab, ixTab, bMax, bSum, cLt, cLe, cGt, cGe, uAddL, startU, uOr, uAnd, uNot, uTru, uTest, uCB, uCons, uVar, uC, uNil, uOp, uUn, uChain, uI0, uI, uAndV, uOrV, uNotV, uIf, uTup, uLst, mkL, uCall, bIsi2, bLen, bAll, bInt1, bInt2, bList, bTuple, vw_non, vw_bl, vw_int, vw_str, vw_tup, vw_lst, vw_own, mup_same, mup_mup, typU, uEqS, uNeS, uIsN, uNotN, isNon, uAdd, uIx, uSlX, uNoPart, uPart, inSt, uIter, uRng1, uRng2, List.map_cons, List.map_nil, List.length_cons, List.length_nil, List.cons_append, List.nil_append, List.replicate, List.getElem?_cons_zero, List.getElem?_cons_succ, List.set_cons_zero, List.set_cons_succ, List.append_nil, Nat.reduceAdd, Nat.reduceSub, Nat.sub_self, Nat.add_sub_cancel, Bool.not_false, Bool.not_true, if_true, if_false, Bool.false_eq_true, reduceCtorEq, decide_true, decide_false, isi_NoneType_bool, isi_NoneType_int, isi_NoneType_str, isi_NoneType_tuple, isi_NoneType_list, isi_NoneType_dict, isi_bool_bool, isi_bool_int, isi_bool_str, isi_bool_tuple, isi_bool_list, isi_bool_dict, isi_int_bool, isi_int_int, isi_int_str, isi_int_tuple, isi_int_list, isi_int_dict, isi_str_bool, isi_str_int, isi_str_str, isi_str_tuple, isi_str_list, isi_str_dict, isi_tuple_bool, isi_tuple_int, isi_tuple_str, isi_tuple_tuple, isi_tuple_list, isi_tuple_dict, isi_list_bool, isi_list_int, isi_list_str, isi_list_tuple, isi_list_list, isi_list_dict, isi_dict_bool, isi_dict_int, isi_dict_str, isi_dict_tuple, isi_dict_list, isi_dict_dict, uMul, bInt, mPopAt, uEnumL, szl, Nat.reduceLeDiff, Option.getD_some, uZipL, uListRev, uRev, uSetFrom, bSorted, uRepL]
          refine ⟨x, p, addC acc (.two o x y), rfl, hda.1, by omega, hqo.1, mup_same, hac, by omega, ?_⟩
          rw [mup_mup]
          exact ⟨_, rfl, rfl⟩
        | 1, e =>
          cases e
          simp only [uDrop, hName, eqX_int, eqX_str, capt, uLtX, uIn, items, uEnum, uZip, mExtend, mClear, at0, at1, at2, at3, Option.some.injEq, exists_eq_left', true_and, and_true, uBM, uBM0, mAppend, mPop, uCallV, inTab, ixTab, bMax, bSum, cLt, cLe, cGt, cGe, uAddL, startU, uOr, uAnd, uNot, uTru, uTest, uCB, uCons, uVar, uC, uNil, uOp, uUn, uChain, uI0, uI, uAndV, uOrV, uNotV, uIf, uTup, uLst, mkL, uCall, bIsi2, bLen, bAll, bInt1, bInt2, bList, bTuple, vw_non, vw_bl, vw_int, vw_str, vw_tup, vw_lst, vw_own, mup_same, mup_mup, typU, uEqS, uNeS, uIsN, uNotN, isNon, uAdd, uIx, uSlX, uNoPart, uPart, inSt, uIter, uRng1, uRng2, List.map_cons, List.map_nil, List.length_cons, List.length_nil, List.cons_append, List.nil_append, List.replicate, List.getElem?_cons_zero, List.getElem?_cons_succ, List.set_cons_zero, List.set_cons_succ, List.append_nil, Nat.reduceAdd, Nat.reduceSub, Nat.sub_self, Nat.add_sub_cancel, Bool.not_false, Bool.not_true, if_true, if_false, Bool.false_eq_true, reduceCtorEq, decide_true, decide_false, isi_NoneType_bool, isi_NoneType_int, isi_NoneType_str, isi_NoneType_tuple, isi_NoneType_list, isi_NoneType_dict, isi_bool_bool, isi_bool_int, isi_bool_str, isi_bool_tuple, isi_bool_list, isi_bool_dict, isi_int_bool, isi_int_int, isi_int_str, isi_int_tuple, isi_int_list, isi_int_dict, isi_str_bool, isi_str_int, isi_str_str, isi_str_tuple, isi_str_list, isi_str_dict, isi_tuple_bool, isi_tuple_int, isi_tuple_str, isi_tuple_tuple, isi_tuple_list, isi_tuple_dict, isi_list_bool, isi_list_int, isi_list_str, isi_list_tuple, isi_list_list, isi_list_dict, isi_dict_bool, isi_dict_int, isi_dict_str, isi_dict_tuple, isi_dict_list, isi_dict_dict, uMul, bInt, mPopAt, uEnumL, szl, Nat.reduceLeDiff, Option.getD_some, uZipL, uListRev, uRev, uSetFrom, bSorted, uRepL]
          refine ⟨y, p, (preP x).foldl addC (addC acc (.two o x y)), rfl, hda.2, by omega, hqo.2, mup_same, hf1, by omega, ?_⟩
          rw [mup_mup]
          exact ⟨_, rfl, rfl⟩
        | i + 2, e => cases e
      · rintro τ Mi ⟨z, rfl, rfl⟩
        have q' := q
        simp only [preP, List.foldl_cons, List.foldl_append] at q'
        exact rt_same q'
  obtain ⟨z, rr, ez, hz⟩ := hole_head q0
  refine if_gen fun A B hA hB => ?_
  have hb : addC acc q0 = acc → B (mup M p (.lst (acc.map Pt.toU))) := fun hh => by
    subst hB
    rw [hh] at tail
    exact tail
  simp only [startU, eqX_int, eqX_str, capt, uLtX, uIn, items, uEnum, uZip, mExtend, mClear, at0, at1, at2, at3, Option.some.injEq, exists_eq_left', true_and, and_true, uBM, uBM0, mAppend, mPop, uCallV, inTab, ixTab, bMax, bSum, cLt, cLe, cGt, cGe, uAddL, startU, uOr, uAnd, uNot, uTru, uTest, uCB, uCons, uVar, uC, uNil, uOp, uUn, uChain, uI0, uI, uAndV, uOrV, uNotV, uIf, uTup, uLst, mkL, uCall, bIsi2, bLen, bAll, bInt1, bInt2, bList, bTuple, vw_non, vw_bl, vw_int, vw_str, vw_tup, vw_lst, vw_own, mup_same, mup_mup, typU, uEqS, uNeS, uIsN, uNotN, isNon, uAdd, uIx, uSlX, uNoPart, uPart, inSt, uIter, uRng1, uRng2, List.map_cons, List.map_nil, List.length_cons, List.length_nil, List.cons_append, List.nil_append, List.replicate, List.getElem?_cons_zero, List.getElem?_cons_succ, List.set_cons_zero, List.set_cons_succ, List.append_nil, Nat.reduceAdd, Nat.reduceSub, Nat.sub_self, Nat.add_sub_cancel, Bool.not_false, Bool.not_true, if_true, if_false, Bool.false_eq_true, reduceCtorEq, decide_true, decide_false, isi_NoneType_bool, isi_NoneType_int, isi_NoneType_str, isi_NoneType_tuple, isi_NoneType_list, isi_NoneType_dict, isi_bool_bool, isi_bool_int, isi_bool_str, isi_bool_tuple, isi_bool_list, isi_bool_dict, isi_int_bool, isi_int_int, isi_int_str, isi_int_tuple, isi_int_list, isi_int_dict, isi_str_bool, isi_str_int, isi_str_str, isi_str_tuple, isi_str_list, isi_str_dict, isi_tuple_bool, isi_tuple_int, isi_tuple_str, isi_tuple_tuple, isi_tuple_list, isi_tuple_dict, isi_list_bool, isi_list_int, isi_list_str, isi_list_tuple, isi_list_list, isi_list_dict, isi_dict_bool, isi_dict_int, isi_dict_str, isi_dict_tuple, isi_dict_list, isi_dict_dict, uMul, bInt, mPopAt, uEnumL, szl, Nat.reduceLeDiff, Option.getD_some, uZipL, uListRev, uRev, uSetFrom, bSorted, uRepL]
  rw [ez]
  simp only [hz, eqX_int, eqX_str, capt, uLtX, uIn, items, uEnum, uZip, mExtend, mClear, at0, at1, at2, at3, Option.some.injEq, exists_eq_left', true_and, and_true, uBM, uBM0, mAppend, mPop, uCallV, inTab, ixTab, bMax, bSum, cLt, cLe, cGt, cGe, uAddL, startU, uOr, uAnd, uNot, uTru, uTest, uCB, uCons, uVar, uC, uNil, uOp, uUn, uChain, uI0, uI, uAndV, uOrV, uNotV, uIf, uTup, uLst, mkL, uCall, bIsi2, bLen, bAll, bInt1, bInt2, bList, bTuple, vw_non, vw_bl, vw_int, vw_str, vw_tup, vw_lst, vw_own, mup_same, mup_mup, typU, uEqS, uNeS, uIsN, uNotN, isNon, uAdd, uIx, uSlX, uNoPart, uPart, inSt, uIter, uRng1, uRng2, List.map_cons, List.map_nil, List.length_cons, List.length_nil, List.cons_append, List.nil_append, List.replicate, List.getElem?_cons_zero, List.getElem?_cons_succ, List.set_cons_zero, List.set_cons_succ, List.append_nil, Nat.reduceAdd, Nat.reduceSub, Nat.sub_self, Nat.add_sub_cancel, Bool.not_false, Bool.not_true, if_true, if_false, Bool.false_eq_true, reduceCtorEq, decide_true, decide_false, isi_NoneType_bool, isi_NoneType_int, isi_NoneType_str, isi_NoneType_tuple, isi_NoneType_list, isi_NoneType_dict, isi_bool_bool, isi_bool_int, isi_bool_str, isi_bool_tuple, isi_bool_list, isi_bool_dict, isi_int_bool, isi_int_int, isi_int_str, isi_int_tuple, isi_int_list, isi_int_dict, isi_str_bool, isi_str_int, isi_str_str, isi_str_tuple, isi_str_list, isi_str_dict, isi_tuple_bool, isi_tuple_int, isi_tuple_str, isi_tuple_tuple, isi_tuple_list, isi_tuple_dict, isi_list_bool, isi_list_int, isi_list_str, isi_list_tuple, isi_list_list, isi_list_dict, isi_dict_bool, isi_dict_int, isi_dict_str, isi_dict_tuple, isi_dict_list, isi_dict_dict, uMul, bInt, mPopAt, uEnumL, szl, Nat.reduceLeDiff, Option.getD_some, uZipL, uListRev, uRev, uSetFrom, bSorted, uRepL]
  cases hh : q0.isHole with
  | true => exact hb (addC_hole hh)
  | false =>
    simp only [Bool.not_false, if_true]
    rw [← ez]
    refine notIn_P (cs := []) (acc := acc) (q := q0) (by rw [mup_same]; rfl) (fun s h => by cases h) hacc hqf ?_
    cases hk : acc.any (fun e => PyData.eqv (datP e) (datP q0)) with
    | true => exact hb (addC_in hh hk)
    | false =>
      simp only [Bool.not_false, if_true]
      subst hA
      simp only [uDrop, eqX_int, eqX_str, capt, uLtX, uIn, items, uEnum, uZip, mExtend, mClear, at0, at1, at2, at3, Option.some.injEq, exists_eq_left', true_and, and_true, uBM, uBM0, mAppend, mPop, uCallV, inTab, ixTab, bMax, bSum, cLt, cLe, cGt, cGe, uAddL, startU, uOr, uAnd, uNot, uTru, uTest, uCB, uCons, uVar, uC, uNil, uOp, uUn, uChain, uI0, uI, uAndV, uOrV, uNotV, uIf, uTup, uLst, mkL, uCall, bIsi2, bLen, bAll, bInt1, bInt2, bList, bTuple, vw_non, vw_bl, vw_int, vw_str, vw_tup, vw_lst, vw_own, mup_same, mup_mup, typU, uEqS, uNeS, uIsN, uNotN, isNon, uAdd, uIx, uSlX, uNoPart, uPart, inSt, uIter, uRng1, uRng2, List.map_cons, List.map_nil, List.length_cons, List.length_nil, List.cons_append, List.nil_append, List.replicate, List.getElem?_cons_zero, List.getElem?_cons_succ, List.set_cons_zero, List.set_cons_succ, List.append_nil, Nat.reduceAdd, Nat.reduceSub, Nat.sub_self, Nat.add_sub_cancel, Bool.not_false, Bool.not_true, if_true, if_false, Bool.false_eq_true, reduceCtorEq, decide_true, decide_false, isi_NoneType_bool, isi_NoneType_int, isi_NoneType_str, isi_NoneType_tuple, isi_NoneType_list, isi_NoneType_dict, isi_bool_bool, isi_bool_int, isi_bool_str, isi_bool_tuple, isi_bool_list, isi_bool_dict, isi_int_bool, isi_int_int, isi_int_str, isi_int_tuple, isi_int_list, isi_int_dict, isi_str_bool, isi_str_int, isi_str_str, isi_str_tuple, isi_str_list, isi_str_dict, isi_tuple_bool, isi_tuple_int, isi_tuple_str, isi_tuple_tuple, isi_tuple_list, isi_tuple_dict, isi_list_bool, isi_list_int, isi_list_str, isi_list_tuple, isi_list_list, isi_list_dict, isi_dict_bool, isi_dict_int, isi_dict_str, isi_dict_tuple, isi_dict_list, isi_dict_dict, uMul, bInt, mPopAt, uEnumL, szl, Nat.reduceLeDiff, Option.getD_some, uZipL, uListRev, uRev, uSetFrom, bSorted, uRepL]
      refine ⟨isL_own, big (by rw [List.length_map]; omega), ?_⟩
      rw [addC_new hh hk] at tail
      have em : acc.map Pt.toU ++ [q0.toU] = (acc ++ [q0]).map Pt.toU := by simp
      rw [em]
      exact tail
theorem below_all (F : Fun K "_law_below" "_law_below" s_law_below f fd) (hm : mg "_law_below" = some (.ref f)) : ∀ n, Callee P w K mg base (n + 1) "_law_below" (spBelow n) []
  | 0 => by
    have no : ∀ us M Q, ¬ spBelow 0 us M Q := fun us M Q h => by
      obtain ⟨p, _, _, _, h, _⟩ := h
      have := pdep_pos p
      omega
    refine ⟨f, fd, ["part", "found"], [], [], ⟨fun vs H Q E h => ?_, fun A outer s H args us vs Q E _ _ _ _ h => ?_⟩, hm, F.kp, F.binds (fun _ _ _ _ _ _ us hl => match us, hl with | [_, _], _ => rfl), .nil, fun H M => .nil⟩
    · obtain ⟨us, M, Q', _, _, h, _⟩ := h; exact absurd h (no us M Q')
    · obtain ⟨us, M, Q', _, _, h, _⟩ := h; exact absurd h (no us M Q')
  | n + 1 => ok_below F hm (below_all F hm n)

end
end K54

set_option linter.all false
set_option maxRecDepth 100000
namespace K54
open PySem L2 U2
section
variable {P : Program} {w : World} {K : PySem.W.Frag} {mg : Str → Option Value} {base : Heap} {f d d2 fl : Addr} {fd : FuncData}

structure Tl where
  name : Str
  k : Tk
def Tl.toU (t : Tl) : U := .tup [.str t.name, .str t.k.cls, t.k.pt.toU, .int t.k.cost]
theorem vw_tl {M : MHp} {t : Tl} : view M t.toU = .tup [.str t.name, .str t.k.cls, t.k.pt.toU, .int t.k.cost] := rfl
def tabU (cs : List Str) (tls : List Tl) : U := .tup [sortsU cs, .tup (tls.map Tl.toU)]
theorem vw_tab {M : MHp} {cs : List Str} {tls : List Tl} : view M (tabU cs tls) = .tup [sortsU cs, .tup (tls.map Tl.toU)] := rfl
def tailP (t : Tl) : List Pt := (preP t.k.pt).tail
def partsF (tls : List Tl) : List Pt := (tls.flatMap tailP).foldl addC []
structure Tab (cs : List Str) (tls : List Tl) : Prop where
  cls : Cls cs
  good : ∀ t ∈ tls, t.k.good
  len : tls.length ≤ 39
theorem tail_fine {cs : List Str} {tls : List Tl} (h : Tab cs tls) : ∀ t ∈ tls, ∀ q ∈ preP t.k.pt, fineP q := fun t ht q hq => by
  have := pre_fine t.k.pt (h.good t ht).1 q hq
  have h2 := (h.good t ht).2
  exact ⟨this.1, by omega⟩
theorem tail_len {cs : List Str} {tls : List Tl} (h : Tab cs tls) {t : Tl} (ht : t ∈ tls) : (tailP t).length ≤ 16 := by
  have := pre_len4 (h.good t ht).2
  rw [tailP, List.length_tail]; omega
theorem flat_len {cs : List Str} : ∀ {tls : List Tl}, (∀ t ∈ tls, t.k.good) → (tls.flatMap tailP).length ≤ 16 * tls.length
  | [], _ => by simp
  | t :: tls, h => by
    have h1 := flat_len (cs := cs) (tls := tls) fun x hx => h x (List.mem_cons_of_mem _ hx)
    have h2 := pre_len4 (h t List.mem_cons_self).2
    have h3 : (tailP t).length ≤ 16 := by rw [tailP, List.length_tail]; omega
    rw [List.flatMap_cons, List.length_append, List.length_cons]; omega
theorem flat_fine {cs : List Str} {tls : List Tl} (h : Tab cs tls) (i : Nat) : ∀ q ∈ (tls.take i).flatMap tailP, fineP q := fun q hq => by
  obtain ⟨t, ht, hq⟩ := List.mem_flatMap.mp hq
  exact tail_fine h t (List.mem_of_mem_take ht) q (List.mem_of_mem_tail hq)
theorem acc_ok {cs : List Str} {tls : List Tl} (h : Tab cs tls) (i : Nat) : (∀ q ∈ ((tls.take i).flatMap tailP).foldl addC [], fineP q) ∧ (((tls.take i).flatMap tailP).foldl addC []).length ≤ 640 := by
  refine ⟨fold_fine _ _ (fun p hp => by cases hp) (flat_fine h i), ?_⟩
  have h1 := fold_len ((tls.take i).flatMap tailP) []
  have h2 := flat_len (cs := cs) (tls := tls.take i) fun t ht => h.good t (List.mem_of_mem_take ht)
  have h3 : (tls.take i).length ≤ 39 := by have := h.len; rw [List.length_take]; omega
  simp only [List.length_nil] at h1
  omega
theorem acc_next {tls : List Tl} {i : Nat} {t : Tl} (e : tls[i]? = some t) : ((tls.take (i + 1)).flatMap tailP).foldl addC [] = (tailP t).foldl addC (((tls.take i).flatMap tailP).foldl addC []) := by
  rw [List.take_add_one, e]
  simp [List.flatMap_append, List.foldl_append]
def spParts : USp := fun us M Q => ∃ (cs : List Str) (tls : List Tl), us = [tabU cs tls] ∧ Tab cs tls ∧ Q (.lst ((partsF tls).map Pt.toU)) M
set_option maxHeartbeats 2000000 in
theorem ok_parts (F : Fun K "_law_parts" "_law_parts" s_law_parts f fd) (hm : mg "_law_parts" = some (.ref f)) (C_law_below : Callee P w K mg base 5 "_law_below" (spBelow 4) []) : Callee P w K mg base 6 "_law_parts" spParts [] := by
  refine callee_of F hm sc_law_parts (fun _ _ _ _ _ _ us hl => match us, hl with | [_], _ => rfl) (fun us M Q h => by obtain ⟨_, _, rfl, _⟩ := h; rfl) (uss_cons (us_set 1 sc_law_parts.nd (ue_lst (own := true) ua_nil))
  (uss_cons (us_for (ui_seq (ue_ix (uv 0) un_)) (ug_name (k := 1000) 2 sc_law_parts.nd)
  (uss_one (us_if (ut_c k_notIn (ue_ix (ue_ix (uv 2) un_) un_) (ue_tup (ua_cons us_ (ua_cons us_ (ua_cons us_ ua_nil)))))
  (uss_one (us_for (ui_seq (ue_slX (own := false) (ue_ix (uv 2) un_) (uo_some un_) uo_none)) (ug_name (k := 1000) 3 sc_law_parts.nd)
  (uss_one (us_expr (ue_call C_law_below (ua_cons (uv 3) (ua_cons (uv 1) ua_nil)))))))
  uss_nil)))
  (uss_one (us_ret (uv 1))))) ?_
  rintro us M Q ⟨cs, tls, rfl, hT, q⟩
  have fl : ∀ z : Str, flatU (.str z) = true := fun _ => rfl
  have fl2 : [U.str (Str.ofString "at"), U.str (Str.ofString "any"), U.str (Str.ofString "from")].all flatU = true := rfl
  refine seq_gen fun V hV => ?_
  simp only [uAsg, hName, startU, eqX_int, eqX_str, capt, uLtX, uIn, items, uEnum, uZip, mExtend, mClear, at0, at1, at2, at3, Option.some.injEq, exists_eq_left', true_and, and_true, uBM, uBM0, mAppend, mPop, uCallV, inTab, ixTab, bMax, bSum, cLt, cLe, cGt, cGe, uAddL, startU, uOr, uAnd, uNot, uTru, uTest, uCB, uCons, uVar, uC, uNil, uOp, uUn, uChain, uI0, uI, uAndV, uOrV, uNotV, uIf, uTup, uLst, mkL, uCall, bIsi2, bLen, bAll, bInt1, bInt2, bList, bTuple, vw_non, vw_bl, vw_int, vw_str, vw_tup, vw_lst, vw_own, mup_same, mup_mup, typU, uEqS, uNeS, uIsN, uNotN, isNon, uAdd, uIx, uSlX, uNoPart, uPart, inSt, uIter, uRng1, uRng2, List.map_cons, List.map_nil, List.length_cons, List.length_nil, List.cons_append, List.nil_append, List.replicate, List.getElem?_cons_zero, List.getElem?_cons_succ, List.set_cons_zero, List.set_cons_succ, List.append_nil, Nat.reduceAdd, Nat.reduceSub, Nat.sub_self, Nat.add_sub_cancel, Bool.not_false, Bool.not_true, if_true, if_false, Bool.false_eq_true, reduceCtorEq, decide_true, decide_false, isi_NoneType_bool, isi_NoneType_int, isi_NoneType_str, isi_NoneType_tuple, isi_NoneType_list, isi_NoneType_dict, isi_bool_bool, isi_bool_int, isi_bool_str, isi_bool_tuple, isi_bool_list, isi_bool_dict, isi_int_bool, isi_int_int, isi_int_str, isi_int_tuple, isi_int_list, isi_int_dict, isi_str_bool, isi_str_int, isi_str_str, isi_str_tuple, isi_str_list, isi_str_dict, isi_tuple_bool, isi_tuple_int, isi_tuple_str, isi_tuple_tuple, isi_tuple_list, isi_tuple_dict, isi_list_bool, isi_list_int, isi_list_str, isi_list_tuple, isi_list_list, isi_list_dict, isi_dict_bool, isi_dict_int, isi_dict_str, isi_dict_tuple, isi_dict_list, isi_dict_dict, uMul, bInt, mPopAt, uEnumL, szl, Nat.reduceLeDiff, Option.getD_some, uZipL, uListRev, uRev, uSetFrom, bSorted, uRepL]
  intro p hp
  subst hV
  refine seq_gen fun V hV => ?_
  refine for_by (S := ⟨none, tls.map Tl.toU⟩) (M1 := mup M p (.lst [])) (fun R r => by simp only [vw_tab, eqX_int, eqX_str, capt, uLtX, uIn, items, uEnum, uZip, mExtend, mClear, at0, at1, at2, at3, Option.some.injEq, exists_eq_left', true_and, and_true, uBM, uBM0, mAppend, mPop, uCallV, inTab, ixTab, bMax, bSum, cLt, cLe, cGt, cGe, uAddL, startU, uOr, uAnd, uNot, uTru, uTest, uCB, uCons, uVar, uC, uNil, uOp, uUn, uChain, uI0, uI, uAndV, uOrV, uNotV, uIf, uTup, uLst, mkL, uCall, bIsi2, bLen, bAll, bInt1, bInt2, bList, bTuple, vw_non, vw_bl, vw_int, vw_str, vw_tup, vw_lst, vw_own, mup_same, mup_mup, typU, uEqS, uNeS, uIsN, uNotN, isNon, uAdd, uIx, uSlX, uNoPart, uPart, inSt, uIter, uRng1, uRng2, List.map_cons, List.map_nil, List.length_cons, List.length_nil, List.cons_append, List.nil_append, List.replicate, List.getElem?_cons_zero, List.getElem?_cons_succ, List.set_cons_zero, List.set_cons_succ, List.append_nil, Nat.reduceAdd, Nat.reduceSub, Nat.sub_self, Nat.add_sub_cancel, Bool.not_false, Bool.not_true, if_true, if_false, Bool.false_eq_true, reduceCtorEq, decide_true, decide_false, isi_NoneType_bool, isi_NoneType_int, isi_NoneType_str, isi_NoneType_tuple, isi_NoneType_list, isi_NoneType_dict, isi_bool_bool, isi_bool_int, isi_bool_str, isi_bool_tuple, isi_bool_list, isi_bool_dict, isi_int_bool, isi_int_int, isi_int_str, isi_int_tuple, isi_int_list, isi_int_dict, isi_str_bool, isi_str_int, isi_str_str, isi_str_tuple, isi_str_list, isi_str_dict, isi_tuple_bool, isi_tuple_int, isi_tuple_str, isi_tuple_tuple, isi_tuple_list, isi_tuple_dict, isi_list_bool, isi_list_int, isi_list_str, isi_list_tuple, isi_list_list, isi_list_dict, isi_dict_bool, isi_dict_int, isi_dict_str, isi_dict_tuple, isi_dict_list, isi_dict_dict, uMul, bInt, mPopAt, uEnumL, szl, Nat.reduceLeDiff, Option.getD_some, uZipL, uListRev, uRev, uSetFrom, bSorted, uRepL]; exact r)
    (fun i τ Mi => ∃ z2 z3 : Option U, τ = [some (tabU cs tls), some (.ref p), z2, z3] ∧ Mi = mup M p (.lst ((((tls.take i).flatMap tailP).foldl addC []).map Pt.toU))) ⟨none, none, rfl, rfl⟩ (fun i τ M' _ a e => by cases e) ?_ ?_
  · rintro i x τ Mi e ⟨z2, z3, rfl, rfl⟩
    have e' : (tls.map Tl.toU)[i]? = some x := e
    rw [List.getElem?_map] at e'
    cases ht : tls[i]? with
    | none => rw [ht] at e'; cases e'
    | some t =>
      rw [ht] at e'
      cases e'
      obtain ⟨hg1, hg2⟩ := hT.good t (List.mem_of_getElem? ht)
      obtain ⟨ha1, ha2⟩ := acc_ok hT i
      rw [acc_next ht]
      generalize ((tls.take i).flatMap tailP).foldl addC [] = acc at *
      obtain ⟨nm, cl, pt, co⟩ := t
      cases pt with
      | hole c =>
        simp only [hName, uIfS, uNext, vw_tl, Pt.toU, in3, fl, fl2, ww, Bool.true_or, Bool.or_true, eqX_int, eqX_str, capt, uLtX, uIn, items, uEnum, uZip, mExtend, mClear, at0, at1, at2, at3, Option.some.injEq, exists_eq_left', true_and, and_true, uBM, uBM0, mAppend, mPop, uCallV, inTab, ixTab, bMax, bSum, cLt, cLe, cGt, cGe, uAddL, startU, uOr, uAnd, uNot, uTru, uTest, uCB, uCons, uVar, uC, uNil, uOp, uUn, uChain, uI0, uI, uAndV, uOrV, uNotV, uIf, uTup, uLst, mkL, uCall, bIsi2, bLen, bAll, bInt1, bInt2, bList, bTuple, vw_non, vw_bl, vw_int, vw_str, vw_tup, vw_lst, vw_own, mup_same, mup_mup, typU, uEqS, uNeS, uIsN, uNotN, isNon, uAdd, uIx, uSlX, uNoPart, uPart, inSt, uIter, uRng1, uRng2, List.map_cons, List.map_nil, List.length_cons, List.length_nil, List.cons_append, List.nil_append, List.replicate, List.getElem?_cons_zero, List.getElem?_cons_succ, List.set_cons_zero, List.set_cons_succ, List.append_nil, Nat.reduceAdd, Nat.reduceSub, Nat.sub_self, Nat.add_sub_cancel, Bool.not_false, Bool.not_true, if_true, if_false, Bool.false_eq_true, reduceCtorEq, decide_true, decide_false, isi_NoneType_bool, isi_NoneType_int, isi_NoneType_str, isi_NoneType_tuple, isi_NoneType_list, isi_NoneType_dict, isi_bool_bool, isi_bool_int, isi_bool_str, isi_bool_tuple, isi_bool_list, isi_bool_dict, isi_int_bool, isi_int_int, isi_int_str, isi_int_tuple, isi_int_list, isi_int_dict, isi_str_bool, isi_str_int, isi_str_str, isi_str_tuple, isi_str_list, isi_str_dict, isi_tuple_bool, isi_tuple_int, isi_tuple_str, isi_tuple_tuple, isi_tuple_list, isi_tuple_dict, isi_list_bool, isi_list_int, isi_list_str, isi_list_tuple, isi_list_list, isi_list_dict, isi_dict_bool, isi_dict_int, isi_dict_str, isi_dict_tuple, isi_dict_list, isi_dict_dict, uMul, bInt, mPopAt, uEnumL, szl, Nat.reduceLeDiff, Option.getD_some, uZipL, uListRev, uRev, uSetFrom, bSorted, uRepL]
        exact ⟨_, _, rfl, rfl⟩
      | any =>
        simp only [hName, uIfS, uNext, vw_tl, Pt.toU, in3, fl, fl2, ww, Bool.true_or, Bool.or_true, eqX_int, eqX_str, capt, uLtX, uIn, items, uEnum, uZip, mExtend, mClear, at0, at1, at2, at3, Option.some.injEq, exists_eq_left', true_and, and_true, uBM, uBM0, mAppend, mPop, uCallV, inTab, ixTab, bMax, bSum, cLt, cLe, cGt, cGe, uAddL, startU, uOr, uAnd, uNot, uTru, uTest, uCB, uCons, uVar, uC, uNil, uOp, uUn, uChain, uI0, uI, uAndV, uOrV, uNotV, uIf, uTup, uLst, mkL, uCall, bIsi2, bLen, bAll, bInt1, bInt2, bList, bTuple, vw_non, vw_bl, vw_int, vw_str, vw_tup, vw_lst, vw_own, mup_same, mup_mup, typU, uEqS, uNeS, uIsN, uNotN, isNon, uAdd, uIx, uSlX, uNoPart, uPart, inSt, uIter, uRng1, uRng2, List.map_cons, List.map_nil, List.length_cons, List.length_nil, List.cons_append, List.nil_append, List.replicate, List.getElem?_cons_zero, List.getElem?_cons_succ, List.set_cons_zero, List.set_cons_succ, List.append_nil, Nat.reduceAdd, Nat.reduceSub, Nat.sub_self, Nat.add_sub_cancel, Bool.not_false, Bool.not_true, if_true, if_false, Bool.false_eq_true, reduceCtorEq, decide_true, decide_false, isi_NoneType_bool, isi_NoneType_int, isi_NoneType_str, isi_NoneType_tuple, isi_NoneType_list, isi_NoneType_dict, isi_bool_bool, isi_bool_int, isi_bool_str, isi_bool_tuple, isi_bool_list, isi_bool_dict, isi_int_bool, isi_int_int, isi_int_str, isi_int_tuple, isi_int_list, isi_int_dict, isi_str_bool, isi_str_int, isi_str_str, isi_str_tuple, isi_str_list, isi_str_dict, isi_tuple_bool, isi_tuple_int, isi_tuple_str, isi_tuple_tuple, isi_tuple_list, isi_tuple_dict, isi_list_bool, isi_list_int, isi_list_str, isi_list_tuple, isi_list_list, isi_list_dict, isi_dict_bool, isi_dict_int, isi_dict_str, isi_dict_tuple, isi_dict_list, isi_dict_dict, uMul, bInt, mPopAt, uEnumL, szl, Nat.reduceLeDiff, Option.getD_some, uZipL, uListRev, uRev, uSetFrom, bSorted, uRepL]
        exact ⟨_, _, rfl, rfl⟩
      | fr l h =>
        simp only [hName, uIfS, uNext, vw_tl, Pt.toU, in3, fl, fl2, ww, Bool.true_or, Bool.or_true, eqX_int, eqX_str, capt, uLtX, uIn, items, uEnum, uZip, mExtend, mClear, at0, at1, at2, at3, Option.some.injEq, exists_eq_left', true_and, and_true, uBM, uBM0, mAppend, mPop, uCallV, inTab, ixTab, bMax, bSum, cLt, cLe, cGt, cGe, uAddL, startU, uOr, uAnd, uNot, uTru, uTest, uCB, uCons, uVar, uC, uNil, uOp, uUn, uChain, uI0, uI, uAndV, uOrV, uNotV, uIf, uTup, uLst, mkL, uCall, bIsi2, bLen, bAll, bInt1, bInt2, bList, bTuple, vw_non, vw_bl, vw_int, vw_str, vw_tup, vw_lst, vw_own, mup_same, mup_mup, typU, uEqS, uNeS, uIsN, uNotN, isNon, uAdd, uIx, uSlX, uNoPart, uPart, inSt, uIter, uRng1, uRng2, List.map_cons, List.map_nil, List.length_cons, List.length_nil, List.cons_append, List.nil_append, List.replicate, List.getElem?_cons_zero, List.getElem?_cons_succ, List.set_cons_zero, List.set_cons_succ, List.append_nil, Nat.reduceAdd, Nat.reduceSub, Nat.sub_self, Nat.add_sub_cancel, Bool.not_false, Bool.not_true, if_true, if_false, Bool.false_eq_true, reduceCtorEq, decide_true, decide_false, isi_NoneType_bool, isi_NoneType_int, isi_NoneType_str, isi_NoneType_tuple, isi_NoneType_list, isi_NoneType_dict, isi_bool_bool, isi_bool_int, isi_bool_str, isi_bool_tuple, isi_bool_list, isi_bool_dict, isi_int_bool, isi_int_int, isi_int_str, isi_int_tuple, isi_int_list, isi_int_dict, isi_str_bool, isi_str_int, isi_str_str, isi_str_tuple, isi_str_list, isi_str_dict, isi_tuple_bool, isi_tuple_int, isi_tuple_str, isi_tuple_tuple, isi_tuple_list, isi_tuple_dict, isi_list_bool, isi_list_int, isi_list_str, isi_list_tuple, isi_list_list, isi_list_dict, isi_dict_bool, isi_dict_int, isi_dict_str, isi_dict_tuple, isi_dict_list, isi_dict_dict, uMul, bInt, mPopAt, uEnumL, szl, Nat.reduceLeDiff, Option.getD_some, uZipL, uListRev, uRev, uSetFrom, bSorted, uRepL]
        exact ⟨_, _, rfl, rfl⟩
      | turn x =>
        have hd : x.dep ≤ 4 := by have h := hg2; simp only [Pt.dep] at h; omega
        simp only [hName, uIfS, vw_tl, Pt.toU, in3, fl, fl2, ww, Bool.or_false, eqX_int, eqX_str, capt, uLtX, uIn, items, uEnum, uZip, mExtend, mClear, at0, at1, at2, at3, Option.some.injEq, exists_eq_left', true_and, and_true, uBM, uBM0, mAppend, mPop, uCallV, inTab, ixTab, bMax, bSum, cLt, cLe, cGt, cGe, uAddL, startU, uOr, uAnd, uNot, uTru, uTest, uCB, uCons, uVar, uC, uNil, uOp, uUn, uChain, uI0, uI, uAndV, uOrV, uNotV, uIf, uTup, uLst, mkL, uCall, bIsi2, bLen, bAll, bInt1, bInt2, bList, bTuple, vw_non, vw_bl, vw_int, vw_str, vw_tup, vw_lst, vw_own, mup_same, mup_mup, typU, uEqS, uNeS, uIsN, uNotN, isNon, uAdd, uIx, uSlX, uNoPart, uPart, inSt, uIter, uRng1, uRng2, List.map_cons, List.map_nil, List.length_cons, List.length_nil, List.cons_append, List.nil_append, List.replicate, List.getElem?_cons_zero, List.getElem?_cons_succ, List.set_cons_zero, List.set_cons_succ, List.append_nil, Nat.reduceAdd, Nat.reduceSub, Nat.sub_self, Nat.add_sub_cancel, Bool.not_false, Bool.not_true, if_true, if_false, Bool.false_eq_true, reduceCtorEq, decide_true, decide_false, isi_NoneType_bool, isi_NoneType_int, isi_NoneType_str, isi_NoneType_tuple, isi_NoneType_list, isi_NoneType_dict, isi_bool_bool, isi_bool_int, isi_bool_str, isi_bool_tuple, isi_bool_list, isi_bool_dict, isi_int_bool, isi_int_int, isi_int_str, isi_int_tuple, isi_int_list, isi_int_dict, isi_str_bool, isi_str_int, isi_str_str, isi_str_tuple, isi_str_list, isi_str_dict, isi_tuple_bool, isi_tuple_int, isi_tuple_str, isi_tuple_tuple, isi_tuple_list, isi_tuple_dict, isi_list_bool, isi_list_int, isi_list_str, isi_list_tuple, isi_list_list, isi_list_dict, isi_dict_bool, isi_dict_int, isi_dict_str, isi_dict_tuple, isi_dict_list, isi_dict_dict, uMul, bInt, mPopAt, uEnumL, szl, Nat.reduceLeDiff, Option.getD_some, uZipL, uListRev, uRev, uSetFrom, bSorted, uRepL]
        refine for_by (S := ⟨none, [x.toU]⟩) (M1 := mup M p (.lst (acc.map Pt.toU))) (fun R r => by simp only [vw_tl, Pt.toU, cut1, eqX_int, eqX_str, capt, uLtX, uIn, items, uEnum, uZip, mExtend, mClear, at0, at1, at2, at3, Option.some.injEq, exists_eq_left', true_and, and_true, uBM, uBM0, mAppend, mPop, uCallV, inTab, ixTab, bMax, bSum, cLt, cLe, cGt, cGe, uAddL, startU, uOr, uAnd, uNot, uTru, uTest, uCB, uCons, uVar, uC, uNil, uOp, uUn, uChain, uI0, uI, uAndV, uOrV, uNotV, uIf, uTup, uLst, mkL, uCall, bIsi2, bLen, bAll, bInt1, bInt2, bList, bTuple, vw_non, vw_bl, vw_int, vw_str, vw_tup, vw_lst, vw_own, mup_same, mup_mup, typU, uEqS, uNeS, uIsN, uNotN, isNon, uAdd, uIx, uSlX, uNoPart, uPart, inSt, uIter, uRng1, uRng2, List.map_cons, List.map_nil, List.length_cons, List.length_nil, List.cons_append, List.nil_append, List.replicate, List.getElem?_cons_zero, List.getElem?_cons_succ, List.set_cons_zero, List.set_cons_succ, List.append_nil, Nat.reduceAdd, Nat.reduceSub, Nat.sub_self, Nat.add_sub_cancel, Bool.not_false, Bool.not_true, if_true, if_false, Bool.false_eq_true, reduceCtorEq, decide_true, decide_false, isi_NoneType_bool, isi_NoneType_int, isi_NoneType_str, isi_NoneType_tuple, isi_NoneType_list, isi_NoneType_dict, isi_bool_bool, isi_bool_int, isi_bool_str, isi_bool_tuple, isi_bool_list, isi_bool_dict, isi_int_bool, isi_int_int, isi_int_str, isi_int_tuple, isi_int_list, isi_int_dict, isi_str_bool, isi_str_int, isi_str_str, isi_str_tuple, isi_str_list, isi_str_dict, isi_tuple_bool, isi_tuple_int, isi_tuple_str, isi_tuple_tuple, isi_tuple_list, isi_tuple_dict, isi_list_bool, isi_list_int, isi_list_str, isi_list_tuple, isi_list_list, isi_list_dict, isi_dict_bool, isi_dict_int, isi_dict_str, isi_dict_tuple, isi_dict_list, isi_dict_dict, uMul, bInt, mPopAt, uEnumL, szl, Nat.reduceLeDiff, Option.getD_some, uZipL, uListRev, uRev, uSetFrom, bSorted, uRepL]; exact r)
          (fun j τ Mi => ∃ z : Option U, τ = [some (tabU cs tls), some (.ref p), some (Tl.toU ⟨nm, cl, .turn x, co⟩), z] ∧ Mi = mup M p (.lst ((if j = 0 then acc else (preP x).foldl addC acc).map Pt.toU))) ⟨_, rfl, rfl⟩ (fun i τ M' _ a e => by cases e) ?_ ?_
        · rintro j u τ Mi e ⟨z, rfl, rfl⟩
          match j, e with
          | 0, e =>
            cases e
            simp only [uDrop, hName, eqX_int, eqX_str, capt, uLtX, uIn, items, uEnum, uZip, mExtend, mClear, at0, at1, at2, at3, Option.some.injEq, exists_eq_left', true_and, and_true, uBM, uBM0, mAppend, mPop, uCallV, inTab, ixTab, bMax, bSum, cLt, cLe, cGt, cGe, uAddL, startU, uOr, uAnd, uNot, uTru, uTest, uCB, uCons, uVar, uC, uNil, uOp, uUn, uChain, uI0, uI, uAndV, uOrV, uNotV, uIf, uTup, uLst, mkL, uCall, bIsi2, bLen, bAll, bInt1, bInt2, bList, bTuple, vw_non, vw_bl, vw_int, vw_str, vw_tup, vw_lst, vw_own, mup_same, mup_mup, typU, uEqS, uNeS, uIsN, uNotN, isNon, uAdd, uIx, uSlX, uNoPart, uPart, inSt, uIter, uRng1, uRng2, List.map_cons, List.map_nil, List.length_cons, List.length_nil, List.cons_append, List.nil_append, List.replicate, List.getElem?_cons_zero, List.getElem?_cons_succ, List.set_cons_zero, List.set_cons_succ, List.append_nil, Nat.reduceAdd, Nat.reduceSub, Nat.sub_self, Nat.add_sub_cancel, Bool.not_false, Bool.not_true, if_true, if_false, Bool.false_eq_true, reduceCtorEq, decide_true, decide_false, isi_NoneType_bool, isi_NoneType_int, isi_NoneType_str, isi_NoneType_tuple, isi_NoneType_list, isi_NoneType_dict, isi_bool_bool, isi_bool_int, isi_bool_str, isi_bool_tuple, isi_bool_list, isi_bool_dict, isi_int_bool, isi_int_int, isi_int_str, isi_int_tuple, isi_int_list, isi_int_dict, isi_str_bool, isi_str_int, isi_str_str, isi_str_tuple, isi_str_list, isi_str_dict, isi_tuple_bool, isi_tuple_int, isi_tuple_str, isi_tuple_tuple, isi_tuple_list, isi_tuple_dict, isi_list_bool, isi_list_int, isi_list_str, isi_list_tuple, isi_list_list, isi_list_dict, isi_dict_bool, isi_dict_int, isi_dict_str, isi_dict_tuple, isi_dict_list, isi_dict_dict, uMul, bInt, mPopAt, uEnumL, szl, Nat.reduceLeDiff, Option.getD_some, uZipL, uListRev, uRev, uSetFrom, bSorted, uRepL]
            refine ⟨x, p, acc, rfl, hd, by omega, hg1, mup_same, ha1, by omega, ?_⟩
            rw [mup_mup]
            exact ⟨_, rfl, rfl⟩
          | j + 1, e => cases e
        · rintro τ Mi ⟨z, rfl, rfl⟩
          exact ⟨_, _, rfl, rfl⟩
      | two o x y =>
        have hd : x.dep ≤ 4 ∧ y.dep ≤ 4 := by have h := hg2; simp only [Pt.dep] at h; omega
        have hf1 := fold_fine (preP x) _ ha1 fun v hv => by have := pre_fine x hg1.1 v hv; exact ⟨this.1, by omega⟩
        have hl1 := fold_len (preP x) acc
        have hl2 := pre_len4 hd.1
        simp only [hName, uIfS, vw_tl, Pt.toU, in3, fl, fl2, ww, Bool.or_false, eqX_int, eqX_str, capt, uLtX, uIn, items, uEnum, uZip, mExtend, mClear, at0, at1, at2, at3, Option.some.injEq, exists_eq_left', true_and, and_true, uBM, uBM0, mAppend, mPop, uCallV, inTab, ixTab, bMax, bSum, cLt, cLe, cGt, cGe, uAddL, startU, uOr, uAnd, uNot, uTru, uTest, uCB, uCons, uVar, uC, uNil, uOp, uUn, uChain, uI0, uI, uAndV, uOrV, uNotV, uIf, uTup, uLst, mkL, uCall, bIsi2, bLen, bAll, bInt1, bInt2, bList, bTuple, vw_non, vw_bl, vw_int, vw_str, vw_tup, vw_lst, vw_own, mup_same, mup_mup, typU, uEqS, uNeS, uIsN, uNotN, isNon, uAdd, uIx, uSlX, uNoPart, uPart, inSt, uIter, uRng1, uRng2, List.map_cons, List.map_nil, List.length_cons, List.length_nil, List.cons_append, List.nil_append, List.replicate, List.getElem?_cons_zero, List.getElem?_cons_succ, List.set_cons_zero, List.set_cons_succ, List.append_nil, Nat.reduceAdd, Nat.reduceSub, Nat.sub_self, Nat.add_sub_cancel, Bool.not_false, Bool.not_true, if_true, if_false, Bool.false_eq_true, reduceCtorEq, decide_true, decide_false, isi_NoneType_bool, isi_NoneType_int, isi_NoneType_str, isi_NoneType_tuple, isi_NoneType_list, isi_NoneType_dict, isi_bool_bool, isi_bool_int, isi_bool_str, isi_bool_tuple, isi_bool_list, isi_bool_dict, isi_int_bool, isi_int_int, isi_int_str, isi_int_tuple, isi_int_list, isi_int_dict, isi_str_bool, isi_str_int, isi_str_str, isi_str_tuple, isi_str_list, isi_str_dict, isi_tuple_bool, isi_tuple_int, isi_tuple_str, isi_tuple_tuple, isi_tuple_list, isi_tuple_dict, isi_list_bool, isi_list_int, isi_list_str, isi_list_tuple, isi_list_list, isi_list_dict, isi_dict_bool, isi_dict_int, isi_dict_str, isi_dict_tuple, isi_dict_list, isi_dict_dict, uMul, bInt, mPopAt, uEnumL, szl, Nat.reduceLeDiff, Option.getD_some, uZipL, uListRev, uRev, uSetFrom, bSorted, uRepL]
        refine for_by (S := ⟨none, [x.toU, y.toU]⟩) (M1 := mup M p (.lst (acc.map Pt.toU))) (fun R r => by simp only [vw_tl, Pt.toU, cut1, eqX_int, eqX_str, capt, uLtX, uIn, items, uEnum, uZip, mExtend, mClear, at0, at1, at2, at3, Option.some.injEq, exists_eq_left', true_and, and_true, uBM, uBM0, mAppend, mPop, uCallV, inTab, ixTab, bMax, bSum, cLt, cLe, cGt, cGe, uAddL, startU, uOr, uAnd, uNot, uTru, uTest, uCB, uCons, uVar, uC, uNil, uOp, uUn, uChain, uI0, uI, uAndV, uOrV, uNotV, uIf, uTup, uLst, mkL, uCall, bIsi2, bLen, bAll, bInt1, bInt2, bList, bTuple, vw_non, vw_bl, vw_int, vw_str, vw_tup, vw_lst, vw_own, mup_same, mup_mup, typU, uEqS, uNeS, uIsN, uNotN, isNon, uAdd, uIx, uSlX, uNoPart, uPart, inSt, uIter, uRng1, uRng2, List.map_cons, List.map_nil, List.length_cons, List.length_nil, List.cons_append, List.nil_append, List.replicate, List.getElem?_cons_zero, List.getElem?_cons_succ, List.set_cons_zero, List.set_cons_succ, List.append_nil, Nat.reduceAdd, Nat.reduceSub, Nat.sub_self, Nat.add_sub_cancel, Bool.not_false, Bool.not_true, if_true, if_false, Bool.false_eq_true, reduceCtorEq, decide_true, decide_false, isi_NoneType_bool, isi_NoneType_int, isi_NoneType_str, isi_NoneType_tuple, isi_NoneType_list, isi_NoneType_dict, isi_bool_bool, isi_bool_int, isi_bool_str, isi_bool_tuple, isi_bool_list, isi_bool_dict, isi_int_bool, isi_int_int, isi_int_str, isi_int_tuple, isi_int_list, isi_int_dict, isi_str_bool, isi_str_int, isi_str_str, isi_str_tuple, isi_str_list, isi_str_dict, isi_tuple_bool, isi_tuple_int, isi_tuple_str, isi_tuple_tuple, isi_tuple_list, isi_tuple_dict, isi_list_bool, isi_list_int, isi_list_str, isi_list_tuple, isi_list_list, isi_list_dict, isi_dict_bool, isi_dict_int, isi_dict_str, isi_dict_tuple, isi_dict_list, isi_dict_dict, uMul, bInt, mPopAt, uEnumL, szl, Nat.reduceLeDiff, Option.getD_some, uZipL, uListRev, uRev, uSetFrom, bSorted, uRepL]; exact r)
          (fun j τ Mi => ∃ z : Option U, τ = [some (tabU cs tls), some (.ref p), some (Tl.toU ⟨nm, cl, .two o x y, co⟩), z] ∧ Mi = mup M p (.lst ((if j = 0 then acc else if j = 1 then (preP x).foldl addC acc else (preP y).foldl addC ((preP x).foldl addC acc)).map Pt.toU))) ⟨_, rfl, rfl⟩ (fun i τ M' _ a e => by cases e) ?_ ?_
        · rintro j u τ Mi e ⟨z, rfl, rfl⟩
          match j, e with
          | 0, e =>
            cases e
            simp only [uDrop, hName, eqX_int, eqX_str, capt, uLtX, uIn, items, uEnum, uZip, mExtend, mClear, at0, at1, at2, at3, Option.some.injEq, exists_eq_left', true_and, and_true, uBM, uBM0, mAppend, mPop, uCallV, inTab, ixTab, bMax, bSum, cLt, cLe, cGt, cGe, uAddL, startU, uOr, uAnd, uNot, uTru, uTest, uCB, uCons, uVar, uC, uNil, uOp, uUn, uChain, uI0, uI, uAndV, uOrV, uNotV, uIf, uTup, uLst, mkL, uCall, bIsi2, bLen, bAll, bInt1, bInt2, bList, bTuple, vw_non, vw_bl, vw_int, vw_str, vw_tup, vw_lst, vw_own, mup_same, mup_mup, typU, uEqS, uNeS, uIsN, uNotN, isNon, uAdd, uIx, uSlX, uNoPart, uPart, inSt, uIter, uRng1, uRng2, List.map_cons, List.map_nil, List.length_cons, List.length_nil, List.cons_append, List.nil_append, List.replicate, List.getElem?_cons_zero, List.getElem?_cons_succ, List.set_cons_zero, List.set_cons_succ, List.append_nil, Nat.reduceAdd, Nat.reduceSub, Nat.sub_self, Nat.add_sub_cancel, Bool.not_false, Bool.not_true, if_true, if_false, Bool.false_eq_true, reduceCtorEq, decide_true, decide_false, isi_NoneType_bool, isi_NoneType_int, isi_NoneType_str, isi_NoneType_tuple, isi_NoneType_list, isi_NoneType_dict, isi_bool_bool, isi_bool_int, isi_bool_str, isi_bool_tuple, isi_bool_list, isi_bool_dict, isi_int_bool, isi_int_int, isi_int_str, isi_int_tuple, isi_int_list, isi_int_dict, isi_str_bool, isi_str_int, isi_str_str, isi_str_tuple, isi_str_list, isi_str_dict, isi_tuple_bool, isi_tuple_int, isi_tuple_str, isi_tuple_tuple, isi_tuple_list, isi_tuple_dict, isi_list_bool, isi_list_int, isi_list_str, isi_list_tuple, isi_list_list, isi_list_dict, isi_dict_bool, isi_dict_int, isi_dict_str, isi_dict_tuple, isi_dict_list, isi_dict_dict, uMul, bInt, mPopAt, uEnumL, szl, Nat.reduceLeDiff, Option.getD_some, uZipL, uListRev, uRev, uSetFrom, bSorted, uRepL]
            refine ⟨x, p, acc, rfl, hd.1, by omega, hg1.1, mup_same, ha1, by omega, ?_⟩
            rw [mup_mup]
            exact ⟨_, rfl, rfl⟩
          | 1, e =>
            cases e
            simp only [uDrop, hName, eqX_int, eqX_str, capt, uLtX, uIn, items, uEnum, uZip, mExtend, mClear, at0, at1, at2, at3, Option.some.injEq, exists_eq_left', true_and, and_true, uBM, uBM0, mAppend, mPop, uCallV, inTab, ixTab, bMax, bSum, cLt, cLe, cGt, cGe, uAddL, startU, uOr, uAnd, uNot, uTru, uTest, uCB, uCons, uVar, uC, uNil, uOp, uUn, uChain, uI0, uI, uAndV, uOrV, uNotV, uIf, uTup, uLst, mkL, uCall, bIsi2, bLen, bAll, bInt1, bInt2, bList, bTuple, vw_non, vw_bl, vw_int, vw_str, vw_tup, vw_lst, vw_own, mup_same, mup_mup, typU, uEqS, uNeS, uIsN, uNotN, isNon, uAdd, uIx, uSlX, uNoPart, uPart, inSt, uIter, uRng1, uRng2, List.map_cons, List.map_nil, List.length_cons, List.length_nil, List.cons_append, List.nil_append, List.replicate, List.getElem?_cons_zero, List.getElem?_cons_succ, List.set_cons_zero, List.set_cons_succ, List.append_nil, Nat.reduceAdd, Nat.reduceSub, Nat.sub_self, Nat.add_sub_cancel, Bool.not_false, Bool.not_true, if_true, if_false, Bool.false_eq_true, reduceCtorEq, decide_true, decide_false, isi_NoneType_bool, isi_NoneType_int, isi_NoneType_str, isi_NoneType_tuple, isi_NoneType_list, isi_NoneType_dict, isi_bool_bool, isi_bool_int, isi_bool_str, isi_bool_tuple, isi_bool_list, isi_bool_dict, isi_int_bool, isi_int_int, isi_int_str, isi_int_tuple, isi_int_list, isi_int_dict, isi_str_bool, isi_str_int, isi_str_str, isi_str_tuple, isi_str_list, isi_str_dict, isi_tuple_bool, isi_tuple_int, isi_tuple_str, isi_tuple_tuple, isi_tuple_list, isi_tuple_dict, isi_list_bool, isi_list_int, isi_list_str, isi_list_tuple, isi_list_list, isi_list_dict, isi_dict_bool, isi_dict_int, isi_dict_str, isi_dict_tuple, isi_dict_list, isi_dict_dict, uMul, bInt, mPopAt, uEnumL, szl, Nat.reduceLeDiff, Option.getD_some, uZipL, uListRev, uRev, uSetFrom, bSorted, uRepL]
            refine ⟨y, p, (preP x).foldl addC acc, rfl, hd.2, by omega, hg1.2, mup_same, hf1, by omega, ?_⟩
            rw [mup_mup]
            exact ⟨_, rfl, rfl⟩
          | j + 2, e => cases e
        · rintro τ Mi ⟨z, rfl, rfl⟩
          refine ⟨_, _, rfl, ?_⟩
          simp only [tailP, preP, List.tail_cons, List.foldl_append]; rfl
  · rintro τ Mi ⟨z2, z3, rfl, rfl⟩
    have hl2 : tls.take (Src.mk none (tls.map Tl.toU)).xs.length = tls := by
      show tls.take (tls.map Tl.toU).length = tls
      rw [List.length_map]; exact List.take_length
    rw [hl2]
    subst hV
    simp only [uRet, eqX_int, eqX_str, capt, uLtX, uIn, items, uEnum, uZip, mExtend, mClear, at0, at1, at2, at3, Option.some.injEq, exists_eq_left', true_and, and_true, uBM, uBM0, mAppend, mPop, uCallV, inTab, ixTab, bMax, bSum, cLt, cLe, cGt, cGe, uAddL, startU, uOr, uAnd, uNot, uTru, uTest, uCB, uCons, uVar, uC, uNil, uOp, uUn, uChain, uI0, uI, uAndV, uOrV, uNotV, uIf, uTup, uLst, mkL, uCall, bIsi2, bLen, bAll, bInt1, bInt2, bList, bTuple, vw_non, vw_bl, vw_int, vw_str, vw_tup, vw_lst, vw_own, mup_same, mup_mup, typU, uEqS, uNeS, uIsN, uNotN, isNon, uAdd, uIx, uSlX, uNoPart, uPart, inSt, uIter, uRng1, uRng2, List.map_cons, List.map_nil, List.length_cons, List.length_nil, List.cons_append, List.nil_append, List.replicate, List.getElem?_cons_zero, List.getElem?_cons_succ, List.set_cons_zero, List.set_cons_succ, List.append_nil, Nat.reduceAdd, Nat.reduceSub, Nat.sub_self, Nat.add_sub_cancel, Bool.not_false, Bool.not_true, if_true, if_false, Bool.false_eq_true, reduceCtorEq, decide_true, decide_false, isi_NoneType_bool, isi_NoneType_int, isi_NoneType_str, isi_NoneType_tuple, isi_NoneType_list, isi_NoneType_dict, isi_bool_bool, isi_bool_int, isi_bool_str, isi_bool_tuple, isi_bool_list, isi_bool_dict, isi_int_bool, isi_int_int, isi_int_str, isi_int_tuple, isi_int_list, isi_int_dict, isi_str_bool, isi_str_int, isi_str_str, isi_str_tuple, isi_str_list, isi_str_dict, isi_tuple_bool, isi_tuple_int, isi_tuple_str, isi_tuple_tuple, isi_tuple_list, isi_tuple_dict, isi_list_bool, isi_list_int, isi_list_str, isi_list_tuple, isi_list_list, isi_list_dict, isi_dict_bool, isi_dict_int, isi_dict_str, isi_dict_tuple, isi_dict_list, isi_dict_dict, uMul, bInt, mPopAt, uEnumL, szl, Nat.reduceLeDiff, Option.getD_some, uZipL, uListRev, uRev, uSetFrom, bSorted, uRepL]
    exact ⟨_, M, (Sub.refl M).mup hp, .inr ⟨p, _, rfl, mup_same, hp, rfl⟩, q⟩
theorem sub_snd : ∀ (p : Pt) (pl : List Nat), (subsP p pl).map (·.2) = preP p
  | .turn a, pl => by simp only [subsP, preP, List.map_cons, sub_snd a]
  | .two _ a b, pl => by simp only [subsP, preP, List.map_cons, List.map_append, sub_snd a, sub_snd b]
  | .hole _, pl => rfl
  | .any, pl => rfl
  | .fr _ _, pl => rfl
def spCols : USp := fun us M Q => ∃ (cs : List Str) (tls : List Tl), us = [tabU cs tls] ∧ Tab cs tls ∧ ∀ p, M p = none → Q (.ref p) (mup M p (.lst (cs.map U.str ++ (partsF tls).map Pt.toU)))
set_option maxHeartbeats 2000000 in
theorem ok_columns_of (F : Fun K "columns_of" "columns_of" s_columns_of f fd) (hm : mg "columns_of" = some (.ref f)) (m_list : mg "list" = none) (C_places_of : Callee P w K mg base 7 "places_of" (spPlaces 6) []) (C_shape_at : Callee P w K mg base 2 "shape_at" spAtU []) : Callee P w K mg base 8 "columns_of" spCols [] := by
  refine callee_of F hm sc_columns_of (fun _ _ _ _ _ _ us hl => match us, hl with | [_], _ => rfl) (fun us M Q h => by obtain ⟨_, _, rfl, _⟩ := h; rfl) (uss_cons (us_set 1 sc_columns_of.nd (ue_t (b_list (own := true)) m_list (ua_cons (ue_ix (uv 0) un_) ua_nil)))
  (uss_cons (us_for (ui_seq (ue_ix (uv 0) un_)) (ug_name (k := 1000) 2 sc_columns_of.nd)
  (uss_cons (us_setC 3 sc_columns_of.nd false ["place", "tile"] 1 [2] (ui_seq (ue_slX (own := false) (ue_call C_places_of (ua_cons (ue_ix (uv 2) un_) ua_nil)) (uo_some un_) uo_none)) (ug_name (k := 1) 0 (by dsimp only [compD]; decide +kernel)) uif_nil (ue_call C_shape_at (ua_cons (ue_ix (uv 1) un_) (ua_cons (uv 0) ua_nil))))
  (uss_one (us_for (ui_seq (uv 3)) (ug_name (k := 1000) 4 sc_columns_of.nd)
  (uss_one (us_if (PWU.pt (uw_and (ut_c k_neX (ue_ix (uv 4) un_) us_) (uw_and1 (ut_c k_notInD (uv 4) (uv 1)))))
  (uss_one (us_expr (ue_append (uv 1) (ua_cons (uv 4) ua_nil))))
  uss_nil))))))
  (uss_one (us_ret (uv 1))))) ?_
  rintro us M Q ⟨cs, tls, rfl, hT, q⟩
  refine seq_gen fun V hV => ?_
  simp only [uAsg, hName, startU, vw_tab, sortsU, eqX_int, eqX_str, capt, uLtX, uIn, items, uEnum, uZip, mExtend, mClear, at0, at1, at2, at3, Option.some.injEq, exists_eq_left', true_and, and_true, uBM, uBM0, mAppend, mPop, uCallV, inTab, ixTab, bMax, bSum, cLt, cLe, cGt, cGe, uAddL, startU, uOr, uAnd, uNot, uTru, uTest, uCB, uCons, uVar, uC, uNil, uOp, uUn, uChain, uI0, uI, uAndV, uOrV, uNotV, uIf, uTup, uLst, mkL, uCall, bIsi2, bLen, bAll, bInt1, bInt2, bList, bTuple, vw_non, vw_bl, vw_int, vw_str, vw_tup, vw_lst, vw_own, mup_same, mup_mup, typU, uEqS, uNeS, uIsN, uNotN, isNon, uAdd, uIx, uSlX, uNoPart, uPart, inSt, uIter, uRng1, uRng2, List.map_cons, List.map_nil, List.length_cons, List.length_nil, List.cons_append, List.nil_append, List.replicate, List.getElem?_cons_zero, List.getElem?_cons_succ, List.set_cons_zero, List.set_cons_succ, List.append_nil, Nat.reduceAdd, Nat.reduceSub, Nat.sub_self, Nat.add_sub_cancel, Bool.not_false, Bool.not_true, if_true, if_false, Bool.false_eq_true, reduceCtorEq, decide_true, decide_false, isi_NoneType_bool, isi_NoneType_int, isi_NoneType_str, isi_NoneType_tuple, isi_NoneType_list, isi_NoneType_dict, isi_bool_bool, isi_bool_int, isi_bool_str, isi_bool_tuple, isi_bool_list, isi_bool_dict, isi_int_bool, isi_int_int, isi_int_str, isi_int_tuple, isi_int_list, isi_int_dict, isi_str_bool, isi_str_int, isi_str_str, isi_str_tuple, isi_str_list, isi_str_dict, isi_tuple_bool, isi_tuple_int, isi_tuple_str, isi_tuple_tuple, isi_tuple_list, isi_tuple_dict, isi_list_bool, isi_list_int, isi_list_str, isi_list_tuple, isi_list_list, isi_list_dict, isi_dict_bool, isi_dict_int, isi_dict_str, isi_dict_tuple, isi_dict_list, isi_dict_dict, uMul, bInt, mPopAt, uEnumL, szl, Nat.reduceLeDiff, Option.getD_some, uZipL, uListRev, uRev, uSetFrom, bSorted, uRepL]
  intro p hp
  subst hV
  refine seq_gen fun V hV => ?_
  refine for_by (S := ⟨none, tls.map Tl.toU⟩) (M1 := mup M p (.lst (cs.map U.str))) (fun R r => by simp only [vw_tab, eqX_int, eqX_str, capt, uLtX, uIn, items, uEnum, uZip, mExtend, mClear, at0, at1, at2, at3, Option.some.injEq, exists_eq_left', true_and, and_true, uBM, uBM0, mAppend, mPop, uCallV, inTab, ixTab, bMax, bSum, cLt, cLe, cGt, cGe, uAddL, startU, uOr, uAnd, uNot, uTru, uTest, uCB, uCons, uVar, uC, uNil, uOp, uUn, uChain, uI0, uI, uAndV, uOrV, uNotV, uIf, uTup, uLst, mkL, uCall, bIsi2, bLen, bAll, bInt1, bInt2, bList, bTuple, vw_non, vw_bl, vw_int, vw_str, vw_tup, vw_lst, vw_own, mup_same, mup_mup, typU, uEqS, uNeS, uIsN, uNotN, isNon, uAdd, uIx, uSlX, uNoPart, uPart, inSt, uIter, uRng1, uRng2, List.map_cons, List.map_nil, List.length_cons, List.length_nil, List.cons_append, List.nil_append, List.replicate, List.getElem?_cons_zero, List.getElem?_cons_succ, List.set_cons_zero, List.set_cons_succ, List.append_nil, Nat.reduceAdd, Nat.reduceSub, Nat.sub_self, Nat.add_sub_cancel, Bool.not_false, Bool.not_true, if_true, if_false, Bool.false_eq_true, reduceCtorEq, decide_true, decide_false, isi_NoneType_bool, isi_NoneType_int, isi_NoneType_str, isi_NoneType_tuple, isi_NoneType_list, isi_NoneType_dict, isi_bool_bool, isi_bool_int, isi_bool_str, isi_bool_tuple, isi_bool_list, isi_bool_dict, isi_int_bool, isi_int_int, isi_int_str, isi_int_tuple, isi_int_list, isi_int_dict, isi_str_bool, isi_str_int, isi_str_str, isi_str_tuple, isi_str_list, isi_str_dict, isi_tuple_bool, isi_tuple_int, isi_tuple_str, isi_tuple_tuple, isi_tuple_list, isi_tuple_dict, isi_list_bool, isi_list_int, isi_list_str, isi_list_tuple, isi_list_list, isi_list_dict, isi_dict_bool, isi_dict_int, isi_dict_str, isi_dict_tuple, isi_dict_list, isi_dict_dict, uMul, bInt, mPopAt, uEnumL, szl, Nat.reduceLeDiff, Option.getD_some, uZipL, uListRev, uRev, uSetFrom, bSorted, uRepL]; exact r)
    (fun i τ Mi => ∃ z2 z3 z4 : Option U, τ = [some (tabU cs tls), some (.ref p), z2, z3, z4] ∧ Mi = mup M p (.lst (cs.map U.str ++ (((tls.take i).flatMap tailP).foldl addC []).map Pt.toU))) ⟨none, none, none, rfl, by simp⟩ (fun i τ M' _ a e => by cases e) ?_ ?_
  · rintro i x τ Mi e ⟨z2, z3, z4, rfl, rfl⟩
    have e' : (tls.map Tl.toU)[i]? = some x := e
    rw [List.getElem?_map] at e'
    cases ht : tls[i]? with
    | none => rw [ht] at e'; cases e'
    | some t =>
      rw [ht] at e'
      cases e'
      have htm := List.mem_of_getElem? ht
      obtain ⟨hg1, hg2⟩ := hT.good t htm
      obtain ⟨ha1, ha2⟩ := acc_ok hT i
      have htl := tail_len hT htm
      rw [acc_next ht]
      generalize ((tls.take i).flatMap tailP).foldl addC [] = acc at *
      simp only [hName, eqX_int, eqX_str, capt, uLtX, uIn, items, uEnum, uZip, mExtend, mClear, at0, at1, at2, at3, Option.some.injEq, exists_eq_left', true_and, and_true, uBM, uBM0, mAppend, mPop, uCallV, inTab, ixTab, bMax, bSum, cLt, cLe, cGt, cGe, uAddL, startU, uOr, uAnd, uNot, uTru, uTest, uCB, uCons, uVar, uC, uNil, uOp, uUn, uChain, uI0, uI, uAndV, uOrV, uNotV, uIf, uTup, uLst, mkL, uCall, bIsi2, bLen, bAll, bInt1, bInt2, bList, bTuple, vw_non, vw_bl, vw_int, vw_str, vw_tup, vw_lst, vw_own, mup_same, mup_mup, typU, uEqS, uNeS, uIsN, uNotN, isNon, uAdd, uIx, uSlX, uNoPart, uPart, inSt, uIter, uRng1, uRng2, List.map_cons, List.map_nil, List.length_cons, List.length_nil, List.cons_append, List.nil_append, List.replicate, List.getElem?_cons_zero, List.getElem?_cons_succ, List.set_cons_zero, List.set_cons_succ, List.append_nil, Nat.reduceAdd, Nat.reduceSub, Nat.sub_self, Nat.add_sub_cancel, Bool.not_false, Bool.not_true, if_true, if_false, Bool.false_eq_true, reduceCtorEq, decide_true, decide_false, isi_NoneType_bool, isi_NoneType_int, isi_NoneType_str, isi_NoneType_tuple, isi_NoneType_list, isi_NoneType_dict, isi_bool_bool, isi_bool_int, isi_bool_str, isi_bool_tuple, isi_bool_list, isi_bool_dict, isi_int_bool, isi_int_int, isi_int_str, isi_int_tuple, isi_int_list, isi_int_dict, isi_str_bool, isi_str_int, isi_str_str, isi_str_tuple, isi_str_list, isi_str_dict, isi_tuple_bool, isi_tuple_int, isi_tuple_str, isi_tuple_tuple, isi_tuple_list, isi_tuple_dict, isi_list_bool, isi_list_int, isi_list_str, isi_list_tuple, isi_list_list, isi_list_dict, isi_dict_bool, isi_dict_int, isi_dict_str, isi_dict_tuple, isi_dict_list, isi_dict_dict, uMul, bInt, mPopAt, uEnumL, szl, Nat.reduceLeDiff, Option.getD_some, uZipL, uListRev, uRev, uSetFrom, bSorted, uRepL]
      refine seq_gen fun V1 hV1 => ?_
      simp only [uAsg, hName, eqX_int, eqX_str, capt, uLtX, uIn, items, uEnum, uZip, mExtend, mClear, at0, at1, at2, at3, Option.some.injEq, exists_eq_left', true_and, and_true, uBM, uBM0, mAppend, mPop, uCallV, inTab, ixTab, bMax, bSum, cLt, cLe, cGt, cGe, uAddL, startU, uOr, uAnd, uNot, uTru, uTest, uCB, uCons, uVar, uC, uNil, uOp, uUn, uChain, uI0, uI, uAndV, uOrV, uNotV, uIf, uTup, uLst, mkL, uCall, bIsi2, bLen, bAll, bInt1, bInt2, bList, bTuple, vw_non, vw_bl, vw_int, vw_str, vw_tup, vw_lst, vw_own, mup_same, mup_mup, typU, uEqS, uNeS, uIsN, uNotN, isNon, uAdd, uIx, uSlX, uNoPart, uPart, inSt, uIter, uRng1, uRng2, List.map_cons, List.map_nil, List.length_cons, List.length_nil, List.cons_append, List.nil_append, List.replicate, List.getElem?_cons_zero, List.getElem?_cons_succ, List.set_cons_zero, List.set_cons_succ, List.append_nil, Nat.reduceAdd, Nat.reduceSub, Nat.sub_self, Nat.add_sub_cancel, Bool.not_false, Bool.not_true, if_true, if_false, Bool.false_eq_true, reduceCtorEq, decide_true, decide_false, isi_NoneType_bool, isi_NoneType_int, isi_NoneType_str, isi_NoneType_tuple, isi_NoneType_list, isi_NoneType_dict, isi_bool_bool, isi_bool_int, isi_bool_str, isi_bool_tuple, isi_bool_list, isi_bool_dict, isi_int_bool, isi_int_int, isi_int_str, isi_int_tuple, isi_int_list, isi_int_dict, isi_str_bool, isi_str_int, isi_str_str, isi_str_tuple, isi_str_list, isi_str_dict, isi_tuple_bool, isi_tuple_int, isi_tuple_str, isi_tuple_tuple, isi_tuple_list, isi_tuple_dict, isi_list_bool, isi_list_int, isi_list_str, isi_list_tuple, isi_list_list, isi_list_dict, isi_dict_bool, isi_dict_int, isi_dict_str, isi_dict_tuple, isi_dict_list, isi_dict_dict, uMul, bInt, mPopAt, uEnumL, szl, Nat.reduceLeDiff, Option.getD_some, uZipL, uListRev, uRev, uSetFrom, bSorted, uRepL]
      have hsn := sub_snd t.k.pt []
      have hpl := subs_places t.k.pt []
      have hpe := places_eq t.k.pt
      have hlen : (innerP 0 t.k.pt.parts).length = (tailP t).length := by
        have h1 : (subsP t.k.pt []).length = (preP t.k.pt).length := by rw [← hsn, List.length_map]
        have h2 : (subsP t.k.pt []).length = t.k.pt.places.length := by rw [← List.length_map (f := (·.1)), hpl, List.length_map]
        rw [hpe, List.length_cons] at h2
        rw [tailP, List.length_tail]; omega
      refine uComp_list (S := ⟨none, (innerP 0 t.k.pt.parts).map placeU⟩) (M1 := mup M p (.lst (cs.map U.str ++ acc.map Pt.toU))) ((tailP t).map Pt.toU) (fun R r => ?_) (by show _ = ((innerP 0 t.k.pt.parts).map placeU).length; rw [List.length_map, List.length_map, hlen]) (small (by show ((innerP 0 t.k.pt.parts).map placeU).length ≤ _; rw [List.length_map, hlen]; omega)) (fun a e => by cases e) ?_ ?_
      · simp only [vw_tl, eqX_int, eqX_str, capt, uLtX, uIn, items, uEnum, uZip, mExtend, mClear, at0, at1, at2, at3, Option.some.injEq, exists_eq_left', true_and, and_true, uBM, uBM0, mAppend, mPop, uCallV, inTab, ixTab, bMax, bSum, cLt, cLe, cGt, cGe, uAddL, startU, uOr, uAnd, uNot, uTru, uTest, uCB, uCons, uVar, uC, uNil, uOp, uUn, uChain, uI0, uI, uAndV, uOrV, uNotV, uIf, uTup, uLst, mkL, uCall, bIsi2, bLen, bAll, bInt1, bInt2, bList, bTuple, vw_non, vw_bl, vw_int, vw_str, vw_tup, vw_lst, vw_own, mup_same, mup_mup, typU, uEqS, uNeS, uIsN, uNotN, isNon, uAdd, uIx, uSlX, uNoPart, uPart, inSt, uIter, uRng1, uRng2, List.map_cons, List.map_nil, List.length_cons, List.length_nil, List.cons_append, List.nil_append, List.replicate, List.getElem?_cons_zero, List.getElem?_cons_succ, List.set_cons_zero, List.set_cons_succ, List.append_nil, Nat.reduceAdd, Nat.reduceSub, Nat.sub_self, Nat.add_sub_cancel, Bool.not_false, Bool.not_true, if_true, if_false, Bool.false_eq_true, reduceCtorEq, decide_true, decide_false, isi_NoneType_bool, isi_NoneType_int, isi_NoneType_str, isi_NoneType_tuple, isi_NoneType_list, isi_NoneType_dict, isi_bool_bool, isi_bool_int, isi_bool_str, isi_bool_tuple, isi_bool_list, isi_bool_dict, isi_int_bool, isi_int_int, isi_int_str, isi_int_tuple, isi_int_list, isi_int_dict, isi_str_bool, isi_str_int, isi_str_str, isi_str_tuple, isi_str_list, isi_str_dict, isi_tuple_bool, isi_tuple_int, isi_tuple_str, isi_tuple_tuple, isi_tuple_list, isi_tuple_dict, isi_list_bool, isi_list_int, isi_list_str, isi_list_tuple, isi_list_list, isi_list_dict, isi_dict_bool, isi_dict_int, isi_dict_str, isi_dict_tuple, isi_dict_list, isi_dict_dict, uMul, bInt, mPopAt, uEnumL, szl, Nat.reduceLeDiff, Option.getD_some, uZipL, uListRev, uRev, uSetFrom, bSorted, uRepL]
        refine ⟨t.k.pt, rfl, by omega, by decide, ?_⟩
        rw [hpe, List.map_cons]
        simp only [cut1, eqX_int, eqX_str, capt, uLtX, uIn, items, uEnum, uZip, mExtend, mClear, at0, at1, at2, at3, Option.some.injEq, exists_eq_left', true_and, and_true, uBM, uBM0, mAppend, mPop, uCallV, inTab, ixTab, bMax, bSum, cLt, cLe, cGt, cGe, uAddL, startU, uOr, uAnd, uNot, uTru, uTest, uCB, uCons, uVar, uC, uNil, uOp, uUn, uChain, uI0, uI, uAndV, uOrV, uNotV, uIf, uTup, uLst, mkL, uCall, bIsi2, bLen, bAll, bInt1, bInt2, bList, bTuple, vw_non, vw_bl, vw_int, vw_str, vw_tup, vw_lst, vw_own, mup_same, mup_mup, typU, uEqS, uNeS, uIsN, uNotN, isNon, uAdd, uIx, uSlX, uNoPart, uPart, inSt, uIter, uRng1, uRng2, List.map_cons, List.map_nil, List.length_cons, List.length_nil, List.cons_append, List.nil_append, List.replicate, List.getElem?_cons_zero, List.getElem?_cons_succ, List.set_cons_zero, List.set_cons_succ, List.append_nil, Nat.reduceAdd, Nat.reduceSub, Nat.sub_self, Nat.add_sub_cancel, Bool.not_false, Bool.not_true, if_true, if_false, Bool.false_eq_true, reduceCtorEq, decide_true, decide_false, isi_NoneType_bool, isi_NoneType_int, isi_NoneType_str, isi_NoneType_tuple, isi_NoneType_list, isi_NoneType_dict, isi_bool_bool, isi_bool_int, isi_bool_str, isi_bool_tuple, isi_bool_list, isi_bool_dict, isi_int_bool, isi_int_int, isi_int_str, isi_int_tuple, isi_int_list, isi_int_dict, isi_str_bool, isi_str_int, isi_str_str, isi_str_tuple, isi_str_list, isi_str_dict, isi_tuple_bool, isi_tuple_int, isi_tuple_str, isi_tuple_tuple, isi_tuple_list, isi_tuple_dict, isi_list_bool, isi_list_int, isi_list_str, isi_list_tuple, isi_list_list, isi_list_dict, isi_dict_bool, isi_dict_int, isi_dict_str, isi_dict_tuple, isi_dict_list, isi_dict_dict, uMul, bInt, mPopAt, uEnumL, szl, Nat.reduceLeDiff, Option.getD_some, uZipL, uListRev, uRev, uSetFrom, bSorted, uRepL]
        exact r
      · intro j x y hx hy M' _ R r'
        have hx' : ((innerP 0 t.k.pt.parts).map placeU)[j]? = some x := hx
        rw [List.getElem?_map] at hx'
        rw [List.getElem?_map] at hy
        cases hj : (innerP 0 t.k.pt.parts)[j]? with
        | none => rw [hj] at hx'; cases hx'
        | some pl =>
          cases hy2 : (tailP t)[j]? with
          | none => rw [hy2] at hy; cases hy
          | some qq =>
            rw [hj] at hx'; rw [hy2] at hy
            cases hx'; cases hy
            have hp1 : t.k.pt.places[j + 1]? = some pl := by rw [hpe, List.getElem?_cons_succ]; exact hj
            have hp2 : (preP t.k.pt)[j + 1]? = some qq := by rw [← List.getElem?_tail]; exact hy2
            have hsb : ∃ e, (subsP t.k.pt [])[j + 1]? = some e ∧ e.1 = pl ∧ e.2 = qq := by
              rw [← hsn, List.getElem?_map] at hp2
              cases hs : (subsP t.k.pt [])[j + 1]? with
              | none => rw [hs] at hp2; cases hp2
              | some e =>
                rw [hs] at hp2
                have h3 : ((subsP t.k.pt []).map (·.1))[j + 1]? = some e.1 := by rw [List.getElem?_map, hs]; rfl
                rw [hpl, List.getElem?_map, hp1] at h3
                exact ⟨e, rfl, by simpa using (Option.some.inj h3).symm, Option.some.inj hp2⟩
            obtain ⟨e, he, rfl, rfl⟩ := hsb
            obtain ⟨sx, e1, e2⟩ := subs_at t.k.pt [] e (List.mem_of_getElem? he)
            rw [List.nil_append] at e1
            simp only [vw_tl, eqX_int, eqX_str, capt, hTup, hCons, hNil, uLtX, uIn, items, uEnum, uZip, mExtend, mClear, at0, at1, at2, at3, Option.some.injEq, exists_eq_left', true_and, and_true, uBM, uBM0, mAppend, mPop, uCallV, inTab, ixTab, bMax, bSum, cLt, cLe, cGt, cGe, uAddL, startU, uSeq, uIfS, uOr, uAnd, uNot, uTru, uTest, uCB, uCons, uVar, uC, uNil, uNext, uRet, uRetN, uAsg, hName, uOp, uUn, uChain, uI0, uI, uAndV, uOrV, uNotV, uIf, uTup, uLst, mkL, uDrop, uCall, bIsi2, bLen, bAll, bInt1, bInt2, bList, bTuple, vw_non, vw_bl, vw_int, vw_str, vw_tup, vw_lst, vw_own, mup_same, mup_mup, typU, uEqS, uNeS, uIsN, uNotN, isNon, uAdd, uIx, uSlX, uNoPart, uPart, inSt, uIter, uRng1, uRng2, uBreak, uCont, List.map_cons, List.map_nil, List.length_cons, List.length_nil, List.cons_append, List.nil_append, List.replicate, List.getElem?_cons_zero, List.getElem?_cons_succ, List.set_cons_zero, List.set_cons_succ, List.append_nil, Nat.reduceAdd, Nat.reduceSub, Nat.sub_self, Nat.add_sub_cancel, Bool.not_false, Bool.not_true, if_true, if_false, Bool.false_eq_true, reduceCtorEq, decide_true, decide_false, isi_NoneType_bool, isi_NoneType_int, isi_NoneType_str, isi_NoneType_tuple, isi_NoneType_list, isi_NoneType_dict, isi_bool_bool, isi_bool_int, isi_bool_str, isi_bool_tuple, isi_bool_list, isi_bool_dict, isi_int_bool, isi_int_int, isi_int_str, isi_int_tuple, isi_int_list, isi_int_dict, isi_str_bool, isi_str_int, isi_str_str, isi_str_tuple, isi_str_list, isi_str_dict, isi_tuple_bool, isi_tuple_int, isi_tuple_str, isi_tuple_tuple, isi_tuple_list, isi_tuple_dict, isi_list_bool, isi_list_int, isi_list_str, isi_list_tuple, isi_list_list, isi_list_dict, isi_dict_bool, isi_dict_int, isi_dict_str, isi_dict_tuple, isi_dict_list, isi_dict_dict, uMul, bInt, mPopAt, uSetI, uEnumL, szl, Nat.reduceLeDiff, Option.getD_some, uZipL, uListRev, uRev, uSetFrom, bSorted, uInD, uRepL]
            exact ⟨_, _, e.1, rfl, by rw [e1]; exact e2, r'⟩
      · simp only [mkL]
        subst hV1
        have htf : ∀ q ∈ tailP t, fineP q := fun q hq => tail_fine hT t htm q (List.mem_of_mem_tail hq)
        generalize hq0 : tailP t = ql at *
        refine for_by (S := ⟨none, ql.map Pt.toU⟩) (M1 := mup M p (.lst (cs.map U.str ++ acc.map Pt.toU))) (fun R r => by simp only [eqX_int, eqX_str, capt, uLtX, uIn, items, uEnum, uZip, mExtend, mClear, at0, at1, at2, at3, Option.some.injEq, exists_eq_left', true_and, and_true, uBM, uBM0, mAppend, mPop, uCallV, inTab, ixTab, bMax, bSum, cLt, cLe, cGt, cGe, uAddL, startU, uOr, uAnd, uNot, uTru, uTest, uCB, uCons, uVar, uC, uNil, uOp, uUn, uChain, uI0, uI, uAndV, uOrV, uNotV, uIf, uTup, uLst, mkL, uCall, bIsi2, bLen, bAll, bInt1, bInt2, bList, bTuple, vw_non, vw_bl, vw_int, vw_str, vw_tup, vw_lst, vw_own, mup_same, mup_mup, typU, uEqS, uNeS, uIsN, uNotN, isNon, uAdd, uIx, uSlX, uNoPart, uPart, inSt, uIter, uRng1, uRng2, List.map_cons, List.map_nil, List.length_cons, List.length_nil, List.cons_append, List.nil_append, List.replicate, List.getElem?_cons_zero, List.getElem?_cons_succ, List.set_cons_zero, List.set_cons_succ, List.append_nil, Nat.reduceAdd, Nat.reduceSub, Nat.sub_self, Nat.add_sub_cancel, Bool.not_false, Bool.not_true, if_true, if_false, Bool.false_eq_true, reduceCtorEq, decide_true, decide_false, isi_NoneType_bool, isi_NoneType_int, isi_NoneType_str, isi_NoneType_tuple, isi_NoneType_list, isi_NoneType_dict, isi_bool_bool, isi_bool_int, isi_bool_str, isi_bool_tuple, isi_bool_list, isi_bool_dict, isi_int_bool, isi_int_int, isi_int_str, isi_int_tuple, isi_int_list, isi_int_dict, isi_str_bool, isi_str_int, isi_str_str, isi_str_tuple, isi_str_list, isi_str_dict, isi_tuple_bool, isi_tuple_int, isi_tuple_str, isi_tuple_tuple, isi_tuple_list, isi_tuple_dict, isi_list_bool, isi_list_int, isi_list_str, isi_list_tuple, isi_list_list, isi_list_dict, isi_dict_bool, isi_dict_int, isi_dict_str, isi_dict_tuple, isi_dict_list, isi_dict_dict, uMul, bInt, mPopAt, uEnumL, szl, Nat.reduceLeDiff, Option.getD_some, uZipL, uListRev, uRev, uSetFrom, bSorted, uRepL]; exact r)
          (fun j τ Mi => ∃ z4 : Option U, τ = [some (tabU cs tls), some (.ref p), some t.toU, some (.lst (ql.map Pt.toU)), z4] ∧ Mi = mup M p (.lst (cs.map U.str ++ ((ql.take j).foldl addC acc).map Pt.toU))) ⟨_, rfl, rfl⟩ (fun i τ M' _ a e => by cases e) ?_ ?_
        · rintro j x τ Mi ej ⟨z4, rfl, rfl⟩
          have ej' : (ql.map Pt.toU)[j]? = some x := ej
          rw [List.getElem?_map] at ej'
          cases hj : ql[j]? with
          | none => rw [hj] at ej'; cases ej'
          | some qq =>
            rw [hj] at ej'
            cases ej'
            have hnx : (ql.take (j + 1)).foldl addC acc = addC ((ql.take j).foldl addC acc) qq := by
              rw [List.take_add_one, hj]; simp [List.foldl_append]
            have hqf := htf qq (List.mem_of_getElem? hj)
            have hac := fold_fine (ql.take j) acc ha1 fun q hq => htf q (List.mem_of_mem_take hq)
            have hal := fold_len (ql.take j) acc
            have htk : (ql.take j).length ≤ ql.length := by rw [List.length_take]; omega
            rw [hnx]
            generalize (ql.take j).foldl addC acc = ac at *
            obtain ⟨z, rr, ez, hz⟩ := hole_head qq
            simp only [hName, eqX_int, eqX_str, capt, uLtX, uIn, items, uEnum, uZip, mExtend, mClear, at0, at1, at2, at3, Option.some.injEq, exists_eq_left', true_and, and_true, uBM, uBM0, mAppend, mPop, uCallV, inTab, ixTab, bMax, bSum, cLt, cLe, cGt, cGe, uAddL, startU, uOr, uAnd, uNot, uTru, uTest, uCB, uCons, uVar, uC, uNil, uOp, uUn, uChain, uI0, uI, uAndV, uOrV, uNotV, uIf, uTup, uLst, mkL, uCall, bIsi2, bLen, bAll, bInt1, bInt2, bList, bTuple, vw_non, vw_bl, vw_int, vw_str, vw_tup, vw_lst, vw_own, mup_same, mup_mup, typU, uEqS, uNeS, uIsN, uNotN, isNon, uAdd, uIx, uSlX, uNoPart, uPart, inSt, uIter, uRng1, uRng2, List.map_cons, List.map_nil, List.length_cons, List.length_nil, List.cons_append, List.nil_append, List.replicate, List.getElem?_cons_zero, List.getElem?_cons_succ, List.set_cons_zero, List.set_cons_succ, List.append_nil, Nat.reduceAdd, Nat.reduceSub, Nat.sub_self, Nat.add_sub_cancel, Bool.not_false, Bool.not_true, if_true, if_false, Bool.false_eq_true, reduceCtorEq, decide_true, decide_false, isi_NoneType_bool, isi_NoneType_int, isi_NoneType_str, isi_NoneType_tuple, isi_NoneType_list, isi_NoneType_dict, isi_bool_bool, isi_bool_int, isi_bool_str, isi_bool_tuple, isi_bool_list, isi_bool_dict, isi_int_bool, isi_int_int, isi_int_str, isi_int_tuple, isi_int_list, isi_int_dict, isi_str_bool, isi_str_int, isi_str_str, isi_str_tuple, isi_str_list, isi_str_dict, isi_tuple_bool, isi_tuple_int, isi_tuple_str, isi_tuple_tuple, isi_tuple_list, isi_tuple_dict, isi_list_bool, isi_list_int, isi_list_str, isi_list_tuple, isi_list_list, isi_list_dict, isi_dict_bool, isi_dict_int, isi_dict_str, isi_dict_tuple, isi_dict_list, isi_dict_dict, uMul, bInt, mPopAt, uEnumL, szl, Nat.reduceLeDiff, Option.getD_some, uZipL, uListRev, uRev, uSetFrom, bSorted, uRepL]
            refine if_gen fun A B hA hB => ?_
            have hb : addC ac qq = ac → B (mup M p (.lst (cs.map U.str ++ ac.map Pt.toU))) := fun hh => by
              subst hB
              simp only [uNext]
              rw [hh]
              exact ⟨_, rfl, rfl⟩
            simp only [eqX_int, eqX_str, capt, uLtX, uIn, items, uEnum, uZip, mExtend, mClear, at0, at1, at2, at3, Option.some.injEq, exists_eq_left', true_and, and_true, uBM, uBM0, mAppend, mPop, uCallV, inTab, ixTab, bMax, bSum, cLt, cLe, cGt, cGe, uAddL, startU, uOr, uAnd, uNot, uTru, uTest, uCB, uCons, uVar, uC, uNil, uOp, uUn, uChain, uI0, uI, uAndV, uOrV, uNotV, uIf, uTup, uLst, mkL, uCall, bIsi2, bLen, bAll, bInt1, bInt2, bList, bTuple, vw_non, vw_bl, vw_int, vw_str, vw_tup, vw_lst, vw_own, mup_same, mup_mup, typU, uEqS, uNeS, uIsN, uNotN, isNon, uAdd, uIx, uSlX, uNoPart, uPart, inSt, uIter, uRng1, uRng2, List.map_cons, List.map_nil, List.length_cons, List.length_nil, List.cons_append, List.nil_append, List.replicate, List.getElem?_cons_zero, List.getElem?_cons_succ, List.set_cons_zero, List.set_cons_succ, List.append_nil, Nat.reduceAdd, Nat.reduceSub, Nat.sub_self, Nat.add_sub_cancel, Bool.not_false, Bool.not_true, if_true, if_false, Bool.false_eq_true, reduceCtorEq, decide_true, decide_false, isi_NoneType_bool, isi_NoneType_int, isi_NoneType_str, isi_NoneType_tuple, isi_NoneType_list, isi_NoneType_dict, isi_bool_bool, isi_bool_int, isi_bool_str, isi_bool_tuple, isi_bool_list, isi_bool_dict, isi_int_bool, isi_int_int, isi_int_str, isi_int_tuple, isi_int_list, isi_int_dict, isi_str_bool, isi_str_int, isi_str_str, isi_str_tuple, isi_str_list, isi_str_dict, isi_tuple_bool, isi_tuple_int, isi_tuple_str, isi_tuple_tuple, isi_tuple_list, isi_tuple_dict, isi_list_bool, isi_list_int, isi_list_str, isi_list_tuple, isi_list_list, isi_list_dict, isi_dict_bool, isi_dict_int, isi_dict_str, isi_dict_tuple, isi_dict_list, isi_dict_dict, uMul, bInt, mPopAt, uEnumL, szl, Nat.reduceLeDiff, Option.getD_some, uZipL, uListRev, uRev, uSetFrom, bSorted, uRepL]
            rw [ez]
            simp only [hz, eqX_int, eqX_str, capt, uLtX, uIn, items, uEnum, uZip, mExtend, mClear, at0, at1, at2, at3, Option.some.injEq, exists_eq_left', true_and, and_true, uBM, uBM0, mAppend, mPop, uCallV, inTab, ixTab, bMax, bSum, cLt, cLe, cGt, cGe, uAddL, startU, uOr, uAnd, uNot, uTru, uTest, uCB, uCons, uVar, uC, uNil, uOp, uUn, uChain, uI0, uI, uAndV, uOrV, uNotV, uIf, uTup, uLst, mkL, uCall, bIsi2, bLen, bAll, bInt1, bInt2, bList, bTuple, vw_non, vw_bl, vw_int, vw_str, vw_tup, vw_lst, vw_own, mup_same, mup_mup, typU, uEqS, uNeS, uIsN, uNotN, isNon, uAdd, uIx, uSlX, uNoPart, uPart, inSt, uIter, uRng1, uRng2, List.map_cons, List.map_nil, List.length_cons, List.length_nil, List.cons_append, List.nil_append, List.replicate, List.getElem?_cons_zero, List.getElem?_cons_succ, List.set_cons_zero, List.set_cons_succ, List.append_nil, Nat.reduceAdd, Nat.reduceSub, Nat.sub_self, Nat.add_sub_cancel, Bool.not_false, Bool.not_true, if_true, if_false, Bool.false_eq_true, reduceCtorEq, decide_true, decide_false, isi_NoneType_bool, isi_NoneType_int, isi_NoneType_str, isi_NoneType_tuple, isi_NoneType_list, isi_NoneType_dict, isi_bool_bool, isi_bool_int, isi_bool_str, isi_bool_tuple, isi_bool_list, isi_bool_dict, isi_int_bool, isi_int_int, isi_int_str, isi_int_tuple, isi_int_list, isi_int_dict, isi_str_bool, isi_str_int, isi_str_str, isi_str_tuple, isi_str_list, isi_str_dict, isi_tuple_bool, isi_tuple_int, isi_tuple_str, isi_tuple_tuple, isi_tuple_list, isi_tuple_dict, isi_list_bool, isi_list_int, isi_list_str, isi_list_tuple, isi_list_list, isi_list_dict, isi_dict_bool, isi_dict_int, isi_dict_str, isi_dict_tuple, isi_dict_list, isi_dict_dict, uMul, bInt, mPopAt, uEnumL, szl, Nat.reduceLeDiff, Option.getD_some, uZipL, uListRev, uRev, uSetFrom, bSorted, uRepL]
            cases hh : qq.isHole with
            | true => exact hb (addC_hole hh)
            | false =>
              simp only [Bool.not_false, if_true]
              rw [← ez]
              refine notIn_P (cs := cs) (acc := ac) (q := qq) mup_same hT.cls.ok hac hqf ?_
              cases hk : ac.any (fun e => PyData.eqv (datP e) (datP qq)) with
              | true => exact hb (addC_in hh hk)
              | false =>
                simp only [Bool.not_false, if_true]
                subst hA
                simp only [uDrop, eqX_int, eqX_str, capt, uLtX, uIn, items, uEnum, uZip, mExtend, mClear, at0, at1, at2, at3, Option.some.injEq, exists_eq_left', true_and, and_true, uBM, uBM0, mAppend, mPop, uCallV, inTab, ixTab, bMax, bSum, cLt, cLe, cGt, cGe, uAddL, startU, uOr, uAnd, uNot, uTru, uTest, uCB, uCons, uVar, uC, uNil, uOp, uUn, uChain, uI0, uI, uAndV, uOrV, uNotV, uIf, uTup, uLst, mkL, uCall, bIsi2, bLen, bAll, bInt1, bInt2, bList, bTuple, vw_non, vw_bl, vw_int, vw_str, vw_tup, vw_lst, vw_own, mup_same, mup_mup, typU, uEqS, uNeS, uIsN, uNotN, isNon, uAdd, uIx, uSlX, uNoPart, uPart, inSt, uIter, uRng1, uRng2, List.map_cons, List.map_nil, List.length_cons, List.length_nil, List.cons_append, List.nil_append, List.replicate, List.getElem?_cons_zero, List.getElem?_cons_succ, List.set_cons_zero, List.set_cons_succ, List.append_nil, Nat.reduceAdd, Nat.reduceSub, Nat.sub_self, Nat.add_sub_cancel, Bool.not_false, Bool.not_true, if_true, if_false, Bool.false_eq_true, reduceCtorEq, decide_true, decide_false, isi_NoneType_bool, isi_NoneType_int, isi_NoneType_str, isi_NoneType_tuple, isi_NoneType_list, isi_NoneType_dict, isi_bool_bool, isi_bool_int, isi_bool_str, isi_bool_tuple, isi_bool_list, isi_bool_dict, isi_int_bool, isi_int_int, isi_int_str, isi_int_tuple, isi_int_list, isi_int_dict, isi_str_bool, isi_str_int, isi_str_str, isi_str_tuple, isi_str_list, isi_str_dict, isi_tuple_bool, isi_tuple_int, isi_tuple_str, isi_tuple_tuple, isi_tuple_list, isi_tuple_dict, isi_list_bool, isi_list_int, isi_list_str, isi_list_tuple, isi_list_list, isi_list_dict, isi_dict_bool, isi_dict_int, isi_dict_str, isi_dict_tuple, isi_dict_list, isi_dict_dict, uMul, bInt, mPopAt, uEnumL, szl, Nat.reduceLeDiff, Option.getD_some, uZipL, uListRev, uRev, uSetFrom, bSorted, uRepL]
                have hc6 := hT.cls.len
                refine ⟨isL_own, big (by rw [List.length_append, List.length_map, List.length_map]; omega), ?_⟩
                rw [addC_new hh hk]
                exact ⟨_, rfl, by simp⟩
        · rintro τ Mi ⟨z4, rfl, rfl⟩
          have hl3 : ql.take (Src.mk none (ql.map Pt.toU)).xs.length = ql := by
            show ql.take (ql.map Pt.toU).length = ql
            rw [List.length_map]; exact List.take_length
          rw [hl3]
          exact ⟨_, _, _, rfl, rfl⟩
  · rintro τ Mi ⟨z2, z3, z4, rfl, rfl⟩
    have hl2 : tls.take (Src.mk none (tls.map Tl.toU)).xs.length = tls := by
      show tls.take (tls.map Tl.toU).length = tls
      rw [List.length_map]; exact List.take_length
    rw [hl2]
    subst hV
    simp only [uRet, eqX_int, eqX_str, capt, uLtX, uIn, items, uEnum, uZip, mExtend, mClear, at0, at1, at2, at3, Option.some.injEq, exists_eq_left', true_and, and_true, uBM, uBM0, mAppend, mPop, uCallV, inTab, ixTab, bMax, bSum, cLt, cLe, cGt, cGe, uAddL, startU, uOr, uAnd, uNot, uTru, uTest, uCB, uCons, uVar, uC, uNil, uOp, uUn, uChain, uI0, uI, uAndV, uOrV, uNotV, uIf, uTup, uLst, mkL, uCall, bIsi2, bLen, bAll, bInt1, bInt2, bList, bTuple, vw_non, vw_bl, vw_int, vw_str, vw_tup, vw_lst, vw_own, mup_same, mup_mup, typU, uEqS, uNeS, uIsN, uNotN, isNon, uAdd, uIx, uSlX, uNoPart, uPart, inSt, uIter, uRng1, uRng2, List.map_cons, List.map_nil, List.length_cons, List.length_nil, List.cons_append, List.nil_append, List.replicate, List.getElem?_cons_zero, List.getElem?_cons_succ, List.set_cons_zero, List.set_cons_succ, List.append_nil, Nat.reduceAdd, Nat.reduceSub, Nat.sub_self, Nat.add_sub_cancel, Bool.not_false, Bool.not_true, if_true, if_false, Bool.false_eq_true, reduceCtorEq, decide_true, decide_false, isi_NoneType_bool, isi_NoneType_int, isi_NoneType_str, isi_NoneType_tuple, isi_NoneType_list, isi_NoneType_dict, isi_bool_bool, isi_bool_int, isi_bool_str, isi_bool_tuple, isi_bool_list, isi_bool_dict, isi_int_bool, isi_int_int, isi_int_str, isi_int_tuple, isi_int_list, isi_int_dict, isi_str_bool, isi_str_int, isi_str_str, isi_str_tuple, isi_str_list, isi_str_dict, isi_tuple_bool, isi_tuple_int, isi_tuple_str, isi_tuple_tuple, isi_tuple_list, isi_tuple_dict, isi_list_bool, isi_list_int, isi_list_str, isi_list_tuple, isi_list_list, isi_list_dict, isi_dict_bool, isi_dict_int, isi_dict_str, isi_dict_tuple, isi_dict_list, isi_dict_dict, uMul, bInt, mPopAt, uEnumL, szl, Nat.reduceLeDiff, Option.getD_some, uZipL, uListRev, uRev, uSetFrom, bSorted, uRepL]
    exact rt_same (q p hp)
theorem ok_columns (F : Fun K "columns" "columns" s_columns f fd) (hm : mg "columns" = some (.ref f)) (C_columns_of : Callee P w K mg base 8 "columns_of" spCols []) : Callee P w K mg base 9 "columns" spCols [] := by
  refine callee_of F hm sc_columns (fun _ _ _ _ _ _ us hl => match us, hl with | [_], _ => rfl) (fun us M Q h => by obtain ⟨_, _, rfl, _⟩ := h; rfl) (uss_one (us_ret (ue_call C_columns_of (ua_cons (uv 0) ua_nil)))) ?_
  rintro us M Q ⟨cs, tls, rfl, hT, q⟩
  simp only [uRet, startU, eqX_int, eqX_str, capt, uLtX, uIn, items, uEnum, uZip, mExtend, mClear, at0, at1, at2, at3, Option.some.injEq, exists_eq_left', true_and, and_true, uBM, uBM0, mAppend, mPop, uCallV, inTab, ixTab, bMax, bSum, cLt, cLe, cGt, cGe, uAddL, startU, uOr, uAnd, uNot, uTru, uTest, uCB, uCons, uVar, uC, uNil, uOp, uUn, uChain, uI0, uI, uAndV, uOrV, uNotV, uIf, uTup, uLst, mkL, uCall, bIsi2, bLen, bAll, bInt1, bInt2, bList, bTuple, vw_non, vw_bl, vw_int, vw_str, vw_tup, vw_lst, vw_own, mup_same, mup_mup, typU, uEqS, uNeS, uIsN, uNotN, isNon, uAdd, uIx, uSlX, uNoPart, uPart, inSt, uIter, uRng1, uRng2, List.map_cons, List.map_nil, List.length_cons, List.length_nil, List.cons_append, List.nil_append, List.replicate, List.getElem?_cons_zero, List.getElem?_cons_succ, List.set_cons_zero, List.set_cons_succ, List.append_nil, Nat.reduceAdd, Nat.reduceSub, Nat.sub_self, Nat.add_sub_cancel, Bool.not_false, Bool.not_true, if_true, if_false, Bool.false_eq_true, reduceCtorEq, decide_true, decide_false, isi_NoneType_bool, isi_NoneType_int, isi_NoneType_str, isi_NoneType_tuple, isi_NoneType_list, isi_NoneType_dict, isi_bool_bool, isi_bool_int, isi_bool_str, isi_bool_tuple, isi_bool_list, isi_bool_dict, isi_int_bool, isi_int_int, isi_int_str, isi_int_tuple, isi_int_list, isi_int_dict, isi_str_bool, isi_str_int, isi_str_str, isi_str_tuple, isi_str_list, isi_str_dict, isi_tuple_bool, isi_tuple_int, isi_tuple_str, isi_tuple_tuple, isi_tuple_list, isi_tuple_dict, isi_list_bool, isi_list_int, isi_list_str, isi_list_tuple, isi_list_list, isi_list_dict, isi_dict_bool, isi_dict_int, isi_dict_str, isi_dict_tuple, isi_dict_list, isi_dict_dict, uMul, bInt, mPopAt, uEnumL, szl, Nat.reduceLeDiff, Option.getD_some, uZipL, uListRev, uRev, uSetFrom, bSorted, uRepL]
  exact ⟨cs, tls, rfl, hT, fun p hp => rt_same (q p hp)⟩

end
end K54

set_option linter.all false
set_option maxRecDepth 100000
namespace K54
open PySem L2 U2
section
variable {P : Program} {w : World} {K : PySem.W.Frag} {mg : Str → Option Value} {base : Heap} {f d d2 fl : Addr} {fd : FuncData}

def poolS : List Str := ["r", "mem", "x", "addr", "con", "zz"]
def namesS : List Str := ["rowe", "a", "ab", "abc", "sumx", "by", "k", "load", "m", "turns", "t", "tt", "ttt", "tttt"]
theorem cut_map {α β : Type} (g : α → β) (l : List α) (a b : Option Int) : cutU (l.map g) a b = (cutU l a b).map g := by
  unfold cutU
  rw [List.length_map, List.map_take, List.map_drop]
theorem cut_mem {α : Type} {l : List α} {a b : Option Int} {x : α} (h : x ∈ cutU l a b) : x ∈ l := List.mem_of_mem_drop (List.mem_of_mem_take h)
theorem cut_len {α : Type} (l : List α) (a b : Option Int) : (cutU l a b).length ≤ l.length := by
  unfold cutU
  rw [List.length_take, List.length_drop]; omega
def clsS (at_ m : Int) : List Str := cutU (cutU poolS (some at_) none ++ cutU poolS none (some at_)) none (some m)
theorem many6_at (w : Int) (h0 : 0 ≤ w) (h1 : w < 6) : ∃ m : Int, atI [U.int 1, U.int 2, U.int 2, U.int 3, U.int 3, U.int 6] w = some (.int m) ∧ (m = 1 ∨ m = 2 ∨ m = 3 ∨ m = 6) := by
  have e : w = 0 ∨ w = 1 ∨ w = 2 ∨ w = 3 ∨ w = 4 ∨ w = 5 := by omega
  rcases e with rfl | rfl | rfl | rfl | rfl | rfl
  · exact ⟨1, rfl, by decide⟩
  · exact ⟨2, rfl, by decide⟩
  · exact ⟨2, rfl, by decide⟩
  · exact ⟨3, rfl, by decide⟩
  · exact ⟨3, rfl, by decide⟩
  · exact ⟨6, rfl, by decide⟩
theorem pool_ok : ∀ s ∈ poolS, PyData.strOk s = true := by decide +kernel
theorem clsS_ok {w m : Int} (h0 : 0 ≤ w) (h1 : w < 6) (hm : m = 1 ∨ m = 2 ∨ m = 3 ∨ m = 6) : Cls (clsS w m) := by
  have e : w = 0 ∨ w = 1 ∨ w = 2 ∨ w = 3 ∨ w = 4 ∨ w = 5 := by omega
  have hl : (clsS w m).length = m.toNat := by
    rcases e with rfl | rfl | rfl | rfl | rfl | rfl <;> rcases hm with rfl | rfl | rfl | rfl <;> rfl
  refine ⟨fun z => ?_, by rcases hm with rfl | rfl | rfl | rfl <;> (rw [hl]; decide), fun s hs => ?_⟩
  · rw [z] at hl; rcases hm with rfl | rfl | rfl | rfl <;> cases hl
  · rcases List.mem_append.mp (cut_mem hs) with h | h
    · exact pool_ok s (cut_mem h)
    · exact pool_ok s (cut_mem h)
theorem names_short : ∀ s ∈ namesS, s.length ≤ 10 := by decide +kernel
theorem suff_at (w : Int) (h0 : 0 ≤ w) (h1 : w < 3) : ∃ s : Str, atI [U.str (Str.ofString ""), U.str (Str.ofString "q"), U.str (Str.ofString "qz")] w = some (.str s) ∧ s.length ≤ 10 := by
  have e : w = 0 ∨ w = 1 ∨ w = 2 := by omega
  rcases e with rfl | rfl | rfl <;> exact ⟨_, rfl, by decide +kernel⟩
def spTable : USp := fun us M Q => ∃ (t : Addr) (ns : List Int) (b c : Int), us = [.ref t] ∧ M t = some (.lst (tapeU ns 0 b c)) ∧ ∀ (cs : List Str) (tls : List Tl) (T' : List U), Tab cs tls → Q (tabU cs tls) (mup M t (.lst T'))
theorem rep3_len {α : Type} (l : List α) : (List.replicate 3 l).flatten.length = 3 * l.length := by simp [List.replicate]; omega
set_option maxHeartbeats 2000000 in
theorem ok_table (F : Fun K "_law_table" "_law_table" s_law_table f fd) (hm : mg "_law_table" = some (.ref f)) (m_tuple : mg "tuple" = none) (m_range : mg "range" = none) (m_len : mg "len" = none) (m_enumerate : mg "enumerate" = none) (C_law_draw : Callee P w K mg base 1 "_law_draw" spDraw []) (C_law_plain : Callee P w K mg base 2 "_law_plain" spPlain []) (C_law_tile : Callee P w K mg base 7 "_law_tile" spTile []) : Callee P w K mg base 8 "_law_table" spTable [] := by
  refine callee_of F hm sc_law_table (fun _ _ _ _ _ _ us hl => match us, hl with | [_], _ => rfl) (fun us M Q h => by obtain ⟨_, _, _, _, rfl, _⟩ := h; rfl) (uss_cons (us_set 1 sc_law_table.nd (ue_lst (own := false) (ua_cons us_ (ua_cons us_ (ua_cons us_ (ua_cons us_ (ua_cons us_ (ua_cons us_ ua_nil))))))))
  (uss_cons (us_set 2 sc_law_table.nd (ue_call C_law_draw (ua_cons (uv 0) (ua_cons un_ ua_nil))))
  (uss_cons (us_set 3 sc_law_table.nd (ue_ix (ue_lst (own := false) (ua_cons un_ (ua_cons un_ (ua_cons un_ (ua_cons un_ (ua_cons un_ (ua_cons un_ ua_nil))))))) (ue_call C_law_draw (ua_cons (uv 0) (ua_cons un_ ua_nil)))))
  (uss_cons (us_set 4 sc_law_table.nd (ue_t b_tuple m_tuple (ua_cons (ue_slX (own := false) (ue_add (own := false) (ue_slX (own := false) (uv 1) (uo_some (uv 2)) uo_none) (ue_slX (own := false) (uv 1) uo_none (uo_some (uv 2)))) uo_none (uo_some (uv 3))) ua_nil)))
  (uss_cons (us_set 5 sc_law_table.nd (ue_lst (own := false) ua_nil))
  (uss_cons (us_if (ut_c k_gt (ue_call C_law_draw (ua_cons (uv 0) (ua_cons un_ ua_nil))) un_)
  (uss_one (us_set 5 sc_law_table.nd (ue_call C_law_plain (ua_cons (uv 0) (ua_cons (uv 4) ua_nil)))))
  uss_nil)
  (uss_cons (us_for (ui_rng1 m_range (ua_cons (ue_add (own := false) un_ (ue_call C_law_draw (ua_cons (uv 0) (ua_cons un_ ua_nil)))) ua_nil)) (ug_name (k := 1000) 6 sc_law_table.nd)
  (uss_cons (us_set 7 sc_law_table.nd (ue_call C_law_draw (ua_cons (uv 0) (ua_cons (ue_add (own := false) (ue_b b_len m_len (ua_cons (uv 5) ua_nil)) un_) ua_nil))))
  (uss_one (us_set 5 sc_law_table.nd (ue_add (own := false) (ue_add (own := false) (ue_slX (own := false) (uv 5) uo_none (uo_some (uv 7))) (ue_lst (own := false) (ua_cons (ue_call C_law_tile (ua_cons (uv 0) (ua_cons (uv 4) ua_nil))) ua_nil))) (ue_slX (own := false) (uv 5) (uo_some (uv 7)) uo_none))))))
  (uss_cons (us_set 8 sc_law_table.nd (ue_lst (own := false) (ua_cons us_ (ua_cons us_ (ua_cons us_ (ua_cons us_ (ua_cons us_ (ua_cons us_ (ua_cons us_ (ua_cons us_ (ua_cons us_ (ua_cons us_ ua_nil))))))))))))
  (uss_cons (us_set 8 sc_law_table.nd (ue_add (own := false) (uv 8) (ue_lst (own := false) (ua_cons us_ (ua_cons us_ (ua_cons us_ (ua_cons us_ ua_nil)))))))
  (uss_cons (us_if (ut_c k_eqX (ue_call C_law_draw (ua_cons (uv 0) (ua_cons un_ ua_nil))) un_)
  (uss_one (us_set 5 sc_law_table.nd (ue_repL (own := false) (uv 5) un_)))
  uss_nil)
  (uss_cons (us_set 9 sc_law_table.nd (ue_lst (own := true) ua_nil))
  (uss_cons (us_for (ui_enumerateL m_enumerate (ua_cons (uv 5) ua_nil)) (ug_tup (n := 2) (ugs_cons (ug_name (k := 1000) 6 sc_law_table.nd) (ugs_cons (ug_name (k := 1000) 10 sc_law_table.nd) ugs_nil)))
  (uss_cons (us_set 11 sc_law_table.nd (ue_add (own := false) (ue_ix (uv 8) (ue_mod (uv 6) un_)) (ue_ix (ue_lst (own := false) (ua_cons us_ (ua_cons us_ (ua_cons us_ ua_nil)))) (ue_divX (uv 6) un_))))
  (uss_one (us_expr (ue_append (uv 9) (ua_cons (ue_add (own := false) (ue_tup (ua_cons (uv 11) ua_nil)) (uv 10)) ua_nil))))))
  (uss_one (us_ret (ue_tup (ua_cons (uv 4) (ua_cons (ue_t b_tuple m_tuple (ua_cons (uv 9) ua_nil)) ua_nil))))))))))))))))) ?_
  rintro us M Q ⟨t, ns, b, c, rfl, hM, q⟩
  rw [← mup_self hM]
  refine seq_gen fun V hV => ?_
  simp only [uAsg, hName, startU, eqX_int, eqX_str, capt, uLtX, uIn, items, uEnum, uZip, mExtend, mClear, at0, at1, at2, at3, Option.some.injEq, exists_eq_left', true_and, and_true, uBM, uBM0, mAppend, mPop, uCallV, inTab, ixTab, bMax, bSum, cLt, cLe, cGt, cGe, uAddL, startU, uOr, uAnd, uNot, uTru, uTest, uCB, uCons, uVar, uC, uNil, uOp, uUn, uChain, uI0, uI, uAndV, uOrV, uNotV, uIf, uTup, uLst, mkL, uCall, bIsi2, bLen, bAll, bInt1, bInt2, bList, bTuple, vw_non, vw_bl, vw_int, vw_str, vw_tup, vw_lst, vw_own, mup_same, mup_mup, typU, uEqS, uNeS, uIsN, uNotN, isNon, uAdd, uIx, uSlX, uNoPart, uPart, inSt, uIter, uRng1, uRng2, List.map_cons, List.map_nil, List.length_cons, List.length_nil, List.cons_append, List.nil_append, List.replicate, List.getElem?_cons_zero, List.getElem?_cons_succ, List.set_cons_zero, List.set_cons_succ, List.append_nil, Nat.reduceAdd, Nat.reduceSub, Nat.sub_self, Nat.add_sub_cancel, Bool.not_false, Bool.not_true, if_true, if_false, Bool.false_eq_true, reduceCtorEq, decide_true, decide_false, isi_NoneType_bool, isi_NoneType_int, isi_NoneType_str, isi_NoneType_tuple, isi_NoneType_list, isi_NoneType_dict, isi_bool_bool, isi_bool_int, isi_bool_str, isi_bool_tuple, isi_bool_list, isi_bool_dict, isi_int_bool, isi_int_int, isi_int_str, isi_int_tuple, isi_int_list, isi_int_dict, isi_str_bool, isi_str_int, isi_str_str, isi_str_tuple, isi_str_list, isi_str_dict, isi_tuple_bool, isi_tuple_int, isi_tuple_str, isi_tuple_tuple, isi_tuple_list, isi_tuple_dict, isi_list_bool, isi_list_int, isi_list_str, isi_list_tuple, isi_list_list, isi_list_dict, isi_dict_bool, isi_dict_int, isi_dict_str, isi_dict_tuple, isi_dict_list, isi_dict_dict, uMul, bInt, mPopAt, uEnumL, szl, Nat.reduceLeDiff, Option.getD_some, uZipL, uListRev, uRev, uSetFrom, bSorted, uRepL]
  have ep : [U.str (Str.ofString "r"), U.str (Str.ofString "mem"), U.str (Str.ofString "x"), U.str (Str.ofString "addr"), U.str (Str.ofString "con"), U.str (Str.ofString "zz")] = poolS.map U.str := rfl
  rw [ep]
  subst hV
  refine seq_gen fun V hV => ?_
  simp only [uAsg, hName, eqX_int, eqX_str, capt, uLtX, uIn, items, uEnum, uZip, mExtend, mClear, at0, at1, at2, at3, Option.some.injEq, exists_eq_left', true_and, and_true, uBM, uBM0, mAppend, mPop, uCallV, inTab, ixTab, bMax, bSum, cLt, cLe, cGt, cGe, uAddL, startU, uOr, uAnd, uNot, uTru, uTest, uCB, uCons, uVar, uC, uNil, uOp, uUn, uChain, uI0, uI, uAndV, uOrV, uNotV, uIf, uTup, uLst, mkL, uCall, bIsi2, bLen, bAll, bInt1, bInt2, bList, bTuple, vw_non, vw_bl, vw_int, vw_str, vw_tup, vw_lst, vw_own, mup_same, mup_mup, typU, uEqS, uNeS, uIsN, uNotN, isNon, uAdd, uIx, uSlX, uNoPart, uPart, inSt, uIter, uRng1, uRng2, List.map_cons, List.map_nil, List.length_cons, List.length_nil, List.cons_append, List.nil_append, List.replicate, List.getElem?_cons_zero, List.getElem?_cons_succ, List.set_cons_zero, List.set_cons_succ, List.append_nil, Nat.reduceAdd, Nat.reduceSub, Nat.sub_self, Nat.add_sub_cancel, Bool.not_false, Bool.not_true, if_true, if_false, Bool.false_eq_true, reduceCtorEq, decide_true, decide_false, isi_NoneType_bool, isi_NoneType_int, isi_NoneType_str, isi_NoneType_tuple, isi_NoneType_list, isi_NoneType_dict, isi_bool_bool, isi_bool_int, isi_bool_str, isi_bool_tuple, isi_bool_list, isi_bool_dict, isi_int_bool, isi_int_int, isi_int_str, isi_int_tuple, isi_int_list, isi_int_dict, isi_str_bool, isi_str_int, isi_str_str, isi_str_tuple, isi_str_list, isi_str_dict, isi_tuple_bool, isi_tuple_int, isi_tuple_str, isi_tuple_tuple, isi_tuple_list, isi_tuple_dict, isi_list_bool, isi_list_int, isi_list_str, isi_list_tuple, isi_list_list, isi_list_dict, isi_dict_bool, isi_dict_int, isi_dict_str, isi_dict_tuple, isi_dict_list, isi_dict_dict, uMul, bInt, mPopAt, uEnumL, szl, Nat.reduceLeDiff, Option.getD_some, uZipL, uListRev, uRev, uSetFrom, bSorted, uRepL]
  refine ⟨t, ns, 0, b, c, 6, rfl, by decide, by decide, mup_same, by decide, by decide, fun w a1 b1 c1 w0 w1 g1 g2 => ?_⟩
  rw [mup_mup]
  subst hV
  refine seq_gen fun V hV => ?_
  simp only [uAsg, hName, eqX_int, eqX_str, capt, uLtX, uIn, items, uEnum, uZip, mExtend, mClear, at0, at1, at2, at3, Option.some.injEq, exists_eq_left', true_and, and_true, uBM, uBM0, mAppend, mPop, uCallV, inTab, ixTab, bMax, bSum, cLt, cLe, cGt, cGe, uAddL, startU, uOr, uAnd, uNot, uTru, uTest, uCB, uCons, uVar, uC, uNil, uOp, uUn, uChain, uI0, uI, uAndV, uOrV, uNotV, uIf, uTup, uLst, mkL, uCall, bIsi2, bLen, bAll, bInt1, bInt2, bList, bTuple, vw_non, vw_bl, vw_int, vw_str, vw_tup, vw_lst, vw_own, mup_same, mup_mup, typU, uEqS, uNeS, uIsN, uNotN, isNon, uAdd, uIx, uSlX, uNoPart, uPart, inSt, uIter, uRng1, uRng2, List.map_cons, List.map_nil, List.length_cons, List.length_nil, List.cons_append, List.nil_append, List.replicate, List.getElem?_cons_zero, List.getElem?_cons_succ, List.set_cons_zero, List.set_cons_succ, List.append_nil, Nat.reduceAdd, Nat.reduceSub, Nat.sub_self, Nat.add_sub_cancel, Bool.not_false, Bool.not_true, if_true, if_false, Bool.false_eq_true, reduceCtorEq, decide_true, decide_false, isi_NoneType_bool, isi_NoneType_int, isi_NoneType_str, isi_NoneType_tuple, isi_NoneType_list, isi_NoneType_dict, isi_bool_bool, isi_bool_int, isi_bool_str, isi_bool_tuple, isi_bool_list, isi_bool_dict, isi_int_bool, isi_int_int, isi_int_str, isi_int_tuple, isi_int_list, isi_int_dict, isi_str_bool, isi_str_int, isi_str_str, isi_str_tuple, isi_str_list, isi_str_dict, isi_tuple_bool, isi_tuple_int, isi_tuple_str, isi_tuple_tuple, isi_tuple_list, isi_tuple_dict, isi_list_bool, isi_list_int, isi_list_str, isi_list_tuple, isi_list_list, isi_list_dict, isi_dict_bool, isi_dict_int, isi_dict_str, isi_dict_tuple, isi_dict_list, isi_dict_dict, uMul, bInt, mPopAt, uEnumL, szl, Nat.reduceLeDiff, Option.getD_some, uZipL, uListRev, uRev, uSetFrom, bSorted, uRepL]
  refine ⟨t, ns, a1, b1, c1, 6, rfl, by decide, by decide, mup_same, by omega, by omega, fun w2 a2 b2 c2 v0 v1 g3 g4 => ?_⟩
  rw [mup_mup]
  obtain ⟨m, hmat, hmv⟩ := many6_at w2 v0 v1
  have hC := clsS_ok w0 w1 hmv
  simp only [hmat, eqX_int, eqX_str, capt, uLtX, uIn, items, uEnum, uZip, mExtend, mClear, at0, at1, at2, at3, Option.some.injEq, exists_eq_left', true_and, and_true, uBM, uBM0, mAppend, mPop, uCallV, inTab, ixTab, bMax, bSum, cLt, cLe, cGt, cGe, uAddL, startU, uOr, uAnd, uNot, uTru, uTest, uCB, uCons, uVar, uC, uNil, uOp, uUn, uChain, uI0, uI, uAndV, uOrV, uNotV, uIf, uTup, uLst, mkL, uCall, bIsi2, bLen, bAll, bInt1, bInt2, bList, bTuple, vw_non, vw_bl, vw_int, vw_str, vw_tup, vw_lst, vw_own, mup_same, mup_mup, typU, uEqS, uNeS, uIsN, uNotN, isNon, uAdd, uIx, uSlX, uNoPart, uPart, inSt, uIter, uRng1, uRng2, List.map_cons, List.map_nil, List.length_cons, List.length_nil, List.cons_append, List.nil_append, List.replicate, List.getElem?_cons_zero, List.getElem?_cons_succ, List.set_cons_zero, List.set_cons_succ, List.append_nil, Nat.reduceAdd, Nat.reduceSub, Nat.sub_self, Nat.add_sub_cancel, Bool.not_false, Bool.not_true, if_true, if_false, Bool.false_eq_true, reduceCtorEq, decide_true, decide_false, isi_NoneType_bool, isi_NoneType_int, isi_NoneType_str, isi_NoneType_tuple, isi_NoneType_list, isi_NoneType_dict, isi_bool_bool, isi_bool_int, isi_bool_str, isi_bool_tuple, isi_bool_list, isi_bool_dict, isi_int_bool, isi_int_int, isi_int_str, isi_int_tuple, isi_int_list, isi_int_dict, isi_str_bool, isi_str_int, isi_str_str, isi_str_tuple, isi_str_list, isi_str_dict, isi_tuple_bool, isi_tuple_int, isi_tuple_str, isi_tuple_tuple, isi_tuple_list, isi_tuple_dict, isi_list_bool, isi_list_int, isi_list_str, isi_list_tuple, isi_list_list, isi_list_dict, isi_dict_bool, isi_dict_int, isi_dict_str, isi_dict_tuple, isi_dict_list, isi_dict_dict, uMul, bInt, mPopAt, uEnumL, szl, Nat.reduceLeDiff, Option.getD_some, uZipL, uListRev, uRev, uSetFrom, bSorted, uRepL]
  subst hV
  refine seq_gen fun V hV => ?_
  simp only [uAsg, hName, cut_map, eqX_int, eqX_str, capt, uLtX, uIn, items, uEnum, uZip, mExtend, mClear, at0, at1, at2, at3, Option.some.injEq, exists_eq_left', true_and, and_true, uBM, uBM0, mAppend, mPop, uCallV, inTab, ixTab, bMax, bSum, cLt, cLe, cGt, cGe, uAddL, startU, uOr, uAnd, uNot, uTru, uTest, uCB, uCons, uVar, uC, uNil, uOp, uUn, uChain, uI0, uI, uAndV, uOrV, uNotV, uIf, uTup, uLst, mkL, uCall, bIsi2, bLen, bAll, bInt1, bInt2, bList, bTuple, vw_non, vw_bl, vw_int, vw_str, vw_tup, vw_lst, vw_own, mup_same, mup_mup, typU, uEqS, uNeS, uIsN, uNotN, isNon, uAdd, uIx, uSlX, uNoPart, uPart, inSt, uIter, uRng1, uRng2, List.map_cons, List.map_nil, List.length_cons, List.length_nil, List.cons_append, List.nil_append, List.replicate, List.getElem?_cons_zero, List.getElem?_cons_succ, List.set_cons_zero, List.set_cons_succ, List.append_nil, Nat.reduceAdd, Nat.reduceSub, Nat.sub_self, Nat.add_sub_cancel, Bool.not_false, Bool.not_true, if_true, if_false, Bool.false_eq_true, reduceCtorEq, decide_true, decide_false, isi_NoneType_bool, isi_NoneType_int, isi_NoneType_str, isi_NoneType_tuple, isi_NoneType_list, isi_NoneType_dict, isi_bool_bool, isi_bool_int, isi_bool_str, isi_bool_tuple, isi_bool_list, isi_bool_dict, isi_int_bool, isi_int_int, isi_int_str, isi_int_tuple, isi_int_list, isi_int_dict, isi_str_bool, isi_str_int, isi_str_str, isi_str_tuple, isi_str_list, isi_str_dict, isi_tuple_bool, isi_tuple_int, isi_tuple_str, isi_tuple_tuple, isi_tuple_list, isi_tuple_dict, isi_list_bool, isi_list_int, isi_list_str, isi_list_tuple, isi_list_list, isi_list_dict, isi_dict_bool, isi_dict_int, isi_dict_str, isi_dict_tuple, isi_dict_list, isi_dict_dict, uMul, bInt, mPopAt, uEnumL, szl, Nat.reduceLeDiff, Option.getD_some, uZipL, uListRev, uRev, uSetFrom, bSorted, uRepL]
  have hcl : (cutU poolS (some w) none).length + (cutU poolS none (some w)).length ≤ 12 := by
    have h1 := cut_len poolS (some w) none
    have h2 := cut_len poolS none (some w)
    have h3 : poolS.length = 6 := rfl
    omega
  refine ⟨small (by rw [List.length_map, List.length_map]; omega), ?_⟩
  have ec : U.tup (cutU ((cutU poolS (some w) none).map U.str ++ (cutU poolS none (some w)).map U.str) none (some m)) = sortsU (clsS w m) := by
    rw [← List.map_append, cut_map]; rfl
  simp only [ec]
  generalize clsS w m = cs at *
  subst hV
  refine seq_gen fun V hV => ?_
  simp only [uAsg, hName, eqX_int, eqX_str, capt, uLtX, uIn, items, uEnum, uZip, mExtend, mClear, at0, at1, at2, at3, Option.some.injEq, exists_eq_left', true_and, and_true, uBM, uBM0, mAppend, mPop, uCallV, inTab, ixTab, bMax, bSum, cLt, cLe, cGt, cGe, uAddL, startU, uOr, uAnd, uNot, uTru, uTest, uCB, uCons, uVar, uC, uNil, uOp, uUn, uChain, uI0, uI, uAndV, uOrV, uNotV, uIf, uTup, uLst, mkL, uCall, bIsi2, bLen, bAll, bInt1, bInt2, bList, bTuple, vw_non, vw_bl, vw_int, vw_str, vw_tup, vw_lst, vw_own, mup_same, mup_mup, typU, uEqS, uNeS, uIsN, uNotN, isNon, uAdd, uIx, uSlX, uNoPart, uPart, inSt, uIter, uRng1, uRng2, List.map_cons, List.map_nil, List.length_cons, List.length_nil, List.cons_append, List.nil_append, List.replicate, List.getElem?_cons_zero, List.getElem?_cons_succ, List.set_cons_zero, List.set_cons_succ, List.append_nil, Nat.reduceAdd, Nat.reduceSub, Nat.sub_self, Nat.add_sub_cancel, Bool.not_false, Bool.not_true, if_true, if_false, Bool.false_eq_true, reduceCtorEq, decide_true, decide_false, isi_NoneType_bool, isi_NoneType_int, isi_NoneType_str, isi_NoneType_tuple, isi_NoneType_list, isi_NoneType_dict, isi_bool_bool, isi_bool_int, isi_bool_str, isi_bool_tuple, isi_bool_list, isi_bool_dict, isi_int_bool, isi_int_int, isi_int_str, isi_int_tuple, isi_int_list, isi_int_dict, isi_str_bool, isi_str_int, isi_str_str, isi_str_tuple, isi_str_list, isi_str_dict, isi_tuple_bool, isi_tuple_int, isi_tuple_str, isi_tuple_tuple, isi_tuple_list, isi_tuple_dict, isi_list_bool, isi_list_int, isi_list_str, isi_list_tuple, isi_list_list, isi_list_dict, isi_dict_bool, isi_dict_int, isi_dict_str, isi_dict_tuple, isi_dict_list, isi_dict_dict, uMul, bInt, mPopAt, uEnumL, szl, Nat.reduceLeDiff, Option.getD_some, uZipL, uListRev, uRev, uSetFrom, bSorted, uRepL]
  subst hV
  refine seq_gen fun V hV => ?_
  have go : ∀ (ks : List Tk) (a3 b3 c3 : Int), (∀ k ∈ ks, k.good) → ks.length ≤ 6 → 0 ≤ a3 → a3 ≤ 1000 → V [some (.ref t), some (.lst (poolS.map U.str)), some (.int w), some (.int m), some (sortsU cs), some (.lst (ks.map Tk.toU)), none, none, none, none, none, none] (mup M t (.lst (tapeU ns a3 b3 c3))) := by
    intro ks a3 b3 c3 hk hkl h0 h1
    subst hV
    refine seq_gen fun V1 hV1 => ?_
    simp only [uFor, eqX_int, eqX_str, capt, uLtX, uIn, items, uEnum, uZip, mExtend, mClear, at0, at1, at2, at3, Option.some.injEq, exists_eq_left', true_and, and_true, uBM, uBM0, mAppend, mPop, uCallV, inTab, ixTab, bMax, bSum, cLt, cLe, cGt, cGe, uAddL, startU, uOr, uAnd, uNot, uTru, uTest, uCB, uCons, uVar, uC, uNil, uOp, uUn, uChain, uI0, uI, uAndV, uOrV, uNotV, uIf, uTup, uLst, mkL, uCall, bIsi2, bLen, bAll, bInt1, bInt2, bList, bTuple, vw_non, vw_bl, vw_int, vw_str, vw_tup, vw_lst, vw_own, mup_same, mup_mup, typU, uEqS, uNeS, uIsN, uNotN, isNon, uAdd, uIx, uSlX, uNoPart, uPart, inSt, uIter, uRng1, uRng2, List.map_cons, List.map_nil, List.length_cons, List.length_nil, List.cons_append, List.nil_append, List.replicate, List.getElem?_cons_zero, List.getElem?_cons_succ, List.set_cons_zero, List.set_cons_succ, List.append_nil, Nat.reduceAdd, Nat.reduceSub, Nat.sub_self, Nat.add_sub_cancel, Bool.not_false, Bool.not_true, if_true, if_false, Bool.false_eq_true, reduceCtorEq, decide_true, decide_false, isi_NoneType_bool, isi_NoneType_int, isi_NoneType_str, isi_NoneType_tuple, isi_NoneType_list, isi_NoneType_dict, isi_bool_bool, isi_bool_int, isi_bool_str, isi_bool_tuple, isi_bool_list, isi_bool_dict, isi_int_bool, isi_int_int, isi_int_str, isi_int_tuple, isi_int_list, isi_int_dict, isi_str_bool, isi_str_int, isi_str_str, isi_str_tuple, isi_str_list, isi_str_dict, isi_tuple_bool, isi_tuple_int, isi_tuple_str, isi_tuple_tuple, isi_tuple_list, isi_tuple_dict, isi_list_bool, isi_list_int, isi_list_str, isi_list_tuple, isi_list_list, isi_list_dict, isi_dict_bool, isi_dict_int, isi_dict_str, isi_dict_tuple, isi_dict_list, isi_dict_dict, uMul, bInt, mPopAt, uEnumL, szl, Nat.reduceLeDiff, Option.getD_some, uZipL, uListRev, uRev, uSetFrom, bSorted, uRepL]
    refine ⟨t, ns, a3, b3, c3, 7, rfl, by decide, by decide, mup_same, by omega, by omega, fun n7 a4 b4 c4 k0 k1 g7 g8 => ?_⟩
    rw [mup_mup]
    simp only [eqX_int, eqX_str, capt, uLtX, uIn, items, uEnum, uZip, mExtend, mClear, at0, at1, at2, at3, Option.some.injEq, exists_eq_left', true_and, and_true, uBM, uBM0, mAppend, mPop, uCallV, inTab, ixTab, bMax, bSum, cLt, cLe, cGt, cGe, uAddL, startU, uOr, uAnd, uNot, uTru, uTest, uCB, uCons, uVar, uC, uNil, uOp, uUn, uChain, uI0, uI, uAndV, uOrV, uNotV, uIf, uTup, uLst, mkL, uCall, bIsi2, bLen, bAll, bInt1, bInt2, bList, bTuple, vw_non, vw_bl, vw_int, vw_str, vw_tup, vw_lst, vw_own, mup_same, mup_mup, typU, uEqS, uNeS, uIsN, uNotN, isNon, uAdd, uIx, uSlX, uNoPart, uPart, inSt, uIter, uRng1, uRng2, List.map_cons, List.map_nil, List.length_cons, List.length_nil, List.cons_append, List.nil_append, List.replicate, List.getElem?_cons_zero, List.getElem?_cons_succ, List.set_cons_zero, List.set_cons_succ, List.append_nil, Nat.reduceAdd, Nat.reduceSub, Nat.sub_self, Nat.add_sub_cancel, Bool.not_false, Bool.not_true, if_true, if_false, Bool.false_eq_true, reduceCtorEq, decide_true, decide_false, isi_NoneType_bool, isi_NoneType_int, isi_NoneType_str, isi_NoneType_tuple, isi_NoneType_list, isi_NoneType_dict, isi_bool_bool, isi_bool_int, isi_bool_str, isi_bool_tuple, isi_bool_list, isi_bool_dict, isi_int_bool, isi_int_int, isi_int_str, isi_int_tuple, isi_int_list, isi_int_dict, isi_str_bool, isi_str_int, isi_str_str, isi_str_tuple, isi_str_list, isi_str_dict, isi_tuple_bool, isi_tuple_int, isi_tuple_str, isi_tuple_tuple, isi_tuple_list, isi_tuple_dict, isi_list_bool, isi_list_int, isi_list_str, isi_list_tuple, isi_list_list, isi_list_dict, isi_dict_bool, isi_dict_int, isi_dict_str, isi_dict_tuple, isi_dict_list, isi_dict_dict, uMul, bInt, mPopAt, uEnumL, szl, Nat.reduceLeDiff, Option.getD_some, uZipL, uListRev, uRev, uSetFrom, bSorted, uRepL]
    refine ⟨by omega, by omega, fun i τ Mi => ∃ (ks : List Tk) (a' b' c' : Int) (z6 z7 : Option U), τ = [some (.ref t), some (.lst (poolS.map U.str)), some (.int w), some (.int m), some (sortsU cs), some (.lst (ks.map Tk.toU)), z6, z7, none, none, none, none] ∧ Mi = mup M t (.lst (tapeU ns a' b' c')) ∧ (∀ k ∈ ks, k.good) ∧ ks.length ≤ 6 + i ∧ 0 ≤ a' ∧ a' ≤ 1001 + 300 * i, ⟨ks, a4, b4, c4, none, none, rfl, rfl, hk, by omega, by omega, by omega⟩, (fun i τ M' _ a e => by cases e), ?_, ?_⟩
    · rintro i x τ Mi e ⟨ks, a5, b5, c5, z6, z7, rfl, rfl, hk, hkl, h2, h3⟩
      obtain ⟨rfl, hi⟩ := rangeU_get e
      have hi7 : i < 7 := by omega
      simp only [hName, eqX_int, eqX_str, capt, uLtX, uIn, items, uEnum, uZip, mExtend, mClear, at0, at1, at2, at3, Option.some.injEq, exists_eq_left', true_and, and_true, uBM, uBM0, mAppend, mPop, uCallV, inTab, ixTab, bMax, bSum, cLt, cLe, cGt, cGe, uAddL, startU, uOr, uAnd, uNot, uTru, uTest, uCB, uCons, uVar, uC, uNil, uOp, uUn, uChain, uI0, uI, uAndV, uOrV, uNotV, uIf, uTup, uLst, mkL, uCall, bIsi2, bLen, bAll, bInt1, bInt2, bList, bTuple, vw_non, vw_bl, vw_int, vw_str, vw_tup, vw_lst, vw_own, mup_same, mup_mup, typU, uEqS, uNeS, uIsN, uNotN, isNon, uAdd, uIx, uSlX, uNoPart, uPart, inSt, uIter, uRng1, uRng2, List.map_cons, List.map_nil, List.length_cons, List.length_nil, List.cons_append, List.nil_append, List.replicate, List.getElem?_cons_zero, List.getElem?_cons_succ, List.set_cons_zero, List.set_cons_succ, List.append_nil, Nat.reduceAdd, Nat.reduceSub, Nat.sub_self, Nat.add_sub_cancel, Bool.not_false, Bool.not_true, if_true, if_false, Bool.false_eq_true, reduceCtorEq, decide_true, decide_false, isi_NoneType_bool, isi_NoneType_int, isi_NoneType_str, isi_NoneType_tuple, isi_NoneType_list, isi_NoneType_dict, isi_bool_bool, isi_bool_int, isi_bool_str, isi_bool_tuple, isi_bool_list, isi_bool_dict, isi_int_bool, isi_int_int, isi_int_str, isi_int_tuple, isi_int_list, isi_int_dict, isi_str_bool, isi_str_int, isi_str_str, isi_str_tuple, isi_str_list, isi_str_dict, isi_tuple_bool, isi_tuple_int, isi_tuple_str, isi_tuple_tuple, isi_tuple_list, isi_tuple_dict, isi_list_bool, isi_list_int, isi_list_str, isi_list_tuple, isi_list_list, isi_list_dict, isi_dict_bool, isi_dict_int, isi_dict_str, isi_dict_tuple, isi_dict_list, isi_dict_dict, uMul, bInt, mPopAt, uEnumL, szl, Nat.reduceLeDiff, Option.getD_some, uZipL, uListRev, uRev, uSetFrom, bSorted, uRepL]
      refine seq_gen fun V2 hV2 => ?_
      simp only [uAsg, hName, List.length_map, eqX_int, eqX_str, capt, uLtX, uIn, items, uEnum, uZip, mExtend, mClear, at0, at1, at2, at3, Option.some.injEq, exists_eq_left', true_and, and_true, uBM, uBM0, mAppend, mPop, uCallV, inTab, ixTab, bMax, bSum, cLt, cLe, cGt, cGe, uAddL, startU, uOr, uAnd, uNot, uTru, uTest, uCB, uCons, uVar, uC, uNil, uOp, uUn, uChain, uI0, uI, uAndV, uOrV, uNotV, uIf, uTup, uLst, mkL, uCall, bIsi2, bLen, bAll, bInt1, bInt2, bList, bTuple, vw_non, vw_bl, vw_int, vw_str, vw_tup, vw_lst, vw_own, mup_same, mup_mup, typU, uEqS, uNeS, uIsN, uNotN, isNon, uAdd, uIx, uSlX, uNoPart, uPart, inSt, uIter, uRng1, uRng2, List.map_cons, List.map_nil, List.length_cons, List.length_nil, List.cons_append, List.nil_append, List.replicate, List.getElem?_cons_zero, List.getElem?_cons_succ, List.set_cons_zero, List.set_cons_succ, List.append_nil, Nat.reduceAdd, Nat.reduceSub, Nat.sub_self, Nat.add_sub_cancel, Bool.not_false, Bool.not_true, if_true, if_false, Bool.false_eq_true, reduceCtorEq, decide_true, decide_false, isi_NoneType_bool, isi_NoneType_int, isi_NoneType_str, isi_NoneType_tuple, isi_NoneType_list, isi_NoneType_dict, isi_bool_bool, isi_bool_int, isi_bool_str, isi_bool_tuple, isi_bool_list, isi_bool_dict, isi_int_bool, isi_int_int, isi_int_str, isi_int_tuple, isi_int_list, isi_int_dict, isi_str_bool, isi_str_int, isi_str_str, isi_str_tuple, isi_str_list, isi_str_dict, isi_tuple_bool, isi_tuple_int, isi_tuple_str, isi_tuple_tuple, isi_tuple_list, isi_tuple_dict, isi_list_bool, isi_list_int, isi_list_str, isi_list_tuple, isi_list_list, isi_list_dict, isi_dict_bool, isi_dict_int, isi_dict_str, isi_dict_tuple, isi_dict_list, isi_dict_dict, uMul, bInt, mPopAt, uEnumL, szl, Nat.reduceLeDiff, Option.getD_some, uZipL, uListRev, uRev, uSetFrom, bSorted, uRepL]
      refine ⟨t, ns, a5, b5, c5, (ks.length : Int) + 1, rfl, by omega, by omega, mup_same, by omega, by omega, fun sp a6 b6 c6 s0 s1 g9 g10 => ?_⟩
      rw [mup_mup]
      subst hV2
      obtain ⟨j, rfl⟩ : ∃ j : Nat, sp = (j : Int) := ⟨_, (Int.toNat_of_nonneg s0).symm⟩
      have cA : cutU ks none (some (j : Int)) = ks.take j := by
        unfold cutU
        have e : HT.sIx ks.length ks.length (some (j : Int)) = j := by
          simp only [HT.sIx]; rw [if_neg (by omega)]; omega
        rw [e]; simp [HT.sIx]
      have cB : cutU ks (some (j : Int)) none = ks.drop j := by
        unfold cutU
        have e : HT.sIx ks.length 0 (some (j : Int)) = j := by
          simp only [HT.sIx]; rw [if_neg (by omega)]; omega
        have e2 : HT.sIx ks.length ks.length none = ks.length := rfl
        rw [e, e2, List.take_of_length_le (by rw [List.length_drop]; omega)]
      simp only [uAsg, hName, cut_map, cA, cB, eqX_int, eqX_str, capt, uLtX, uIn, items, uEnum, uZip, mExtend, mClear, at0, at1, at2, at3, Option.some.injEq, exists_eq_left', true_and, and_true, uBM, uBM0, mAppend, mPop, uCallV, inTab, ixTab, bMax, bSum, cLt, cLe, cGt, cGe, uAddL, startU, uOr, uAnd, uNot, uTru, uTest, uCB, uCons, uVar, uC, uNil, uOp, uUn, uChain, uI0, uI, uAndV, uOrV, uNotV, uIf, uTup, uLst, mkL, uCall, bIsi2, bLen, bAll, bInt1, bInt2, bList, bTuple, vw_non, vw_bl, vw_int, vw_str, vw_tup, vw_lst, vw_own, mup_same, mup_mup, typU, uEqS, uNeS, uIsN, uNotN, isNon, uAdd, uIx, uSlX, uNoPart, uPart, inSt, uIter, uRng1, uRng2, List.map_cons, List.map_nil, List.length_cons, List.length_nil, List.cons_append, List.nil_append, List.replicate, List.getElem?_cons_zero, List.getElem?_cons_succ, List.set_cons_zero, List.set_cons_succ, List.append_nil, Nat.reduceAdd, Nat.reduceSub, Nat.sub_self, Nat.add_sub_cancel, Bool.not_false, Bool.not_true, if_true, if_false, Bool.false_eq_true, reduceCtorEq, decide_true, decide_false, isi_NoneType_bool, isi_NoneType_int, isi_NoneType_str, isi_NoneType_tuple, isi_NoneType_list, isi_NoneType_dict, isi_bool_bool, isi_bool_int, isi_bool_str, isi_bool_tuple, isi_bool_list, isi_bool_dict, isi_int_bool, isi_int_int, isi_int_str, isi_int_tuple, isi_int_list, isi_int_dict, isi_str_bool, isi_str_int, isi_str_str, isi_str_tuple, isi_str_list, isi_str_dict, isi_tuple_bool, isi_tuple_int, isi_tuple_str, isi_tuple_tuple, isi_tuple_list, isi_tuple_dict, isi_list_bool, isi_list_int, isi_list_str, isi_list_tuple, isi_list_list, isi_list_dict, isi_dict_bool, isi_dict_int, isi_dict_str, isi_dict_tuple, isi_dict_list, isi_dict_dict, uMul, bInt, mPopAt, uEnumL, szl, Nat.reduceLeDiff, Option.getD_some, uZipL, uListRev, uRev, uSetFrom, bSorted, uRepL]
      refine ⟨t, ns, a6, b6, c6, cs, rfl, mup_same, hC, by omega, by omega, fun kk a7 b7 c7 hkk g11 g12 => ?_⟩
      rw [mup_mup]
      simp only [eqX_int, eqX_str, capt, uLtX, uIn, items, uEnum, uZip, mExtend, mClear, at0, at1, at2, at3, Option.some.injEq, exists_eq_left', true_and, and_true, uBM, uBM0, mAppend, mPop, uCallV, inTab, ixTab, bMax, bSum, cLt, cLe, cGt, cGe, uAddL, startU, uOr, uAnd, uNot, uTru, uTest, uCB, uCons, uVar, uC, uNil, uOp, uUn, uChain, uI0, uI, uAndV, uOrV, uNotV, uIf, uTup, uLst, mkL, uCall, bIsi2, bLen, bAll, bInt1, bInt2, bList, bTuple, vw_non, vw_bl, vw_int, vw_str, vw_tup, vw_lst, vw_own, mup_same, mup_mup, typU, uEqS, uNeS, uIsN, uNotN, isNon, uAdd, uIx, uSlX, uNoPart, uPart, inSt, uIter, uRng1, uRng2, List.map_cons, List.map_nil, List.length_cons, List.length_nil, List.cons_append, List.nil_append, List.replicate, List.getElem?_cons_zero, List.getElem?_cons_succ, List.set_cons_zero, List.set_cons_succ, List.append_nil, Nat.reduceAdd, Nat.reduceSub, Nat.sub_self, Nat.add_sub_cancel, Bool.not_false, Bool.not_true, if_true, if_false, Bool.false_eq_true, reduceCtorEq, decide_true, decide_false, isi_NoneType_bool, isi_NoneType_int, isi_NoneType_str, isi_NoneType_tuple, isi_NoneType_list, isi_NoneType_dict, isi_bool_bool, isi_bool_int, isi_bool_str, isi_bool_tuple, isi_bool_list, isi_bool_dict, isi_int_bool, isi_int_int, isi_int_str, isi_int_tuple, isi_int_list, isi_int_dict, isi_str_bool, isi_str_int, isi_str_str, isi_str_tuple, isi_str_list, isi_str_dict, isi_tuple_bool, isi_tuple_int, isi_tuple_str, isi_tuple_tuple, isi_tuple_list, isi_tuple_dict, isi_list_bool, isi_list_int, isi_list_str, isi_list_tuple, isi_list_list, isi_list_dict, isi_dict_bool, isi_dict_int, isi_dict_str, isi_dict_tuple, isi_dict_list, isi_dict_dict, uMul, bInt, mPopAt, uEnumL, szl, Nat.reduceLeDiff, Option.getD_some, uZipL, uListRev, uRev, uSetFrom, bSorted, uRepL]
      have em : (ks.take j).map Tk.toU ++ [kk.toU] ++ (ks.drop j).map Tk.toU = (ks.take j ++ [kk] ++ ks.drop j).map Tk.toU := by simp
      have hlj : (ks.take j ++ [kk] ++ ks.drop j).length = ks.length + 1 := by simp only [List.length_append, List.length_take, List.length_drop, List.length_cons, List.length_nil]; omega
      refine ⟨small (by rw [List.length_map, List.length_take]; omega), small (by rw [List.length_append, List.length_map, List.length_map, List.length_take, List.length_drop]; simp; omega), ?_⟩
      rw [em]
      refine ⟨_, a7, b7, c7, _, _, rfl, rfl, fun k hk' => ?_, by omega, by omega, by omega⟩
      rcases List.mem_append.mp hk' with hk' | hk'
      · rcases List.mem_append.mp hk' with hk' | hk'
        · exact hk k (List.mem_of_mem_take hk')
        · cases List.mem_singleton.mp hk'; exact hkk
      · exact hk k (List.mem_of_mem_drop hk')
    · rintro τ Mi ⟨ks, a5, b5, c5, z6, z7, rfl, rfl, hk, hkl, h2, h3⟩
      rw [rangeU_len] at hkl h3
      have hk13 : ks.length ≤ 13 := by omega
      have ha5 : a5 ≤ 4000 := by omega
      subst hV1
      refine seq_gen fun V2 hV2 => ?_
      simp only [uAsg, hName, eqX_int, eqX_str, capt, uLtX, uIn, items, uEnum, uZip, mExtend, mClear, at0, at1, at2, at3, Option.some.injEq, exists_eq_left', true_and, and_true, uBM, uBM0, mAppend, mPop, uCallV, inTab, ixTab, bMax, bSum, cLt, cLe, cGt, cGe, uAddL, startU, uOr, uAnd, uNot, uTru, uTest, uCB, uCons, uVar, uC, uNil, uOp, uUn, uChain, uI0, uI, uAndV, uOrV, uNotV, uIf, uTup, uLst, mkL, uCall, bIsi2, bLen, bAll, bInt1, bInt2, bList, bTuple, vw_non, vw_bl, vw_int, vw_str, vw_tup, vw_lst, vw_own, mup_same, mup_mup, typU, uEqS, uNeS, uIsN, uNotN, isNon, uAdd, uIx, uSlX, uNoPart, uPart, inSt, uIter, uRng1, uRng2, List.map_cons, List.map_nil, List.length_cons, List.length_nil, List.cons_append, List.nil_append, List.replicate, List.getElem?_cons_zero, List.getElem?_cons_succ, List.set_cons_zero, List.set_cons_succ, List.append_nil, Nat.reduceAdd, Nat.reduceSub, Nat.sub_self, Nat.add_sub_cancel, Bool.not_false, Bool.not_true, if_true, if_false, Bool.false_eq_true, reduceCtorEq, decide_true, decide_false, isi_NoneType_bool, isi_NoneType_int, isi_NoneType_str, isi_NoneType_tuple, isi_NoneType_list, isi_NoneType_dict, isi_bool_bool, isi_bool_int, isi_bool_str, isi_bool_tuple, isi_bool_list, isi_bool_dict, isi_int_bool, isi_int_int, isi_int_str, isi_int_tuple, isi_int_list, isi_int_dict, isi_str_bool, isi_str_int, isi_str_str, isi_str_tuple, isi_str_list, isi_str_dict, isi_tuple_bool, isi_tuple_int, isi_tuple_str, isi_tuple_tuple, isi_tuple_list, isi_tuple_dict, isi_list_bool, isi_list_int, isi_list_str, isi_list_tuple, isi_list_list, isi_list_dict, isi_dict_bool, isi_dict_int, isi_dict_str, isi_dict_tuple, isi_dict_list, isi_dict_dict, uMul, bInt, mPopAt, uEnumL, szl, Nat.reduceLeDiff, Option.getD_some, uZipL, uListRev, uRev, uSetFrom, bSorted, uRepL]
      subst hV2
      refine seq_gen fun V2 hV2 => ?_
      simp only [uAsg, hName, eqX_int, eqX_str, capt, uLtX, uIn, items, uEnum, uZip, mExtend, mClear, at0, at1, at2, at3, Option.some.injEq, exists_eq_left', true_and, and_true, uBM, uBM0, mAppend, mPop, uCallV, inTab, ixTab, bMax, bSum, cLt, cLe, cGt, cGe, uAddL, startU, uOr, uAnd, uNot, uTru, uTest, uCB, uCons, uVar, uC, uNil, uOp, uUn, uChain, uI0, uI, uAndV, uOrV, uNotV, uIf, uTup, uLst, mkL, uCall, bIsi2, bLen, bAll, bInt1, bInt2, bList, bTuple, vw_non, vw_bl, vw_int, vw_str, vw_tup, vw_lst, vw_own, mup_same, mup_mup, typU, uEqS, uNeS, uIsN, uNotN, isNon, uAdd, uIx, uSlX, uNoPart, uPart, inSt, uIter, uRng1, uRng2, List.map_cons, List.map_nil, List.length_cons, List.length_nil, List.cons_append, List.nil_append, List.replicate, List.getElem?_cons_zero, List.getElem?_cons_succ, List.set_cons_zero, List.set_cons_succ, List.append_nil, Nat.reduceAdd, Nat.reduceSub, Nat.sub_self, Nat.add_sub_cancel, Bool.not_false, Bool.not_true, if_true, if_false, Bool.false_eq_true, reduceCtorEq, decide_true, decide_false, isi_NoneType_bool, isi_NoneType_int, isi_NoneType_str, isi_NoneType_tuple, isi_NoneType_list, isi_NoneType_dict, isi_bool_bool, isi_bool_int, isi_bool_str, isi_bool_tuple, isi_bool_list, isi_bool_dict, isi_int_bool, isi_int_int, isi_int_str, isi_int_tuple, isi_int_list, isi_int_dict, isi_str_bool, isi_str_int, isi_str_str, isi_str_tuple, isi_str_list, isi_str_dict, isi_tuple_bool, isi_tuple_int, isi_tuple_str, isi_tuple_tuple, isi_tuple_list, isi_tuple_dict, isi_list_bool, isi_list_int, isi_list_str, isi_list_tuple, isi_list_list, isi_list_dict, isi_dict_bool, isi_dict_int, isi_dict_str, isi_dict_tuple, isi_dict_list, isi_dict_dict, uMul, bInt, mPopAt, uEnumL, szl, Nat.reduceLeDiff, Option.getD_some, uZipL, uListRev, uRev, uSetFrom, bSorted, uRepL]
      have en : [U.str (Str.ofString "rowe"), U.str (Str.ofString "a"), U.str (Str.ofString "ab"), U.str (Str.ofString "abc"), U.str (Str.ofString "sumx"), U.str (Str.ofString "by"), U.str (Str.ofString "k"), U.str (Str.ofString "load"), U.str (Str.ofString "m"), U.str (Str.ofString "turns"), U.str (Str.ofString "t"), U.str (Str.ofString "tt"), U.str (Str.ofString "ttt"), U.str (Str.ofString "tttt")] = namesS.map U.str := rfl
      rw [en]
      subst hV2
      refine seq_gen fun V2 hV2 => ?_
      have last : ∀ (ks : List Tk) (T' : List U), (∀ k ∈ ks, k.good) → ks.length ≤ 39 → V2 ([some (.ref t), some (.lst (poolS.map U.str)), some (.int w), some (.int m), some (sortsU cs), some (.lst (ks.map Tk.toU)), z6, z7, some (.lst (namesS.map U.str)), none, none, none]) (mup M t (.lst T')) := by
        intro ks T' hk hkl
        subst hV2
        refine seq_gen fun V3 hV3 => ?_
        simp only [uAsg, hName, eqX_int, eqX_str, capt, uLtX, uIn, items, uEnum, uZip, mExtend, mClear, at0, at1, at2, at3, Option.some.injEq, exists_eq_left', true_and, and_true, uBM, uBM0, mAppend, mPop, uCallV, inTab, ixTab, bMax, bSum, cLt, cLe, cGt, cGe, uAddL, startU, uOr, uAnd, uNot, uTru, uTest, uCB, uCons, uVar, uC, uNil, uOp, uUn, uChain, uI0, uI, uAndV, uOrV, uNotV, uIf, uTup, uLst, mkL, uCall, bIsi2, bLen, bAll, bInt1, bInt2, bList, bTuple, vw_non, vw_bl, vw_int, vw_str, vw_tup, vw_lst, vw_own, mup_same, mup_mup, typU, uEqS, uNeS, uIsN, uNotN, isNon, uAdd, uIx, uSlX, uNoPart, uPart, inSt, uIter, uRng1, uRng2, List.map_cons, List.map_nil, List.length_cons, List.length_nil, List.cons_append, List.nil_append, List.replicate, List.getElem?_cons_zero, List.getElem?_cons_succ, List.set_cons_zero, List.set_cons_succ, List.append_nil, Nat.reduceAdd, Nat.reduceSub, Nat.sub_self, Nat.add_sub_cancel, Bool.not_false, Bool.not_true, if_true, if_false, Bool.false_eq_true, reduceCtorEq, decide_true, decide_false, isi_NoneType_bool, isi_NoneType_int, isi_NoneType_str, isi_NoneType_tuple, isi_NoneType_list, isi_NoneType_dict, isi_bool_bool, isi_bool_int, isi_bool_str, isi_bool_tuple, isi_bool_list, isi_bool_dict, isi_int_bool, isi_int_int, isi_int_str, isi_int_tuple, isi_int_list, isi_int_dict, isi_str_bool, isi_str_int, isi_str_str, isi_str_tuple, isi_str_list, isi_str_dict, isi_tuple_bool, isi_tuple_int, isi_tuple_str, isi_tuple_tuple, isi_tuple_list, isi_tuple_dict, isi_list_bool, isi_list_int, isi_list_str, isi_list_tuple, isi_list_list, isi_list_dict, isi_dict_bool, isi_dict_int, isi_dict_str, isi_dict_tuple, isi_dict_list, isi_dict_dict, uMul, bInt, mPopAt, uEnumL, szl, Nat.reduceLeDiff, Option.getD_some, uZipL, uListRev, uRev, uSetFrom, bSorted, uRepL]
        intro r hr
        have htr : t ≠ r := fun z => by subst z; rw [mup_same] at hr; cases hr
        have hMr : M r = none := by rw [mup_ne (fun z => htr z.symm)] at hr; exact hr
        subst hV3
        refine seq_gen fun V3 hV3 => ?_
        refine for_by (S := ⟨none, numbered (ks.map Tk.toU)⟩) (M1 := st2 M t r T' []) (fun R r => by simp only [eqX_int, eqX_str, capt, uLtX, uIn, items, uEnum, uZip, mExtend, mClear, at0, at1, at2, at3, Option.some.injEq, exists_eq_left', true_and, and_true, uBM, uBM0, mAppend, mPop, uCallV, inTab, ixTab, bMax, bSum, cLt, cLe, cGt, cGe, uAddL, startU, uOr, uAnd, uNot, uTru, uTest, uCB, uCons, uVar, uC, uNil, uOp, uUn, uChain, uI0, uI, uAndV, uOrV, uNotV, uIf, uTup, uLst, mkL, uCall, bIsi2, bLen, bAll, bInt1, bInt2, bList, bTuple, vw_non, vw_bl, vw_int, vw_str, vw_tup, vw_lst, vw_own, mup_same, mup_mup, typU, uEqS, uNeS, uIsN, uNotN, isNon, uAdd, uIx, uSlX, uNoPart, uPart, inSt, uIter, uRng1, uRng2, List.map_cons, List.map_nil, List.length_cons, List.length_nil, List.cons_append, List.nil_append, List.replicate, List.getElem?_cons_zero, List.getElem?_cons_succ, List.set_cons_zero, List.set_cons_succ, List.append_nil, Nat.reduceAdd, Nat.reduceSub, Nat.sub_self, Nat.add_sub_cancel, Bool.not_false, Bool.not_true, if_true, if_false, Bool.false_eq_true, reduceCtorEq, decide_true, decide_false, isi_NoneType_bool, isi_NoneType_int, isi_NoneType_str, isi_NoneType_tuple, isi_NoneType_list, isi_NoneType_dict, isi_bool_bool, isi_bool_int, isi_bool_str, isi_bool_tuple, isi_bool_list, isi_bool_dict, isi_int_bool, isi_int_int, isi_int_str, isi_int_tuple, isi_int_list, isi_int_dict, isi_str_bool, isi_str_int, isi_str_str, isi_str_tuple, isi_str_list, isi_str_dict, isi_tuple_bool, isi_tuple_int, isi_tuple_str, isi_tuple_tuple, isi_tuple_list, isi_tuple_dict, isi_list_bool, isi_list_int, isi_list_str, isi_list_tuple, isi_list_list, isi_list_dict, isi_dict_bool, isi_dict_int, isi_dict_str, isi_dict_tuple, isi_dict_list, isi_dict_dict, uMul, bInt, mPopAt, uEnumL, szl, Nat.reduceLeDiff, Option.getD_some, uZipL, uListRev, uRev, uSetFrom, bSorted, uRepL]; exact r)
          (fun i τ Mi => ∃ (tls : List Tl) (z6 z10 z11 : Option U), τ = [some (.ref t), some (.lst (poolS.map U.str)), some (.int w), some (.int m), some (sortsU cs), some (.lst (ks.map Tk.toU)), z6, z7, some (.lst (namesS.map U.str)), some (.ref r), z10, z11] ∧ Mi = st2 M t r T' (tls.map Tl.toU) ∧ (∀ x ∈ tls, x.k.good) ∧ tls.length ≤ i) ⟨[], _, none, none, rfl, rfl, (fun x h => by cases h), by simp⟩ (fun i τ M' _ a e => by cases e) ?_ ?_
        · rintro i x τ Mi e ⟨tls, y6, y10, y11, rfl, rfl, htl, hll⟩
          obtain ⟨v, hv, rfl⟩ := numbered_get e
          rw [List.getElem?_map] at hv
          cases hj : ks[i]? with
          | none => rw [hj] at hv; cases hv
          | some kk =>
            rw [hj] at hv
            cases hv
            have hi := (List.getElem?_eq_some_iff.mp hj).1
            have hkk := hk kk (List.mem_of_getElem? hj)
            obtain ⟨nm, hnm⟩ := atI_ex namesS ((i : Int) % 14) (Int.emod_nonneg _ (by decide)) (Int.emod_lt_of_pos _ (by decide))
            have hnm' := cls_at hnm
            have hnl := names_short nm (atI_mem hnm)
            obtain ⟨sf, hsf, hsl⟩ := suff_at ((i : Int) / 14) (by omega) (by omega)
            refine ⟨rfl, ?_⟩
            simp only [hTup, hCons, hNil, hName, eqX_int, eqX_str, capt, uLtX, uIn, items, uEnum, uZip, mExtend, mClear, at0, at1, at2, at3, Option.some.injEq, exists_eq_left', true_and, and_true, uBM, uBM0, mAppend, mPop, uCallV, inTab, ixTab, bMax, bSum, cLt, cLe, cGt, cGe, uAddL, startU, uOr, uAnd, uNot, uTru, uTest, uCB, uCons, uVar, uC, uNil, uOp, uUn, uChain, uI0, uI, uAndV, uOrV, uNotV, uIf, uTup, uLst, mkL, uCall, bIsi2, bLen, bAll, bInt1, bInt2, bList, bTuple, vw_non, vw_bl, vw_int, vw_str, vw_tup, vw_lst, vw_own, mup_same, mup_mup, typU, uEqS, uNeS, uIsN, uNotN, isNon, uAdd, uIx, uSlX, uNoPart, uPart, inSt, uIter, uRng1, uRng2, List.map_cons, List.map_nil, List.length_cons, List.length_nil, List.cons_append, List.nil_append, List.replicate, List.getElem?_cons_zero, List.getElem?_cons_succ, List.set_cons_zero, List.set_cons_succ, List.append_nil, Nat.reduceAdd, Nat.reduceSub, Nat.sub_self, Nat.add_sub_cancel, Bool.not_false, Bool.not_true, if_true, if_false, Bool.false_eq_true, reduceCtorEq, decide_true, decide_false, isi_NoneType_bool, isi_NoneType_int, isi_NoneType_str, isi_NoneType_tuple, isi_NoneType_list, isi_NoneType_dict, isi_bool_bool, isi_bool_int, isi_bool_str, isi_bool_tuple, isi_bool_list, isi_bool_dict, isi_int_bool, isi_int_int, isi_int_str, isi_int_tuple, isi_int_list, isi_int_dict, isi_str_bool, isi_str_int, isi_str_str, isi_str_tuple, isi_str_list, isi_str_dict, isi_tuple_bool, isi_tuple_int, isi_tuple_str, isi_tuple_tuple, isi_tuple_list, isi_tuple_dict, isi_list_bool, isi_list_int, isi_list_str, isi_list_tuple, isi_list_list, isi_list_dict, isi_dict_bool, isi_dict_int, isi_dict_str, isi_dict_tuple, isi_dict_list, isi_dict_dict, uMul, bInt, mPopAt, uEnumL, szl, Nat.reduceLeDiff, Option.getD_some, uZipL, uListRev, uRev, uSetFrom, bSorted, uRepL]
            refine seq_gen fun V4 hV4 => ?_
            simp only [uAsg, hName, hnm', hsf, eqX_int, eqX_str, capt, uLtX, uIn, items, uEnum, uZip, mExtend, mClear, at0, at1, at2, at3, Option.some.injEq, exists_eq_left', true_and, and_true, uBM, uBM0, mAppend, mPop, uCallV, inTab, ixTab, bMax, bSum, cLt, cLe, cGt, cGe, uAddL, startU, uOr, uAnd, uNot, uTru, uTest, uCB, uCons, uVar, uC, uNil, uOp, uUn, uChain, uI0, uI, uAndV, uOrV, uNotV, uIf, uTup, uLst, mkL, uCall, bIsi2, bLen, bAll, bInt1, bInt2, bList, bTuple, vw_non, vw_bl, vw_int, vw_str, vw_tup, vw_lst, vw_own, mup_same, mup_mup, typU, uEqS, uNeS, uIsN, uNotN, isNon, uAdd, uIx, uSlX, uNoPart, uPart, inSt, uIter, uRng1, uRng2, List.map_cons, List.map_nil, List.length_cons, List.length_nil, List.cons_append, List.nil_append, List.replicate, List.getElem?_cons_zero, List.getElem?_cons_succ, List.set_cons_zero, List.set_cons_succ, List.append_nil, Nat.reduceAdd, Nat.reduceSub, Nat.sub_self, Nat.add_sub_cancel, Bool.not_false, Bool.not_true, if_true, if_false, Bool.false_eq_true, reduceCtorEq, decide_true, decide_false, isi_NoneType_bool, isi_NoneType_int, isi_NoneType_str, isi_NoneType_tuple, isi_NoneType_list, isi_NoneType_dict, isi_bool_bool, isi_bool_int, isi_bool_str, isi_bool_tuple, isi_bool_list, isi_bool_dict, isi_int_bool, isi_int_int, isi_int_str, isi_int_tuple, isi_int_list, isi_int_dict, isi_str_bool, isi_str_int, isi_str_str, isi_str_tuple, isi_str_list, isi_str_dict, isi_tuple_bool, isi_tuple_int, isi_tuple_str, isi_tuple_tuple, isi_tuple_list, isi_tuple_dict, isi_list_bool, isi_list_int, isi_list_str, isi_list_tuple, isi_list_list, isi_list_dict, isi_dict_bool, isi_dict_int, isi_dict_str, isi_dict_tuple, isi_dict_list, isi_dict_dict, uMul, bInt, mPopAt, uEnumL, szl, Nat.reduceLeDiff, Option.getD_some, uZipL, uListRev, uRev, uSetFrom, bSorted, uRepL]
            refine ⟨by decide, ⟨by decide, by decide⟩, small (by omega), ?_⟩
            subst hV4
            simp only [uDrop, Tk.toU, eqX_int, eqX_str, capt, uLtX, uIn, items, uEnum, uZip, mExtend, mClear, at0, at1, at2, at3, Option.some.injEq, exists_eq_left', true_and, and_true, uBM, uBM0, mAppend, mPop, uCallV, inTab, ixTab, bMax, bSum, cLt, cLe, cGt, cGe, uAddL, startU, uOr, uAnd, uNot, uTru, uTest, uCB, uCons, uVar, uC, uNil, uOp, uUn, uChain, uI0, uI, uAndV, uOrV, uNotV, uIf, uTup, uLst, mkL, uCall, bIsi2, bLen, bAll, bInt1, bInt2, bList, bTuple, vw_non, vw_bl, vw_int, vw_str, vw_tup, vw_lst, vw_own, mup_same, mup_mup, typU, uEqS, uNeS, uIsN, uNotN, isNon, uAdd, uIx, uSlX, uNoPart, uPart, inSt, uIter, uRng1, uRng2, List.map_cons, List.map_nil, List.length_cons, List.length_nil, List.cons_append, List.nil_append, List.replicate, List.getElem?_cons_zero, List.getElem?_cons_succ, List.set_cons_zero, List.set_cons_succ, List.append_nil, Nat.reduceAdd, Nat.reduceSub, Nat.sub_self, Nat.add_sub_cancel, Bool.not_false, Bool.not_true, if_true, if_false, Bool.false_eq_true, reduceCtorEq, decide_true, decide_false, isi_NoneType_bool, isi_NoneType_int, isi_NoneType_str, isi_NoneType_tuple, isi_NoneType_list, isi_NoneType_dict, isi_bool_bool, isi_bool_int, isi_bool_str, isi_bool_tuple, isi_bool_list, isi_bool_dict, isi_int_bool, isi_int_int, isi_int_str, isi_int_tuple, isi_int_list, isi_int_dict, isi_str_bool, isi_str_int, isi_str_str, isi_str_tuple, isi_str_list, isi_str_dict, isi_tuple_bool, isi_tuple_int, isi_tuple_str, isi_tuple_tuple, isi_tuple_list, isi_tuple_dict, isi_list_bool, isi_list_int, isi_list_str, isi_list_tuple, isi_list_list, isi_list_dict, isi_dict_bool, isi_dict_int, isi_dict_str, isi_dict_tuple, isi_dict_list, isi_dict_dict, uMul, bInt, mPopAt, uEnumL, szl, Nat.reduceLeDiff, Option.getD_some, uZipL, uListRev, uRev, uSetFrom, bSorted, uRepL]
            refine ⟨⟨_, view_ref st2_r⟩, ?_⟩
            simp only [st2_r, st2_setR, eqX_int, eqX_str, capt, uLtX, uIn, items, uEnum, uZip, mExtend, mClear, at0, at1, at2, at3, Option.some.injEq, exists_eq_left', true_and, and_true, uBM, uBM0, mAppend, mPop, uCallV, inTab, ixTab, bMax, bSum, cLt, cLe, cGt, cGe, uAddL, startU, uOr, uAnd, uNot, uTru, uTest, uCB, uCons, uVar, uC, uNil, uOp, uUn, uChain, uI0, uI, uAndV, uOrV, uNotV, uIf, uTup, uLst, mkL, uCall, bIsi2, bLen, bAll, bInt1, bInt2, bList, bTuple, vw_non, vw_bl, vw_int, vw_str, vw_tup, vw_lst, vw_own, mup_same, mup_mup, typU, uEqS, uNeS, uIsN, uNotN, isNon, uAdd, uIx, uSlX, uNoPart, uPart, inSt, uIter, uRng1, uRng2, List.map_cons, List.map_nil, List.length_cons, List.length_nil, List.cons_append, List.nil_append, List.replicate, List.getElem?_cons_zero, List.getElem?_cons_succ, List.set_cons_zero, List.set_cons_succ, List.append_nil, Nat.reduceAdd, Nat.reduceSub, Nat.sub_self, Nat.add_sub_cancel, Bool.not_false, Bool.not_true, if_true, if_false, Bool.false_eq_true, reduceCtorEq, decide_true, decide_false, isi_NoneType_bool, isi_NoneType_int, isi_NoneType_str, isi_NoneType_tuple, isi_NoneType_list, isi_NoneType_dict, isi_bool_bool, isi_bool_int, isi_bool_str, isi_bool_tuple, isi_bool_list, isi_bool_dict, isi_int_bool, isi_int_int, isi_int_str, isi_int_tuple, isi_int_list, isi_int_dict, isi_str_bool, isi_str_int, isi_str_str, isi_str_tuple, isi_str_list, isi_str_dict, isi_tuple_bool, isi_tuple_int, isi_tuple_str, isi_tuple_tuple, isi_tuple_list, isi_tuple_dict, isi_list_bool, isi_list_int, isi_list_str, isi_list_tuple, isi_list_list, isi_list_dict, isi_dict_bool, isi_dict_int, isi_dict_str, isi_dict_tuple, isi_dict_list, isi_dict_dict, uMul, bInt, mPopAt, uEnumL, szl, Nat.reduceLeDiff, Option.getD_some, uZipL, uListRev, uRev, uSetFrom, bSorted, uRepL]
            refine ⟨big (by rw [List.length_map]; omega), tls ++ [⟨nm ++ sf, kk⟩], _, _, _, rfl, by simp [Tl.toU], fun x hx => ?_, by simp; omega⟩
            rcases List.mem_append.mp hx with hx | hx
            · exact htl x hx
            · cases List.mem_singleton.mp hx; exact hkk
        · rintro τ Mi ⟨tls, y6, y10, y11, rfl, rfl, htl, hll⟩
          rw [numbered_len, List.length_map] at hll
          subst hV3
          simp only [uRet, view_ref st2_r, eqX_int, eqX_str, capt, uLtX, uIn, items, uEnum, uZip, mExtend, mClear, at0, at1, at2, at3, Option.some.injEq, exists_eq_left', true_and, and_true, uBM, uBM0, mAppend, mPop, uCallV, inTab, ixTab, bMax, bSum, cLt, cLe, cGt, cGe, uAddL, startU, uOr, uAnd, uNot, uTru, uTest, uCB, uCons, uVar, uC, uNil, uOp, uUn, uChain, uI0, uI, uAndV, uOrV, uNotV, uIf, uTup, uLst, mkL, uCall, bIsi2, bLen, bAll, bInt1, bInt2, bList, bTuple, vw_non, vw_bl, vw_int, vw_str, vw_tup, vw_lst, vw_own, mup_same, mup_mup, typU, uEqS, uNeS, uIsN, uNotN, isNon, uAdd, uIx, uSlX, uNoPart, uPart, inSt, uIter, uRng1, uRng2, List.map_cons, List.map_nil, List.length_cons, List.length_nil, List.cons_append, List.nil_append, List.replicate, List.getElem?_cons_zero, List.getElem?_cons_succ, List.set_cons_zero, List.set_cons_succ, List.append_nil, Nat.reduceAdd, Nat.reduceSub, Nat.sub_self, Nat.add_sub_cancel, Bool.not_false, Bool.not_true, if_true, if_false, Bool.false_eq_true, reduceCtorEq, decide_true, decide_false, isi_NoneType_bool, isi_NoneType_int, isi_NoneType_str, isi_NoneType_tuple, isi_NoneType_list, isi_NoneType_dict, isi_bool_bool, isi_bool_int, isi_bool_str, isi_bool_tuple, isi_bool_list, isi_bool_dict, isi_int_bool, isi_int_int, isi_int_str, isi_int_tuple, isi_int_list, isi_int_dict, isi_str_bool, isi_str_int, isi_str_str, isi_str_tuple, isi_str_list, isi_str_dict, isi_tuple_bool, isi_tuple_int, isi_tuple_str, isi_tuple_tuple, isi_tuple_list, isi_tuple_dict, isi_list_bool, isi_list_int, isi_list_str, isi_list_tuple, isi_list_list, isi_list_dict, isi_dict_bool, isi_dict_int, isi_dict_str, isi_dict_tuple, isi_dict_list, isi_dict_dict, uMul, bInt, mPopAt, uEnumL, szl, Nat.reduceLeDiff, Option.getD_some, uZipL, uListRev, uRev, uSetFrom, bSorted, uRepL]
          refine ⟨_, mup M t (.lst T'), fun z o hz => ?_, .inl rfl, q cs tls T' ⟨hC, htl, by omega⟩⟩
          have hzr : z ≠ r := fun e => by subst e; rw [mup_ne (fun e => htr e.symm), hMr] at hz; cases hz
          show mup (mup M t _) r _ z = _
          rw [mup_ne hzr]; exact hz
      refine if_gen fun A B hA hB => ?_
      simp only [eqX_int, eqX_str, capt, uLtX, uIn, items, uEnum, uZip, mExtend, mClear, at0, at1, at2, at3, Option.some.injEq, exists_eq_left', true_and, and_true, uBM, uBM0, mAppend, mPop, uCallV, inTab, ixTab, bMax, bSum, cLt, cLe, cGt, cGe, uAddL, startU, uOr, uAnd, uNot, uTru, uTest, uCB, uCons, uVar, uC, uNil, uOp, uUn, uChain, uI0, uI, uAndV, uOrV, uNotV, uIf, uTup, uLst, mkL, uCall, bIsi2, bLen, bAll, bInt1, bInt2, bList, bTuple, vw_non, vw_bl, vw_int, vw_str, vw_tup, vw_lst, vw_own, mup_same, mup_mup, typU, uEqS, uNeS, uIsN, uNotN, isNon, uAdd, uIx, uSlX, uNoPart, uPart, inSt, uIter, uRng1, uRng2, List.map_cons, List.map_nil, List.length_cons, List.length_nil, List.cons_append, List.nil_append, List.replicate, List.getElem?_cons_zero, List.getElem?_cons_succ, List.set_cons_zero, List.set_cons_succ, List.append_nil, Nat.reduceAdd, Nat.reduceSub, Nat.sub_self, Nat.add_sub_cancel, Bool.not_false, Bool.not_true, if_true, if_false, Bool.false_eq_true, reduceCtorEq, decide_true, decide_false, isi_NoneType_bool, isi_NoneType_int, isi_NoneType_str, isi_NoneType_tuple, isi_NoneType_list, isi_NoneType_dict, isi_bool_bool, isi_bool_int, isi_bool_str, isi_bool_tuple, isi_bool_list, isi_bool_dict, isi_int_bool, isi_int_int, isi_int_str, isi_int_tuple, isi_int_list, isi_int_dict, isi_str_bool, isi_str_int, isi_str_str, isi_str_tuple, isi_str_list, isi_str_dict, isi_tuple_bool, isi_tuple_int, isi_tuple_str, isi_tuple_tuple, isi_tuple_list, isi_tuple_dict, isi_list_bool, isi_list_int, isi_list_str, isi_list_tuple, isi_list_list, isi_list_dict, isi_dict_bool, isi_dict_int, isi_dict_str, isi_dict_tuple, isi_dict_list, isi_dict_dict, uMul, bInt, mPopAt, uEnumL, szl, Nat.reduceLeDiff, Option.getD_some, uZipL, uListRev, uRev, uSetFrom, bSorted, uRepL]
      refine ⟨t, ns, a5, b5, c5, 8, rfl, by decide, by decide, mup_same, by omega, by omega, fun w8 a6 b6 c6 k0 k1 g9 g10 => ?_⟩
      rw [mup_mup]
      simp only [eqX_int, eqX_str, capt, uLtX, uIn, items, uEnum, uZip, mExtend, mClear, at0, at1, at2, at3, Option.some.injEq, exists_eq_left', true_and, and_true, uBM, uBM0, mAppend, mPop, uCallV, inTab, ixTab, bMax, bSum, cLt, cLe, cGt, cGe, uAddL, startU, uOr, uAnd, uNot, uTru, uTest, uCB, uCons, uVar, uC, uNil, uOp, uUn, uChain, uI0, uI, uAndV, uOrV, uNotV, uIf, uTup, uLst, mkL, uCall, bIsi2, bLen, bAll, bInt1, bInt2, bList, bTuple, vw_non, vw_bl, vw_int, vw_str, vw_tup, vw_lst, vw_own, mup_same, mup_mup, typU, uEqS, uNeS, uIsN, uNotN, isNon, uAdd, uIx, uSlX, uNoPart, uPart, inSt, uIter, uRng1, uRng2, List.map_cons, List.map_nil, List.length_cons, List.length_nil, List.cons_append, List.nil_append, List.replicate, List.getElem?_cons_zero, List.getElem?_cons_succ, List.set_cons_zero, List.set_cons_succ, List.append_nil, Nat.reduceAdd, Nat.reduceSub, Nat.sub_self, Nat.add_sub_cancel, Bool.not_false, Bool.not_true, if_true, if_false, Bool.false_eq_true, reduceCtorEq, decide_true, decide_false, isi_NoneType_bool, isi_NoneType_int, isi_NoneType_str, isi_NoneType_tuple, isi_NoneType_list, isi_NoneType_dict, isi_bool_bool, isi_bool_int, isi_bool_str, isi_bool_tuple, isi_bool_list, isi_bool_dict, isi_int_bool, isi_int_int, isi_int_str, isi_int_tuple, isi_int_list, isi_int_dict, isi_str_bool, isi_str_int, isi_str_str, isi_str_tuple, isi_str_list, isi_str_dict, isi_tuple_bool, isi_tuple_int, isi_tuple_str, isi_tuple_tuple, isi_tuple_list, isi_tuple_dict, isi_list_bool, isi_list_int, isi_list_str, isi_list_tuple, isi_list_list, isi_list_dict, isi_dict_bool, isi_dict_int, isi_dict_str, isi_dict_tuple, isi_dict_list, isi_dict_dict, uMul, bInt, mPopAt, uEnumL, szl, Nat.reduceLeDiff, Option.getD_some, uZipL, uListRev, uRev, uSetFrom, bSorted, uRepL]
      refine ite2 (fun _ => ?_) (fun _ => ?_)
      · subst hA
        simp only [uAsg, hName, eqX_int, eqX_str, capt, uLtX, uIn, items, uEnum, uZip, mExtend, mClear, at0, at1, at2, at3, Option.some.injEq, exists_eq_left', true_and, and_true, uBM, uBM0, mAppend, mPop, uCallV, inTab, ixTab, bMax, bSum, cLt, cLe, cGt, cGe, uAddL, startU, uOr, uAnd, uNot, uTru, uTest, uCB, uCons, uVar, uC, uNil, uOp, uUn, uChain, uI0, uI, uAndV, uOrV, uNotV, uIf, uTup, uLst, mkL, uCall, bIsi2, bLen, bAll, bInt1, bInt2, bList, bTuple, vw_non, vw_bl, vw_int, vw_str, vw_tup, vw_lst, vw_own, mup_same, mup_mup, typU, uEqS, uNeS, uIsN, uNotN, isNon, uAdd, uIx, uSlX, uNoPart, uPart, inSt, uIter, uRng1, uRng2, List.map_cons, List.map_nil, List.length_cons, List.length_nil, List.cons_append, List.nil_append, List.replicate, List.getElem?_cons_zero, List.getElem?_cons_succ, List.set_cons_zero, List.set_cons_succ, List.append_nil, Nat.reduceAdd, Nat.reduceSub, Nat.sub_self, Nat.add_sub_cancel, Bool.not_false, Bool.not_true, if_true, if_false, Bool.false_eq_true, reduceCtorEq, decide_true, decide_false, isi_NoneType_bool, isi_NoneType_int, isi_NoneType_str, isi_NoneType_tuple, isi_NoneType_list, isi_NoneType_dict, isi_bool_bool, isi_bool_int, isi_bool_str, isi_bool_tuple, isi_bool_list, isi_bool_dict, isi_int_bool, isi_int_int, isi_int_str, isi_int_tuple, isi_int_list, isi_int_dict, isi_str_bool, isi_str_int, isi_str_str, isi_str_tuple, isi_str_list, isi_str_dict, isi_tuple_bool, isi_tuple_int, isi_tuple_str, isi_tuple_tuple, isi_tuple_list, isi_tuple_dict, isi_list_bool, isi_list_int, isi_list_str, isi_list_tuple, isi_list_list, isi_list_dict, isi_dict_bool, isi_dict_int, isi_dict_str, isi_dict_tuple, isi_dict_list, isi_dict_dict, uMul, bInt, mPopAt, uEnumL, szl, Nat.reduceLeDiff, Option.getD_some, uZipL, uListRev, uRev, uSetFrom, bSorted, uRepL]
        have h3l : (List.replicate 3 ks).flatten.length = 3 * ks.length := rep3_len ks
        have e3 : (List.replicate (Int.toNat 3) (ks.map Tk.toU)).flatten = ((List.replicate 3 ks).flatten).map Tk.toU := by
          show (List.replicate 3 (ks.map Tk.toU)).flatten = _
          simp [List.replicate]
        refine ⟨by decide, by decide, small (by rw [List.length_map]; show ks.length * 3 ≤ _; omega), ?_⟩
        rw [e3]
        exact last _ _ (fun k hk' => by
          obtain ⟨l, h1, h2⟩ := List.mem_flatten.mp hk'
          rw [List.eq_of_mem_replicate h1] at h2
          exact hk k h2) (by omega)
      · subst hB
        simp only [uNext]
        exact last ks _ hk (by omega)
  refine if_gen fun A B hA hB => ?_
  simp only [eqX_int, eqX_str, capt, uLtX, uIn, items, uEnum, uZip, mExtend, mClear, at0, at1, at2, at3, Option.some.injEq, exists_eq_left', true_and, and_true, uBM, uBM0, mAppend, mPop, uCallV, inTab, ixTab, bMax, bSum, cLt, cLe, cGt, cGe, uAddL, startU, uOr, uAnd, uNot, uTru, uTest, uCB, uCons, uVar, uC, uNil, uOp, uUn, uChain, uI0, uI, uAndV, uOrV, uNotV, uIf, uTup, uLst, mkL, uCall, bIsi2, bLen, bAll, bInt1, bInt2, bList, bTuple, vw_non, vw_bl, vw_int, vw_str, vw_tup, vw_lst, vw_own, mup_same, mup_mup, typU, uEqS, uNeS, uIsN, uNotN, isNon, uAdd, uIx, uSlX, uNoPart, uPart, inSt, uIter, uRng1, uRng2, List.map_cons, List.map_nil, List.length_cons, List.length_nil, List.cons_append, List.nil_append, List.replicate, List.getElem?_cons_zero, List.getElem?_cons_succ, List.set_cons_zero, List.set_cons_succ, List.append_nil, Nat.reduceAdd, Nat.reduceSub, Nat.sub_self, Nat.add_sub_cancel, Bool.not_false, Bool.not_true, if_true, if_false, Bool.false_eq_true, reduceCtorEq, decide_true, decide_false, isi_NoneType_bool, isi_NoneType_int, isi_NoneType_str, isi_NoneType_tuple, isi_NoneType_list, isi_NoneType_dict, isi_bool_bool, isi_bool_int, isi_bool_str, isi_bool_tuple, isi_bool_list, isi_bool_dict, isi_int_bool, isi_int_int, isi_int_str, isi_int_tuple, isi_int_list, isi_int_dict, isi_str_bool, isi_str_int, isi_str_str, isi_str_tuple, isi_str_list, isi_str_dict, isi_tuple_bool, isi_tuple_int, isi_tuple_str, isi_tuple_tuple, isi_tuple_list, isi_tuple_dict, isi_list_bool, isi_list_int, isi_list_str, isi_list_tuple, isi_list_list, isi_list_dict, isi_dict_bool, isi_dict_int, isi_dict_str, isi_dict_tuple, isi_dict_list, isi_dict_dict, uMul, bInt, mPopAt, uEnumL, szl, Nat.reduceLeDiff, Option.getD_some, uZipL, uListRev, uRev, uSetFrom, bSorted, uRepL]
  refine ⟨t, ns, a2, b2, c2, 4, rfl, by decide, by decide, mup_same, by omega, by omega, fun w3 a3 b3 c3 k0 k1 g5 g6 => ?_⟩
  rw [mup_mup]
  simp only [eqX_int, eqX_str, capt, uLtX, uIn, items, uEnum, uZip, mExtend, mClear, at0, at1, at2, at3, Option.some.injEq, exists_eq_left', true_and, and_true, uBM, uBM0, mAppend, mPop, uCallV, inTab, ixTab, bMax, bSum, cLt, cLe, cGt, cGe, uAddL, startU, uOr, uAnd, uNot, uTru, uTest, uCB, uCons, uVar, uC, uNil, uOp, uUn, uChain, uI0, uI, uAndV, uOrV, uNotV, uIf, uTup, uLst, mkL, uCall, bIsi2, bLen, bAll, bInt1, bInt2, bList, bTuple, vw_non, vw_bl, vw_int, vw_str, vw_tup, vw_lst, vw_own, mup_same, mup_mup, typU, uEqS, uNeS, uIsN, uNotN, isNon, uAdd, uIx, uSlX, uNoPart, uPart, inSt, uIter, uRng1, uRng2, List.map_cons, List.map_nil, List.length_cons, List.length_nil, List.cons_append, List.nil_append, List.replicate, List.getElem?_cons_zero, List.getElem?_cons_succ, List.set_cons_zero, List.set_cons_succ, List.append_nil, Nat.reduceAdd, Nat.reduceSub, Nat.sub_self, Nat.add_sub_cancel, Bool.not_false, Bool.not_true, if_true, if_false, Bool.false_eq_true, reduceCtorEq, decide_true, decide_false, isi_NoneType_bool, isi_NoneType_int, isi_NoneType_str, isi_NoneType_tuple, isi_NoneType_list, isi_NoneType_dict, isi_bool_bool, isi_bool_int, isi_bool_str, isi_bool_tuple, isi_bool_list, isi_bool_dict, isi_int_bool, isi_int_int, isi_int_str, isi_int_tuple, isi_int_list, isi_int_dict, isi_str_bool, isi_str_int, isi_str_str, isi_str_tuple, isi_str_list, isi_str_dict, isi_tuple_bool, isi_tuple_int, isi_tuple_str, isi_tuple_tuple, isi_tuple_list, isi_tuple_dict, isi_list_bool, isi_list_int, isi_list_str, isi_list_tuple, isi_list_list, isi_list_dict, isi_dict_bool, isi_dict_int, isi_dict_str, isi_dict_tuple, isi_dict_list, isi_dict_dict, uMul, bInt, mPopAt, uEnumL, szl, Nat.reduceLeDiff, Option.getD_some, uZipL, uListRev, uRev, uSetFrom, bSorted, uRepL]
  refine ite2 (fun _ => ?_) (fun _ => ?_)
  · subst hA
    simp only [uAsg, hName, eqX_int, eqX_str, capt, uLtX, uIn, items, uEnum, uZip, mExtend, mClear, at0, at1, at2, at3, Option.some.injEq, exists_eq_left', true_and, and_true, uBM, uBM0, mAppend, mPop, uCallV, inTab, ixTab, bMax, bSum, cLt, cLe, cGt, cGe, uAddL, startU, uOr, uAnd, uNot, uTru, uTest, uCB, uCons, uVar, uC, uNil, uOp, uUn, uChain, uI0, uI, uAndV, uOrV, uNotV, uIf, uTup, uLst, mkL, uCall, bIsi2, bLen, bAll, bInt1, bInt2, bList, bTuple, vw_non, vw_bl, vw_int, vw_str, vw_tup, vw_lst, vw_own, mup_same, mup_mup, typU, uEqS, uNeS, uIsN, uNotN, isNon, uAdd, uIx, uSlX, uNoPart, uPart, inSt, uIter, uRng1, uRng2, List.map_cons, List.map_nil, List.length_cons, List.length_nil, List.cons_append, List.nil_append, List.replicate, List.getElem?_cons_zero, List.getElem?_cons_succ, List.set_cons_zero, List.set_cons_succ, List.append_nil, Nat.reduceAdd, Nat.reduceSub, Nat.sub_self, Nat.add_sub_cancel, Bool.not_false, Bool.not_true, if_true, if_false, Bool.false_eq_true, reduceCtorEq, decide_true, decide_false, isi_NoneType_bool, isi_NoneType_int, isi_NoneType_str, isi_NoneType_tuple, isi_NoneType_list, isi_NoneType_dict, isi_bool_bool, isi_bool_int, isi_bool_str, isi_bool_tuple, isi_bool_list, isi_bool_dict, isi_int_bool, isi_int_int, isi_int_str, isi_int_tuple, isi_int_list, isi_int_dict, isi_str_bool, isi_str_int, isi_str_str, isi_str_tuple, isi_str_list, isi_str_dict, isi_tuple_bool, isi_tuple_int, isi_tuple_str, isi_tuple_tuple, isi_tuple_list, isi_tuple_dict, isi_list_bool, isi_list_int, isi_list_str, isi_list_tuple, isi_list_list, isi_list_dict, isi_dict_bool, isi_dict_int, isi_dict_str, isi_dict_tuple, isi_dict_list, isi_dict_dict, uMul, bInt, mPopAt, uEnumL, szl, Nat.reduceLeDiff, Option.getD_some, uZipL, uListRev, uRev, uSetFrom, bSorted, uRepL]
    refine ⟨t, ns, a3, b3, c3, cs, rfl, mup_same, hC, by omega, by omega, fun ks a4 b4 c4 hk hkl g7 g8 => ?_⟩
    rw [mup_mup]
    exact go ks a4 b4 c4 hk hkl (by omega) (by omega)
  · subst hB
    simp only [uNext]
    exact go [] a3 b3 c3 (fun k h => by cases h) (by simp) (by omega) (by omega)

end
end K54

set_option linter.all false
set_option maxRecDepth 100000
namespace K54
open PySem L2 U2
section
variable {P : Program} {w : World} {K : PySem.W.Frag} {mg : Str → Option Value} {base : Heap} {f d d2 fl : Addr} {fd : FuncData}

def colsU (cs : List Str) (acc : List Pt) : List U := cs.map U.str ++ acc.map Pt.toU
theorem cols_data {acc : List Pt} (ha : ∀ p ∈ acc, fineP p) : ∀ cs : List Str, (∀ s ∈ cs, PyData.strOk s = true) → ∃ ds, toDs (colsU cs acc) = some ds ∧ PyData.canLayAll0 ds = true ∧ PyData.depthAll ds ≤ 20
  | [], _ => by
    refine ⟨acc.map datP, by simpa [colsU] using toDs_Ps acc, lay_Ps acc ha, ?_⟩
    induction acc with
    | nil => simp [PyData.depthAll]
    | cons p l ih =>
      have h1 := depth_P p
      have h2 := (ha p List.mem_cons_self).2
      have h3 := ih fun x hx => ha x (List.mem_cons_of_mem _ hx)
      simp only [List.map_cons, PyData.depthAll]; omega
  | s :: cs, h => by
    obtain ⟨ds, h1, h2, h3⟩ := cols_data ha cs fun x hx => h x (List.mem_cons_of_mem _ hx)
    have h1' : toDs (cs.map U.str ++ acc.map Pt.toU) = some ds := h1
    refine ⟨.str s :: ds, ?_, ?_, ?_⟩
    · simp only [colsU, List.map_cons, List.cons_append, toDs, toD, h1']
    · simp only [PyData.canLayAll0, PyData.canLay0, h s List.mem_cons_self, h2, Bool.and_self]
    · simp only [PyData.depthAll, PyData.depth]; omega
theorem eqX_cols {cs : List Str} {acc : List Pt} {p : Addr} {M : MHp} {Q : UK} {neg : Bool} (ha : ∀ p ∈ acc, fineP p) (hcs : ∀ s ∈ cs, PyData.strOk s = true) (hM : M p = some (.lst (colsU cs acc))) (q : Q (.bl (!neg)) M) : uEqX neg (.ref p) (.lst (colsU cs acc)) M Q := by
  obtain ⟨ds, h1, h2, h3⟩ := cols_data ha cs hcs
  have e1 : topD M (.ref p) = some (.list ds) := by simp only [topD, hM, h1, Option.map_some]
  have e2 : topD M (.lst (colsU cs acc)) = some (.list ds) := by simp only [topD, toD, h1, Option.map_some]
  have hl : (PyData.list ds).canLay0 = true := by simp only [PyData.canLay0]; exact h2
  show uEqD neg _ _ M Q
  refine ⟨_, _, e1, e2, hl, hl, by simp only [PyData.depth]; omega, ?_⟩
  rw [SeqAt.eqv_refl _ hl]
  cases neg <;> exact q
def spLaw : USp := fun us M Q => ∃ ns : List Int, us = [.lst (ns.map .int)] ∧ ns.length ≤ 63 ∧ Q (.bl true) M
set_option maxHeartbeats 1000000 in
theorem ok_law (F : Fun K "law" "law" s_law f fd) (m_list : mg "list" = none) (m_isinstance : mg "isinstance" = none) (C_law_table : Callee P w K mg base 8 "_law_table" spTable []) (C_law_parts : Callee P w K mg base 6 "_law_parts" spParts []) (C_columns : Callee P w K mg base 9 "columns" spCols []) : FnOk P w K mg base CX0 10 f fd ["script"] (liftSp K spLaw) := by
  refine fnok_of F sc_law (fun us M Q h => by obtain ⟨x, rfl, _⟩ := h; rfl) (uss_cons (us_set 1 sc_law.nd (ue_lst (own := true) (ua_cons (ue_t (b_list (own := false)) m_list (ua_cons (ue_slX (own := false) (uv 0) uo_none (uo_some un_)) ua_nil)) (ua_cons un_ (ua_cons un_ (ua_cons un_ ua_nil))))))
  (uss_cons (us_set 2 sc_law.nd (ue_call C_law_table (ua_cons (uv 1) ua_nil)))
  (uss_cons (us_set 3 sc_law.nd (ue_add (own := false) (ue_t (b_list (own := false)) m_list (ua_cons (ue_ix (uv 2) un_) ua_nil)) (ue_call C_law_parts (ua_cons (uv 2) ua_nil))))
  (uss_cons (us_set 4 sc_law.nd (ue_call C_columns (ua_cons (uv 2) ua_nil)))
  (uss_cons (us_if (PWU.pt (uw_or (ut_not (ut_val (ue_b b_isi m_isinstance (ua_cons (uv 4) (ua_cons (ug_ty (n := "list") m_list) ua_nil))))) (uw_or1 (ut_c k_neX (uv 4) (uv 3)))))
  (uss_one (us_ret ub_))
  uss_nil)
  (uss_cons (us_expr (ue_append (uv 4) (ua_cons us_ ua_nil)))
  (uss_one (us_ret (ue_c k_eqX (ue_call C_columns (ua_cons (uv 2) ua_nil)) (uv 3)))))))))) ?_
  rintro us M Q ⟨ns, rfl, hl, q⟩
  refine seq_gen fun V hV => ?_
  simp only [uAsg, hName, startU, cut_map, eqX_int, eqX_str, capt, uLtX, uIn, items, uEnum, uZip, mExtend, mClear, at0, at1, at2, at3, Option.some.injEq, exists_eq_left', true_and, and_true, uBM, uBM0, mAppend, mPop, uCallV, inTab, ixTab, bMax, bSum, cLt, cLe, cGt, cGe, uAddL, startU, uOr, uAnd, uNot, uTru, uTest, uCB, uCons, uVar, uC, uNil, uOp, uUn, uChain, uI0, uI, uAndV, uOrV, uNotV, uIf, uTup, uLst, mkL, uCall, bIsi2, bLen, bAll, bInt1, bInt2, bList, bTuple, vw_non, vw_bl, vw_int, vw_str, vw_tup, vw_lst, vw_own, mup_same, mup_mup, typU, uEqS, uNeS, uIsN, uNotN, isNon, uAdd, uIx, uSlX, uNoPart, uPart, inSt, uIter, uRng1, uRng2, List.map_cons, List.map_nil, List.length_cons, List.length_nil, List.cons_append, List.nil_append, List.replicate, List.getElem?_cons_zero, List.getElem?_cons_succ, List.set_cons_zero, List.set_cons_succ, List.append_nil, Nat.reduceAdd, Nat.reduceSub, Nat.sub_self, Nat.add_sub_cancel, Bool.not_false, Bool.not_true, if_true, if_false, Bool.false_eq_true, reduceCtorEq, decide_true, decide_false, isi_NoneType_bool, isi_NoneType_int, isi_NoneType_str, isi_NoneType_tuple, isi_NoneType_list, isi_NoneType_dict, isi_bool_bool, isi_bool_int, isi_bool_str, isi_bool_tuple, isi_bool_list, isi_bool_dict, isi_int_bool, isi_int_int, isi_int_str, isi_int_tuple, isi_int_list, isi_int_dict, isi_str_bool, isi_str_int, isi_str_str, isi_str_tuple, isi_str_list, isi_str_dict, isi_tuple_bool, isi_tuple_int, isi_tuple_str, isi_tuple_tuple, isi_tuple_list, isi_tuple_dict, isi_list_bool, isi_list_int, isi_list_str, isi_list_tuple, isi_list_list, isi_list_dict, isi_dict_bool, isi_dict_int, isi_dict_str, isi_dict_tuple, isi_dict_list, isi_dict_dict, uMul, bInt, mPopAt, uEnumL, szl, Nat.reduceLeDiff, Option.getD_some, uZipL, uListRev, uRev, uSetFrom, bSorted, uRepL]
  intro t ht
  subst hV
  refine seq_gen fun V hV => ?_
  simp only [uAsg, hName, eqX_int, eqX_str, capt, uLtX, uIn, items, uEnum, uZip, mExtend, mClear, at0, at1, at2, at3, Option.some.injEq, exists_eq_left', true_and, and_true, uBM, uBM0, mAppend, mPop, uCallV, inTab, ixTab, bMax, bSum, cLt, cLe, cGt, cGe, uAddL, startU, uOr, uAnd, uNot, uTru, uTest, uCB, uCons, uVar, uC, uNil, uOp, uUn, uChain, uI0, uI, uAndV, uOrV, uNotV, uIf, uTup, uLst, mkL, uCall, bIsi2, bLen, bAll, bInt1, bInt2, bList, bTuple, vw_non, vw_bl, vw_int, vw_str, vw_tup, vw_lst, vw_own, mup_same, mup_mup, typU, uEqS, uNeS, uIsN, uNotN, isNon, uAdd, uIx, uSlX, uNoPart, uPart, inSt, uIter, uRng1, uRng2, List.map_cons, List.map_nil, List.length_cons, List.length_nil, List.cons_append, List.nil_append, List.replicate, List.getElem?_cons_zero, List.getElem?_cons_succ, List.set_cons_zero, List.set_cons_succ, List.append_nil, Nat.reduceAdd, Nat.reduceSub, Nat.sub_self, Nat.add_sub_cancel, Bool.not_false, Bool.not_true, if_true, if_false, Bool.false_eq_true, reduceCtorEq, decide_true, decide_false, isi_NoneType_bool, isi_NoneType_int, isi_NoneType_str, isi_NoneType_tuple, isi_NoneType_list, isi_NoneType_dict, isi_bool_bool, isi_bool_int, isi_bool_str, isi_bool_tuple, isi_bool_list, isi_bool_dict, isi_int_bool, isi_int_int, isi_int_str, isi_int_tuple, isi_int_list, isi_int_dict, isi_str_bool, isi_str_int, isi_str_str, isi_str_tuple, isi_str_list, isi_str_dict, isi_tuple_bool, isi_tuple_int, isi_tuple_str, isi_tuple_tuple, isi_tuple_list, isi_tuple_dict, isi_list_bool, isi_list_int, isi_list_str, isi_list_tuple, isi_list_list, isi_list_dict, isi_dict_bool, isi_dict_int, isi_dict_str, isi_dict_tuple, isi_dict_list, isi_dict_dict, uMul, bInt, mPopAt, uEnumL, szl, Nat.reduceLeDiff, Option.getD_some, uZipL, uListRev, uRev, uSetFrom, bSorted, uRepL]
  refine ⟨t, cutU ns none (some 63), 0, 0, rfl, mup_same, fun cs tls T' hT => ?_⟩
  rw [mup_mup]
  obtain ⟨hac, hal⟩ := acc_ok hT tls.length
  rw [List.take_length] at hac hal
  have hac' : ∀ q ∈ partsF tls, fineP q := hac
  have hal' : (partsF tls).length ≤ 640 := hal
  have hc6 := hT.cls.len
  subst hV
  refine seq_gen fun V hV => ?_
  simp only [uAsg, hName, vw_tab, sortsU, eqX_int, eqX_str, capt, uLtX, uIn, items, uEnum, uZip, mExtend, mClear, at0, at1, at2, at3, Option.some.injEq, exists_eq_left', true_and, and_true, uBM, uBM0, mAppend, mPop, uCallV, inTab, ixTab, bMax, bSum, cLt, cLe, cGt, cGe, uAddL, startU, uOr, uAnd, uNot, uTru, uTest, uCB, uCons, uVar, uC, uNil, uOp, uUn, uChain, uI0, uI, uAndV, uOrV, uNotV, uIf, uTup, uLst, mkL, uCall, bIsi2, bLen, bAll, bInt1, bInt2, bList, bTuple, vw_non, vw_bl, vw_int, vw_str, vw_tup, vw_lst, vw_own, mup_same, mup_mup, typU, uEqS, uNeS, uIsN, uNotN, isNon, uAdd, uIx, uSlX, uNoPart, uPart, inSt, uIter, uRng1, uRng2, List.map_cons, List.map_nil, List.length_cons, List.length_nil, List.cons_append, List.nil_append, List.replicate, List.getElem?_cons_zero, List.getElem?_cons_succ, List.set_cons_zero, List.set_cons_succ, List.append_nil, Nat.reduceAdd, Nat.reduceSub, Nat.sub_self, Nat.add_sub_cancel, Bool.not_false, Bool.not_true, if_true, if_false, Bool.false_eq_true, reduceCtorEq, decide_true, decide_false, isi_NoneType_bool, isi_NoneType_int, isi_NoneType_str, isi_NoneType_tuple, isi_NoneType_list, isi_NoneType_dict, isi_bool_bool, isi_bool_int, isi_bool_str, isi_bool_tuple, isi_bool_list, isi_bool_dict, isi_int_bool, isi_int_int, isi_int_str, isi_int_tuple, isi_int_list, isi_int_dict, isi_str_bool, isi_str_int, isi_str_str, isi_str_tuple, isi_str_list, isi_str_dict, isi_tuple_bool, isi_tuple_int, isi_tuple_str, isi_tuple_tuple, isi_tuple_list, isi_tuple_dict, isi_list_bool, isi_list_int, isi_list_str, isi_list_tuple, isi_list_list, isi_list_dict, isi_dict_bool, isi_dict_int, isi_dict_str, isi_dict_tuple, isi_dict_list, isi_dict_dict, uMul, bInt, mPopAt, uEnumL, szl, Nat.reduceLeDiff, Option.getD_some, uZipL, uListRev, uRev, uSetFrom, bSorted, uRepL]
  refine ⟨cs, tls, rfl, hT, ?_⟩
  simp only [eqX_int, eqX_str, capt, uLtX, uIn, items, uEnum, uZip, mExtend, mClear, at0, at1, at2, at3, Option.some.injEq, exists_eq_left', true_and, and_true, uBM, uBM0, mAppend, mPop, uCallV, inTab, ixTab, bMax, bSum, cLt, cLe, cGt, cGe, uAddL, startU, uOr, uAnd, uNot, uTru, uTest, uCB, uCons, uVar, uC, uNil, uOp, uUn, uChain, uI0, uI, uAndV, uOrV, uNotV, uIf, uTup, uLst, mkL, uCall, bIsi2, bLen, bAll, bInt1, bInt2, bList, bTuple, vw_non, vw_bl, vw_int, vw_str, vw_tup, vw_lst, vw_own, mup_same, mup_mup, typU, uEqS, uNeS, uIsN, uNotN, isNon, uAdd, uIx, uSlX, uNoPart, uPart, inSt, uIter, uRng1, uRng2, List.map_cons, List.map_nil, List.length_cons, List.length_nil, List.cons_append, List.nil_append, List.replicate, List.getElem?_cons_zero, List.getElem?_cons_succ, List.set_cons_zero, List.set_cons_succ, List.append_nil, Nat.reduceAdd, Nat.reduceSub, Nat.sub_self, Nat.add_sub_cancel, Bool.not_false, Bool.not_true, if_true, if_false, Bool.false_eq_true, reduceCtorEq, decide_true, decide_false, isi_NoneType_bool, isi_NoneType_int, isi_NoneType_str, isi_NoneType_tuple, isi_NoneType_list, isi_NoneType_dict, isi_bool_bool, isi_bool_int, isi_bool_str, isi_bool_tuple, isi_bool_list, isi_bool_dict, isi_int_bool, isi_int_int, isi_int_str, isi_int_tuple, isi_int_list, isi_int_dict, isi_str_bool, isi_str_int, isi_str_str, isi_str_tuple, isi_str_list, isi_str_dict, isi_tuple_bool, isi_tuple_int, isi_tuple_str, isi_tuple_tuple, isi_tuple_list, isi_tuple_dict, isi_list_bool, isi_list_int, isi_list_str, isi_list_tuple, isi_list_list, isi_list_dict, isi_dict_bool, isi_dict_int, isi_dict_str, isi_dict_tuple, isi_dict_list, isi_dict_dict, uMul, bInt, mPopAt, uEnumL, szl, Nat.reduceLeDiff, Option.getD_some, uZipL, uListRev, uRev, uSetFrom, bSorted, uRepL]
  refine ⟨small (by rw [List.length_map, List.length_map]; omega), ?_⟩
  have ecl : cs.map U.str ++ (partsF tls).map Pt.toU = colsU cs (partsF tls) := rfl
  try simp only [mkL]
  rw [ecl]
  subst hV
  refine seq_gen fun V hV => ?_
  simp only [uAsg, hName, eqX_int, eqX_str, capt, uLtX, uIn, items, uEnum, uZip, mExtend, mClear, at0, at1, at2, at3, Option.some.injEq, exists_eq_left', true_and, and_true, uBM, uBM0, mAppend, mPop, uCallV, inTab, ixTab, bMax, bSum, cLt, cLe, cGt, cGe, uAddL, startU, uOr, uAnd, uNot, uTru, uTest, uCB, uCons, uVar, uC, uNil, uOp, uUn, uChain, uI0, uI, uAndV, uOrV, uNotV, uIf, uTup, uLst, mkL, uCall, bIsi2, bLen, bAll, bInt1, bInt2, bList, bTuple, vw_non, vw_bl, vw_int, vw_str, vw_tup, vw_lst, vw_own, mup_same, mup_mup, typU, uEqS, uNeS, uIsN, uNotN, isNon, uAdd, uIx, uSlX, uNoPart, uPart, inSt, uIter, uRng1, uRng2, List.map_cons, List.map_nil, List.length_cons, List.length_nil, List.cons_append, List.nil_append, List.replicate, List.getElem?_cons_zero, List.getElem?_cons_succ, List.set_cons_zero, List.set_cons_succ, List.append_nil, Nat.reduceAdd, Nat.reduceSub, Nat.sub_self, Nat.add_sub_cancel, Bool.not_false, Bool.not_true, if_true, if_false, Bool.false_eq_true, reduceCtorEq, decide_true, decide_false, isi_NoneType_bool, isi_NoneType_int, isi_NoneType_str, isi_NoneType_tuple, isi_NoneType_list, isi_NoneType_dict, isi_bool_bool, isi_bool_int, isi_bool_str, isi_bool_tuple, isi_bool_list, isi_bool_dict, isi_int_bool, isi_int_int, isi_int_str, isi_int_tuple, isi_int_list, isi_int_dict, isi_str_bool, isi_str_int, isi_str_str, isi_str_tuple, isi_str_list, isi_str_dict, isi_tuple_bool, isi_tuple_int, isi_tuple_str, isi_tuple_tuple, isi_tuple_list, isi_tuple_dict, isi_list_bool, isi_list_int, isi_list_str, isi_list_tuple, isi_list_list, isi_list_dict, isi_dict_bool, isi_dict_int, isi_dict_str, isi_dict_tuple, isi_dict_list, isi_dict_dict, uMul, bInt, mPopAt, uEnumL, szl, Nat.reduceLeDiff, Option.getD_some, uZipL, uListRev, uRev, uSetFrom, bSorted, uRepL]
  refine ⟨cs, tls, rfl, hT, fun p hp => ?_⟩
  rw [ecl]
  have htp : t ≠ p := fun z => by subst z; rw [mup_same] at hp; cases hp
  have hMp : M p = none := by rw [mup_ne (fun z => htp z.symm)] at hp; exact hp
  subst hV
  refine seq_gen fun V hV => ?_
  refine if_gen fun A B hA hB => ?_
  simp only [typU, mup_same, eqX_int, eqX_str, capt, uLtX, uIn, items, uEnum, uZip, mExtend, mClear, at0, at1, at2, at3, Option.some.injEq, exists_eq_left', true_and, and_true, uBM, uBM0, mAppend, mPop, uCallV, inTab, ixTab, bMax, bSum, cLt, cLe, cGt, cGe, uAddL, startU, uOr, uAnd, uNot, uTru, uTest, uCB, uCons, uVar, uC, uNil, uOp, uUn, uChain, uI0, uI, uAndV, uOrV, uNotV, uIf, uTup, uLst, mkL, uCall, bIsi2, bLen, bAll, bInt1, bInt2, bList, bTuple, vw_non, vw_bl, vw_int, vw_str, vw_tup, vw_lst, vw_own, mup_same, mup_mup, typU, uEqS, uNeS, uIsN, uNotN, isNon, uAdd, uIx, uSlX, uNoPart, uPart, inSt, uIter, uRng1, uRng2, List.map_cons, List.map_nil, List.length_cons, List.length_nil, List.cons_append, List.nil_append, List.replicate, List.getElem?_cons_zero, List.getElem?_cons_succ, List.set_cons_zero, List.set_cons_succ, List.append_nil, Nat.reduceAdd, Nat.reduceSub, Nat.sub_self, Nat.add_sub_cancel, Bool.not_false, Bool.not_true, if_true, if_false, Bool.false_eq_true, reduceCtorEq, decide_true, decide_false, isi_NoneType_bool, isi_NoneType_int, isi_NoneType_str, isi_NoneType_tuple, isi_NoneType_list, isi_NoneType_dict, isi_bool_bool, isi_bool_int, isi_bool_str, isi_bool_tuple, isi_bool_list, isi_bool_dict, isi_int_bool, isi_int_int, isi_int_str, isi_int_tuple, isi_int_list, isi_int_dict, isi_str_bool, isi_str_int, isi_str_str, isi_str_tuple, isi_str_list, isi_str_dict, isi_tuple_bool, isi_tuple_int, isi_tuple_str, isi_tuple_tuple, isi_tuple_list, isi_tuple_dict, isi_list_bool, isi_list_int, isi_list_str, isi_list_tuple, isi_list_list, isi_list_dict, isi_dict_bool, isi_dict_int, isi_dict_str, isi_dict_tuple, isi_dict_list, isi_dict_dict, uMul, bInt, mPopAt, uEnumL, szl, Nat.reduceLeDiff, Option.getD_some, uZipL, uListRev, uRev, uSetFrom, bSorted, uRepL]
  refine eqX_cols hac' hT.cls.ok mup_same ?_
  simp only [Bool.not_true, Bool.false_eq_true, if_false]
  subst hB
  simp only [uNext]
  subst hV
  refine seq_gen fun V hV => ?_
  simp only [uDrop, eqX_int, eqX_str, capt, uLtX, uIn, items, uEnum, uZip, mExtend, mClear, at0, at1, at2, at3, Option.some.injEq, exists_eq_left', true_and, and_true, uBM, uBM0, mAppend, mPop, uCallV, inTab, ixTab, bMax, bSum, cLt, cLe, cGt, cGe, uAddL, startU, uOr, uAnd, uNot, uTru, uTest, uCB, uCons, uVar, uC, uNil, uOp, uUn, uChain, uI0, uI, uAndV, uOrV, uNotV, uIf, uTup, uLst, mkL, uCall, bIsi2, bLen, bAll, bInt1, bInt2, bList, bTuple, vw_non, vw_bl, vw_int, vw_str, vw_tup, vw_lst, vw_own, mup_same, mup_mup, typU, uEqS, uNeS, uIsN, uNotN, isNon, uAdd, uIx, uSlX, uNoPart, uPart, inSt, uIter, uRng1, uRng2, List.map_cons, List.map_nil, List.length_cons, List.length_nil, List.cons_append, List.nil_append, List.replicate, List.getElem?_cons_zero, List.getElem?_cons_succ, List.set_cons_zero, List.set_cons_succ, List.append_nil, Nat.reduceAdd, Nat.reduceSub, Nat.sub_self, Nat.add_sub_cancel, Bool.not_false, Bool.not_true, if_true, if_false, Bool.false_eq_true, reduceCtorEq, decide_true, decide_false, isi_NoneType_bool, isi_NoneType_int, isi_NoneType_str, isi_NoneType_tuple, isi_NoneType_list, isi_NoneType_dict, isi_bool_bool, isi_bool_int, isi_bool_str, isi_bool_tuple, isi_bool_list, isi_bool_dict, isi_int_bool, isi_int_int, isi_int_str, isi_int_tuple, isi_int_list, isi_int_dict, isi_str_bool, isi_str_int, isi_str_str, isi_str_tuple, isi_str_list, isi_str_dict, isi_tuple_bool, isi_tuple_int, isi_tuple_str, isi_tuple_tuple, isi_tuple_list, isi_tuple_dict, isi_list_bool, isi_list_int, isi_list_str, isi_list_tuple, isi_list_list, isi_list_dict, isi_dict_bool, isi_dict_int, isi_dict_str, isi_dict_tuple, isi_dict_list, isi_dict_dict, uMul, bInt, mPopAt, uEnumL, szl, Nat.reduceLeDiff, Option.getD_some, uZipL, uListRev, uRev, uSetFrom, bSorted, uRepL]
  refine ⟨isL_own, big (by rw [colsU, List.length_append, List.length_map, List.length_map]; omega), ?_⟩
  subst hV
  simp only [uRet, eqX_int, eqX_str, capt, uLtX, uIn, items, uEnum, uZip, mExtend, mClear, at0, at1, at2, at3, Option.some.injEq, exists_eq_left', true_and, and_true, uBM, uBM0, mAppend, mPop, uCallV, inTab, ixTab, bMax, bSum, cLt, cLe, cGt, cGe, uAddL, startU, uOr, uAnd, uNot, uTru, uTest, uCB, uCons, uVar, uC, uNil, uOp, uUn, uChain, uI0, uI, uAndV, uOrV, uNotV, uIf, uTup, uLst, mkL, uCall, bIsi2, bLen, bAll, bInt1, bInt2, bList, bTuple, vw_non, vw_bl, vw_int, vw_str, vw_tup, vw_lst, vw_own, mup_same, mup_mup, typU, uEqS, uNeS, uIsN, uNotN, isNon, uAdd, uIx, uSlX, uNoPart, uPart, inSt, uIter, uRng1, uRng2, List.map_cons, List.map_nil, List.length_cons, List.length_nil, List.cons_append, List.nil_append, List.replicate, List.getElem?_cons_zero, List.getElem?_cons_succ, List.set_cons_zero, List.set_cons_succ, List.append_nil, Nat.reduceAdd, Nat.reduceSub, Nat.sub_self, Nat.add_sub_cancel, Bool.not_false, Bool.not_true, if_true, if_false, Bool.false_eq_true, reduceCtorEq, decide_true, decide_false, isi_NoneType_bool, isi_NoneType_int, isi_NoneType_str, isi_NoneType_tuple, isi_NoneType_list, isi_NoneType_dict, isi_bool_bool, isi_bool_int, isi_bool_str, isi_bool_tuple, isi_bool_list, isi_bool_dict, isi_int_bool, isi_int_int, isi_int_str, isi_int_tuple, isi_int_list, isi_int_dict, isi_str_bool, isi_str_int, isi_str_str, isi_str_tuple, isi_str_list, isi_str_dict, isi_tuple_bool, isi_tuple_int, isi_tuple_str, isi_tuple_tuple, isi_tuple_list, isi_tuple_dict, isi_list_bool, isi_list_int, isi_list_str, isi_list_tuple, isi_list_list, isi_list_dict, isi_dict_bool, isi_dict_int, isi_dict_str, isi_dict_tuple, isi_dict_list, isi_dict_dict, uMul, bInt, mPopAt, uEnumL, szl, Nat.reduceLeDiff, Option.getD_some, uZipL, uListRev, uRev, uSetFrom, bSorted, uRepL]
  refine ⟨cs, tls, rfl, hT, fun p2 hp2 => ?_⟩
  rw [ecl]
  refine eqX_cols hac' hT.cls.ok mup_same ?_
  refine ⟨.bl true, M, fun z o hz => ?_, .inl rfl, q⟩
  have z1 : z ≠ t := fun e => by subst e; rw [ht] at hz; cases hz
  have z2 : z ≠ p := fun e => by subst e; rw [hMp] at hz; cases hz
  have z3 : z ≠ p2 := fun e => by
    subst e
    rw [mup_ne z2] at hp2
    first | (rw [mup_ne z2, mup_ne z1, hz] at hp2; cases hp2) | (rw [mup_ne z1, hz] at hp2; cases hp2)
  rw [mup_ne z3, mup_ne z2]
  first | (rw [mup_ne z2, mup_ne z1]; exact hz) | (rw [mup_ne z1]; exact hz)

end

theorem ints_rel {K : PySem.W.Frag} {H : Hp} {M : MHp} : ∀ ns : List Int, RelUs K H M (ns.map U.int) (ns.map V.int)
  | [] => .nil
  | _ :: r => .cons relU_int (ints_rel r)
theorem law_entry {K : PySem.W.Frag} {H : Hp} {a : Addr} {ns : List Int} {E : XK} (hl : ns.length ≤ 63) (hS : SqL K H a (ns.map V.int)) : liftSp K spLaw [.ref a] H (fun v _ => v = .bl true) E := by
  refine ⟨[.lst (ns.map .int)], fun _ => none, fun u _ => u = .bl true, (fun a mo e => by cases e), .cons ?_ .nil, ⟨ns, rfl, hl, rfl⟩, fun u v M1 H1 _ _ ru q => by subst q; exact ru.bl⟩
  simp only [RelU]
  refine ⟨a, _, rfl, ?_, ints_rel ns⟩
  rcases hS with h | h
  · exact .inl ⟨trivial, h⟩
  · exact .inr h
open PyProof.Rows in
theorem all_mk {l : PySem.W.OpenLaw} {w : World} {K : PySem.W.Frag} {h : Heap} {mg : Str → Option Value} {fa f0 f1 f2 f3 f4 f5 f6 f7 f8 f9 f10 f11 f12 f13 f14 : Addr} (X : K.In h) (G : h.Ns mainGlobals mg) (hfa : mg "law" = some (.ref fa))
    {od0 an0 : Option Addr} {sl0 : Array (Option Value)} {oc0 kV0 dc0 pm0 cd0 ct0 : Value}
    {od1 an1 : Option Addr} {sl1 : Array (Option Value)} {oc1 kV1 dc1 pm1 cd1 ct1 : Value}
    {od2 an2 : Option Addr} {sl2 : Array (Option Value)} {oc2 kV2 dc2 pm2 cd2 ct2 : Value}
    {od3 an3 : Option Addr} {sl3 : Array (Option Value)} {oc3 kV3 dc3 pm3 cd3 ct3 : Value}
    {od4 an4 : Option Addr} {sl4 : Array (Option Value)} {oc4 kV4 dc4 pm4 cd4 ct4 : Value}
    {od5 an5 : Option Addr} {sl5 : Array (Option Value)} {oc5 kV5 dc5 pm5 cd5 ct5 : Value}
    {od6 an6 : Option Addr} {sl6 : Array (Option Value)} {oc6 kV6 dc6 pm6 cd6 ct6 : Value}
    {od7 an7 : Option Addr} {sl7 : Array (Option Value)} {oc7 kV7 dc7 pm7 cd7 ct7 : Value}
    {od8 an8 : Option Addr} {sl8 : Array (Option Value)} {oc8 kV8 dc8 pm8 cd8 ct8 : Value}
    {od9 an9 : Option Addr} {sl9 : Array (Option Value)} {oc9 kV9 dc9 pm9 cd9 ct9 : Value}
    {od10 an10 : Option Addr} {sl10 : Array (Option Value)} {oc10 kV10 dc10 pm10 cd10 ct10 : Value}
    {od11 an11 : Option Addr} {sl11 : Array (Option Value)} {oc11 kV11 dc11 pm11 cd11 ct11 : Value}
    {od12 an12 : Option Addr} {sl12 : Array (Option Value)} {oc12 kV12 dc12 pm12 cd12 ct12 : Value}
    {od13 an13 : Option Addr} {sl13 : Array (Option Value)} {oc13 kV13 dc13 pm13 cd13 ct13 : Value}
    {od14 an14 : Option Addr} {sl14 : Array (Option Value)} {oc14 kV14 dc14 pm14 cd14 ct14 : Value}
    (a0 : PySem.W.nsIn K mainGlobals "parts_of" = some (some (.ref f0))) (l0 : K.lookup f0 = some ⟨oc0, od0, .func (PySem.W.fnOf "parts_of" "parts_of" (defArgs s_parts_of) (defBody s_parts_of) (defScope s_parts_of) .none kV0 dc0 pm0 an0 cd0 ct0), sl0⟩) (c0 : PySem.W.codeIn K cd0 "parts_of" = true) (k0 : PySem.W.keepIn K (.ref f0) = true)
    (a1 : PySem.W.nsIn K mainGlobals "places_of" = some (some (.ref f1))) (l1 : K.lookup f1 = some ⟨oc1, od1, .func (PySem.W.fnOf "places_of" "places_of" (defArgs s_places_of) (defBody s_places_of) (defScope s_places_of) .none kV1 dc1 pm1 an1 cd1 ct1), sl1⟩) (c1 : PySem.W.codeIn K cd1 "places_of" = true) (k1 : PySem.W.keepIn K (.ref f1) = true)
    (a2 : PySem.W.nsIn K mainGlobals "shape_at" = some (some (.ref f2))) (l2 : K.lookup f2 = some ⟨oc2, od2, .func (PySem.W.fnOf "shape_at" "shape_at" (defArgs s_shape_at) (defBody s_shape_at) (defScope s_shape_at) .none kV2 dc2 pm2 an2 cd2 ct2), sl2⟩) (c2 : PySem.W.codeIn K cd2 "shape_at" = true) (k2 : PySem.W.keepIn K (.ref f2) = true)
    (a3 : PySem.W.nsIn K mainGlobals "columns_of" = some (some (.ref f3))) (l3 : K.lookup f3 = some ⟨oc3, od3, .func (PySem.W.fnOf "columns_of" "columns_of" (defArgs s_columns_of) (defBody s_columns_of) (defScope s_columns_of) .none kV3 dc3 pm3 an3 cd3 ct3), sl3⟩) (c3 : PySem.W.codeIn K cd3 "columns_of" = true) (k3 : PySem.W.keepIn K (.ref f3) = true)
    (a4 : PySem.W.nsIn K mainGlobals "columns" = some (some (.ref f4))) (l4 : K.lookup f4 = some ⟨oc4, od4, .func (PySem.W.fnOf "columns" "columns" (defArgs s_columns) (defBody s_columns) (defScope s_columns) .none kV4 dc4 pm4 an4 cd4 ct4), sl4⟩) (c4 : PySem.W.codeIn K cd4 "columns" = true) (k4 : PySem.W.keepIn K (.ref f4) = true)
    (a5 : PySem.W.nsIn K mainGlobals "_law_draw" = some (some (.ref f5))) (l5 : K.lookup f5 = some ⟨oc5, od5, .func (PySem.W.fnOf "_law_draw" "_law_draw" (defArgs s_law_draw) (defBody s_law_draw) (defScope s_law_draw) .none kV5 dc5 pm5 an5 cd5 ct5), sl5⟩) (c5 : PySem.W.codeIn K cd5 "_law_draw" = true) (k5 : PySem.W.keepIn K (.ref f5) = true)
    (a6 : PySem.W.nsIn K mainGlobals "_law_number" = some (some (.ref f6))) (l6 : K.lookup f6 = some ⟨oc6, od6, .func (PySem.W.fnOf "_law_number" "_law_number" (defArgs s_law_number) (defBody s_law_number) (defScope s_law_number) .none kV6 dc6 pm6 an6 cd6 ct6), sl6⟩) (c6 : PySem.W.codeIn K cd6 "_law_number" = true) (k6 : PySem.W.keepIn K (.ref f6) = true)
    (a7 : PySem.W.nsIn K mainGlobals "_law_pattern" = some (some (.ref f7))) (l7 : K.lookup f7 = some ⟨oc7, od7, .func (PySem.W.fnOf "_law_pattern" "_law_pattern" (defArgs s_law_pattern) (defBody s_law_pattern) (defScope s_law_pattern) .none kV7 dc7 pm7 an7 cd7 ct7), sl7⟩) (c7 : PySem.W.codeIn K cd7 "_law_pattern" = true) (k7 : PySem.W.keepIn K (.ref f7) = true)
    (a8 : PySem.W.nsIn K mainGlobals "_law_tile" = some (some (.ref f8))) (l8 : K.lookup f8 = some ⟨oc8, od8, .func (PySem.W.fnOf "_law_tile" "_law_tile" (defArgs s_law_tile) (defBody s_law_tile) (defScope s_law_tile) .none kV8 dc8 pm8 an8 cd8 ct8), sl8⟩) (c8 : PySem.W.codeIn K cd8 "_law_tile" = true) (k8 : PySem.W.keepIn K (.ref f8) = true)
    (a9 : PySem.W.nsIn K mainGlobals "_law_plain" = some (some (.ref f9))) (l9 : K.lookup f9 = some ⟨oc9, od9, .func (PySem.W.fnOf "_law_plain" "_law_plain" (defArgs s_law_plain) (defBody s_law_plain) (defScope s_law_plain) .none kV9 dc9 pm9 an9 cd9 ct9), sl9⟩) (c9 : PySem.W.codeIn K cd9 "_law_plain" = true) (k9 : PySem.W.keepIn K (.ref f9) = true)
    (a10 : PySem.W.nsIn K mainGlobals "_law_table" = some (some (.ref f10))) (l10 : K.lookup f10 = some ⟨oc10, od10, .func (PySem.W.fnOf "_law_table" "_law_table" (defArgs s_law_table) (defBody s_law_table) (defScope s_law_table) .none kV10 dc10 pm10 an10 cd10 ct10), sl10⟩) (c10 : PySem.W.codeIn K cd10 "_law_table" = true) (k10 : PySem.W.keepIn K (.ref f10) = true)
    (a11 : PySem.W.nsIn K mainGlobals "_law_tree" = some (some (.ref f11))) (l11 : K.lookup f11 = some ⟨oc11, od11, .func (PySem.W.fnOf "_law_tree" "_law_tree" (defArgs s_law_tree) (defBody s_law_tree) (defScope s_law_tree) .none kV11 dc11 pm11 an11 cd11 ct11), sl11⟩) (c11 : PySem.W.codeIn K cd11 "_law_tree" = true) (k11 : PySem.W.keepIn K (.ref f11) = true)
    (a12 : PySem.W.nsIn K mainGlobals "_law_parts" = some (some (.ref f12))) (l12 : K.lookup f12 = some ⟨oc12, od12, .func (PySem.W.fnOf "_law_parts" "_law_parts" (defArgs s_law_parts) (defBody s_law_parts) (defScope s_law_parts) .none kV12 dc12 pm12 an12 cd12 ct12), sl12⟩) (c12 : PySem.W.codeIn K cd12 "_law_parts" = true) (k12 : PySem.W.keepIn K (.ref f12) = true)
    (a13 : PySem.W.nsIn K mainGlobals "_law_below" = some (some (.ref f13))) (l13 : K.lookup f13 = some ⟨oc13, od13, .func (PySem.W.fnOf "_law_below" "_law_below" (defArgs s_law_below) (defBody s_law_below) (defScope s_law_below) .none kV13 dc13 pm13 an13 cd13 ct13), sl13⟩) (c13 : PySem.W.codeIn K cd13 "_law_below" = true) (k13 : PySem.W.keepIn K (.ref f13) = true)
    (a14 : PySem.W.nsIn K mainGlobals "law" = some (some (.ref f14))) (l14 : K.lookup f14 = some ⟨oc14, od14, .func (PySem.W.fnOf "law" "law" (defArgs s_law) (defBody s_law) (defScope s_law) .none kV14 dc14 pm14 an14 cd14 ct14), sl14⟩) (c14 : PySem.W.codeIn K cd14 "law" = true) (k14 : PySem.W.keepIn K (.ref f14) = true)
    {dt0 : Addr} (ta0 : PySem.W.nsIn K mainGlobals "SIGNS" = some (some (.ref dt0))) (tb0 : KTD.tabLook KTD.flatLooks (fun b => K.lookup b) dt0 (tabP SIGNS) = true) (tc0 : KTD.hashesOf (fun b => K.lookup b) dt0 = (tabP SIGNS).map fun p => (PySem.strKind l.prog w).hash p.1)
    (z0 : PySem.W.nsIn K mainGlobals "len" = some none)
    (z1 : PySem.W.nsIn K mainGlobals "isinstance" = some none)
    (z2 : PySem.W.nsIn K mainGlobals "range" = some none)
    (z3 : PySem.W.nsIn K mainGlobals "tuple" = some none)
    (z4 : PySem.W.nsIn K mainGlobals "list" = some none)
    (z5 : PySem.W.nsIn K mainGlobals "enumerate" = some none)
    (z6 : PySem.W.nsIn K mainGlobals "sorted" = some none)
    : ∃ fd : FuncData, (∀ (s : Shared) (v : Value), BindsTo s fd ⟨[v], []⟩ [("script", v)]) ∧ ∀ base : Heap, K.In base → base.Ns mainGlobals mg → FnOk l.prog w K mg base CX0 10 fa fd ["script"] (liftSp K spLaw) := by
  have e := hfa.symm.trans (PySem.W.mg_of X G a14)
  cases e
  have F_parts_of := fun_mk (st := s_parts_of) l0 c0 k0
  have v_parts_of := PySem.W.mg_of X G a0
  have F_places_of := fun_mk (st := s_places_of) l1 c1 k1
  have v_places_of := PySem.W.mg_of X G a1
  have F_shape_at := fun_mk (st := s_shape_at) l2 c2 k2
  have v_shape_at := PySem.W.mg_of X G a2
  have F_columns_of := fun_mk (st := s_columns_of) l3 c3 k3
  have v_columns_of := PySem.W.mg_of X G a3
  have F_columns := fun_mk (st := s_columns) l4 c4 k4
  have v_columns := PySem.W.mg_of X G a4
  have F_law_draw := fun_mk (st := s_law_draw) l5 c5 k5
  have v_law_draw := PySem.W.mg_of X G a5
  have F_law_number := fun_mk (st := s_law_number) l6 c6 k6
  have v_law_number := PySem.W.mg_of X G a6
  have F_law_pattern := fun_mk (st := s_law_pattern) l7 c7 k7
  have v_law_pattern := PySem.W.mg_of X G a7
  have F_law_tile := fun_mk (st := s_law_tile) l8 c8 k8
  have v_law_tile := PySem.W.mg_of X G a8
  have F_law_plain := fun_mk (st := s_law_plain) l9 c9 k9
  have v_law_plain := PySem.W.mg_of X G a9
  have F_law_table := fun_mk (st := s_law_table) l10 c10 k10
  have v_law_table := PySem.W.mg_of X G a10
  have F_law_tree := fun_mk (st := s_law_tree) l11 c11 k11
  have v_law_tree := PySem.W.mg_of X G a11
  have F_law_parts := fun_mk (st := s_law_parts) l12 c12 k12
  have v_law_parts := PySem.W.mg_of X G a12
  have F_law_below := fun_mk (st := s_law_below) l13 c13 k13
  have v_law_below := PySem.W.mg_of X G a13
  have F_law := fun_mk (st := s_law) l14 c14 k14
  have v_law := PySem.W.mg_of X G a14
  have g_SIGNS := PySem.W.mg_of X G ta0
  have T_SIGNS : IsTab l.prog w K dt0 SIGNS := tab_of (by decide +kernel) tb0 tc0
  have m_len := PySem.W.mg_none_of X G z0
  have m_isinstance := PySem.W.mg_none_of X G z1
  have m_range := PySem.W.mg_none_of X G z2
  have m_tuple := PySem.W.mg_none_of X G z3
  have m_list := PySem.W.mg_none_of X G z4
  have m_enumerate := PySem.W.mg_none_of X G z5
  have m_sorted := PySem.W.mg_none_of X G z6
  refine ⟨PySem.W.fnOf "law" "law" (defArgs s_law) (defBody s_law) (defScope s_law) .none kV14 dc14 pm14 an14 cd14 ct14, fun s v => .of_eq rfl, fun base _ _ => ?_⟩
  have c0 := ok_parts_of (P := l.prog) (w := w) (base := base) F_parts_of v_parts_of T_SIGNS g_SIGNS
  have b0 := places_all F_places_of v_places_of m_enumerate c0 6
  have b1 := ok_shape_at F_shape_at v_shape_at c0
  have b2 := ok_columns_of F_columns_of v_columns_of m_list b0 b1
  have b3 := ok_columns F_columns v_columns b2
  have d0 := ok_draw (P := l.prog) (w := w) (base := base) F_law_draw v_law_draw m_len
  have d1 := ok_number F_law_number v_law_number d0
  have d2 := pat_all F_law_pattern v_law_pattern m_len m_sorted d0 d1 4
  have d3 := ok_tile F_law_tile v_law_tile m_len d0 d2
  have d4 := ok_plain F_law_plain v_law_plain d0
  have d5 := ok_table F_law_table v_law_table m_tuple m_range m_len m_enumerate d0 d4 d3
  have d6 := below_all (P := l.prog) (w := w) (base := base) F_law_below v_law_below 4
  have d7 := ok_parts F_law_parts v_law_parts d6
  exact ok_law F_law m_list m_isinstance d5 d7 b3
theorem walk {l : PySem.W.OpenLaw} {q : Program} {loose : List Str} {XP : (Str → Option Value) → Heap → Prop} {YP : World → Heap → Prop} {d : DefRec} {K : Params → PySem.W.Frag} (hn : l.most = some 63) (hdf : d.params.defaults = [])
    (hY : ∀ (w : World) (h : Heap), YP w h → (K w.params).In h)
    (F : ∀ (w : World) (mg : Str → Option Value) (fa : Addr) (h : Heap), (K w.params).In h → h.Ns mainGlobals mg → mg d.name = some (.ref fa) →
      ∃ fd : FuncData, (∀ (s : Shared) (u : Value), BindsTo s fd ⟨[u], []⟩ [("script", u)]) ∧ ∀ base : Heap, (K w.params).In base → base.Ns mainGlobals mg → FnOk l.prog w (K w.params) mg base CX0 10 fa fd ["script"] (liftSp (K w.params) spLaw)) :
    PySem.W.WalkO q loose XP YP l.row.toRowW d [] (fun f vs => PySem.call f vs) :=
  L2.walk_of (n := 63) (k := 10) (x := "script") (CX := fun _ => CX0) (sp := fun w => liftSp (K w.params) spLaw) hn (by decide) hdf ⟨rfl, by decide, by decide⟩ hY F (fun _ _ a ns hl _ hS => law_entry hl hS) fun _ _ _ _ _ z => z
end K54
open PySem PySem.W PyProof.Rows
set_option maxRecDepth 100000 in
set_option maxHeartbeats 0 in
theorem PySem.Challenge.cw_rowsmith_k54_columns_holds : PySem.Challenge.rw_rowsmith_k54_columns.Holds := by
  w_on; o_law; k_head; (case hw => w_witness2)
  k_fill
  refine K54.walk (l := PySem.Challenge.rw_rowsmith_k54_columns) rfl rfl (fun w h Y => PySem.W.kIn_of Y) ?F
  case F =>
    intro w mg fa h KX G hmg
    refine' K54.all_mk KX G hmg ?a0 ?l0 ?c0 ?k0 ?a1 ?l1 ?c1 ?k1 ?a2 ?l2 ?c2 ?k2 ?a3 ?l3 ?c3 ?k3 ?a4 ?l4 ?c4 ?k4 ?a5 ?l5 ?c5 ?k5 ?a6 ?l6 ?c6 ?k6 ?a7 ?l7 ?c7 ?k7 ?a8 ?l8 ?c8 ?k8 ?a9 ?l9 ?c9 ?k9 ?a10 ?l10 ?c10 ?k10 ?a11 ?l11 ?c11 ?k11 ?a12 ?l12 ?c12 ?k12 ?a13 ?l13 ?c13 ?k13 ?a14 ?l14 ?c14 ?k14 ?ta0 ?tb0 ?tc0 ?z0 ?z1 ?z2 ?z3 ?z4 ?z5 ?z6
    (case a0 => k_is)
    (case l0 => k_is)
    (case c0 => k_is)
    (case k0 => k_is)
    (case a1 => k_is)
    (case l1 => k_is)
    (case c1 => k_is)
    (case k1 => k_is)
    (case a2 => k_is)
    (case l2 => k_is)
    (case c2 => k_is)
    (case k2 => k_is)
    (case a3 => k_is)
    (case l3 => k_is)
    (case c3 => k_is)
    (case k3 => k_is)
    (case a4 => k_is)
    (case l4 => k_is)
    (case c4 => k_is)
    (case k4 => k_is)
    (case a5 => k_is)
    (case l5 => k_is)
    (case c5 => k_is)
    (case k5 => k_is)
    (case a6 => k_is)
    (case l6 => k_is)
    (case c6 => k_is)
    (case k6 => k_is)
    (case a7 => k_is)
    (case l7 => k_is)
    (case c7 => k_is)
    (case k7 => k_is)
    (case a8 => k_is)
    (case l8 => k_is)
    (case c8 => k_is)
    (case k8 => k_is)
    (case a9 => k_is)
    (case l9 => k_is)
    (case c9 => k_is)
    (case k9 => k_is)
    (case a10 => k_is)
    (case l10 => k_is)
    (case c10 => k_is)
    (case k10 => k_is)
    (case a11 => k_is)
    (case l11 => k_is)
    (case c11 => k_is)
    (case k11 => k_is)
    (case a12 => k_is)
    (case l12 => k_is)
    (case c12 => k_is)
    (case k12 => k_is)
    (case a13 => k_is)
    (case l13 => k_is)
    (case c13 => k_is)
    (case k13 => k_is)
    (case a14 => k_is)
    (case l14 => k_is)
    (case c14 => k_is)
    (case k14 => k_is)
    (case ta0 => k_is)
    (case tb0 => kernel_rfl)
    (case tc0 => kernel_rfl)
    (case z0 => k_is)
    (case z1 => k_is)
    (case z2 => k_is)
    (case z3 => k_is)
    (case z4 => k_is)
    (case z5 => k_is)
    (case z6 => k_is)
#print axioms PySem.Challenge.cw_rowsmith_k54_columns_holds