import PyProof.Rows.All
import Wide.All
import OpenK.AllK
import Wide.FinOn
import Lean
import PyProof.EqAt
import PyProof.EqKinds
import PyProof.TupleCall
import PySem.Challenge.RW_rowsmith_k08_read_again
import KE.KLam
import KE.KNestM
import KE.KRevIter
import PyProof.ListRange
import PyProof.CollectIter
import PyProof.Rows.SortWalk
import PyProof.ListMulRoad
import PyProof.AutoListH
import PyProof.TupleOfGen
import PyProof.EnumMake
import PyProof.Rows.SortStr
import PyProof.FactsAll.tuple_2
set_option Elab.async false
set_option linter.all false
set_option maxRecDepth 100000
namespace L2
open PySem PySem.Spec PyProof.Rows
abbrev Key := Sum Int Str
def keyIs : Key → Value → Bool
  | .inl k, v => Value.isInt k v
  | .inr x, v => Value.isStrOf x v
def keyH (w : World) : Key → Int
  | .inl k => hashInt k
  | .inr x => hashStr w x
theorem keyIs_shape : ∀ {k : Key} {v : Value}, keyIs k v = true → (∃ i t, k = Sum.inl i ∧ v = Value.int i t) ∨ (∃ x t, k = Sum.inr x ∧ v = Value.str x t)
  | .inl i, v, h => by
    obtain ⟨t, e⟩ := Value.isInt_shape (k := i) (v := v) h
    exact .inl ⟨i, t, rfl, e⟩
  | .inr x, v, h => by
    obtain ⟨t, e⟩ := Value.isStrOf_shape (x := x) (v := v) h
    exact .inr ⟨x, t, rfl, e⟩
theorem key_ll (a b : Int) : decide ((Sum.inl a : Key) = Sum.inl b) = (a == b) := by
  by_cases e : a = b
  · subst e; simp
  · have h : ¬ (Sum.inl a : Key) = Sum.inl b := fun q => e (Sum.inl.inj q)
    rw [decide_eq_false h]
    exact (beq_eq_false_iff_ne.mpr e).symm
theorem key_rr (a b : Str) : decide ((Sum.inr a : Key) = Sum.inr b) = decide (a = b) := by
  by_cases e : a = b
  · subst e; simp
  · have h : ¬ (Sum.inr a : Key) = Sum.inr b := fun q => e (Sum.inr.inj q)
    rw [decide_eq_false h, decide_eq_false e]
theorem key_lr (a : Int) (b : Str) : decide ((Sum.inl a : Key) = Sum.inr b) = false := decide_eq_false (fun q => nomatch q)
theorem key_rl (a : Str) (b : Int) : decide ((Sum.inr a : Key) = Sum.inl b) = false := decide_eq_false (fun q => nomatch q)
def mixKind (prog : Program) (w : World) : PySem.KeyKind prog w Key where
  is := keyIs
  hash := keyH w
  inj := fun v a b ha hb => by
    rcases keyIs_shape ha with ⟨i, t, rfl, rfl⟩ | ⟨x, t, rfl, rfl⟩
    · rcases keyIs_shape hb with ⟨j, u, rfl, e⟩ | ⟨y, u, rfl, e⟩
      · injection e with e1 _; rw [e1]
      · exact nomatch e
    · rcases keyIs_shape hb with ⟨j, u, rfl, e⟩ | ⟨y, u, rfl, e⟩
      · exact nomatch e
      · injection e with e1 _; rw [e1]
  byValue := fun k v h => by
    rcases keyIs_shape h with ⟨i, t, rfl, rfl⟩ | ⟨x, t, rfl, rfl⟩ <;> rfl
  pyHash := fun hv h => by
    rcases keyIs_shape hv with ⟨i, t, rfl, rfl⟩ | ⟨x, t, rfl, rfl⟩
    · exact wpAny_pyHash_int h
    · exact wpAny_pyHash_str h
  eqBool := fun hu hv h => by
    rcases keyIs_shape hu with ⟨i, t, rfl, rfl⟩ | ⟨x, t, rfl, rfl⟩
    · rcases keyIs_shape hv with ⟨j, u, rfl, rfl⟩ | ⟨y, u, rfl, rfl⟩
      · rw [key_ll] at h; exact wpAny_eqBool_int h
      · rw [key_lr] at h; exact SeqAt.EqAt.int_str i t y u _ _ _ _ h
    · rcases keyIs_shape hv with ⟨j, u, rfl, rfl⟩ | ⟨y, u, rfl, rfl⟩
      · rw [key_rl] at h; exact SeqAt.EqAt.str_int x t j u _ _ _ _ h
      · rw [key_rr] at h; exact wpAny_eqBool_str h
  «strs» := fun k x t v h => by
    rcases keyIs_shape h with ⟨i, u, rfl, e⟩ | ⟨y, u, rfl, e⟩
    · exact nomatch e
    · injection e with e1 _
      subst e1
      cases v <;> rfl
end L2
namespace L2
open PySem PySem.Spec PyProof.Rows
inductive V where
  | non | bl (b : Bool) | int (i : Int) | str (x : Str) | byt (b : Array UInt8) | flt (b : UInt64) | ref (a : Addr) | ty (n : String)
  deriving DecidableEq
def RelV : V → Value → Prop
  | .non, u => u = Value.none
  | .bl b, u => u = Value.bool b
  | .int i, u => ∃ t, u = Value.int i t
  | .str x, u => ∃ t, u = Value.str x t
  | .byt b, u => ∃ t, u = Value.bytes b t
  | .flt b, u => ∃ t, u = Value.float b t
  | .ref a, u => u = Value.ref a
  | .ty n, u => u = Value.type n
abbrev Vals : List V → List Value → Prop := Paired RelV
theorem Vals.length {xs : List V} {us : List Value} (r : Vals xs us) : xs.length = us.length := Paired.length r
theorem Vals.get : ∀ {xs : List V} {us : List Value} {i : Nat} {x : V}, Vals xs us → xs[i]? = some x → ∃ u, us[i]? = some u ∧ RelV x u
  | _, _, _, _, .nil, e => by simp at e
  | _, _, 0, _, .cons r _, e => by simp at e; subst e; exact ⟨_, rfl, r⟩
  | _, _, i + 1, x, .cons _ t, e => by
    obtain ⟨u, h1, h2⟩ := Vals.get (i := i) (x := x) t (by simpa using e)
    exact ⟨u, by simpa using h1, h2⟩
theorem Vals.append : ∀ {xs ys : List V} {us ws : List Value}, Vals xs us → Vals ys ws → Vals (xs ++ ys) (us ++ ws)
  | _, _, _, _, .nil, s => s
  | _, _, _, _, .cons r t, s => .cons r (Vals.append t s)
theorem Vals.take : ∀ {xs : List V} {us : List Value} (n : Nat), Vals xs us → Vals (xs.take n) (us.take n)
  | _, _, 0, _ => .nil
  | _, _, _ + 1, .nil => .nil
  | _, _, n + 1, .cons r t => .cons r (Vals.take n t)
theorem Vals.drop : ∀ {xs : List V} {us : List Value} (n : Nat), Vals xs us → Vals (xs.drop n) (us.drop n)
  | _, _, 0, r => r
  | _, _, _ + 1, .nil => .nil
  | _, _, n + 1, .cons _ t => Vals.drop n t
def RelO : Option V → Option Value → Prop
  | some v, some u => RelV v u
  | none, none => True
  | _, _ => False
def KV {κ : Type} : List (κ × V) → List (κ × Value) → Prop := Paired fun (p : κ × V) (q : κ × Value) => p.1 = q.1 ∧ RelV p.2 q.2
def kV : Key → V
  | .inl i => .int i
  | .inr x => .str x
inductive HO where
    | lst (xs : List V)
    | tup (xs : List V)
    | dK (kvs : List (Key × V)) | dT (kvs : List (List Key × V))
    | set (S : Int → Bool) (n : Nat)
    | ins (C dx : Addr) (fs : List (Str × V))
    | own (x : Addr)
    | xd (fs : List (Str × V))
    | met (f x : Addr)
    | rng (lo hi : Int)
    | frz (o : Obj) (u : HO)
    | tbl (ps : Array Value)
    | ext (φ : Heap → Prop)
abbrev Hp := Addr → Option HO
def upd (H : Hp) (a : Addr) (o : HO) : Hp := fun b => if b = a then some o else H b
theorem upd_same {H : Hp} {a : Addr} {o : HO} : upd H a o a = some o := by unfold upd; rw [if_pos rfl]
theorem upd_ne {H : Hp} {a b : Addr} {o : HO} (h : b ≠ a) : upd H a o b = H b := by unfold upd; rw [if_neg h]
theorem ne_of {H : Hp} {a b : Addr} {o u : HO} (h : H a = some o) (h' : H b = some u) (d : o ≠ u) : a ≠ b := by
  intro e; subst e; rw [h] at h'; exact d (Option.some.inj h')
theorem ne_of_none {H : Hp} {a b : Addr} {o : HO} (h : H a = some o) (h' : H b = none) : a ≠ b := by
  intro e; subst e; rw [h] at h'; cases h'
section
variable (P : Program) (w : World)
def ObjOk (H : Hp) (h : Heap) (a : Addr) : HO → Prop
  | .lst xs => xs.length ≤ sizeLine ∧ ∃ (its : List Value) (n : Nat), Vals xs its ∧ h.get? a = some { cls := .type "list", data := .seq its.toArray n }
  | .tup xs => xs.length ≤ sizeLine ∧ ∃ its : List Value, Vals xs its ∧ IsTup h a its.toArray
  | .dK kvs => kvs.length ≤ sizeLine ∧ (a == sysModules) = false ∧ ∃ vs, KV kvs vs ∧ h.DictOf (mixKind P w) a vs
  | .dT kvs => kvs.length ≤ sizeLine ∧ (a == sysModules) = false ∧ ∃ xs : List (List Key × Addr × Value),
      Paired (fun (p : List Key × V) (q : List Key × Addr × Value) => p.1 = q.1 ∧ H q.2.1 = some (.tup (p.1.map kV)) ∧ RelV p.2 q.2.2) kvs xs ∧
      ∃ o es ep, h.get? a = some o ∧ o.ExactDict ∧ o.data = .dict es ep ∧ es.toList = xs.map (entryOfKey (tupleKind (mixKind P w))) ∧ (xs.map (·.1)).Nodup
  | .set S n => h.SetOf (intKind P w) a S n
  | .ins C dx fs => H dx = some (.own a) ∧ fs.length ≤ 1000 ∧ dx ≠ a ∧ h.get? a = some (PySem.W.instObj C dx) ∧
      ∃ mA, h.Ns1 dx mA ∧ (∀ f, RelO (fs.lookup f) (mA f)) ∧ PySem.Within mA (fs.map (·.1))
  | .own _ => ∃ o, h.get? a = some o
  | .xd fs => ∃ mA, h.Ns1 a mA ∧ ∀ f, RelO (fs.lookup f) (mA f)
  | .rng lo hi => ∃ t u v, h.get? a = some { cls := .type "range", data := .fields #[.int lo t, .int hi u, .int 1 v] }
  | .frz o u => h.get? a = some o ∧ ObjOk H h a u
  | .tbl ps => h.get? a = some { cls := .none, data := .fields ps }
  | .met f x => h.get? a = some (PySem.W.methodObj (.ref f) (.ref x))
  | .ext φ => φ h ∧ (∃ o, h.get? a = some o) ∧ ∀ h1 h2 : Heap, φ h1 → (∀ o, h1.get? a = some o → h2.get? a = some o) → φ h2
def HOk (H : Hp) (h : Heap) : Prop := ∀ a o, H a = some o → ObjOk P w H h a o
end
section
variable {P : Program} {w : World} {H H' : Hp} {h h' : Heap} {a : Addr} {o : HO}
theorem ObjOk.lt (x : ObjOk P w H h a o) : a < h.objs.size := by
  cases o with
  | lst xs => obtain ⟨_, _, _, _, e⟩ := x; exact Heap.lt_size e
  | tup xs => obtain ⟨_, _, _, p⟩ := x; exact p.lt
  | dK kvs => obtain ⟨_, _, _, _, o, _, _, e, _⟩ := x; exact Heap.lt_size e
  | dT kvs => obtain ⟨_, _, _, _, o, _, _, e, _⟩ := x; exact Heap.lt_size e
  | set S n => obtain ⟨o, _, _, _, e, _⟩ := x; exact Heap.lt_size e
  | ins C dx fs => obtain ⟨_, _, _, e, _⟩ := x; exact Heap.lt_size e
  | own y => obtain ⟨_, e⟩ := x; exact Heap.lt_size e
  | xd fs => obtain ⟨_, ⟨_, _, _, e, _⟩, _⟩ := x; exact Heap.lt_size e
  | rng lo hi => obtain ⟨_, _, _, e⟩ := x; exact Heap.lt_size e
  | frz ob u => obtain ⟨e, _⟩ := x; exact Heap.lt_size e
  | tbl ps => exact Heap.lt_size (show h.get? a = some _ from x)
  | met f y => exact Heap.lt_size (show h.get? a = some _ from x)
  | ext φ => obtain ⟨_, ⟨_, e⟩, _⟩ := x; exact Heap.lt_size e
theorem Paired.mapP {α β : Type} {F G : α → β → Prop} : ∀ {l₁ : List α} {l₂ : List β}, Paired F l₁ l₂ → (∀ a b, F a b → G a b) → Paired G l₁ l₂
  | _, _, .nil, _ => .nil
  | _, _, .cons r t, f => .cons (f _ _ r) (Paired.mapP t f)
theorem ObjOk.stay (x : ObjOk P w H h a o) (k : ∀ b u, (b = a ∨ H b = some (.own a)) → h.get? b = some u → h'.get? b = some u)
    (ho : ∀ b, H b = some (.own a) → H' b = some (.own a)) (ht : ∀ b xs, H b = some (.tup xs) → H' b = some (.tup xs)) : ObjOk P w H' h' a o := by
  induction o with
  | lst xs => obtain ⟨z, its, n, r, e⟩ := x; exact ⟨z, its, n, r, k _ _ (.inl rfl) e⟩
  | tup xs => obtain ⟨z, its, r, ob, e, c⟩ := x; exact ⟨z, its, r, ob, k _ _ (.inl rfl) e, c⟩
  | dK kvs => obtain ⟨z, y, vs, r, ob, es, ep, e, c⟩ := x; exact ⟨z, y, vs, r, ob, es, ep, k _ _ (.inl rfl) e, c⟩
  | dT kvs =>
    obtain ⟨z, y, xs, r, ob, es, ep, e, c⟩ := x
    exact ⟨z, y, xs, Paired.mapP r fun p q z => ⟨z.1, ht _ _ z.2.1, z.2.2⟩, ob, es, ep, k _ _ (.inl rfl) e, c⟩
  | set S n => obtain ⟨ob, es, ep, t, e, c⟩ := x; exact ⟨ob, es, ep, t, k _ _ (.inl rfl) e, c⟩
  | ins C dx fs =>
    obtain ⟨d, z, ne, e, mA, ⟨od, es, ep, e2, c⟩, r⟩ := x
    exact ⟨ho _ d, z, ne, k _ _ (.inl rfl) e, mA, ⟨od, es, ep, k _ _ (.inr d) e2, c⟩, r⟩
  | own y => obtain ⟨ob, e⟩ := x; exact ⟨ob, k _ _ (.inl rfl) e⟩
  | xd fs => obtain ⟨mA, ⟨od, es, ep, e, c⟩, r⟩ := x; exact ⟨mA, ⟨od, es, ep, k _ _ (.inl rfl) e, c⟩, r⟩
  | rng lo hi => obtain ⟨t, u, v, e⟩ := x; exact ⟨t, u, v, k _ _ (.inl rfl) e⟩
  | frz ob u ih => obtain ⟨e, q⟩ := x; exact ⟨k _ _ (.inl rfl) e, ih q⟩
  | tbl ps =>
    have e : h.get? a = some { cls := .none, data := .fields ps } := x
    show h'.get? a = some { cls := .none, data := .fields ps }
    exact k a _ (.inl rfl) e
  | met f y =>
    have e : h.get? a = some (PySem.W.methodObj (.ref f) (.ref y)) := x
    show h'.get? a = some (PySem.W.methodObj (.ref f) (.ref y))
    exact k a _ (.inl rfl) e
  | ext φ => obtain ⟨p, ⟨o, e⟩, st⟩ := x; exact ⟨st _ _ p fun o q => k _ _ (.inl rfl) q, ⟨o, k _ _ (.inl rfl) e⟩, st⟩
theorem HOk.lt (x : HOk P w H h) (e : H a = some o) : a < h.objs.size := (x a o e).lt
theorem HOk.fresh (x : HOk P w H h) (e : h.objs.size ≤ a) : H a = none := by
  cases q : H a with
  | none => rfl
  | some u => exact absurd (Nat.lt_of_lt_of_le (x.lt q) e) (Nat.lt_irrefl _)
theorem HOk.kept (x : HOk P w H h) (k : ∀ b u, h.get? b = some u → h'.get? b = some u) : HOk P w H h' := fun a o e =>
  (x a o e).stay (fun b u _ q => k b u q) (fun _ q => q) fun _ _ q => q
theorem HOk.laid (x : HOk P w H h) (k : ∀ b u, h.get? b = some u → h'.get? b = some u) (hp : h.objs.size ≤ a) (new : ObjOk P w (upd H a o) h' a o) : HOk P w (upd H a o) h' := fun b u e => by
  have hn := x.fresh hp
  by_cases hb : b = a
  · subst hb; rw [upd_same] at e; cases e; exact new
  · rw [upd_ne hb] at e
    exact (x b u e).stay (fun c v _ q => k c v q) (fun c q => by rw [upd_ne (ne_of_none q hn)]; exact q) fun c xs q => by rw [upd_ne (ne_of_none q hn)]; exact q
end
def Rd (H : Hp) (a : Addr) (u : HO) : Prop := H a = some u ∨ ∃ o, H a = some (.frz o u)
theorem Rd.ok {P : Program} {w : World} {H : Hp} {h : Heap} {a : Addr} {u : HO} (r : Rd H a u) (x : HOk P w H h) : ObjOk P w H h a u := by
  rcases r with r | ⟨o, r⟩
  · exact x a u r
  · obtain ⟨_, q⟩ := x a _ r
    exact q
def Mut : Option HO → Prop
  | some (.lst _) => True
  | some (.dK _) => True
  | some (.dT _) => True
  | some (.set _ _) => True
  | some (.ins _ _ _) => True
  | some (.ext _) => True
  | _ => False
section
variable {P : Program} {w : World} {H : Hp} {h h' : Heap} {x e : Addr} {o' : HO}
theorem HOk.write (ok : HOk P w H h) (mu : Mut (H x)) (he : e = x ∨ H e = some (.own x)) (k : ∀ b u, b ≠ e → h.get? b = some u → h'.get? b = some u) (heo : ∃ u, h'.get? e = some u)
    (new : ObjOk P w (upd H x o') h' x o') : HOk P w (upd H x o') h' := fun b u q => by
  have nown : ∀ c y, H c = some (.own y) → c ≠ x := fun c y r z => by subst z; rw [r] at mu; exact mu
  have ntup : ∀ c xs, H c = some (.tup xs) → c ≠ x := fun c xs r z => by subst z; rw [r] at mu; exact mu
  by_cases hb : b = x
  · subst hb; rw [upd_same] at q; cases q; exact new
  · rw [upd_ne hb] at q
    by_cases hbe : b = e
    · have q' : H b = some (.own x) := by
        rcases he with z | z
        · exact absurd (hbe.trans z) hb
        · rw [hbe]; exact z
      rw [q] at q'; cases q'
      obtain ⟨v, hv⟩ := heo
      exact ⟨v, by rw [hbe]; exact hv⟩
    · refine (ok b u q).stay (fun c v hc r => k c v ?_ r) (fun c r => by rw [upd_ne (nown c b r)]; exact r) fun c xs r => by rw [upd_ne (ntup c xs r)]; exact r
      rcases hc with rfl | hc
      · exact hbe
      · rintro rfl
        rcases he with z | z
        · exact nown c b hc z
        · rw [hc] at z; cases z; exact hb rfl
end
structure Un (fs ex : List Addr) (H H' : Hp) (h h' : Heap) : Prop where
  keep : ∀ b o, h.get? b = some o → H b = none → b ∉ fs → b ∉ ex → h'.get? b = some o
  slot : ∀ b o, h.get? b = some o → H b = none → b ∈ fs → b ∉ ex → ∃ sl, h'.get? b = some { o with slots := sl }
  free : ∀ b o, h.get? b = some o → H b = none → b ∉ ex → H' b = none
  there : ∀ b o, h.get? b = some o → b ∉ ex → ∃ o', h'.get? b = some o'
  tups : ∀ b xs, H b = some (.tup xs) → H' b = some (.tup xs)
  frzs : ∀ b o u, H b = some (.frz o u) → H' b = some (.frz o u)
  tbls : ∀ b ps, H b = some (.tbl ps) → ∃ more, H' b = some (.tbl (ps ++ more))
section
variable {fs fs' ex ex' : List Addr} {H H1 H2 : Hp} {h h1 h2 h' : Heap} {a x e : Addr} {o : HO}
theorem Un.any (u : Un fs ex H H1 h h1) {b : Addr} {ob : Obj} (q : h.get? b = some ob) (n : H b = none) (hx : b ∉ ex) : ∃ sl, h1.get? b = some { ob with slots := sl } := by
  by_cases hb : b ∈ fs
  · exact u.slot b ob q n hb hx
  · exact ⟨ob.slots, u.keep b ob q n hb hx⟩
theorem Un.kept (k : ∀ b u, h.get? b = some u → h'.get? b = some u) : Un fs ex H H h h' :=
  ⟨fun b ob q _ _ _ => k b ob q, fun b ob q _ _ _ => ⟨ob.slots, k b ob q⟩, fun _ _ _ n _ => n, fun b ob q _ => ⟨ob, k b ob q⟩, fun _ _ q => q, fun _ _ _ q => q, fun _ ps q => ⟨#[], by rw [q]; simp⟩⟩
theorem Un.refl : Un fs ex H H h h := Un.kept fun _ _ q => q
theorem Un.laid (k : ∀ b u, h.get? b = some u → h'.get? b = some u) (hp : h.objs.size ≤ a) (hn : H a = none) : Un fs ex H (upd H a o) h h' where
  keep := fun b u q _ _ _ => k b u q
  slot := fun b u q _ _ _ => ⟨u.slots, k b u q⟩
  free := fun b u q n _ => by rw [upd_ne (Nat.ne_of_lt (Nat.lt_of_lt_of_le (Heap.lt_size q) hp))]; exact n
  there := fun b u q _ => ⟨u, k b u q⟩
  tups := fun b xs q => by rw [upd_ne (ne_of_none q hn)]; exact q
  frzs := fun b u xs q => by rw [upd_ne (ne_of_none q hn)]; exact q
  tbls := fun b ps q => ⟨#[], by rw [upd_ne (ne_of_none q hn), q]; simp⟩
theorem Un.write (mu : Mut (H x)) (he : e = x ∨ H e = some (.own x)) (k : ∀ b u, b ≠ e → h.get? b = some u → h'.get? b = some u) (heo : ∃ u, h'.get? e = some u) : Un fs ex H (upd H x o) h h' := by
  have hx : ∀ b, H b = none → b ≠ x := fun b n z => by subst z; rw [n] at mu; exact mu
  have hb : ∀ b, H b = none → b ≠ e := fun b n z => by
    subst z
    rcases he with r | r
    · exact hx b n r
    · rw [n] at r; cases r
  have hm : ∀ b u, H b = some u → ¬ Mut (some u) → b ≠ x := fun b u q nm z => by subst z; rw [q] at mu; exact nm mu
  refine ⟨fun b u q n _ _ => k b u (hb b n) q, fun b u q n _ _ => ⟨u.slots, k b u (hb b n) q⟩, fun b u q n _ => by rw [upd_ne (hx b n)]; exact n, fun b u q _ => ?_,
    fun b xs q => by rw [upd_ne (hm b _ q fun z => z)]; exact q, fun b u xs q => by rw [upd_ne (hm b _ q fun z => z)]; exact q, fun b ps q => ⟨#[], by rw [upd_ne (hm b _ q fun z => z), q]; simp⟩⟩
  by_cases hbe : b = e
  · subst hbe; exact heo
  · exact ⟨u, k b u hbe q⟩
end
def trk (h : Heap) (H : Hp) : List Addr := (List.range h.objs.size).filter fun a => (H a).isSome
def hidT (h : Heap) (H : Hp) : Heap := PySem.W.hideAll h (trk h H)
theorem hidT_size (h : Heap) (H : Hp) : (hidT h H).objs.size = h.objs.size := PySem.W.hideAll_size _ _
theorem hidT_get {h : Heap} {H : Hp} {b : Addr} {o : Obj} (e : h.get? b = some o) (n : H b = none) : (hidT h H).get? b = some o :=
  PySem.W.hideAll_get _ e fun hm => by
    have q : (H b).isSome = true := (List.mem_filter.mp hm).2
    rw [n] at q; simp at q
theorem of_hidT {h : Heap} {H : Hp} {b : Addr} {o : Obj} (e : (hidT h H).get? b = some o) : h.get? b = some o ∧ H b = none := by
  have e' : h.get? b = some o := PySem.W.of_hideAll (trk h H) e
  refine ⟨e', ?_⟩
  cases q : H b with
  | none => rfl
  | some x =>
    have hm : b ∈ trk h H := List.mem_filter.mpr ⟨List.mem_range.mpr (Heap.lt_size e'), by simp [q]⟩
    have z : (hidT h H).get? b = none := PySem.W.hideAll_none (trk h H) hm
    rw [z] at e; cases e
end L2
namespace L2
open PySem PySem.Spec PyProof.Rows
structure Mod (K : PySem.W.Frag) (mg : Str → Option Value) (base : Heap) : Prop where
  kin : K.In base
  glob : base.Ns mainGlobals mg
  blt : ∃ mb, base.Ns builtinsNs mb ∧ ∀ x : Str, x ≠ "__name__" → mb x = bootBuiltins x
  nolimit : base.NoLimit
structure Cx where
  prog : Program
  w : World
  K : PySem.W.Frag
  mg : Str → Option Value
  base : Heap
  A : Around
  N : List Str
  s₀ : Shared
  H₀ : Hp
  env : Env
  outer : List Env
  stack : List Env
  ex : List Addr
  fn : Str → Bool
  calm : Bool
  pn : List (Addr × Obj)
  xe : Value → Shared → Prop
def frs (l : List Env) : List Addr := l.filterMap (·.frame)
abbrev Cx.fs (X : Cx) : List Addr := frs X.outer
def Vis (sc : Scope) (x : Str) : Prop := sc.names.lookup x = some .local ∨ sc.names.lookup x = some .cell ∨ sc.names.lookup x = some .free
def Loc (sc : Scope) (x : Str) : Prop := sc.names.lookup x = some .local ∨ sc.names.lookup x = some .cell
def Look (env : Env) (h : Heap) (m : Str → Option Value) (x : Str) (u : Value) : Prop :=
  (env.kindOf x = some .local ∧ m x = some u) ∨ ((env.kindOf x = some .cell ∨ env.kindOf x = some .free) ∧ ∃ c, env.cells.lookup x = some c ∧ h.IsCell c (some u))
structure Cx.Ok (X : Cx) : Prop where
  mod : Mod X.K X.mg X.base
  kind : X.env.scope.kind = .function
  glob : X.env.globals = mainGlobals
  blt : X.env.builtins = builtinsNs
  above : X.s₀.heap.objs.size ≤ X.env.locals
  inj : ∀ x y c, X.env.cells.lookup x = some c → X.env.cells.lookup y = some c → x = y
  has : ∀ x, (X.env.kindOf x = some .cell ∨ X.env.kindOf x = some .free) → ∃ c, X.env.cells.lookup x = some c
  cab : ∀ x c, X.fn x = true → X.env.cells.lookup x = some c → X.s₀.heap.objs.size ≤ c
  hd : X.calm = true → X.A.handled = none
  frames : X.A.frames = some X.stack
  stk : X.stack = X.outer ∨ (X.stack = X.env :: X.outer ∧ X.env.frame = some X.env.locals)
  exf : ∀ b ∈ X.ex, b ≠ X.env.locals ∧ ∀ x c, X.env.cells.lookup x = some c → c ≠ b
  bs : ∀ b o, X.base.get? b = some o → X.s₀.heap.get? b = some o ∧ X.H₀ b = none
  bsz : X.base.objs.size ≤ X.s₀.heap.objs.size
  noex : ∀ b o, X.base.get? b = some o → b ∉ X.ex
  exfs : ∀ b ∈ X.ex, b ∉ X.fs
  funs : X.s₀.heap.FunFrames X.base X.outer
  frf : ∀ b ∈ X.fs, X.H₀ b = none
structure Inv (X : Cx) (pins : List (Addr × Obj)) (σ : List (Option V)) (H : Hp) (s : Shared) : Prop where
  ok : X.Ok
  os : s.os = X.s₀.os
  bare : AllBare s.gens
  base : Un X.fs X.ex X.H₀ H X.s₀.heap s.heap
  loc : ∃ m, s.heap.Ns X.env.locals m ∧ ∀ (i : Nat) (x : Str) (v : V), X.N[i]? = some x → σ[i]? = some (some v) → Vis X.env.scope x → ∃ u, RelV v u ∧ Look X.env s.heap m x u
  cell : ∀ x c, X.env.cells.lookup x = some c → ∃ v, s.heap.IsCell c v
  free : H X.env.locals = none
  freeC : ∀ x c, X.env.cells.lookup x = some c → H c = none
  pin : ∀ p ∈ X.pn ++ pins, s.heap.get? p.1 = some p.2 ∧ H p.1 = none ∧ p.1 ≠ X.env.locals ∧ p.1 ∉ X.fs ∧ ∀ v, p.2.data ≠ .cell v
  hok : HOk X.prog X.w H s.heap
  len : σ.length = X.N.length
section
variable {X : Cx} {pins : List (Addr × Obj)} {σ : List (Option V)} {H H' : Hp} {s : Shared} {h' : Heap}
theorem Cx.Ok.nofr (ok : X.Ok) {b : Addr} {o : Obj} (e : X.base.get? b = some o) : b ∉ X.fs := fun hb => by
  have := (ok.funs.mem hb).1
  rw [e] at this; cases this
theorem Inv.bs (I : Inv X pins σ H s) : ∀ b o, X.base.get? b = some o → s.heap.get? b = some o ∧ H b = none := fun b o e =>
  ⟨I.base.keep b o (I.ok.bs b o e).1 (I.ok.bs b o e).2 (I.ok.nofr e) (I.ok.noex b o e), I.base.free b o (I.ok.bs b o e).1 (I.ok.bs b o e).2 (I.ok.noex b o e)⟩
theorem Inv.bk (I : Inv X pins σ H s) : ∀ b o, X.base.get? b = some o → s.heap.get? b = some o := fun b o e => (I.bs b o e).1
theorem Inv.mod (I : Inv X pins σ H s) : Mod X.K X.mg X.base := I.ok.mod
theorem Inv.kIn (I : Inv X pins σ H s) : X.K.In s.heap := I.ok.mod.kin.keeps I.bk
theorem Inv.fr (I : Inv X pins σ H s) : ∃ m, Fr X.base X.env.locals s.heap m :=
  let ⟨m, hn, _⟩ := I.loc
  ⟨m, hn, I.bk, Nat.le_trans I.ok.bsz I.ok.above⟩
theorem Inv.lt (I : Inv X pins σ H s) : X.env.locals < s.heap.objs.size := let ⟨_, hn, _⟩ := I.loc; hn.lt
theorem Inv.sz (I : Inv X pins σ H s) : X.s₀.heap.objs.size ≤ s.heap.objs.size := Nat.le_trans I.ok.above (Nat.le_of_lt I.lt)
theorem Inv.nofs (I : Inv X pins σ H s) {a : Addr} (h : s.heap.objs.size ≤ a) : a ∉ X.fs := fun hb => by
  obtain ⟨_, o, ho, _⟩ := I.ok.funs.mem hb
  exact absurd (Nat.lt_of_lt_of_le (Heap.lt_size ho) (Nat.le_trans I.sz h)) (Nat.lt_irrefl _)
theorem Inv.cne (I : Inv X pins σ H s) : ∀ x c, X.env.cells.lookup x = some c → c ≠ X.env.locals := fun x c e z => by
  obtain ⟨v, o, ho, hd⟩ := I.cell x c e
  obtain ⟨m, ⟨o', es, ep, ho', hd', _⟩, _⟩ := I.loc
  rw [z, ho'] at ho; cases ho; rw [hd'] at hd; cases hd
theorem Inv.funs (I : Inv X pins σ H s) : s.heap.FunFrames X.base X.outer := by
  have all : ∀ (l : List Env), (∀ b ∈ frs l, b ∈ X.fs) → X.s₀.heap.FunFrames X.base l → s.heap.FunFrames X.base l := by
    intro l
    induction l with
    | nil => intro _ _; trivial
    | cons env r ih =>
      intro hs hl
      obtain ⟨hk, ⟨L, o, hf, hn, ho, hd⟩, hr⟩ := hl
      have hL : L ∈ X.fs := hs L (by unfold frs; rw [List.filterMap_cons, hf]; exact List.mem_cons_self)
      obtain ⟨sl, e⟩ := I.base.slot L o ho (I.ok.frf L hL) hL fun z => I.ok.exfs L z hL
      exact ⟨hk, ⟨L, _, hf, hn, e, hd⟩, ih (fun b hb => hs b (by unfold frs; rw [List.filterMap_cons, hf]; exact List.mem_cons_of_mem _ hb)) hr⟩
  exact all X.outer (fun _ hb => hb) I.ok.funs
theorem Inv.stack (I : Inv X pins σ H s) : s.heap.FunFrames X.base X.stack := by
  rcases I.ok.stk with e | ⟨e, hf⟩
  · rw [e]; exact I.funs
  · rw [e]
    obtain ⟨m, hn, _⟩ := I.loc
    refine .cons (by rw [I.ok.kind]; decide) hf hn ?_ I.funs
    exact Heap.get?_none_of_le (Nat.le_trans I.ok.bsz I.ok.above)
theorem Inv.stkSub (I : Inv X pins σ H s) : ∀ b ∈ frs X.stack, b ∈ X.env.locals :: X.fs := fun b hb => by
  rcases I.ok.stk with e | ⟨e, hf⟩
  · rw [e] at hb; exact List.mem_cons_of_mem _ hb
  · rw [e] at hb
    unfold frs at hb
    rw [List.filterMap_cons, hf] at hb
    exact hb
theorem Inv.stkFree (I : Inv X pins σ H s) : ∀ b ∈ frs X.stack, H b = none := fun b hb => by
  rcases List.mem_cons.mp (I.stkSub b hb) with e | hb
  · rw [e]; exact I.free
  · obtain ⟨_, o, ho, _⟩ := I.ok.funs.mem hb
    exact I.base.free b o ho (I.ok.frf b hb) fun z => I.ok.exfs b z hb
theorem Inv.step {g' : Array GenState} {t' : Nat} {d' : Drawn} {ch : List Addr} (I : Inv X pins σ H s)
    (hch : ∀ b ∈ ch, (b ∈ X.ex ∨ X.s₀.heap.objs.size ≤ b) ∧ b ≠ X.env.locals ∧ (∀ x c, X.env.cells.lookup x = some c → c ≠ b) ∧ ∀ p ∈ X.pn ++ pins, p.1 ≠ b)
    (keep : ∀ b o, b ≠ X.env.locals → b ∉ X.fs → b ∉ ch → s.heap.get? b = some o → H b = none → h'.get? b = some o)
    (slot : ∀ b o, b ≠ X.env.locals → b ∈ X.fs → b ∉ ch → s.heap.get? b = some o → H b = none → ∃ sl, h'.get? b = some { o with slots := sl }) (free : ∀ b o, b ∉ ch → s.heap.get? b = some o → H b = none → H' b = none)
    (there : ∀ b o, b ∉ ch → s.heap.get? b = some o → ∃ o', h'.get? b = some o')
    (tups : ∀ b xs, H b = some (.tup xs) → H' b = some (.tup xs)) (frzs : ∀ b o u, H b = some (.frz o u) → H' b = some (.frz o u)) (tbls : ∀ b ps, H b = some (.tbl ps) → ∃ more, H' b = some (.tbl (ps ++ more)))
    (ns : ∀ m, s.heap.Ns X.env.locals m → h'.Ns X.env.locals m) (hok : HOk X.prog X.w H' h') (hg : AllBare g') :
    Inv X pins σ H' { s with heap := h', gens := g', drawn := d', toks := t' } := by
  have neL : ∀ b o, X.s₀.heap.get? b = some o → b ≠ X.env.locals := fun b o e => Nat.ne_of_lt (Nat.lt_of_lt_of_le (Heap.lt_size e) I.ok.above)
  have neC : ∀ b o, X.s₀.heap.get? b = some o → b ∉ X.ex → b ∉ ch := fun b o e hx hb => by
    rcases (hch b hb).1 with z | z
    · exact hx z
    · exact absurd (Nat.lt_of_lt_of_le (Heap.lt_size e) z) (Nat.lt_irrefl _)
  have cellK : ∀ x c, X.env.cells.lookup x = some c → ∀ v, s.heap.IsCell c v → h'.IsCell c v := fun x c e v ⟨o, ho, hd⟩ => by
    have nch : c ∉ ch := fun z => (hch c z).2.2.1 x c e rfl
    by_cases hc : c ∈ X.fs
    · obtain ⟨sl, q⟩ := slot c o (I.cne x c e) hc nch ho (I.freeC x c e)
      exact ⟨_, q, hd⟩
    · exact ⟨o, keep c o (I.cne x c e) hc nch ho (I.freeC x c e), hd⟩
  refine ⟨I.ok, I.os, hg, ⟨fun b o e n hb hx => ?_, fun b o e n hb hx => ?_, fun b o e n hx => ?_, fun b o e hx => ?_, fun b xs e => tups b xs (I.base.tups b xs e), fun b o xs e => frzs b o xs (I.base.frzs b o xs e), fun b ps e => ?_⟩, ?_, fun x c e => ?_, ?_, fun x c e => ?_, fun p hp => ?_, hok, I.len⟩
  · exact keep b o (neL b o e) hb (neC b o e hx) (I.base.keep b o e n hb hx) (I.base.free b o e n hx)
  · obtain ⟨sl, e1⟩ := I.base.slot b o e n hb hx
    obtain ⟨sl', e2⟩ := slot b _ (neL b o e) hb (neC b o e hx) e1 (I.base.free b o e n hx)
    exact ⟨sl', e2⟩
  · obtain ⟨o', e1⟩ := I.base.there b o e hx
    exact free b o' (neC b o e hx) e1 (I.base.free b o e n hx)
  · obtain ⟨o', e1⟩ := I.base.there b o e hx
    exact there b o' (neC b o e hx) e1
  · obtain ⟨m1, e1⟩ := I.base.tbls b ps e
    obtain ⟨m2, e2⟩ := tbls b _ e1
    exact ⟨m1 ++ m2, by rw [e2, Array.append_assoc]⟩
  · obtain ⟨m, hn, hl⟩ := I.loc
    refine ⟨m, ns m hn, fun i x v e1 e2 e3 => ?_⟩
    obtain ⟨u, r, l⟩ := hl i x v e1 e2 e3
    refine ⟨u, r, ?_⟩
    rcases l with l | ⟨k, c, e, z⟩
    · exact .inl l
    · exact .inr ⟨k, c, e, cellK x c e _ z⟩
  · obtain ⟨v, z⟩ := I.cell x c e
    exact ⟨v, cellK x c e v z⟩
  · obtain ⟨m, ⟨o, _, _, ho, _⟩, _⟩ := I.loc
    exact free _ o (fun z => (hch _ z).2.1 rfl) ho I.free
  · obtain ⟨v, o, ho, hd⟩ := I.cell x c e
    exact free c o (fun z => (hch c z).2.2.1 x c e rfl) ho (I.freeC x c e)
  · obtain ⟨e, n, ne, nf, d⟩ := I.pin p hp
    have nch : p.1 ∉ ch := fun z => (hch p.1 z).2.2.2 p hp rfl
    exact ⟨keep p.1 p.2 ne nf nch e n, free p.1 p.2 nch e n, ne, nf, d⟩
theorem Inv.un {t' : Nat} (I : Inv X pins σ H s) (u : Un X.fs [] H H' s.heap h') (hok : HOk X.prog X.w H' h') : Inv X pins σ H' { s with heap := h', toks := t' } := by
  obtain ⟨m, ⟨o, es, ep, ho, r⟩, _⟩ := id I.loc
  obtain ⟨sl, hL⟩ := u.any ho I.free (by simp)
  exact I.step (g' := s.gens) (d' := s.drawn) (ch := []) (fun _ z => nomatch z) (fun b o _ hb _ e n => u.keep b o e n hb (by simp)) (fun b o _ hb _ e n => u.slot b o e n hb (by simp)) (fun b o _ e n => u.free b o e n (by simp)) (fun b o _ e => u.there b o e (by simp)) u.tups u.frzs u.tbls (fun m' hm => by
    obtain ⟨o', es', ep', ho', r'⟩ := hm
    rw [ho] at ho'; cases ho'
    exact ⟨_, es', ep', hL, r'⟩) hok I.bare
theorem Inv.call {g' : Array GenState} {t' : Nat} {d' : Drawn} {ch : List Addr} (I : Inv X pins σ H s) (u : Un (frs X.stack) ch H H' s.heap h') (hok : HOk X.prog X.w H' h') (hg : AllBare g')
    (hch : ∀ b ∈ ch, (b ∈ X.ex ∨ X.s₀.heap.objs.size ≤ b) ∧ b ≠ X.env.locals ∧ (∀ x c, X.env.cells.lookup x = some c → c ≠ b) ∧ ∀ p ∈ X.pn ++ pins, p.1 ≠ b) :
    Inv X pins σ H' { s with heap := h', gens := g', drawn := d', toks := t' } := by
  obtain ⟨m, ⟨o, es, ep, ho, r⟩, _⟩ := id I.loc
  obtain ⟨sl, hL⟩ := u.any ho I.free fun z => (hch _ z).2.1 rfl
  exact I.step (ch := ch) hch (fun b o hL hb hc e n => u.keep b o e n (fun z => (List.mem_cons.mp (I.stkSub b z)).elim hL hb) hc) (fun b o _ _ hc e n => u.any e n hc) (fun b o hc e n => u.free b o e n hc) (fun b o hc e => u.there b o e hc) u.tups u.frzs u.tbls (fun m' hm => by
    obtain ⟨o', es', ep', ho', r'⟩ := hm
    rw [ho] at ho'; cases ho'
    exact ⟨_, es', ep', hL, r'⟩) hok hg
theorem Inv.turned {t' : Nat} {it : Addr} (I : Inv X pins σ H s) (k : ∀ b o, b ≠ it → s.heap.get? b = some o → h'.get? b = some o) (hn : H it = none) (hL : it ≠ X.env.locals)
    (h1 : it ∈ X.ex ∨ X.s₀.heap.objs.size ≤ it) (h2 : ∀ x c, X.env.cells.lookup x = some c → c ≠ it) (h3 : ∀ p ∈ X.pn ++ pins, p.1 ≠ it) : Inv X pins σ H { s with heap := h', toks := t' } := by
  have nit : ∀ b u, H b = some u → b ≠ it := fun b u e z => by rw [z, hn] at e; cases e
  refine I.step (g' := s.gens) (d' := s.drawn) (ch := [it]) (fun b hb => ?_) (fun b o _ _ hc e _ => k b o (fun z => hc (by simp [z])) e) (fun b o _ _ hc e _ => ⟨o.slots, k b o (fun z => hc (by simp [z])) e⟩) (fun _ _ _ _ n => n)
    (fun b o hc e => ⟨o, k b o (fun z => hc (by simp [z])) e⟩) (fun _ _ e => e) (fun _ _ _ e => e) (fun b ps e => ⟨#[], by rw [e]; simp⟩) (fun m hm => ?_) (fun b u e => ?_) I.bare
  · have e : b = it := by simpa using hb
    subst e
    exact ⟨h1, hL, h2, h3⟩
  · obtain ⟨o, es, ep, ho, r⟩ := hm
    exact ⟨o, es, ep, k _ o (Ne.symm hL) ho, r⟩
  · refine (I.hok b u e).stay (fun c v hc q => k c v ?_ q) (fun _ q => q) fun _ _ q => q
    rcases hc with z | z
    · rw [z]; exact nit b u e
    · exact nit c _ z
theorem Inv.tok (I : Inv X pins σ H s) (t : Nat) : Inv X pins σ H { s with toks := t } := I.un (h' := s.heap) (t' := t) Un.refl I.hok
theorem Inv.kept {t' : Nat} (I : Inv X pins σ H s) (k : ∀ b u, s.heap.get? b = some u → h'.get? b = some u) : Inv X pins σ H { s with heap := h', toks := t' } := I.un (Un.kept k) (I.hok.kept k)
theorem Inv.laid {a : Addr} {o : HO} {t' : Nat} (I : Inv X pins σ H s) (k : ∀ b u, s.heap.get? b = some u → h'.get? b = some u) (hp : s.heap.objs.size ≤ a) (new : ObjOk X.prog X.w (upd H a o) h' a o) :
    Inv X pins σ (upd H a o) { s with heap := h', toks := t' } := I.un (Un.laid k hp (I.hok.fresh hp)) (I.hok.laid k hp new)
theorem Inv.write {x e : Addr} {o : HO} {t' : Nat} (I : Inv X pins σ H s) (mu : Mut (H x)) (he : e = x ∨ H e = some (.own x)) (k : ∀ b u, b ≠ e → s.heap.get? b = some u → h'.get? b = some u) (heo : ∃ u, h'.get? e = some u)
    (new : ObjOk X.prog X.w (upd H x o) h' x o) : Inv X pins σ (upd H x o) { s with heap := h', toks := t' } := I.un (Un.write mu he k heo) (I.hok.write mu he k heo new)
theorem Inv.weak {σ' : List (Option V)} (I : Inv X pins σ H s) (hl : σ'.length = σ.length) (w : ∀ (i : Nat) v, σ'[i]? = some (some v) → σ[i]? = some (some v)) : Inv X pins σ' H s :=
  ⟨I.ok, I.os, I.bare, I.base, let ⟨m, hn, hl'⟩ := I.loc; ⟨m, hn, fun i x v e1 e2 e3 => hl' i x v e1 (w i v e2) e3⟩, I.cell, I.free, I.freeC, I.pin, I.hok, hl.trans I.len⟩
theorem Inv.pins_of {pins' : List (Addr × Obj)} (I : Inv X pins σ H s) (h : ∀ p ∈ pins', s.heap.get? p.1 = some p.2 ∧ H p.1 = none ∧ p.1 ≠ X.env.locals ∧ p.1 ∉ X.fs ∧ ∀ v, p.2.data ≠ .cell v) : Inv X pins' σ H s :=
  ⟨I.ok, I.os, I.bare, I.base, I.loc, I.cell, I.free, I.freeC, fun p hp => (List.mem_append.mp hp).elim (fun z => I.pin p (List.mem_append_left _ z)) (h p), I.hok, I.len⟩
theorem nodup_ix {N : List Str} (hN : N.Nodup) {i j : Nat} {x : Str} (a : N[i]? = some x) (b : N[j]? = some x) : i = j := by
  obtain ⟨h1, e1⟩ := List.getElem?_eq_some_iff.mp a
  obtain ⟨h2, e2⟩ := List.getElem?_eq_some_iff.mp b
  exact (List.getElem_inj hN).mp (e1.trans e2.symm)
theorem store_ok2 {M : Model} {A : Around} {E : Value → Shared → Prop} {i : Nat} {x : Str} {v : V} {u : Value} {Q : Unit → Shared → Prop} (I : Inv X pins σ H s) (hN : X.N.Nodup) (hi : X.N[i]? = some x) (hx : Loc X.env.scope x) (r : RelV v u)
    (h : ∀ s', Inv X pins (σ.set i (some v)) H s' → (∃ a, Heap.SameBut a s.heap s'.heap ∧ (a = X.env.locals ∨ X.env.cells.lookup x = some a)) → Q () s') (hf : X.fn x = true ∨ X.env.scope.names.lookup x = some .local := by first | exact .inl rfl | exact .inr rfl | assumption) : wpAny M A (storeName X.env x u) Q E s := by
  obtain ⟨m, hn, hl⟩ := id I.loc
  have hcls : (X.env.scope.kind == .class || (X.env.scope.kind == .module && X.env.locals != X.env.globals)) = false := by rw [I.ok.kind]; rfl
  have hiσ : i < σ.length := by rw [I.len]; exact (List.getElem?_eq_some_iff.mp hi).1
  have cne := I.cne
  have tracked : ∀ {a : Addr} {h' : Heap}, (∃ o, s.heap.get? a = some o ∧ H a = none) → Heap.SameBut a s.heap h' → HOk X.prog X.w H h' := fun {a h'} ha hs b ob e => by
    obtain ⟨_, _, hfree⟩ := ha
    refine (I.hok b ob e).stay (fun c w' hc q => (hs.2 c ?_).trans q) (fun _ q => q) fun _ _ q => q
    rintro rfl
    rcases hc with rfl | hc
    · rw [hfree] at e; cases e
    · rw [hfree] at hc; cases hc
  rcases hx with hk | hk
  · refine wpAny_storeName_local hk hn (fun h' hn' hs => ?_) hcls
    obtain ⟨oL, _, _, hoL, _⟩ := id hn
    refine h _ ⟨I.ok, I.os, I.bare, ⟨fun b o e n hb hx => ?_, fun b o e n hb hx => ?_, I.base.free, fun b o e hx => ?_, I.base.tups, I.base.frzs, I.base.tbls⟩, ⟨_, hn', fun j y v' e1 e2 e3 => ?_⟩, fun y c e => ?_, I.free, I.freeC, fun p hp => ?_, tracked ⟨oL, hoL, I.free⟩ hs, by simpa using I.len⟩ ⟨_, hs, .inl rfl⟩
    · exact (hs.2 b (Nat.ne_of_lt (Nat.lt_of_lt_of_le (Heap.lt_size e) I.ok.above))).trans (I.base.keep b o e n hb hx)
    · obtain ⟨sl, e1⟩ := I.base.slot b o e n hb hx
      exact ⟨sl, (hs.2 b (Nat.ne_of_lt (Nat.lt_of_lt_of_le (Heap.lt_size e) I.ok.above))).trans e1⟩
    · obtain ⟨o', e1⟩ := I.base.there b o e hx
      exact ⟨o', (hs.2 b (Nat.ne_of_lt (Nat.lt_of_lt_of_le (Heap.lt_size e) I.ok.above))).trans e1⟩
    · by_cases hj : j = i
      · subst hj
        rw [hi] at e1; cases e1
        rw [List.getElem?_set_self hiσ] at e2
        cases e2
        exact ⟨u, r, .inl ⟨hk, by simp⟩⟩
      · rw [List.getElem?_set_ne (Ne.symm hj)] at e2
        obtain ⟨u', r', q⟩ := hl j y v' e1 e2 e3
        refine ⟨u', r', ?_⟩
        rcases q with ⟨k, e⟩ | ⟨k, c, e, z⟩
        · refine .inl ⟨k, ?_⟩
          have : y ≠ x := fun e => hj (nodup_ix hN e1 (e ▸ hi))
          simp [this, e]
        · exact .inr ⟨k, c, e, z.sameBut hs (cne y c e)⟩
    · obtain ⟨w', z⟩ := I.cell y c e
      exact ⟨w', z.sameBut hs (cne y c e)⟩
    · obtain ⟨e, n, ne, nf, d⟩ := I.pin p hp
      exact ⟨(hs.2 p.1 ne).trans e, n, ne, nf, d⟩
  · have hfn : X.fn x = true := by
      rcases hf with z | z
      · exact z
      · rw [z] at hk; cases hk
    obtain ⟨c, hc⟩ := I.ok.has x (.inl hk)
    obtain ⟨w', z⟩ := I.cell x c hc
    refine wpAny_storeName_cell I.ok.kind hk hc z (fun h' hc' hs => ?_)
    obtain ⟨oc, hoc, hocd⟩ := id z
    refine h { s with heap := h' } ⟨I.ok, I.os, I.bare, ⟨fun b o e n hb hx => ?_, fun b o e n hb hx => ?_, I.base.free, fun b o e hx => ?_, I.base.tups, I.base.frzs, I.base.tbls⟩, ⟨m, hn.sameBut hs (Ne.symm (cne x c hc)), fun j y v' e1 e2 e3 => ?_⟩, fun y c' e => ?_, I.free, I.freeC, fun p hp => ?_, tracked ⟨oc, hoc, I.freeC x c hc⟩ hs, by simpa using I.len⟩ ⟨c, hs, .inr hc⟩
    · exact (hs.2 b (Nat.ne_of_lt (Nat.lt_of_lt_of_le (Heap.lt_size e) (I.ok.cab x c hfn hc)))).trans (I.base.keep b o e n hb hx)
    · obtain ⟨sl, e1⟩ := I.base.slot b o e n hb hx
      exact ⟨sl, (hs.2 b (Nat.ne_of_lt (Nat.lt_of_lt_of_le (Heap.lt_size e) (I.ok.cab x c hfn hc)))).trans e1⟩
    · obtain ⟨o', e1⟩ := I.base.there b o e hx
      exact ⟨o', (hs.2 b (Nat.ne_of_lt (Nat.lt_of_lt_of_le (Heap.lt_size e) (I.ok.cab x c hfn hc)))).trans e1⟩
    · by_cases hj : j = i
      · subst hj
        rw [hi] at e1; cases e1
        rw [List.getElem?_set_self hiσ] at e2
        cases e2
        exact ⟨u, r, .inr ⟨.inl hk, c, hc, hc'⟩⟩
      · rw [List.getElem?_set_ne (Ne.symm hj)] at e2
        obtain ⟨u', r', q⟩ := hl j y v' e1 e2 e3
        refine ⟨u', r', ?_⟩
        rcases q with q | ⟨k, c', e, z'⟩
        · exact .inl q
        · refine .inr ⟨k, c', e, z'.sameBut hs ?_⟩
          rintro rfl
          exact hj (nodup_ix hN e1 (I.ok.inj _ _ _ e hc ▸ hi))
    · by_cases hcc : c' = c
      · subst hcc; exact ⟨_, hc'⟩
      · obtain ⟨w2, z2⟩ := I.cell y c' e
        exact ⟨w2, z2.sameBut hs hcc⟩
    · obtain ⟨e, n, ne, nf, d⟩ := I.pin p hp
      refine ⟨(hs.2 p.1 ?_).trans e, n, ne, nf, d⟩
      intro q
      rw [q, hoc] at e
      have q' : oc = p.2 := Option.some.inj e
      exact d w' (by rw [← q']; exact hocd)
theorem store_ok {M : Model} {A : Around} {E : Value → Shared → Prop} {i : Nat} {x : Str} {v : V} {u : Value} {Q : Unit → Shared → Prop} (I : Inv X pins σ H s) (hN : X.N.Nodup) (hi : X.N[i]? = some x) (hx : Loc X.env.scope x) (r : RelV v u)
    (h : ∀ s', Inv X pins (σ.set i (some v)) H s' → Q () s') (hf : X.fn x = true ∨ X.env.scope.names.lookup x = some .local := by first | exact .inl rfl | exact .inr rfl | assumption) : wpAny M A (storeName X.env x u) Q E s :=
  store_ok2 I hN hi hx r (fun s' I' _ => h s' I') hf
theorem Inv.call' {s' : Shared} {ch : List Addr} (I : Inv X pins σ H s) (ho : s'.os = s.os) (u : Un (frs X.stack) ch H H' s.heap s'.heap) (hok : HOk X.prog X.w H' s'.heap) (hg : AllBare s'.gens)
    (hch : ∀ b ∈ ch, (b ∈ X.ex ∨ X.s₀.heap.objs.size ≤ b) ∧ b ≠ X.env.locals ∧ (∀ x c, X.env.cells.lookup x = some c → c ≠ b) ∧ ∀ p ∈ X.pn ++ pins, p.1 ≠ b) : Inv X pins σ H' s' := by
  obtain ⟨h', g', d', t', o'⟩ := s'
  have e : o' = s.os := ho
  subst e
  exact I.call (g' := g') (t' := t') (d' := d') u hok hg hch
end
abbrev XK := Value → Option Addr → Hp → Prop
abbrev St := List (Option V)
abbrev VK := V → Hp → Prop
abbrev TE := St → Hp → VK → Prop
abbrev TT := St → Hp → (Bool → Hp → Prop) → Prop
abbrev TA := St → Hp → (List V → Hp → Prop) → Prop
structure Ends where
  nx : St → Hp → Prop
  rt : VK
  bk : St → Hp → Prop := fun _ _ => False
  ct : St → Hp → Prop := fun _ _ => False
abbrev TS := Ends → St → Hp → Prop
def EP (X : Cx) (pins : List (Addr × Obj)) (σ : St) (Q : VK) (u : Value) (s' : Shared) : Prop := ∃ v H', Inv X pins σ H' s' ∧ RelV v u ∧ Q v H'
def TP (X : Cx) (pins : List (Addr × Obj)) (σ : St) (Q : Bool → Hp → Prop) (b : Bool) (s' : Shared) : Prop := ∃ H', Inv X pins σ H' s' ∧ Q b H'
def AP (X : Cx) (pins : List (Addr × Obj)) (σ : St) (Q : List V → Hp → Prop) (us : List Value) (s' : Shared) : Prop := ∃ vs H', Inv X pins σ H' s' ∧ Vals vs us ∧ Q vs H'
def SP (X : Cx) (pins : List (Addr × Obj)) (D : Ends) (f : Flow) (s' : Shared) : Prop :=
  match f with
  | .next => ∃ σ' H', Inv X pins σ' H' s' ∧ D.nx σ' H'
  | .brk => ∃ σ' H', Inv X pins σ' H' s' ∧ D.bk σ' H'
  | .cont => ∃ σ' H', Inv X pins σ' H' s' ∧ D.ct σ' H'
  | .ret u => ∃ v σ' H', Inv X pins σ' H' s' ∧ RelV v u ∧ D.rt v H'
def PE (X : Cx) (e : Expr) (t : TE) : Prop :=
  ∀ (pins : List (Addr × Obj)) (s : Shared) (σ : St) (H : Hp) (Q : VK), Inv X pins σ H s → t σ H Q → wpAny (model X.prog X.w) X.A (eval e X.env) (EP X pins σ Q) X.xe s
def PT (X : Cx) (e : Expr) (t : TT) : Prop :=
  ∀ (pins : List (Addr × Obj)) (s : Shared) (σ : St) (H : Hp) (Q : Bool → Hp → Prop), Inv X pins σ H s → t σ H Q → wpAny (model X.prog X.w) X.A (isTrue e X.env (eval e X.env)) (TP X pins σ Q) X.xe s
def PW (X : Cx) (e : Expr) (t : TT) : Prop :=
  ∀ (whole : Sem Value) (pins : List (Addr × Obj)) (s : Shared) (σ : St) (H : Hp) (Q : Bool → Hp → Prop), Inv X pins σ H s → t σ H Q → wpAny (model X.prog X.w) X.A (isTrue e X.env whole) (TP X pins σ Q) X.xe s
theorem PW.pt {X : Cx} {e : Expr} {t : TT} (h : PW X e t) : PT X e t := h _
def PA (X : Cx) (es : List Expr) (t : TA) : Prop :=
  ∀ (pos : Pos) (pins : List (Addr × Obj)) (s : Shared) (σ : St) (H : Hp) (Q : List V → Hp → Prop), Inv X pins σ H s → t σ H Q → wpAny (model X.prog X.w) X.A (spliced (backTo pos (starEach es X.env))) (AP X pins σ Q) X.xe s
def PS (X : Cx) (st : Stmt) (t : TS) : Prop :=
  ∀ (pins : List (Addr × Obj)) (s : Shared) (σ : St) (H : Hp) (D : Ends), Inv X pins σ H s → t D σ H → wpAny (model X.prog X.w) X.A (exec st X.env) (SP X pins D) X.xe s
def PSs (X : Cx) (st : List Stmt) (t : TS) : Prop :=
  ∀ (pins : List (Addr × Obj)) (s : Shared) (σ : St) (H : Hp) (D : Ends), Inv X pins σ H s → t D σ H → wpAny (model X.prog X.w) X.A (execs st X.env) (SP X pins D) X.xe s
theorem thn {α : Type} {t : Sem α} {Q Q' : α → Shared → Prop} {M : Model} {A : Around} {E : Value → Shared → Prop} {s : Shared} (h : wpAny M A t Q E s) (hQ : ∀ a s, Q a s → Q' a s) : wpAny M A t Q' E s := wpAny_mono h hQ fun _ _ x => x
end L2
namespace L2
open PySem PySem.Spec PyProof.Rows
section
variable {X : Cx}
theorem bin {a b : Expr} {ta tb : TE} (ha : PE X a ta) (hb : PE X b tb) {pins : List (Addr × Obj)} {s : Shared} {σ : St} {H : Hp} {R : V → V → Hp → Prop} (I : Inv X pins σ H s) (h : ta σ H fun x H1 => tb σ H1 fun y H2 => R x y H2)
    {α : Type} {Q : α → Shared → Prop} {f : Value → Value → Sem α}
    (hf : ∀ v u s2 x y H2, Inv X pins σ H2 s2 → RelV x v → RelV y u → R x y H2 → wpAny (model X.prog X.w) X.A (f v u) Q X.xe s2) :
    wpAny (model X.prog X.w) X.A (eval a X.env) (fun v s₁ => wpAny (model X.prog X.w) X.A (eval b X.env) (fun u s₂ => wpAny (model X.prog X.w) X.A (f v u) Q X.xe s₂) X.xe s₁) X.xe s := by
  refine thn (ha pins s σ H _ I h) fun v s1 ⟨x, H1, I1, r1, q1⟩ => ?_
  refine thn (hb pins s1 σ H1 _ I1 q1) fun u s2 ⟨y, H2, I2, r2, q2⟩ => ?_
  exact hf v u s2 x y H2 I2 r1 r2 q2
def tVar (i : Nat) : TE := fun σ H Q => ∃ v, σ[i]? = some (some v) ∧ Q v H
def tC (v : V) : TE := fun _ H Q => Q v H
theorem pe_var {i : Nat} {x : Str} {pos : Pos} (hN : X.N[i]? = some x) (hv : Vis X.env.scope x) (hd : (x == ("__debug__" : Str)) = false := by decide) (hcd : (x == ("__classdict__" : Str)) = false := by decide) : PE X (.Name x pos) (tVar i) := by
  intro pins s σ H Q I h
  obtain ⟨v, e, h⟩ := h
  obtain ⟨m, hn, hl⟩ := I.loc
  obtain ⟨u, r, l⟩ := hl i x v hN e hv
  have fin : EP X pins σ Q u s := ⟨v, H, I, r, h⟩
  rcases l with ⟨hk, hm⟩ | ⟨hk, c, hc, hcell⟩
  · exact wpAny_Name (wpAny_loadName_local I.ok.kind hk hn hm fin) hd
  · rcases hk with hk | hk
    · exact wpAny_Name (wpAny_loadName_cell I.ok.kind hk hc hcell fin) hd
    · exact wpAny_Name (wpAny_loadName_free I.ok.kind hk hc hcell fin hcd) hd
theorem pe_int {i j pos} : PE X (.Constant (.int i) j pos) (tC (.int i)) := fun _ _ _ H _ I h => wpAny_Constant_int ⟨.int i, H, I.tok _, ⟨_, rfl⟩, h⟩
theorem pe_bl {b j pos} : PE X (.Constant (.bool b) j pos) (tC (.bl b)) := fun _ _ _ H _ I h => Constant_bool ⟨.bl b, H, I, rfl, h⟩
theorem pe_non {j pos} : PE X (.Constant .none j pos) (tC .non) := fun _ _ _ H _ I h => Constant_none ⟨.non, H, I, rfl, h⟩
theorem pe_str {x j pos} : PE X (.Constant (.str x) j pos) (tC (.str x)) := fun _ _ _ H _ I h => Calls.Constant_str ⟨.str x, H, I.tok _, ⟨_, rfl⟩, h⟩
def Gl (X : Cx) (x : Str) : Prop := X.env.kindOf x = some .globalImplicit
theorem ld_glob {E : Value → Shared → Prop} {pins : List (Addr × Obj)} {s : Shared} {σ : St} {H : Hp} {x : Str} {u : Value} {pos : Pos} {Q : Value → Shared → Prop} (I : Inv X pins σ H s) (hg : Gl X x) (hm : X.mg x = some u) (h : Q u s)
    (hd : (x == ("__debug__" : Str)) = false := by decide) : wpAny (model X.prog X.w) X.A (eval (.Name x pos) X.env) Q E s :=
  Calls.Name_function_global I.ok.kind hg (Calls.loadGlobal_global (by rw [I.ok.glob]; exact I.mod.glob.keeps I.bk) hm h) hd
theorem ld_blt {E : Value → Shared → Prop} {pins : List (Addr × Obj)} {s : Shared} {σ : St} {H : Hp} {x : Str} {u : Value} {pos : Pos} {Q : Value → Shared → Prop} (I : Inv X pins σ H s) (hg : Gl X x) (hm : X.mg x = none) (hv : bootBuiltins x = some u) (h : Q u s)
    (hn : x ≠ "__name__" := by decide) (hd : (x == ("__debug__" : Str)) = false := by decide) : wpAny (model X.prog X.w) X.A (eval (.Name x pos) X.env) Q E s := by
  obtain ⟨mb, h1, h2⟩ := I.mod.blt
  exact Calls.Name_function_global I.ok.kind hg (Calls.loadGlobal_builtin (by rw [I.ok.glob]; exact I.mod.glob.keeps I.bk) hm (by rw [I.ok.blt]; exact h1.keeps I.bk) ((h2 x hn).trans hv) h) hd
theorem pe_glob {x : Str} {v : V} {u : Value} {pos : Pos} (hg : Gl X x) (hm : X.mg x = some u) (r : RelV v u) (hd : (x == ("__debug__" : Str)) = false := by decide) : PE X (.Name x pos) (tC v) :=
  fun _ _ _ H _ I h => ld_glob I hg hm ⟨v, H, I, r, h⟩ hd
theorem pe_bltn {x : Str} {v : V} {u : Value} {pos : Pos} (hg : Gl X x) (hm : X.mg x = none) (hv : bootBuiltins x = some u) (r : RelV v u) (hn : x ≠ "__name__" := by decide) (hd : (x == ("__debug__" : Str)) = false := by decide) : PE X (.Name x pos) (tC v) :=
  fun _ _ _ H _ I h => ld_blt I hg hm hv ⟨v, H, I, r, h⟩ hn hd
def t2I (ta tb : TE) (k : Int → Int → Hp → Prop) : St → Hp → Prop := fun σ H => ta σ H fun x H1 => tb σ H1 fun y H2 => ∃ i j, x = .int i ∧ y = .int j ∧ k i j H2
variable {a b : Expr} {ta tb : TE} {pos : Pos}
def tCmp (p : Int → Int → Bool) (ta tb : TE) : TE := fun σ H Q => t2I ta tb (fun i j H2 => Q (.bl (p i j)) H2) σ H
abbrev tLt : TE → TE → TE := tCmp fun i j => decide (i < j)
abbrev tLe : TE → TE → TE := tCmp fun i j => decide (i ≤ j)
abbrev tGt : TE → TE → TE := tCmp fun i j => decide (j < i)
abbrev tGe : TE → TE → TE := tCmp fun i j => decide (j ≤ i)
abbrev tEqI : TE → TE → TE := tCmp fun i j => decide (i = j)
abbrev tNeI : TE → TE → TE := tCmp fun i j => !decide (i = j)
variable {tA tB' : TT} {rest : List Expr}
def tAnd (t u : TT) : TT := fun σ H Q => t σ H fun c H1 => if c = true then u σ H1 Q else Q false H1
def tOr (t u : TT) : TT := fun σ H Q => t σ H fun c H1 => if c = true then Q true H1 else u σ H1 Q
def tNot (t : TT) : TT := fun σ H Q => t σ H fun c H1 => Q (!c) H1
theorem pw_and1 (ha : PT X a tA) : PW X (.BoolOp .And [a] pos) tA := by
  intro wh pins s σ H Q I h
  refine isTrue_and (thn (ha pins s σ H Q I h) fun c s1 e => ?_)
  cases c with
  | true => exact isTrue_and_nil e
  | false => exact e
theorem pw_or1 (ha : PT X a tA) : PW X (.BoolOp .Or [a] pos) tA := by
  intro wh pins s σ H Q I h
  refine isTrue_or (thn (ha pins s σ H Q I h) fun c s1 e => ?_)
  cases c with
  | false => exact isTrue_or_nil e
  | true => exact e
theorem pw_and (ha : PT X a tA) (hb : PW X (.BoolOp .And (b :: rest) pos) tB') : PW X (.BoolOp .And (a :: b :: rest) pos) (tAnd tA tB') := by
  intro wh pins s σ H Q I h
  refine isTrue_and (thn (ha pins s σ H _ I h) fun c s1 ⟨H1, I1, q1⟩ => ?_)
  cases c with
  | true => exact hb wh pins s1 σ H1 Q I1 q1
  | false => exact ⟨H1, I1, q1⟩
theorem pw_or (ha : PT X a tA) (hb : PW X (.BoolOp .Or (b :: rest) pos) tB') : PW X (.BoolOp .Or (a :: b :: rest) pos) (tOr tA tB') := by
  intro wh pins s σ H Q I h
  refine isTrue_or (thn (ha pins s σ H _ I h) fun c s1 ⟨H1, I1, q1⟩ => ?_)
  cases c with
  | true => exact ⟨H1, I1, q1⟩
  | false => exact hb wh pins s1 σ H1 Q I1 q1
theorem pt_not (ha : PT X a tA) : PT X (.UnaryOp .Not a pos) (tNot tA) := by
  intro pins s σ H Q I h
  exact isTrue_not (ha pins s σ H (fun c H1 => Q (!c) H1) I h)
def tAndV (ta tb : TE) : TE := fun σ H Q => ta σ H fun x H1 => ∃ c, x = .bl c ∧ if c = true then tb σ H1 Q else Q (.bl false) H1
def tNotV (ta : TE) : TE := fun σ H Q => ta σ H fun x H1 => ∃ c, x = .bl c ∧ Q (.bl (!c)) H1
theorem pe_one {op} {t : TE} (h : PE X a t) : PE X (.BoolOp op [a] pos) t := fun pins s σ H Q I hw => BoolOp_one (h pins s σ H Q I hw)
theorem pe_and (ha : PE X a ta) (hb : PE X (.BoolOp .And (b :: rest) pos) tb) : PE X (.BoolOp .And (a :: b :: rest) pos) (tAndV ta tb) := by
  intro pins s σ H Q I h
  refine BoolOp_and (thn (ha pins s σ H _ I h) fun v s1 ⟨x, H1, I1, r1, q1⟩ => ?_)
  obtain ⟨c, rfl, q1⟩ := q1
  cases r1
  refine wpAny_truthy_bool ?_
  cases c with
  | true => exact hb pins s1 σ H1 Q I1 q1
  | false => exact ⟨.bl false, H1, I1, rfl, q1⟩
theorem pe_not (ha : PE X a ta) : PE X (.UnaryOp .Not a pos) (tNotV ta) := by
  intro pins s σ H Q I h
  refine UnaryOp_ (thn (ha pins s σ H _ I h) fun v s1 ⟨x, H1, I1, r1, q1⟩ => ?_)
  obtain ⟨c, rfl, q1⟩ := q1
  cases r1
  exact not_of (wpAny_truthy_bool ⟨.bl (!c), H1, I1, rfl, q1⟩)
def tIf (t : TT) (ta tb : TE) : TE := fun σ H Q => t σ H fun c H1 => if c = true then ta σ H1 Q else tb σ H1 Q
theorem pe_ifExp {c : Expr} (hc : PT X c tA) (ha : PE X a ta) (hb : PE X b tb) : PE X (.IfExp c a b pos) (tIf tA ta tb) := by
  intro pins s σ H Q I h
  refine wpAny_IfExp (thn (hc pins s σ H _ I h) fun d s1 ⟨H1, I1, q1⟩ => ?_)
  cases d with
  | true => exact ha pins s1 σ H1 Q I1 q1
  | false => exact hb pins s1 σ H1 Q I1 q1
end
end L2
namespace L2
open PySem PySem.Spec PyProof.Rows
def SqL (K : PySem.W.Frag) (H : Hp) (a : Addr) (xs : List V) : Prop :=
  Rd H a (.lst xs) ∨
    ∃ (o : Obj) (its : Array Value) (n : Nat), K.lookup a = some o ∧ o.cls = .type "list" ∧ o.dict = none ∧ o.data = .seq its n ∧ its.size ≤ sizeLine ∧ Vals xs its.toList
def SqT (K : PySem.W.Frag) (H : Hp) (a : Addr) (xs : List V) : Prop :=
  Rd H a (.tup xs) ∨
    ∃ (o : Obj) (its : Array Value) (n : Nat), K.lookup a = some o ∧ o.cls = .type "tuple" ∧ o.data = .seq its n ∧ its.size ≤ sizeLine ∧ Vals xs its.toList
def absV : Value → Option V
  | .none => some .non
  | .bool b => some (.bl b)
  | .int i _ => some (.int i)
  | .str x _ => some (.str x)
  | .bytes b _ => some (.byt b)
  | .float b _ => some (.flt b)
  | .ref a => some (.ref a)
  | .type n => some (.ty n)
  | _ => none
theorem RelV.abs {x : V} {u : Value} (r : RelV x u) : absV u = some x := by
  cases x with
  | non => cases r; rfl
  | bl _ => cases r; rfl
  | int _ => obtain ⟨t, rfl⟩ := r; rfl
  | str _ => obtain ⟨t, rfl⟩ := r; rfl
  | byt _ => obtain ⟨t, rfl⟩ := r; rfl
  | flt _ => obtain ⟨t, rfl⟩ := r; rfl
  | ref _ => cases r; rfl
  | ty _ => cases r; rfl
theorem RelV.inj {x y : V} {u : Value} (r : RelV x u) (q : RelV y u) : x = y := Option.some.inj (r.abs.symm.trans q.abs)
theorem Vals.inj : ∀ {xs ys : List V} {us : List Value}, Vals xs us → Vals ys us → xs = ys
  | _, _, _, .nil, .nil => rfl
  | _, _, _, .cons r t, .cons r' t' => by rw [r.inj r', Vals.inj t t']
section
variable {X : Cx} {pins : List (Addr × Obj)} {σ : St} {H : Hp} {s : Shared} {a : Addr} {xs ys : List V}
theorem Inv.list (I : Inv X pins σ H s) (h : SqL X.K H a xs) : ∃ its : List Value, Vals xs its ∧ PlainL s.heap a its.toArray ∧ xs.length ≤ sizeLine := by
  rcases h with h | ⟨o, its, n, hk, hc, hd, hs, hz, r⟩
  · obtain ⟨z, its, n, r, e⟩ := h.ok I.hok
    exact ⟨its, r, ⟨_, n, e, rfl, rfl, rfl⟩, z⟩
  · refine ⟨its.toList, r, ⟨o, n, I.kIn a o hk, hc, hd, by simpa using hs⟩, ?_⟩
    have e := r.length
    simp only [Array.length_toList] at e
    omega
theorem Inv.tuple (I : Inv X pins σ H s) (h : SqT X.K H a xs) : ∃ its : List Value, Vals xs its ∧ IsTup s.heap a its.toArray ∧ xs.length ≤ sizeLine := by
  rcases h with h | ⟨o, its, n, hk, hc, hs, hz, r⟩
  · obtain ⟨z, its, r, p⟩ := h.ok I.hok
    exact ⟨its, r, p, z⟩
  · refine ⟨its.toList, r, ⟨o, I.kIn a o hk, hc, n, by simpa using hs⟩, ?_⟩
    have e := r.length
    simp only [Array.length_toList] at e
    omega
theorem Inv.list_inj (I : Inv X pins σ H s) (h : SqL X.K H a xs) (h' : SqL X.K H a ys) : xs = ys := by
  obtain ⟨its, r, ⟨o, n, e, _, _, d⟩, _⟩ := I.list h
  obtain ⟨its', r', ⟨o', n', e', _, _, d'⟩, _⟩ := I.list h'
  rw [e] at e'; cases e'
  rw [d] at d'
  injection d' with d1 _
  have : its = its' := by simpa using congrArg Array.toList d1
  subst this
  exact r.inj r'
theorem Inv.tuple_inj (I : Inv X pins σ H s) (h : SqT X.K H a xs) (h' : SqT X.K H a ys) : xs = ys := by
  obtain ⟨its, r, ⟨o, e, _, n, d⟩, _⟩ := I.tuple h
  obtain ⟨its', r', ⟨o', e', _, n', d'⟩, _⟩ := I.tuple h'
  rw [e] at e'; cases e'
  rw [d] at d'
  injection d' with d1 _
  have : its = its' := by simpa using congrArg Array.toList d1
  subst this
  exact r.inj r'
end
abbrev Cx.wish (X : Cx) (E : Value → Shared → Prop) : Cx := { X with xe := E }
abbrev Cx.nox (X : Cx) : Cx := X.wish fun _ _ => False
theorem Cx.Ok.wish {X : Cx} (ok : X.Ok) (E : Value → Shared → Prop) : (X.wish E).Ok :=
  ⟨ok.mod, ok.kind, ok.glob, ok.blt, ok.above, ok.inj, ok.has, ok.cab, ok.hd, ok.frames, ok.stk, ok.exf, ok.bs, ok.bsz, ok.noex, ok.exfs, ok.funs, ok.frf⟩
theorem Cx.Ok.unwish {X : Cx} {E : Value → Shared → Prop} (ok : (X.wish E).Ok) : X.Ok :=
  ⟨ok.mod, ok.kind, ok.glob, ok.blt, ok.above, ok.inj, ok.has, ok.cab, ok.hd, ok.frames, ok.stk, ok.exf, ok.bs, ok.bsz, ok.noex, ok.exfs, ok.funs, ok.frf⟩
section
variable {X : Cx} {pins : List (Addr × Obj)} {σ : St} {H : Hp} {s : Shared} {E : Value → Shared → Prop}
theorem Inv.wish (I : Inv X pins σ H s) (E : Value → Shared → Prop) : Inv (X.wish E) pins σ H s := ⟨I.ok.wish E, I.os, I.bare, I.base, I.loc, I.cell, I.free, I.freeC, I.pin, I.hok, I.len⟩
theorem Inv.unwish (I : Inv (X.wish E) pins σ H s) : Inv X pins σ H s := ⟨I.ok.unwish, I.os, I.bare, I.base, I.loc, I.cell, I.free, I.freeC, I.pin, I.hok, I.len⟩
theorem SP.unwish {D : Ends} {f : Flow} {s' : Shared} (h : SP (X.wish E) pins D f s') : SP X pins D f s' := by
  cases f with
  | next => obtain ⟨σ', H', I, q⟩ := h; exact ⟨σ', H', I.unwish, q⟩
  | brk => obtain ⟨σ', H', I, q⟩ := h; exact ⟨σ', H', I.unwish, q⟩
  | cont => obtain ⟨σ', H', I, q⟩ := h; exact ⟨σ', H', I.unwish, q⟩
  | ret u => obtain ⟨v, σ', H', I, r, q⟩ := h; exact ⟨v, σ', H', I.unwish, r, q⟩
theorem PSs.nox {st : List Stmt} {t : TS} (h : PSs X.nox st t) : PSs X st t := fun pins s σ H D I hw =>
  wpAny_mono (h pins s σ H D (I.wish _) hw) (fun _ _ q => q.unwish) fun _ _ z => False.elim z
end
section
variable {X : Cx} {st : Stmt} {rest : List Stmt} {t u : TS} {e : Expr} {te : TE} {pos : Pos}
def tNext : TS := fun D σ H => D.nx σ H
def tSeq (t u : TS) : TS := fun D σ H => t { D with nx := u D } σ H
theorem pss_nil : PSs X [] tNext := fun _ _ σ H _ I h => wpAny_execs_nil ⟨σ, H, I, h⟩
theorem pss_cons (h1 : PS X st t) (h2 : PSs X rest u) : PSs X (st :: rest) (tSeq t u) := by
  intro pins s σ H D I h
  refine wpAny_execs_cons (thn (h1 pins s σ H { D with nx := u D } I h) fun f s1 q => ?_)
  cases f with
  | next =>
    obtain ⟨σ', H', I', q⟩ := q
    exact h2 pins s1 σ' H' D I' q
  | ret v => exact q
  | brk => exact q
  | cont => exact q
theorem pss_one (h1 : PS X st t) : PSs X [st] t := by
  intro pins s σ H D I h
  refine wpAny_execs_cons (thn (h1 pins s σ H D I h) fun f s1 q => ?_)
  cases f with
  | next => exact wpAny_execs_nil q
  | ret v => exact q
  | brk => exact q
  | cont => exact q
def tBreak : TS := fun D σ H => D.bk σ H
theorem ps_break : PS X (.Break pos) tBreak := fun _ _ σ H _ I h => wpAny_Break ⟨σ, H, I, h⟩
theorem Inv.quiet {pins : List (Addr × Obj)} {σ : St} {H : Hp} {s : Shared} (I : Inv X pins σ H s) : interactive X.env = false := by simp [interactive, I.ok.kind]
def tDrop (te : TE) : TS := fun D σ H => te σ H fun _ H1 => D.nx σ H1
theorem ps_expr (he : PE X e te) (hs : swapsWith e none pos.line X.env = pure false := by rfl) : PS X (.Expr e pos) (tDrop te) := by
  intro pins s σ H D I h
  exact wpAny_Expr_any (thn (he pins s σ H _ I h) fun v s1 ⟨x, H1, I1, r1, q1⟩ => ⟨σ, H1, I1, q1⟩) I.quiet hs
def tRet (te : TE) : TS := fun D σ H => te σ H D.rt
theorem ps_ret (he : PE X e te) : PS X (.Return (some e) pos) (tRet te) := by
  intro pins s σ H D I h
  exact wpAny_Return_some (thn (he pins s σ H _ I h) fun v s1 ⟨x, H1, I1, r1, q1⟩ => ⟨x, σ, H1, I1, r1, q1⟩)
def tIfS (c : TT) (t u : TS) : TS := fun D σ H => c σ H fun b H1 => if b = true then t D σ H1 else u D σ H1
theorem ps_if {c : Expr} {a b : List Stmt} {tc : TT} (hc : PT X c tc) (ha : PSs X a t) (hb : PSs X b u) : PS X (.If c a b pos) (tIfS tc t u) := by
  intro pins s σ H D I h
  refine wpAny_If (thn (hc pins s σ H _ I h) fun d s1 ⟨H1, I1, q1⟩ => ?_)
  cases d with
  | true => exact ha pins s1 σ H1 D I1 q1
  | false => exact hb pins s1 σ H1 D I1 q1
end
abbrev TG := V → St → Hp → (St → Hp → Prop) → Prop
abbrev TGs := List V → St → Hp → (St → Hp → Prop) → Prop
def PG (X : Cx) (target : Expr) (t : TG) : Prop :=
  ∀ (pins : List (Addr × Obj)) (s : Shared) (σ : St) (H : Hp) (v : V) (u : Value) (Q : St → Hp → Prop), Inv X pins σ H s → RelV v u → t v σ H Q →
    wpAny (model X.prog X.w) X.A (assign target X.env u) (fun _ s' => ∃ σ' H', Inv X pins σ' H' s' ∧ Q σ' H') X.xe s
def PGs (X : Cx) (ts : List Expr) (t : TGs) : Prop :=
  ∀ (pins : List (Addr × Obj)) (s : Shared) (σ : St) (H : Hp) (vs : List V) (us : List Value) (Q : St → Hp → Prop), Inv X pins σ H s → Vals vs us → t vs σ H Q →
    wpAny (model X.prog X.w) X.A (assignInOrder ((assignEach ts X.env).map (·.2)) us) (fun _ s' => ∃ σ' H', Inv X pins σ' H' s' ∧ Q σ' H') X.xe s
abbrev TSet := V → V → V → Hp → (Hp → Prop) → Prop
abbrev TIp := V → V → Hp → VK → Prop
section
variable {X : Cx} {pos : Pos}
def gName (i : Nat) : TG := fun v σ H Q => Q (σ.set i (some v)) H
theorem pg_name {i : Nat} {x : Str} (hN : X.N.Nodup) (hi : X.N[i]? = some x) (hx : Loc X.env.scope x) (hf : X.fn x = true ∨ X.env.scope.names.lookup x = some .local := by first | exact .inl rfl | exact .inr rfl | assumption) : PG X (.Name x pos) (gName i) := by
  intro pins s σ H v u Q I r h
  exact wpAny_assign_Name (store_ok I hN hi hx r (fun s' I' => ⟨_, H, I', h⟩) hf)
def gNil : TGs := fun vs σ H Q => vs = [] ∧ Q σ H
def gCons (t : TG) (u : TGs) : TGs := fun vs σ H Q => ∃ v r, vs = v :: r ∧ t v σ H fun σ' H' => u r σ' H' Q
theorem pgs_nil : PGs X [] gNil := by
  intro pins s σ H vs us Q I r h
  obtain ⟨e, h⟩ := h
  subst e
  cases r
  exact assignInOrder_nil ⟨σ, H, I, h⟩
theorem pgs_cons {e : Expr} {es : List Expr} {t : TG} {u : TGs} (h1 : PG X e t) (h2 : PGs X es u)
    (hs : (assignEach (e :: es) X.env).map (·.2) = assign e X.env :: (assignEach es X.env).map (·.2) := by rfl) : PGs X (e :: es) (gCons t u) := by
  intro pins s σ H vs us Q I r h
  obtain ⟨v, vr, e1, h⟩ := h
  subst e1
  cases r with
  | cons r rr =>
    rw [hs]
    refine assignInOrder_cons (thn (h1 pins s σ H _ _ _ I r h) fun _ s1 ⟨σ1, H1, I1, q1⟩ => ?_)
    exact h2 pins s1 σ1 H1 _ _ Q I1 rr q1
def gTup (K : PySem.W.Frag) (n : Nat) (t : TGs) : TG := fun v σ H Q => ∃ a xs, v = .ref a ∧ SqT K H a xs ∧ xs.length = n ∧ t xs σ H Q
theorem pg_tup {es : List Expr} {k : Nat} {t : TGs} {n : Nat} (hc : X.calm = true) (h : PGs X es t)
    (hn : (assignEach es X.env).length = n := by rfl) (hst : (assignEach es X.env).findIdx? (·.1) = none := by rfl) : PG X (.Tuple es k pos) (gTup X.K n t) := by
  intro pins s σ H v u Q I r hw
  obtain ⟨a, xs, e1, hq, hl, hw⟩ := hw
  subst e1
  cases r
  obtain ⟨its, rv, ht, hz⟩ := I.tuple hq
  refine assign_Tuple_tuple (I.ok.hd hc) ht (by simp [hn, ← hl, rv.length]) hst fun h' hx => ?_
  have I1 : Inv X pins σ H { s with heap := h' } := I.kept (t' := s.toks) fun b o e => hx b o (Nat.ne_of_lt (Heap.lt_size e)) e
  exact h pins _ σ H xs _ Q I1 (by simpa using rv) hw
def tAsg (te : TE) (g : TG) : TS := fun D σ H => te σ H fun x H1 => g x σ H1 D.nx
theorem ps_set {i : Nat} {x : Str} {e : Expr} {te : TE} {pos' : Pos} (hN : X.N.Nodup) (hi : X.N[i]? = some x) (hx : Loc X.env.scope x) (he : PE X e te) (hs : swapsWith e (some (.Name x pos')) pos.line X.env = pure false := by rfl) (hf : X.fn x = true ∨ X.env.scope.names.lookup x = some .local := by first | exact .inl rfl | exact .inr rfl | assumption) :
    PS X (.Assign [.Name x pos'] e pos) (tAsg te (gName i)) := by
  intro pins s σ H D I h
  refine wpAny_Assign_Name (thn (he pins s σ H _ I h) fun v s1 ⟨y, H1, I1, r1, q1⟩ => ?_) hs
  exact store_ok I1 hN hi hx r1 (fun s2 I2 => ⟨_, H1, I2, q1⟩) hf
end
section
variable {X : Cx} {pos : Pos}
def tWhile (c : TT) (tb : TS) : TS := fun D σ H => ∃ W : Nat → St → Hp → Prop, (∃ m, W m σ H) ∧ ∀ m σ H, W m σ H →
  c σ H fun b H1 => if b = true then ∃ N : St → Hp → Prop, (∀ σ' H', N σ' H' → ∃ m', m' < m ∧ W m' σ' H') ∧ tb { D with nx := N, ct := N, bk := D.nx } σ H1 else D.nx σ H1
theorem ps_while {c : Expr} {body : List Stmt} {tc : TT} {tb : TS} (hp : PassesOwn (model X.prog X.w) X.A X.env X.xe) (hc : PT X c tc) (hb : PSs X body tb) : PS X (.While c body [] pos) (tWhile tc tb) := by
  intro pins s σ H D I h
  obtain ⟨W, ⟨m0, w0⟩, turn⟩ := h
  refine wpAny_While (codeAny_whileLoop (fun n s' => ∃ σ' H', Inv X pins σ' H' s' ∧ W n σ' H') ?_ m0 ⟨σ, H, I, w0⟩)
  rintro n s1 ⟨σ1, H1, I1, w1⟩
  refine wpAny_passesOwn hp (thn (hc pins s1 σ1 H1 _ I1 (turn n σ1 H1 w1)) fun b s2 ⟨H2, I2, q2⟩ => ?_)
  cases b with
  | true =>
    obtain ⟨N, hN, q2⟩ := q2
    rw [if_pos rfl]
    refine wpAny_passesOwn hp (thn (hb pins s2 σ1 H2 _ I2 q2) fun f s3 q3 => ?_)
    cases f with
    | next =>
      obtain ⟨σ3, H3, I3, n3⟩ := q3
      obtain ⟨m', hm, w3⟩ := hN σ3 H3 n3
      exact ⟨m', hm, σ3, H3, I3, w3⟩
    | cont =>
      obtain ⟨σ3, H3, I3, n3⟩ := q3
      obtain ⟨m', hm, w3⟩ := hN σ3 H3 n3
      exact ⟨m', hm, σ3, H3, I3, w3⟩
    | brk => exact q3
    | ret v => exact q3
  | false =>
    rw [if_neg Bool.false_ne_true]
    exact wpAny_execs_nil ⟨σ1, H2, I2, q2⟩
end
structure It where
  go : Nat → Hp → Prop
  yld : Nat → Hp → V → Hp → Prop
  stop : Nat → Hp → Prop
def FpOk (X : Cx) (pins : List (Addr × Obj)) (H : Hp) (b : Addr) : Prop :=
  H b = none ∧ b ≠ X.env.locals ∧ b ∉ X.fs ∧ (b ∈ X.ex ∨ X.s₀.heap.objs.size ≤ b) ∧ (∀ x c, X.env.cells.lookup x = some c → c ≠ b) ∧ ∀ p ∈ X.pn ++ pins, p.1 ≠ b
theorem Inv.fpOk {X : Cx} {pins : List (Addr × Obj)} {σ : St} {H H' : Hp} {s : Shared} {b : Addr} (I : Inv X pins σ H s) (hb : s.heap.objs.size ≤ b) (hn : H' b = none) : FpOk X pins H' b := by
  refine ⟨hn, Nat.ne_of_gt (Nat.lt_of_lt_of_le I.lt hb), I.nofs hb, .inr (Nat.le_trans I.sz hb), fun x c e z => ?_, fun p hp z => ?_⟩
  · obtain ⟨v, q⟩ := I.cell x c e
    exact absurd (Nat.lt_of_lt_of_le q.lt (by rw [z]; exact hb)) (Nat.lt_irrefl _)
  · exact absurd (Nat.lt_of_lt_of_le (Heap.lt_size (I.pin p hp).1) (by rw [z]; exact hb)) (Nat.lt_irrefl _)
structure Turn (P : Program) (w : World) (K : PySem.W.Frag) (tg : Expr) (J : It) (fp : List Addr) (it : Addr) (tn : Nat → Heap → Prop) : Prop where
  mem : it ∈ fp
  obj : ∀ i h, tn i h → ∀ b ∈ fp, ∃ o, h.get? b = some o ∧ ∀ v, o.data ≠ .cell v
  keep : ∀ i h h', tn i h → (∀ b ∈ fp, ∀ o, h.get? b = some o → h'.get? b = some o) → tn i h'
  item : ∀ (X : Cx), X.prog = P → X.w = w → X.K = K → X.calm = true → ∀ (i : Nat) (pins : List (Addr × Obj)) (s : Shared) (σ : St) (H : Hp) (E : Value → Shared → Prop), Inv X pins σ H s → (∀ b ∈ fp, FpOk X pins H b) → tn i s.heap → J.go i H →
    wpAny (model P w) X.A (pyNext (.ref it)) (fun r s1 => ∃ u, r = some u ∧
      wpAny (model P w) X.A (letOwnedTupleGo tg (.ref it) u) (fun _ s2 => ∃ x H', Inv X pins σ H' s2 ∧ RelV x u ∧ J.yld i H x H' ∧ tn (i + 1) s2.heap ∧ ∀ b ∈ fp, H' b = none) E s1) E s
  done : ∀ (X : Cx), X.prog = P → X.w = w → X.K = K → X.calm = true → ∀ (i : Nat) (pins : List (Addr × Obj)) (s : Shared) (σ : St) (H : Hp) (E : Value → Shared → Prop), Inv X pins σ H s → (∀ b ∈ fp, FpOk X pins H b) → tn i s.heap → J.stop i H →
    wpAny (model P w) X.A (pyNext (.ref it)) (fun r s1 => r = none ∧ Inv X pins σ H s1) E s
  self : ∀ (A : Around) (i : Nat) (s : Shared) (Q : Value → Shared → Prop) (E : Value → Shared → Prop), tn i s.heap → Q (.ref it) s → wpAny (model P w) A (pyIter (.ref it)) Q E s
abbrev TI := St → Hp → (It → Hp → Prop) → Prop
def PIE (X : Cx) (pins : List (Addr × Obj)) (σ : St) (tg : Expr) (R : It → Hp → Prop) (itv : Value) (s2 : Shared) : Prop :=
  ∃ (it : Addr) (fp : List Addr) (tn : Nat → Heap → Prop) (J : It) (H' : Hp), itv = .ref it ∧ Inv X pins σ H' s2 ∧ Turn X.prog X.w X.K tg J fp it tn ∧ tn 0 s2.heap ∧ (∀ b ∈ fp, FpOk X pins H' b) ∧ R J H'
def PI (X : Cx) (tg iter : Expr) (wi : TI) : Prop :=
  ∀ (pins : List (Addr × Obj)) (s : Shared) (σ : St) (H : Hp) (R : It → Hp → Prop), Inv X pins σ H s → wi σ H R →
    wpAny (model X.prog X.w) X.A (eval iter X.env) (fun v s1 => wpAny (model X.prog X.w) X.A (pyIter v) (PIE X pins σ tg R) X.xe s1) X.xe s
theorem go_of {M : Model} {A : Around} {E : Value → Shared → Prop} {s : Shared} {tg : Expr} {it : Addr} {u : Value} {o : Obj} {n : String} {vs : Array Value} {Q : Unit → Shared → Prop} (ho : s.heap.get? it = some o) (hc : o.cls = .type n) (hd : o.data = .fields vs)
    (hn : ["enumerate", "zip", "dict_itemiterator", "dict_reverseitemiterator", "odict_iterator", "itertools.zip_longest", "itertools.pairwise"].contains n = false) (hQ : Q () s) : wpAny M A (letOwnedTupleGo tg (.ref it) u) Q E s := by
  unfold letOwnedTupleGo
  cases tg <;> first
    | exact wpAny_pure hQ
    | (cases u <;> first
        | exact wpAny_pure hQ
        | (refine wpAny_bind (wpAny_load ho ?_)
           rw [hc, hd]
           show wpAny M A (if (["enumerate", "zip", "dict_itemiterator", "dict_reverseitemiterator", "odict_iterator", "itertools.zip_longest", "itertools.pairwise"].contains n && vs[0]? == some (rawInt _)) = true then _ else _) Q E s
           rw [if_neg (by intro h; rw [hn, Bool.false_and] at h; cases h)]
           exact wpAny_pure hQ))
def Itl (K : PySem.W.Frag) (a : Addr) : It :=
  ⟨fun i H => ∃ xs x, SqL K H a xs ∧ xs[i]? = some x, fun i H x H' => H' = H ∧ ∀ xs, SqL K H a xs → xs[i]? = some x, fun i H => ∃ xs, SqL K H a xs ∧ xs.length ≤ i⟩
def Itt (K : PySem.W.Frag) (a : Addr) : It :=
  ⟨fun i H => ∃ xs x, SqT K H a xs ∧ xs[i]? = some x, fun i H x H' => H' = H ∧ ∀ xs, SqT K H a xs → xs[i]? = some x, fun i H => ∃ xs, SqT K H a xs ∧ xs.length ≤ i⟩
theorem turn_list {P : Program} {w : World} {K : PySem.W.Frag} {tg : Expr} (a it : Addr) : Turn P w K tg (Itl K a) [it] it (fun i h => h.IsListIter it a i) where
  mem := by simp
  obj := fun i h st b hb => by
    have e : b = it := by simpa using hb
    subst e
    obtain ⟨o, e, c, d⟩ := st
    exact ⟨o, e, fun v z => by rw [d] at z; cases z⟩
  keep := fun i h h' st k => st.at fun o e => k it (by simp) o e
  item := by
    intro X hP hw hK hc i pins s σ H E I hf st hg
    subst hP hw hK
    obtain ⟨xs, x, hq, hx⟩ := hg
    obtain ⟨its, rv, p, hz⟩ := I.list hq
    obtain ⟨u, hu, ru⟩ := rv.get hx
    obtain ⟨f0, f1, f2, f3, f4, f5⟩ := hf it (by simp)
    refine wpAny_pyNext_list_item st p.isList (x := u) (by simpa using hu) fun h' st' sb => ?_
    have I1 : Inv X pins σ H { s with heap := h' } := I.turned (t' := s.toks) (fun b o hb e => (sb.2 b hb).trans e) f0 f1 f3 f4 f5
    obtain ⟨o, e, c, d⟩ := id st'
    exact ⟨u, rfl, go_of (s := { s with heap := h' }) e c d (by decide) ⟨x, H, I1, ru, ⟨rfl, fun ys hy => by rw [I.list_inj hy hq]; exact hx⟩, st', fun b hb => (hf b hb).1⟩⟩
  done := by
    intro X hP hw hK hc i pins s σ H E I hf st hg
    subst hP hw hK
    obtain ⟨xs, hq, hx⟩ := hg
    obtain ⟨its, rv, p, hz⟩ := I.list hq
    obtain ⟨f0, f1, f2, f3, f4, f5⟩ := hf it (by simp)
    have hl := rv.length
    exact wpAny_pyNext_list_end (I.ok.hd hc) st p.isList (by simp; omega) fun h' eb => ⟨rfl, I.turned (t' := s.toks) (fun b o hb e => eb b o hb e) f0 f1 f3 f4 f5⟩
  self := fun _ _ _ _ _ st h => wpAny_pyIter_listiter st h
theorem turn_tuple {P : Program} {w : World} {K : PySem.W.Frag} {tg : Expr} (a it : Addr) : Turn P w K tg (Itt K a) [it] it (fun i h => h.IsTupleIter it a i) where
  mem := by simp
  obj := fun i h st b hb => by
    have e : b = it := by simpa using hb
    subst e
    obtain ⟨o, e, c, d⟩ := st
    exact ⟨o, e, fun v z => by rw [d] at z; cases z⟩
  keep := fun i h h' st k => st.at fun o e => k it (by simp) o e
  item := by
    intro X hP hw hK hc i pins s σ H E I hf st hg
    subst hP hw hK
    obtain ⟨xs, x, hq, hx⟩ := hg
    obtain ⟨its, rv, p, hz⟩ := I.tuple hq
    obtain ⟨u, hu, ru⟩ := rv.get hx
    obtain ⟨f0, f1, f2, f3, f4, f5⟩ := hf it (by simp)
    refine wpAny_pyNext_tuple_item st (show s.heap.IsTuple a its.toArray from p) (x := u) (by simpa using hu) fun h' st' sb => ?_
    have I1 : Inv X pins σ H { s with heap := h' } := I.turned (t' := s.toks) (fun b o hb e => (sb.2 b hb).trans e) f0 f1 f3 f4 f5
    obtain ⟨o, e, c, d⟩ := id st'
    exact ⟨u, rfl, go_of (s := { s with heap := h' }) e c d (by decide) ⟨x, H, I1, ru, ⟨rfl, fun ys hy => by rw [I.tuple_inj hy hq]; exact hx⟩, st', fun b hb => (hf b hb).1⟩⟩
  done := by
    intro X hP hw hK hc i pins s σ H E I hf st hg
    subst hP hw hK
    obtain ⟨xs, hq, hx⟩ := hg
    obtain ⟨its, rv, p, hz⟩ := I.tuple hq
    obtain ⟨f0, f1, f2, f3, f4, f5⟩ := hf it (by simp)
    have hl := rv.length
    exact wpAny_pyNext_tuple_end (I.ok.hd hc) st (show s.heap.IsTuple a its.toArray from p) (by simp; omega) fun h' eb => ⟨rfl, I.turned (t' := s.toks) (fun b o hb e => eb b o hb e) f0 f1 f3 f4 f5⟩
  self := fun _ _ _ _ _ st h => wpAny_pyIter_tupleiter st h
end L2
namespace L2
open PySem PySem.Spec PyProof.Rows
section
variable {X : Cx} {tg : Expr}
def tFor (wi : TI) (g : TG) (tb : TS) : TS := fun D σ H => wi σ H fun J H1 => ∃ W : Nat → Nat → St → Hp → Prop, (∃ m, W 0 m σ H1) ∧ ∀ i m σ H, W i m σ H →
  (J.stop i H ∧ D.nx σ H) ∨ (J.go i H ∧ ∃ N : St → Hp → Prop, (∀ σ' H', N σ' H' → ∃ m', m' < m ∧ W (i + 1) m' σ' H') ∧ ∀ x H', J.yld i H x H' → g x σ H' fun σ2 H2 => tb { D with nx := N, ct := N, bk := D.nx } σ2 H2)
def pinsAt (fp : List Addr) (h : Heap) : List (Addr × Obj) := fp.filterMap fun b => (h.get? b).map fun o => (b, o)
theorem mem_pinsAt {fp : List Addr} {h : Heap} {b : Addr} {o : Obj} (hb : b ∈ fp) (e : h.get? b = some o) : (b, o) ∈ pinsAt fp h := List.mem_filterMap.mpr ⟨b, hb, by rw [e]; rfl⟩
theorem of_pinsAt {fp : List Addr} {h : Heap} {p : Addr × Obj} (hp : p ∈ pinsAt fp h) : p.1 ∈ fp ∧ h.get? p.1 = some p.2 := by
  obtain ⟨b, hb, e⟩ := List.mem_filterMap.mp hp
  cases q : h.get? b with
  | none => rw [q] at e; cases e
  | some o =>
    rw [q] at e
    have e' : (b, o) = p := Option.some.inj e
    subst e'
    exact ⟨hb, q⟩
theorem Inv.pinned {pins : List (Addr × Obj)} {σ : St} {H : Hp} {s : Shared} {fp : List Addr} (I : Inv X pins σ H s) (hf : ∀ b ∈ fp, FpOk X pins H b) (ho : ∀ b ∈ fp, ∃ o, s.heap.get? b = some o ∧ ∀ v, o.data ≠ .cell v) : Inv X (pins ++ pinsAt fp s.heap) σ H s :=
  I.pins_of fun p hp => (List.mem_append.mp hp).elim (fun z => I.pin p (List.mem_append_right _ z)) fun z => by
    obtain ⟨hb, e⟩ := of_pinsAt z
    obtain ⟨f0, f1, f2, _⟩ := hf p.1 hb
    obtain ⟨o, e', d⟩ := ho p.1 hb
    rw [e] at e'; cases e'
    exact ⟨e, f0, f1, f2, d⟩
theorem Inv.unpinned {pins pl : List (Addr × Obj)} {σ : St} {H : Hp} {s : Shared} (I : Inv X (pins ++ pl) σ H s) : Inv X pins σ H s := I.pins_of fun p hp => I.pin p (List.mem_append_right _ (List.mem_append_left _ hp))
theorem ps_for {iter : Expr} {body : List Stmt} {wi : TI} {g : TG} {tb : TS} {pos : Pos} (hp : PassesOwn (model X.prog X.w) X.A X.env X.xe) (hc : X.calm = true) (hi : PI X tg iter wi) (hg : PG X tg g) (hb : PSs X body tb)
    (hs : ∀ x, foldedSetIterable iter X.env x = pure x := by intro _; rfl) : PS X (.For tg iter body [] pos) (tFor wi g tb) := by
  intro pins s σ H D I h
  refine wpAny_For (thn (hi pins s σ H _ I h) fun v s1 h1 => thn h1 fun itv s2 h2 => ?_) hs
  obtain ⟨it, fp, tn, J, H2, e, I2, T, st2, f2, W, ⟨m0, w0⟩, turn⟩ := h2
  subst e
  -- what stays true of the iterator's objects through the loop
  have stat : ∀ {H' : Hp}, (∀ b ∈ fp, H' b = none) → ∀ b ∈ fp, FpOk X pins H' b := fun hn b hb => ⟨hn b hb, (f2 b hb).2⟩
  refine codeAny_forLoop_any (fun n s' => ∃ i σ' H', Inv X pins σ' H' s' ∧ tn i s'.heap ∧ (∀ b ∈ fp, H' b = none) ∧ W i n σ' H') ?_ m0 ⟨0, σ, H2, I2, st2, fun b hb => (f2 b hb).1, w0⟩
  rintro n s3 ⟨i, σ3, H3, I3, st3, fr3, w3⟩
  rcases turn i n σ3 H3 w3 with ⟨stop, qn⟩ | ⟨go, N, hN, step⟩
  · refine wpAny_passesOwn hp (thn (T.done X rfl rfl rfl hc i pins s3 σ3 H3 X.xe I3 (stat fr3) st3 stop) fun r s4 ⟨hr, I4⟩ => ?_)
    subst hr
    exact wpAny_execs_nil ⟨σ3, H3, I4, qn⟩
  · refine wpAny_passesOwn hp (thn (T.item X rfl rfl rfl hc i pins s3 σ3 H3 X.xe I3 (stat fr3) st3 go) fun r s4 ⟨u, hr, h4⟩ => ?_)
    subst hr
    refine wpAny_passesOwn hp (thn h4 fun _ s5 ⟨x, H5, I5, r5, y5, st5, fr5⟩ => ?_)
    have I5' := I5.pinned (stat fr5) (T.obj _ _ st5)
    refine wpAny_passesOwn hp (thn (hg _ s5 σ3 H5 x u _ I5' r5 (step x H5 y5)) fun _ s6 ⟨σ6, H6, I6, q6⟩ => ?_)
    refine wpAny_passesOwn hp (thn (hb _ s6 σ6 H6 _ I6 q6) fun f s7 q7 => ?_)
    have again : ∀ {σ7 : St} {H7 : Hp}, Inv X (pins ++ pinsAt fp s5.heap) σ7 H7 s7 → N σ7 H7 → ∃ m, m < n ∧ ∃ i σ' H', Inv X pins σ' H' s7 ∧ tn i s7.heap ∧ (∀ b ∈ fp, H' b = none) ∧ W i m σ' H' := fun {σ7 H7} I7 n7 => by
      obtain ⟨m', hm, w7⟩ := hN σ7 H7 n7
      refine ⟨m', hm, i + 1, σ7, H7, I7.unpinned, T.keep _ _ _ st5 fun b hb o e => (I7.pin (b, o) (List.mem_append_right _ (List.mem_append_right _ (mem_pinsAt hb e)))).1, fun b hb => ?_, w7⟩
      obtain ⟨o, e, d⟩ := T.obj _ _ st5 b hb
      exact (I7.pin (b, o) (List.mem_append_right _ (List.mem_append_right _ (mem_pinsAt hb e)))).2.1
    cases f with
    | next => obtain ⟨σ7, H7, I7, n7⟩ := q7; exact again I7 n7
    | cont => obtain ⟨σ7, H7, I7, n7⟩ := q7; exact again I7 n7
    | brk => obtain ⟨σ7, H7, I7, q7⟩ := q7; exact ⟨σ7, H7, I7.unpinned, q7⟩
    | ret v => obtain ⟨x7, σ7, H7, I7, r7, q7⟩ := q7; exact ⟨x7, σ7, H7, I7.unpinned, r7, q7⟩
end
end L2
namespace L2
open PySem PySem.Spec PyProof.Rows
abbrev R2 := V → V → Hp → VK → Prop
def OpR (X : Cx) (f : Value → Value → Sem Value) (r : R2) : Prop :=
  ∀ (pins : List (Addr × Obj)) (s : Shared) (σ : St) (H : Hp) (x y : V) (v u : Value) (Q : VK), Inv X pins σ H s → RelV x v → RelV y u → r x y H Q →
    wpAny (model X.prog X.w) X.A (f v u) (EP X pins σ Q) X.xe s
def UnR (X : Cx) (f : Value → Sem Value) (r : V → Hp → VK → Prop) : Prop :=
  ∀ (pins : List (Addr × Obj)) (s : Shared) (σ : St) (H : Hp) (x : V) (v : Value) (Q : VK), Inv X pins σ H s → RelV x v → r x H Q →
    wpAny (model X.prog X.w) X.A (f v) (EP X pins σ Q) X.xe s
def CallR (X : Cx) (f : Value) (r : List V → Hp → VK → Prop) : Prop :=
  ∀ (pins : List (Addr × Obj)) (s : Shared) (σ : St) (H : Hp) (xs : List V) (us : List Value) (Q : VK), Inv X pins σ H s → Vals xs us → r xs H Q →
    wpAny (model X.prog X.w) X.A (call f us) (EP X pins σ Q) X.xe s
def TruR (X : Cx) (r : V → Hp → (Bool → Hp → Prop) → Prop) : Prop :=
  ∀ (pins : List (Addr × Obj)) (s : Shared) (σ : St) (H : Hp) (x : V) (v : Value) (Q : Bool → Hp → Prop), Inv X pins σ H s → RelV x v → r x H Q →
    wpAny (model X.prog X.w) X.A (truthy v) (TP X pins σ Q) X.xe s
def tOp (r : R2) (ta tb : TE) : TE := fun σ H Q => ta σ H fun x H1 => tb σ H1 fun y H2 => r x y H2 Q
def tUn (r : V → Hp → VK → Prop) (ta : TE) : TE := fun σ H Q => ta σ H fun x H1 => r x H1 Q
def rI (C : Int → Int → Prop) (g : Int → Int → V) : R2 := fun x y H Q => ∃ i j, x = .int i ∧ y = .int j ∧ C i j ∧ Q (g i j) H
def rI0 (g : Int → Int → V) : R2 := fun x y H Q => ∃ i j, x = .int i ∧ y = .int j ∧ Q (g i j) H
def rU (g : Int → V) : V → Hp → VK → Prop := fun x H Q => ∃ i, x = .int i ∧ Q (g i) H
section
variable {X : Cx} {a b c : Expr} {ta tb tc : TE} {pos : Pos}
theorem binT (ha : PE X a ta) (hb : PE X b tb) {pins : List (Addr × Obj)} {s : Shared} {σ : St} {H : Hp} {R : V → V → Hp → Prop} (I : Inv X pins σ H s)
    (h : ta σ H fun x H1 => tb σ H1 fun y H2 => R x y H2) {Q : Value → Shared → Prop} {f : Value → Value → Sem Value}
    (hf : ∀ v u s2 x y H2, Inv X pins σ H2 s2 → RelV x v → RelV y u → R x y H2 → wpAny (model X.prog X.w) X.A (f v u) Q X.xe s2) :
    wpAny (model X.prog X.w) X.A (eval a X.env) (fun v s₁ => wpAny (model X.prog X.w) X.A (eval b X.env) (fun u s₂ => wpAny (model X.prog X.w) X.A (f v u) Q X.xe s₂) X.xe s₁) X.xe s := by
  refine thn (ha pins s σ H _ I h) fun v s1 ⟨x, H1, I1, r1, q1⟩ => ?_
  refine thn (hb pins s1 σ H1 _ I1 q1) fun u s2 ⟨y, H2, I2, r2, q2⟩ => ?_
  exact hf v u s2 x y H2 I2 r1 r2 q2
theorem pe_op {op : Operator} {r : R2} (ho : OpR X (binaryOp op) r) (ha : PE X a ta) (hb : PE X b tb) : PE X (.BinOp a op b pos) (tOp r ta tb) := by
  intro pins s σ H Q I h
  exact wpAny_BinOp (binT ha hb I h fun v u s2 x y H2 I2 rx ry q => ho pins s2 σ H2 x y v u Q I2 rx ry q)
theorem pe_un {op : UnaryOp} {r : V → Hp → VK → Prop} (ho : UnR X (unaryOp op) r) (ha : PE X a ta) : PE X (.UnaryOp op a pos) (tUn r ta) := by
  intro pins s σ H Q I h
  exact UnaryOp_ (thn (ha pins s σ H _ I h) fun v s1 ⟨x, H1, I1, r1, q1⟩ => ho pins s1 σ H1 x v Q I1 r1 q1)
theorem opI {f : Value → Value → Sem Value} {C : Int → Int → Prop} {g : Int → Int → Int}
    (rule : ∀ (i j : Int) (t u : Tok) (s : Shared) (Q : Value → Shared → Prop) (E : Value → Shared → Prop), C i j → Q (.int (g i j) s.toks) { s with toks := s.toks + 1 } → wpAny (model X.prog X.w) X.A (f (.int i t) (.int j u)) Q E s) :
    OpR X f (rI C fun i j => .int (g i j)) := by
  intro pins s σ H x y v u Q I rx ry h
  obtain ⟨i, j, rfl, rfl, hc, q⟩ := h
  obtain ⟨t, rfl⟩ := rx
  obtain ⟨t', rfl⟩ := ry
  exact rule i j t t' s _ _ hc ⟨.int (g i j), H, I.tok _, ⟨_, rfl⟩, q⟩
theorem opI0 {f : Value → Value → Sem Value} {g : Int → Int → Int}
    (rule : ∀ (i j : Int) (t u : Tok) (s : Shared) (Q : Value → Shared → Prop) (E : Value → Shared → Prop), Q (.int (g i j) s.toks) { s with toks := s.toks + 1 } → wpAny (model X.prog X.w) X.A (f (.int i t) (.int j u)) Q E s) :
    OpR X f (rI0 fun i j => .int (g i j)) := by
  intro pins s σ H x y v u Q I rx ry h
  obtain ⟨i, j, rfl, rfl, q⟩ := h
  obtain ⟨t, rfl⟩ := rx
  obtain ⟨t', rfl⟩ := ry
  exact rule i j t t' s _ _ ⟨.int (g i j), H, I.tok _, ⟨_, rfl⟩, q⟩
theorem opB0 {f : Value → Value → Sem Value} {g : Int → Int → Bool}
    (rule : ∀ (i j : Int) (t u : Tok) (s : Shared) (Q : Value → Shared → Prop) (E : Value → Shared → Prop), Q (.bool (g i j)) s → wpAny (model X.prog X.w) X.A (f (.int i t) (.int j u)) Q E s) :
    OpR X f (rI0 fun i j => .bl (g i j)) := by
  intro pins s σ H x y v u Q I rx ry h
  obtain ⟨i, j, rfl, rfl, q⟩ := h
  obtain ⟨t, rfl⟩ := rx
  obtain ⟨t', rfl⟩ := ry
  exact rule i j t t' s _ _ ⟨.bl (g i j), H, I, rfl, q⟩
def CDiv (i j : Int) : Prop := 0 < j ∧ j < 1073741824
def CPow (i j : Int) : Prop := 0 ≤ j ∧ j ≤ 1000000 ∧ i.natAbs < 2 ^ 64
def CMul (i j : Int) : Prop := (-(2 ^ 64) < i ∧ i < 2 ^ 64) ∨ (-(2 ^ 64) < j ∧ j < 2 ^ 64)
theorem CMul.ok {i j : Int} (h : CMul i j) : IntMulOk i j := by
  rcases h with ⟨h1, h2⟩ | ⟨h1, h2⟩
  · exact .of_left (intBits_le_64 h1 h2)
  · exact .of_right (intBits_le_64 h1 h2)
theorem two_pow_nn (k : Nat) : (0 : Int) ≤ 2 ^ k := by
  rw [two_pow_cast]
  exact Int.natCast_nonneg _
theorem op_add : OpR X (binaryOp .Add) (rI0 fun i j => .int (i + j)) := opI0 fun _ _ _ _ _ _ _ q => add_int q
theorem op_sub : OpR X (binaryOp .Sub) (rI0 fun i j => .int (i - j)) := opI0 fun _ _ _ _ _ _ _ q => sub_int q
theorem op_fdiv : OpR X (binaryOp .FloorDiv) (rI CDiv fun i j => .int (i / j)) := opI fun i j _ _ _ _ _ hc q => by
  have h1 : (0 : Int) < j := hc.1
  have h2 : j < 1073741824 := hc.2
  exact floordiv_int (by omega) (by rw [Int.fdiv_eq_ediv_of_nonneg i (by omega)]; exact q) (.inl (PyProof.noPylong_small (by omega)))
theorem op_mod : OpR X (binaryOp .Mod) (rI (fun _ j => 0 < j) fun i j => .int (i % j)) := opI fun i j _ _ _ _ _ hc q => by
  have h1 : (0 : Int) < j := hc
  exact mod_int' (by omega) (by rw [Int.fmod_eq_emod_of_nonneg i (by omega)]; exact q)
theorem op_pow : OpR X (binaryOp .Pow) (rI CPow fun i j => .int (i ^ j.toNat)) := opI fun _ _ _ _ _ _ _ hc q => pow_int_small hc.1 hc.2.1 hc.2.2 q
theorem unI {f : Value → Sem Value} {g : Int → Int}
    (rule : ∀ (i : Int) (t : Tok) (s : Shared) (Q : Value → Shared → Prop) (E : Value → Shared → Prop), Q (.int (g i) s.toks) { s with toks := s.toks + 1 } → wpAny (model X.prog X.w) X.A (f (.int i t)) Q E s) :
    UnR X f (rU fun i => .int (g i)) := by
  intro pins s σ H x v Q I rx h
  obtain ⟨i, rfl, q⟩ := h
  obtain ⟨t, rfl⟩ := rx
  exact rule i t s _ _ ⟨.int (g i), H, I.tok _, ⟨_, rfl⟩, q⟩
theorem un_neg : UnR X (unaryOp .USub) (rU fun i => .int (-i)) := unI fun _ _ _ _ _ q => neg_int q
end
def scal : V → V → Bool
  | .non, .non => true | .non, .int _ => true | .int _, .non => true | .non, .bl _ => true | .bl _, .non => true | .non, .str _ => true | .str _, .non => true
  | .int _, .int _ => true | .bl _, .bl _ => true | .str _, .str _ => true | .byt _, .byt _ => true
  | .int _, .str _ => true | .str _, .int _ => true | .bl _, .str _ => true | .str _, .bl _ => true
  | _, _ => false
def rEq : R2 := fun x y H Q => scal x y = true ∧ Q (.bl (decide (x = y))) H
def rNe : R2 := fun x y H Q => scal x y = true ∧ Q (.bl (!decide (x = y))) H
theorem dec_int {i j : Int} : decide (V.int i = V.int j) = (i == j) := by
  rw [Bool.eq_iff_iff]
  simp
theorem dec_bl {i j : Bool} : decide (V.bl i = V.bl j) = (i == j) := by
  rw [Bool.eq_iff_iff]
  simp
theorem dec_str {i j : Str} : decide (V.str i = V.str j) = (i == j) := by
  rw [Bool.eq_iff_iff]
  simp
theorem dec_byt {i j : Array UInt8} : decide (V.byt i = V.byt j) = (i.toList == j.toList) := by
  rw [Bool.eq_iff_iff]
  cases i
  cases j
  simp
section
variable {X : Cx} {a b c : Expr} {ta tb tc : TE} {pos : Pos}
theorem fin_bl {pins : List (Addr × Obj)} {σ : St} {H : Hp} {s : Shared} {Q : VK} {k k' : Bool} (I : Inv X pins σ H s) (q : Q (.bl k) H) (e : k = k') : EP X pins σ Q (.bool k') s := by
  subst e
  exact ⟨.bl k, H, I, rfl, q⟩
theorem op_eq : OpR X (compareOp .Eq) rEq := by
  intro pins s σ H x y v u Q I rx ry h
  obtain ⟨hs, q⟩ := h
  cases x with
  | non =>
    cases rx
    cases y with
    | non => cases ry; exact PySem.EqNone.eq_none_none (fin_bl I q (by simp))
    | bl j => cases ry; exact PySem.EqNone.eq_none_bool (fin_bl I q (by simp))
    | int j => obtain ⟨t', rfl⟩ := ry; exact PySem.EqNone.eq_none_int (fin_bl I q (by simp))
    | str j => obtain ⟨t', rfl⟩ := ry; exact PySem.EqNone.eq_none_str (fin_bl I q (by simp))
    | _ => exact absurd (show false = true from hs) Bool.false_ne_true
  | bl i =>
    cases rx
    cases y with
    | non => cases ry; exact PySem.EqNone.eq_bool_none (fin_bl I q (by simp))
    | bl j => cases ry; exact eq_bool (fin_bl I q dec_bl)
    | str j => obtain ⟨t', rfl⟩ := ry; exact PySem.EqMixed.eq_bool_str (fin_bl I q (by simp))
    | _ => exact absurd (show false = true from hs) Bool.false_ne_true
  | int i =>
    obtain ⟨t, rfl⟩ := rx
    cases y with
    | non => cases ry; exact PySem.EqNone.eq_int_none (fin_bl I q (by simp))
    | int j => obtain ⟨t', rfl⟩ := ry; exact eq_int (fin_bl I q dec_int)
    | str j => obtain ⟨t', rfl⟩ := ry; exact PySem.EqMixed.eq_int_str (fin_bl I q (by simp))
    | _ => exact absurd (show false = true from hs) Bool.false_ne_true
  | str i =>
    obtain ⟨t, rfl⟩ := rx
    cases y with
    | non => cases ry; exact PySem.EqNone.eq_str_none (fin_bl I q (by simp))
    | bl j => cases ry; exact PySem.EqMixed.eq_str_bool (fin_bl I q (by simp))
    | int j => obtain ⟨t', rfl⟩ := ry; exact PySem.EqMixed.eq_str_int (fin_bl I q (by simp))
    | str j => obtain ⟨t', rfl⟩ := ry; exact eq_str (fin_bl I q dec_str)
    | _ => exact absurd (show false = true from hs) Bool.false_ne_true
  | byt i =>
    obtain ⟨t, rfl⟩ := rx
    cases y with
    | byt j => obtain ⟨t', rfl⟩ := ry; exact PySem.W.eq_bytes (fin_bl I q dec_byt)
    | _ => exact absurd (show false = true from hs) Bool.false_ne_true
  | _ => cases y <;> exact absurd (show false = true from hs) Bool.false_ne_true
theorem op_ne : OpR X (compareOp .NotEq) rNe := by
  intro pins s σ H x y v u Q I rx ry h
  obtain ⟨hs, q⟩ := h
  cases x with
  | non =>
    cases rx
    cases y with
    | non => cases ry; exact PySem.EqNone.ne_none_none (fin_bl I q (by simp))
    | bl j => cases ry; exact PySem.EqNone.ne_none_bool (fin_bl I q (by simp))
    | int j => obtain ⟨t', rfl⟩ := ry; exact PySem.EqNone.ne_none_int (fin_bl I q (by simp))
    | str j => obtain ⟨t', rfl⟩ := ry; exact PySem.EqNone.ne_none_str (fin_bl I q (by simp))
    | _ => exact absurd (show false = true from hs) Bool.false_ne_true
  | bl i =>
    cases rx
    cases y with
    | non => cases ry; exact PySem.EqNone.ne_bool_none (fin_bl I q (by simp))
    | bl j => cases ry; exact ne_bool (fin_bl I q (congrArg not dec_bl))
    | str j => obtain ⟨t', rfl⟩ := ry; exact PySem.EqMixed.ne_bool_str (fin_bl I q (by simp))
    | _ => exact absurd (show false = true from hs) Bool.false_ne_true
  | int i =>
    obtain ⟨t, rfl⟩ := rx
    cases y with
    | non => cases ry; exact PySem.EqNone.ne_int_none (fin_bl I q (by simp))
    | int j => obtain ⟨t', rfl⟩ := ry; exact ne_int (fin_bl I q (congrArg not dec_int))
    | str j => obtain ⟨t', rfl⟩ := ry; exact PySem.EqMixed.ne_int_str (fin_bl I q (by simp))
    | _ => exact absurd (show false = true from hs) Bool.false_ne_true
  | str i =>
    obtain ⟨t, rfl⟩ := rx
    cases y with
    | non => cases ry; exact PySem.EqNone.ne_str_none (fin_bl I q (by simp))
    | bl j => cases ry; exact PySem.EqMixed.ne_str_bool (fin_bl I q (by simp))
    | int j => obtain ⟨t', rfl⟩ := ry; exact PySem.EqMixed.ne_str_int (fin_bl I q (by simp))
    | str j => obtain ⟨t', rfl⟩ := ry; exact ne_str (fin_bl I q (congrArg not dec_str))
    | _ => exact absurd (show false = true from hs) Bool.false_ne_true
  | byt i =>
    obtain ⟨t, rfl⟩ := rx
    cases y with
    | byt j => obtain ⟨t', rfl⟩ := ry; exact PySem.W.ne_bytes (fin_bl I q (congrArg not dec_byt))
    | _ => exact absurd (show false = true from hs) Bool.false_ne_true
  | _ => cases y <;> exact absurd (show false = true from hs) Bool.false_ne_true
theorem op_lt : OpR X (compareOp .Lt) (rI0 fun i j => .bl (decide (i < j))) := opB0 fun _ _ _ _ _ _ _ q => lt_int q
theorem op_le : OpR X (compareOp .LtE) (rI0 fun i j => .bl (decide (i ≤ j))) := opB0 fun _ _ _ _ _ _ _ q => le_int q
theorem op_gt : OpR X (compareOp .Gt) (rI0 fun i j => .bl (decide (j < i))) := opB0 fun _ _ _ _ _ _ _ q => gt_int q
theorem op_in_str : OpR X (compareOp .In) (fun x y H Q => ∃ i j, x = .str i ∧ y = .str j ∧ Q (.bl (!(Builtin.Str.occurrences j i 0 j.length 1).isEmpty)) H) := by
  intro pins s σ H x y v u Q I rx ry h
  obtain ⟨i, j, rfl, rfl, q⟩ := h
  obtain ⟨t, rfl⟩ := rx
  obtain ⟨t', rfl⟩ := ry
  exact in_str (fin_bl I q rfl)
theorem op_isN : OpR X (compareOp .Is) (fun x y H Q => y = .non ∧ Q (.bl (decide (x = .non))) H) := by
  intro pins s σ H x y v u Q I rx ry h
  obtain ⟨rfl, q⟩ := h
  cases ry
  refine is_none_gen (fin_bl I q ?_)
  cases x <;> first
    | (cases rx; rfl)
    | (obtain ⟨t, rfl⟩ := rx; rfl)
theorem OpR.or {f : Value → Value → Sem Value} {r r' : R2} (h : OpR X f r) (h' : OpR X f r') : OpR X f (fun x y H Q => r x y H Q ∨ r' x y H Q) := by
  intro pins s σ H x y v u Q I rx ry q
  rcases q with q | q
  · exact h pins s σ H x y v u Q I rx ry q
  · exact h' pins s σ H x y v u Q I rx ry q
theorem nomark (b : Expr) {op : CmpOp} (h : op ≠ .In := by decide) (h2 : op ≠ .NotIn := by decide) : behindInMarks op b = false := by
  have e1 : (op == CmpOp.In) = false := by cases op <;> first | rfl | exact absurd rfl h
  have e2 : (op == CmpOp.NotIn) = false := by cases op <;> first | rfl | exact absurd rfl h2
  cases b <;> simp [behindInMarks, e1, e2]
theorem pe_cmpR {op : CmpOp} {r : R2} (ho : OpR X (compareOp op) r) (ha : PE X a ta) (hb : PE X b tb) (hm : behindInMarks op b = false) : PE X (.Compare a [op] [b] pos) (tOp r ta tb) := by
  intro pins s σ H Q I h
  exact wpAny_Compare1 (binT ha hb I h fun v u s2 x y H2 I2 rx ry q => ho pins s2 σ H2 x y v u Q I2 rx ry q) hm
def tTest (t : TE) : TT := fun σ H Q => t σ H fun x H' => ∃ k, x = .bl k ∧ Q k H'
theorem pt_cmpR {op : CmpOp} {r : R2} (ho : OpR X (compareOp op) r) (ha : PE X a ta) (hb : PE X b tb) (hm : behindInMarks op b = false) : PT X (.Compare a [op] [b] pos) (tTest (tOp r ta tb)) := by
  intro pins s σ H Q I h
  refine wpAny_isTrue_Compare1 (thn (ha pins s σ H _ I h) fun v s1 ⟨x, H1, I1, r1, q1⟩ => thn (hb pins s1 σ H1 _ I1 q1) fun u s2 ⟨y, H2, I2, r2, q2⟩ =>
    thn (ho pins s2 σ H2 x y v u _ I2 r1 r2 q2) fun c s3 ⟨z, H3, I3, r3, k, e, q3⟩ => ?_) hm
  subst e
  cases r3
  exact wpAny_truthy_bool ⟨H3, I3, q3⟩
def tChain (r r' : R2) (ta tb tc : TE) : TE := fun σ H Q => ta σ H fun x H1 => tb σ H1 fun y H2 => r x y H2 fun z H3 => ∃ k, z = .bl k ∧
  (if k = true then tc σ H3 fun w' H4 => r' y w' H4 Q else Q (.bl false) H3)
theorem pe_chain {op op' : CmpOp} {r r' : R2} (ho : OpR X (compareOp op) r) (ho' : OpR X (compareOp op') r') (ha : PE X a ta) (hb : PE X b tb) (hc : PE X c tc)
    (hm : lastMarks [op, op'] [b, c] = false := by with_unfolding_all rfl) : PE X (.Compare a [op, op'] [b, c] pos) (tChain r r' ta tb tc) := by
  intro pins s σ H Q I h
  refine Compare_chain (thn (ha pins s σ H _ I h) fun v s1 ⟨x, H1, I1, r1, q1⟩ => chain_link (thn (hb pins s1 σ H1 _ I1 q1) fun u s2 ⟨y, H2, I2, r2, q2⟩ =>
    thn (ho pins s2 σ H2 x y v u _ I2 r1 r2 q2) fun d s3 ⟨z, H3, I3, r3, k, e, q3⟩ => ?_)) hm
  subst e
  cases r3
  refine wpAny_truthy_bool ?_
  cases k with
  | false => exact ite_ff ⟨.bl false, H3, I3, rfl, q3⟩
  | true => exact ite_tt (chain_last (thn (hc pins s3 σ H3 _ I3 q3) fun w' s4 ⟨z', H4, I4, r4, q4⟩ => ho' pins s4 σ H4 y z' u w' Q I4 r2 r4 q4))
theorem pt_chain {op op' : CmpOp} {r r' : R2} (ho : OpR X (compareOp op) r) (ho' : OpR X (compareOp op') r') (ha : PE X a ta) (hb : PE X b tb) (hc : PE X c tc)
    (hm : lastMarks [op, op'] [b, c] = false := by with_unfolding_all rfl) : PT X (.Compare a [op, op'] [b, c] pos) (tTest (tChain r r' ta tb tc)) := by
  intro pins s σ H Q I h
  refine isTrue_chain (thn (ha pins s σ H _ I h) fun v s1 ⟨x, H1, I1, r1, q1⟩ => test_link (thn (hb pins s1 σ H1 _ I1 q1) fun u s2 ⟨y, H2, I2, r2, q2⟩ =>
    thn (ho pins s2 σ H2 x y v u _ I2 r1 r2 q2) fun d s3 ⟨z, H3, I3, r3, k, e, q3⟩ => ?_)) hm
  subst e
  cases r3
  refine wpAny_truthy_bool ?_
  cases k with
  | false =>
    obtain ⟨k', e', q'⟩ := q3
    cases e'
    exact ite_ff ⟨H3, I3, q'⟩
  | true =>
    refine ite_tt (test_last (thn (hc pins s3 σ H3 _ I3 q3) fun w' s4 ⟨z', H4, I4, r4, q4⟩ => thn (ho' pins s4 σ H4 y z' u w' _ I4 r2 r4 q4) fun d' s5 ⟨z2, H5, I5, r5, k2, e2, q5⟩ => ?_))
    subst e2
    cases r5
    exact wpAny_truthy_bool ⟨H5, I5, q5⟩
def TruV (K : PySem.W.Frag) (x : V) (H : Hp) (k : Bool) : Prop :=
  match x with
  | .non => k = false
  | .bl b => k = b
  | .int i => k = (i != 0)
  | .str y => y.length ≤ sizeLine ∧ k = ((y.length : Int) != 0)
  | .byt y => y.size ≤ sizeLine ∧ k = ((y.size : Int) != 0)
  | .ref p => (∃ xs, SqL K H p xs ∧ k = !xs.isEmpty) ∨ (∃ xs, SqT K H p xs ∧ k = !xs.isEmpty) ∨ ∃ kvs, H p = some (.dK kvs) ∧ k = !kvs.isEmpty
  | _ => False
theorem isEmpty_kv {κ : Type} {kvs : List (κ × V)} {vs : List (κ × Value)} (r : KV kvs vs) : (!vs.isEmpty) = !kvs.isEmpty := by
  cases r <;> rfl
theorem isEmpty_of {xs : List V} {its : List Value} (r : Vals xs its) : (!its.toArray.isEmpty) = !xs.isEmpty := by
  cases r <;> simp
theorem line63 : (sizeLine : Nat) < 2 ^ 63 := by rw [sizeLine_eq]; decide
theorem tru_ok : TruR X (fun x H Q => ∃ k, TruV X.K x H k ∧ Q k H) := by
  intro pins s σ H x v Q I rx h
  obtain ⟨k, e, q⟩ := h
  have hl := line63
  have hs : sizeLine = 16777216 := sizeLine_eq
  cases x with
  | non =>
    cases rx
    have e' : k = false := e
    subst e'
    exact truthy_none ⟨H, I, q⟩
  | bl b =>
    cases rx
    have e' : k = b := e
    subst e'
    exact wpAny_truthy_bool ⟨H, I, q⟩
  | int i =>
    obtain ⟨t, rfl⟩ := rx
    have e' : k = (i != 0) := e
    subst e'
    exact PySem.P.truthy_int ⟨H, I, q⟩
  | str y =>
    obtain ⟨t, rfl⟩ := rx
    obtain ⟨hy, e'⟩ : y.length ≤ sizeLine ∧ k = ((y.length : Int) != 0) := e
    subst e'
    exact PySem.P.truthy_str (by omega) ⟨H, I.tok _, q⟩
  | byt y =>
    obtain ⟨t, rfl⟩ := rx
    obtain ⟨hy, e'⟩ : y.size ≤ sizeLine ∧ k = ((y.size : Int) != 0) := e
    subst e'
    exact PySem.W.truthy_bytes (by omega) ⟨H, I.tok _, q⟩
  | ref p =>
    cases rx
    have e' : (∃ xs, SqL X.K H p xs ∧ k = !xs.isEmpty) ∨ (∃ xs, SqT X.K H p xs ∧ k = !xs.isEmpty) ∨ ∃ kvs, H p = some (.dK kvs) ∧ k = !kvs.isEmpty := e
    rcases e' with ⟨xs, hx, e'⟩ | ⟨xs, hx, e'⟩ | ⟨kvs, hx, e'⟩
    · subst e'
      obtain ⟨its, r, pl, hz⟩ := I.list hx
      have hlen := r.length
      exact wpAny_truthy_list pl.isList (by simp only [List.size_toArray]; omega) ⟨H, I.tok _, by rw [isEmpty_of r]; exact q⟩
    · subst e'
      obtain ⟨its, r, pl, hz⟩ := I.tuple hx
      have hlen := r.length
      exact truthy_tuple pl (by simp only [List.size_toArray]; omega) ⟨H, I.tok _, by rw [isEmpty_of r]; exact q⟩
    · subst e'
      obtain ⟨hz, hS, vs, r, m⟩ : kvs.length ≤ sizeLine ∧ (p == sysModules) = false ∧ ∃ vs, KV kvs vs ∧ s.heap.DictOf (mixKind X.prog X.w) p vs := I.hok p _ hx
      have hlen : kvs.length = vs.length := Paired.length r
      exact wpAny_truthy_dict hS m (by omega) ⟨H, I.tok _, by rw [isEmpty_kv r]; exact q⟩
  | _ => exact (show False from e).elim
theorem pt_truth (ha : PE X a ta) (he : ∀ whole, isTrue a X.env whole = (do let v ← whole; standAt a.pos; holding [v] (truthy v))) :
    PT X a (fun σ H Q => ta σ H fun x H' => ∃ k, TruV X.K x H' k ∧ Q k H') := by
  intro pins s σ H Q I h
  exact isTrue_plain (thn (ha pins s σ H _ I h) fun v s1 ⟨x, H1, I1, r1, q1⟩ => tru_ok pins s1 σ H1 x v Q I1 r1 q1) (he _)
theorem op_add_str : OpR X (binaryOp .Add) (fun x y H Q => ∃ i j, x = .str i ∧ y = .str j ∧ i.length + j.length ≤ sizeLine ∧ Q (.str (i ++ j)) H) := by
  intro pins s σ H x y v u Q I rx ry h
  obtain ⟨i, j, rfl, rfl, hz, q⟩ := h
  obtain ⟨t, rfl⟩ := rx
  obtain ⟨t', rfl⟩ := ry
  exact add_str (fun t' tk => ⟨.str (i ++ j), H, I.tok _, ⟨_, rfl⟩, q⟩) hz
theorem vals1 {x : V} {us : List Value} (r : Vals [x] us) : ∃ u, us = [u] ∧ RelV x u := by
  cases r with
  | cons r1 r2 => cases r2; exact ⟨_, rfl, r1⟩
theorem vals2 {x y : V} {us : List Value} (r : Vals [x, y] us) : ∃ u w', us = [u, w'] ∧ RelV x u ∧ RelV y w' := by
  cases r with
  | cons r1 r2 =>
    cases r2 with
    | cons r3 r4 => cases r4; exact ⟨_, _, rfl, r1, r3⟩
theorem call_max2 (hc : X.calm = true) : CallR X (.builtin "max") (fun xs H Q => ∃ i j, xs = [.int i, .int j] ∧ Q (.int (if j > i then j else i)) H) := by
  intro pins s σ H xs us Q I r h
  obtain ⟨i, j, rfl, q⟩ := h
  obtain ⟨u, w', rfl, ⟨t, rfl⟩, ⟨t', rfl⟩⟩ := vals2 r
  refine max_two_ints (I.ok.hd hc) fun h' tk k => ⟨_, H, I.kept k, ?_, q⟩
  by_cases hj : j > i
  · rw [if_pos hj, if_pos hj]; exact ⟨_, rfl⟩
  · rw [if_neg hj, if_neg hj]; exact ⟨_, rfl⟩
theorem call_str_int : CallR X (.type "str") (fun xs H Q => ∃ i, xs = [.int i] ∧ i.natAbs.log2 < 1920 ∧ Q (.str (toString i)) H) := by
  intro pins s σ H xs us Q I r h
  obtain ⟨i, rfl, hz, q⟩ := h
  obtain ⟨u, rfl, t, rfl⟩ := vals1 r
  exact PySem.P.str_of_int hz ⟨.str _, H, I.tok _, ⟨_, rfl⟩, q⟩
def LenV (K : PySem.W.Frag) (x : V) (H : Hp) (n : Nat) : Prop :=
  match x with
  | .str y => y.length ≤ sizeLine ∧ n = y.length
  | .byt y => y.size ≤ sizeLine ∧ n = y.size
  | .ref p => (∃ xs, SqL K H p xs ∧ n = xs.length) ∨ ∃ xs, SqT K H p xs ∧ n = xs.length
  | _ => False
theorem call_len : CallR X (.builtin "len") (fun xs H Q => ∃ x n, xs = [x] ∧ LenV X.K x H n ∧ Q (.int n) H) := by
  intro pins s σ H xs us Q I r h
  obtain ⟨x, n, rfl, e, q⟩ := h
  obtain ⟨u, rfl, rx⟩ := vals1 r
  have hl := line63
  have hs : sizeLine = 16777216 := sizeLine_eq
  cases x with
  | str y =>
    obtain ⟨t, rfl⟩ := rx
    obtain ⟨hy, e'⟩ : y.length ≤ sizeLine ∧ n = y.length := e
    subst e'
    exact len_str (by omega) ⟨.int _, H, I.tok _, ⟨_, rfl⟩, q⟩
  | byt y =>
    obtain ⟨t, rfl⟩ := rx
    obtain ⟨hy, e'⟩ : y.size ≤ sizeLine ∧ n = y.size := e
    subst e'
    exact PySem.W.len_bytes (by omega) ⟨.int _, H, I.tok _, ⟨_, rfl⟩, q⟩
  | ref p =>
    cases rx
    have e' : (∃ xs, SqL X.K H p xs ∧ n = xs.length) ∨ ∃ xs, SqT X.K H p xs ∧ n = xs.length := e
    rcases e' with ⟨xs, hx, e'⟩ | ⟨xs, hx, e'⟩
    · subst e'
      obtain ⟨its, r', pl, hz⟩ := I.list hx
      have hlen := r'.length
      exact Calls.call_len_list pl.isList (by simp only [List.size_toArray]; omega) ⟨.int xs.length, H, I.tok _, ⟨_, by simp only [List.size_toArray]; rw [hlen]⟩, q⟩
    · subst e'
      obtain ⟨its, r', pl, hz⟩ := I.tuple hx
      have hlen := r'.length
      exact len_tuple pl (by simp only [List.size_toArray]; omega) ⟨.int xs.length, H, I.tok _, ⟨_, by simp only [List.size_toArray]; rw [hlen]⟩, q⟩
  | _ => exact (show False from e).elim
end
end L2
namespace L2
open PySem PySem.Spec PyProof.Rows
structure ObjM (h : Heap) (x dx C : Addr) (mA : Str → Option Value) : Prop where
  obj : h.get? x = some (PySem.W.instObj C dx)
  ns : h.Ns1 dx mA
  ne : dx ≠ x
theorem lookIn_ns {h : Heap} {dx : Addr} {mA : Str → Option Value} (n : h.Ns1 dx mA) : ∃ od, h.get? dx = some od ∧ ∀ name, PySem.W.lookIn name od = some (mA name) := by
  obtain ⟨o, es, ep, ho, hd, hk, _, hm⟩ := n
  refine ⟨o, ho, fun name => ?_⟩
  have e := hm name
  unfold nsFind findBy at e
  rw [← Array.find?_toList] at e
  unfold PySem.W.lookIn
  rw [hd]
  dsimp only
  split
  · rename_i y q
    rw [q] at e
    exact congrArg some e
  · rename_i q
    rw [q] at e
    have a : es.toList.any (·.refKey) = false := by
      rw [List.any_eq_false]
      intro y hy
      obtain ⟨z, t, hkey⟩ := hk y (Array.mem_toList_iff.mp hy)
      simp [DictEntry.refKey, hkey]
    have a' : ¬ es.toList.any (·.refKey) = true := by rw [a]; exact Bool.false_ne_true
    rw [if_neg a']
    exact congrArg some e
theorem ObjM.look {h : Heap} {x dx C : Addr} {mA : Str → Option Value} (I : ObjM h x dx C mA) : ∃ od, PySem.W.InstAt h x (PySem.W.instObj C dx) C (some od) ∧ ∀ name, PySem.W.lookIn name od = some (mA name) :=
  let ⟨od, ho, hl⟩ := lookIn_ns I.ns
  ⟨od, ⟨I.obj, rfl, rfl, ho⟩, hl⟩
section
variable {prog : Program} {w : World} {A : Around} {E : Value → Shared → Prop} {s : Shared} {K : PySem.W.Frag} {x dx C f : Addr} {mA : Str → Option Value} {name : Str} {v : Value}
end
def putF (f : Str) (v : V) : List (Str × V) → List (Str × V)
  | [] => [(f, v)]
  | (g, x) :: r => if g = f then (g, v) :: r else (g, x) :: putF f v r
theorem lookup_putF (f g : Str) (v : V) : ∀ fs : List (Str × V), (putF f v fs).lookup g = if g = f then some v else fs.lookup g
  | [] => by
    show List.lookup g [(f, v)] = _
    by_cases h : g = f
    · have hb : (g == f) = true := beq_iff_eq.mpr h
      simp only [List.lookup, hb, if_pos h]
    · have hb : (g == f) = false := beq_eq_false_iff_ne.mpr h
      simp only [List.lookup, hb, if_neg h]
  | (k, x) :: r => by
    have ih := lookup_putF f g v r
    rw [show putF f v ((k, x) :: r) = (if k = f then (k, v) :: r else (k, x) :: putF f v r) from rfl]
    by_cases hk : k = f
    · rw [if_pos hk]
      by_cases h : g = k
      · have hb : (g == k) = true := beq_iff_eq.mpr h
        simp only [List.lookup, hb, if_pos (h.trans hk)]
      · have hb : (g == k) = false := beq_eq_false_iff_ne.mpr h
        simp only [List.lookup, hb, if_neg (fun e : g = f => h (e.trans hk.symm))]
    · rw [if_neg hk]
      by_cases h : g = k
      · have hb : (g == k) = true := beq_iff_eq.mpr h
        simp only [List.lookup, hb, if_neg (fun e : g = f => hk (h.symm.trans e))]
      · have hb : (g == k) = false := beq_eq_false_iff_ne.mpr h
        simp only [List.lookup, hb]
        exact ih
section
variable {P : Program} {w : World} {H H' : Hp} {h h' : Heap} {a C dx : Addr} {fs fs' : List (Str × V)}
theorem ins_get (hok : HOk P w H h) (e : H a = some (.ins C dx fs)) : ∃ mA, ObjM h a dx C mA ∧ (∀ f, RelO (fs.lookup f) (mA f)) ∧ PySem.Within mA (fs.map (·.1)) ∧ fs.length ≤ 1000 ∧ H dx = some (.own a) := by
  obtain ⟨d, z, ne, ob, mA, n, r, q⟩ := (show ObjOk P w H h a (.ins C dx fs) from hok a _ e)
  exact ⟨mA, ⟨ob, n, ne⟩, r, q, z, d⟩
end
structure Cls (K : PySem.W.Frag) (C : Addr) : Prop where
  pg : PySem.W.plainGet K C Str.empty = true
  hd : PySem.W.hasDictIn K C = true
  po : PySem.W.plainOver K C = true
  sa : PySem.W.findIn K (.ref C) "__setattr__" = some (some (.builtin "object.__setattr__"))
theorem Cls.get {K : PySem.W.Frag} {C : Addr} (c : Cls K C) (f : Str) : PySem.W.plainGet K C f = true := c.pg
section
variable {X : Cx} {pins : List (Addr × Obj)} {σ : St} {H : Hp} {s : Shared} {a C dx : Addr} {fs : List (Str × V)} {f : Str} {v : V} {A : Around} {E : Value → Shared → Prop}
end
section
variable {X : Cx} {o e value : Expr} {f : Str} {pos pos' tpos : Pos} {ta tv : TE}
end
section
variable {X : Cx} {pins : List (Addr × Obj)} {σ : St} {H : Hp} {s : Shared} {A : Around} {E : Value → Shared → Prop} {Q : Value → Shared → Prop} {c : Value} {b : Bool}
inductive TyOf (K : PySem.W.Frag) (H : Hp) : V → Value → Prop where
  | non : TyOf K H .non (.type "NoneType")
  | bl (x : Bool) : TyOf K H (.bl x) (.type "bool")
  | int (i : Int) : TyOf K H (.int i) (.type "int")
  | str (x : Str) : TyOf K H (.str x) (.type "str")
  | flt (x : UInt64) : TyOf K H (.flt x) (.type "float")
  | lst {a : Addr} {xs : List V} (e : H a = some (.lst xs)) : TyOf K H (.ref a) (.type "list")
  | frz {a : Addr} {o : Obj} {xs : List V} (e : H a = some (.frz o (.lst xs))) : TyOf K H (.ref a) (.type "list")
  | tup {a : Addr} {xs : List V} (e : H a = some (.tup xs)) : TyOf K H (.ref a) (.type "tuple")
  | dK {a : Addr} {kvs : List (Key × V)} (e : H a = some (.dK kvs)) : TyOf K H (.ref a) (.type "dict")
  | dT {a : Addr} {kvs : List (List Key × V)} (e : H a = some (.dT kvs)) : TyOf K H (.ref a) (.type "dict")
  | ins {a C dx : Addr} {fs : List (Str × V)} (e : H a = some (.ins C dx fs)) (cl : Cls K C) (ha : PySem.W.findIn K (.ref C) "__class__" = some (some (.builtin "object.__class__")))
      (hn : PySem.W.specialIn K (.builtin "object.__class__") "__get__" = some (some (.builtin "getset_descriptor.__get__"))) (htk : PySem.W.takesIn K (.builtin "object.__class__") = some true)
      (hm : PySem.W.mroIn K C (.type "object") = some true) : TyOf K H (.ref a) (.ref C)
theorem isinst_ok {x : V} {u t : Value} (I : Inv X pins σ H s) (rx : RelV x u) (ty : TyOf X.K H x t) (e : PySem.W.kitOne X.K t c = some b) (h : ∀ tk, Q (.bool b) { s with toks := tk }) :
    wpAny (model X.prog X.w) A (call (.builtin "isinstance") [u, c]) Q E s := by
  cases ty with
  | non => cases (show u = Value.none from rx); exact PySem.W.kia_one PySem.W.kitx_none I.kIn True.intro e (fun z => nomatch z) h
  | bl y => cases (show u = Value.bool y from rx); exact PySem.W.kia_one PySem.W.kitx_bool I.kIn True.intro e (fun z => nomatch z) h
  | int i => obtain ⟨t, q⟩ := (show ∃ t, u = Value.int i t from rx); cases q; exact PySem.W.kia_one PySem.W.kitx_int I.kIn True.intro e (fun z => nomatch z) h
  | str y => obtain ⟨t, q⟩ := (show ∃ t, u = Value.str y t from rx); cases q; exact PySem.W.kia_one PySem.W.kitx_str I.kIn True.intro e (fun z => nomatch z) h
  | flt y => obtain ⟨t, q⟩ := (show ∃ t, u = Value.float y t from rx); cases q; exact PySem.W.kia_one PySem.W.kitx_float I.kIn True.intro e (fun z => nomatch z) h
  | @lst a xs ea =>
    cases (show u = Value.ref a from rx)
    obtain ⟨_, _, n, _, h1⟩ := (show ObjOk X.prog X.w H s.heap a (.lst xs) from I.hok a _ ea)
    exact PySem.W.kia_one PySem.W.kitx_list I.kIn ⟨_, h1, rfl⟩ e (fun z => nomatch z) h
  | @frz a ob xs ea =>
    cases (show u = Value.ref a from rx)
    obtain ⟨_, _, _, n, _, h1⟩ := (show ObjOk X.prog X.w H s.heap a (.frz ob (.lst xs)) from I.hok a _ ea)
    exact PySem.W.kia_one PySem.W.kitx_list I.kIn ⟨_, h1, rfl⟩ e (fun z => nomatch z) h
  | @tup a xs ea =>
    cases (show u = Value.ref a from rx)
    obtain ⟨_, _, _, p⟩ := (show ObjOk X.prog X.w H s.heap a (.tup xs) from I.hok a _ ea)
    obtain ⟨o, h1, h2, _⟩ := p
    exact PySem.W.kia_one PySem.W.kitx_tuple I.kIn ⟨o, h1, h2⟩ e (fun z => nomatch z) h
  | @dK a kvs ea =>
    cases (show u = Value.ref a from rx)
    obtain ⟨_, _, vs, _, p⟩ := (show ObjOk X.prog X.w H s.heap a (.dK kvs) from I.hok a _ ea)
    obtain ⟨o, es, ep, h1, h2, _⟩ := p
    exact PySem.W.kia_one PySem.W.kitx_dict I.kIn ⟨o, h1, h2.1⟩ e (fun z => nomatch z) h
  | @dT a kvs ea =>
    cases (show u = Value.ref a from rx)
    obtain ⟨_, _, xs, _, o, es, ep, h1, h2, _⟩ := (show ObjOk X.prog X.w H s.heap a (.dT kvs) from I.hok a _ ea)
    exact PySem.W.kia_one PySem.W.kitx_dict I.kIn ⟨o, h1, h2.1⟩ e (fun z => nomatch z) h
  | @ins a C dx fs ea cl ha hn htk hm =>
    cases (show u = Value.ref a from rx)
    obtain ⟨mA, O, _⟩ := ins_get I.hok ea
    obtain ⟨od, J, _⟩ := O.look
    exact PySem.W.kia_one (PySem.W.kitx_own (cl.get _) cl.hd ha hn htk hm) I.kIn J e (fun z => nomatch z) h
end
end L2
namespace L2
open PySem PySem.Spec PyProof.Rows
structure Room (k : Nat) (A : Around) : Prop where
  hd : A.handled = none
  dp : A.depth + 3 * k + 5 < recursionLimit
  un : A.units + 16 * k + 200 < cLine
theorem Room.mono {j k : Nat} {A : Around} (r : Room k A) (h : j ≤ k) : Room j A := ⟨r.hd, by have := r.dp; omega, by have := r.un; omega⟩
theorem Room.deeper {k : Nat} {A : Around} (r : Room (k + 1) A) (env : Env) : Room k (A.deeper env) :=
  ⟨r.hd, by have := r.dp; show A.depth + 1 + 3 * k + 5 < _; omega, by have := r.un; show A.units + 3 + 16 * k + 200 < _; omega⟩
theorem make_depth {A : Around} {C : Addr} {us : List Value} {kw : List (Str × Value)} : (A.under (.builtin "type.__call__" ⟨.ref C :: us, kw⟩)).depth = A.depth + 1 := by
  first | rfl | simp [Around.under, Code.weight, Code.isCreation, Code.isGuard, Code.isCaller, Code.frames, Code.isFrame, guardIds]
theorem make_units {A : Around} {C : Addr} {us : List Value} {kw : List (Str × Value)} : (A.under (.builtin "type.__call__" ⟨.ref C :: us, kw⟩)).units = A.units + 1 := by
  first | rfl | simp [Around.under, Code.cUnits, Code.frames, Code.isFrame]
theorem Room.depth {k : Nat} {A : Around} (r : Room k A) : A.depth < recursionLimit := by have := r.dp; omega
theorem Room.units {k : Nat} {A : Around} (r : Room k A) : A.units + 64 < cLine := by have := r.un; omega
theorem Room.units0 {k : Nat} {A : Around} (r : Room k A) : A.units < cLine := by have := r.un; omega
def tNil : TA := fun _ H Q => Q [] H
def tCons (ta : TE) (tr : TA) : TA := fun σ H Q => ta σ H fun x H1 => tr σ H1 fun xs H2 => Q (x :: xs) H2
section
variable {X : Cx} {e : Expr} {es : List Expr} {te : TE} {t : TA} {pos : Pos}
theorem pa_nil : PA X [] tNil := fun _ _ _ _ H Q I h => Calls.spliced_nil ⟨[], H, I, .nil, h⟩
theorem pa_cons (ha : PE X e te) (hr : PA X es t) (hs : starEach (e :: es) X.env = (false, eval e X.env) :: starEach es X.env := by rfl) : PA X (e :: es) (tCons te t) := by
  intro pos pins s σ H Q I h
  rw [hs]
  show wpAny _ _ (spliced ((false, eval e X.env) :: backTo pos (starEach es X.env))) _ _ s
  refine Calls.spliced_cons (thn (ha pins s σ H _ I h) fun u s1 ⟨x, H1, I1, r1, q1⟩ => ?_)
  exact thn (hr pos pins s1 σ H1 _ I1 q1) fun us s2 ⟨xs, H2, I2, r2, q2⟩ => ⟨x :: xs, H2, I2, .cons r1 r2, q2⟩
def tTup (t : TA) : TE := fun σ H Q => t σ H fun xs H1 => xs.length ≤ sizeLine ∧ ∀ p, H1 p = none → Q (.ref p) (upd H1 p (.tup xs))
def tLst (t : TA) : TE := fun σ H Q => t σ H fun xs H1 => xs.length ≤ sizeLine ∧ ∀ p, H1 p = none → Q (.ref p) (upd H1 p (.lst xs))
theorem pe_tup {x1} (h : PA X es t) : PE X (.Tuple es x1 pos) (tTup t) := by
  intro pins s σ H Q I hq
  refine wpAny_Tuple_spliced (thn (h pos pins s σ H _ I hq) fun us s1 ⟨xs, H1, I1, r, z, q⟩ => ⟨by rw [← r.length]; exact z, ?_⟩)
  have hf : H1 s1.heap.objs.size = none := I1.hok.fresh (Nat.le_refl _)
  refine ⟨.ref s1.heap.objs.size, upd H1 s1.heap.objs.size (.tup xs), I1.laid (t' := s1.toks) (fun b u e => Heap.get?_push_of_some _ e) (Nat.le_refl _) ?_, rfl, q _ hf⟩
  exact ⟨z, us, r, ⟨_, Heap.get?_push_size _ rfl, rfl, _, rfl⟩⟩
theorem pe_lst (h : PA X es t) : PE X (.List es pos) (tLst t) := by
  intro pins s σ H Q I hq
  refine wpAny_List_spliced (thn (h pos pins s σ H _ I hq) fun us s1 ⟨xs, H1, I1, r, z, q⟩ => ⟨by rw [← r.length]; exact z, ?_⟩)
  have hf : H1 s1.heap.objs.size = none := I1.hok.fresh (Nat.le_refl _)
  refine ⟨.ref s1.heap.objs.size, upd H1 s1.heap.objs.size (.lst xs), I1.laid (t' := s1.toks) (fun b u e => Heap.get?_push_of_some _ e) (Nat.le_refl _) ?_, rfl, q _ hf⟩
  exact ⟨z, us, 0, r, Heap.get?_push_size _ rfl⟩
end
abbrev Sp := List V → Hp → VK → XK → Prop
abbrev CXT := List Env → Hp → Shared → XK → Value → Shared → Prop
structure Env0 (P : Program) (w : World) (K : PySem.W.Frag) (mg : Str → Option Value) (base : Heap) (A : Around) (outer : List Env) (s : Shared) (H : Hp) : Prop where
  frames : A.frames = some outer
  mod : Mod K mg base
  bs : ∀ b o, base.get? b = some o → s.heap.get? b = some o ∧ H b = none
  bsz : base.objs.size ≤ s.heap.objs.size
  funs : s.heap.FunFrames base outer
  frf : ∀ b ∈ frs outer, H b = none
  hok : HOk P w H s.heap
  bare : AllBare s.gens
def CE (outer : List Env) (P : Program) (w : World) (H : Hp) (s : Shared) (Q : VK) (u : Value) (s' : Shared) : Prop :=
  ∃ v H', s'.os = s.os ∧ AllBare s'.gens ∧ Un (frs outer) [] H H' s.heap s'.heap ∧ HOk P w H' s'.heap ∧ RelV v u ∧ Q v H'
def CR (CX : CXT) (outer : List Env) (P : Program) (w : World) (H : Hp) (s : Shared) (Q : VK) (E : XK) (r : Result) (s' : Shared) : Prop :=
  match r with
  | .ok (.ret u) => CE outer P w H s Q u s'
  | .ok _ => False
  | .error e => CX outer H s E e s'
structure FnOk (P : Program) (w : World) (K : PySem.W.Frag) (mg : Str → Option Value) (base : Heap) (CX : CXT) (k : Nat) (f : Addr) (fd : FuncData) (ps : List Str) (sp : Sp) : Prop where
  len : ∀ vs H Q E, sp vs H Q E → vs.length = ps.length
  run : ∀ (A : Around) (outer : List Env) (s : Shared) (H : Hp) (args : Args) (us : List Value) (vs : List V) (Q : VK) (E : XK), Room k A → Env0 P w K mg base A outer s H → BindsTo s fd args (ps.zip us) → Vals vs us → sp vs H Q E →
    codeAny (model P w) A (.call (.ref f) args) (CR CX outer P w H s Q E) s
section
variable {X : Cx} {pins : List (Addr × Obj)} {σ : St} {H : Hp} {s s' : Shared}
theorem Inv.env0 (I : Inv X pins σ H s) : Env0 X.prog X.w X.K X.mg X.base X.A X.stack s H :=
  ⟨I.ok.frames, I.ok.mod, I.bs, Nat.le_trans I.ok.bsz I.sz, I.stack, I.stkFree, I.hok, I.bare⟩
theorem Inv.after {Q : VK} {u : Value} (I : Inv X pins σ H s) (h : CE X.stack X.prog X.w H s Q u s') : EP X pins σ Q u s' := by
  obtain ⟨v, H', os, bare, un, hok, r, q⟩ := h
  obtain ⟨hh, g, d, t, os'⟩ := s'
  obtain rfl : os' = s.os := os
  exact ⟨v, H', I.call (h' := hh) (g' := g) (d' := d) (t' := t) (ch := []) un hok bare (fun b z => absurd z (by simp)), r, q⟩
end
def tCall (sp : Sp) (dvs : List V) (E : XK) (t : TA) : TE := fun σ H Q => t σ H fun vs H1 => sp (vs ++ dvs) H1 Q E
def Binds (K : PySem.W.Frag) (fd : FuncData) (ps : List Str) (ds : List Value) : Prop :=
  ∀ (s : Shared) (us : List Value), K.In s.heap → (us ++ ds).length = ps.length → BindsTo s fd ⟨us, []⟩ (ps.zip (us ++ ds))
theorem Binds.all {K : PySem.W.Frag} {fd : FuncData} {ps : List Str} (h : ∀ us : List Value, us.length = ps.length → bindArgs fd ⟨us, []⟩ = pure (ps.zip us)) : Binds K fd ps [] := fun s us _ hl => by
  rw [List.append_nil] at hl ⊢
  exact .of_eq (h us hl)
def Passes (CX : CXT) (X : Cx) (E : XK) : Prop := ∀ (pins : List (Addr × Obj)) (σ : St) (H : Hp) (s : Shared) (e : Value) (s' : Shared), Inv X pins σ H s → CX X.stack H s E e s' → X.xe e s'
section
variable {X : Cx} {CX : CXT} {k : Nat} {f C : Addr} {fd : FuncData} {ps : List Str} {sp : Sp} {dvs : List V} {ds : List Value} {E : XK} {x m : Str} {p pos apos : Pos} {e o : Expr} {es : List Expr} {ta : TE} {t : TA}
theorem run_fn {pins : List (Addr × Obj)} {σ : St} {H : Hp} {s : Shared} {Q : VK} {us : List Value} {vs : List V} (F : FnOk X.prog X.w X.K X.mg X.base CX k f fd ps sp) (hr : Room k X.A) (hb : Binds X.K fd ps ds) (hd : Vals dvs ds) (hx : Passes CX X E)
    (I : Inv X pins σ H s) (r : Vals vs us) (h : sp (vs ++ dvs) H Q E) : wpAny (model X.prog X.w) X.A (call (.ref f) us) (EP X pins σ Q) X.xe s := by
  have r2 : Vals (vs ++ dvs) (us ++ ds) := r.append hd
  have hl : (us ++ ds).length = ps.length := by rw [← r2.length]; exact F.len _ _ _ _ h
  refine wpAny_call (codeAny_mono (F.run X.A X.stack s H ⟨us, []⟩ (us ++ ds) (vs ++ dvs) Q E hr I.env0 (hb s us I.kIn hl) r2 h) fun r s' hq => ?_)
  cases r with
  | error e => exact hx pins σ H s e s' I hq
  | ok fl =>
    cases fl with
    | ret u => exact I.after hq
    | next => exact False.elim hq
    | brk => exact False.elim hq
    | cont => exact False.elim hq
theorem pe_call (F : FnOk X.prog X.w X.K X.mg X.base CX k f fd ps sp) (hr : Room k X.A) (hg : Gl X x) (hm : X.mg x = some (.ref f)) (hk : PySem.W.keepIn X.K (.ref f) = true) (hb : Binds X.K fd ps ds) (hd : Vals dvs ds) (hx : Passes CX X E)
    (ha : PA X (e :: es) t) (hdb : (x == ("__debug__" : Str)) = false := by decide) (he : starEach (e :: es) X.env = (false, eval e X.env) :: starEach es X.env := by rfl) (hpl : (backTo pos (starEach es X.env)).any (·.1) = false := by rfl) :
    PE X (.Call (.Name x p) (e :: es) [] pos) (tCall sp dvs E t) := by
  intro pins s σ H Q I h
  refine wpAny_Call_Name_kw (ld_glob I hg hm ?_ hdb)
  refine PySem.W.callWith_K (h₀ := X.base) I.ok.mod.kin hk (thn (ha pos pins s σ H _ I h) fun us s1 ⟨vs, H1, I1, r, q⟩ => ⟨I1.kIn, ?_⟩) he hpl
  exact run_fn F hr hb hd hx I1 r q
end
section
variable {X : Cx} {CX : CXT} {k : Nat} {f C : Addr} {fd : FuncData} {ps ks : List Str} {sp : Sp} {E : XK} {x m : Str} {p pos apos kpos : Pos} {e o : Expr} {es : List Expr} {kws : List Keyword} {te ta : TE} {t tk : TA} {nm : Option Str}
variable {g : List Value → List Value → List Value} {gV : List V → List V → List V}
end
structure FnScope (N P : List Str) (sc : Scope) : Prop where
  kind : sc.kind = .function
  co : sc.isCoroutine = false
  gen : sc.isGenerator = false
  nd : N.Nodup
  pre : N.take P.length = P
  par : ∀ x ∈ P, sc.names.lookup x = some .local ∨ sc.names.lookup x = some .cell
  nofree : ∀ y ∈ sc.names, y.2 ≠ .free
theorem bindL_out {kindOf : Str → Option NameKind} {x : Str} : ∀ {binds : List (Str × Value)} {m : Str → Option Value}, (∀ v, (x, v) ∉ binds) → bindL kindOf binds m x = m x
  | [], _, _ => rfl
  | (n, v) :: r, m, h => by
    unfold bindL
    rw [bindL_out fun w hw => h w (List.mem_cons_of_mem _ hw)]
    split
    · have : x ≠ n := by rintro rfl; exact h v List.mem_cons_self
      simp [this]
    · rfl
theorem bindC_out {kindOf : Str → Option NameKind} {x : Str} : ∀ {binds : List (Str × Value)} {m : Str → Option Value}, (∀ v, (x, v) ∉ binds) → bindC kindOf binds m x = m x
  | [], _, _ => rfl
  | (n, v) :: r, m, h => by
    unfold bindC
    rw [bindC_out fun w hw => h w (List.mem_cons_of_mem _ hw)]
    split
    · rfl
    · have : x ≠ n := by rintro rfl; exact h v List.mem_cons_self
      simp [this]
theorem bindL_get {kindOf : Str → Option NameKind} {x : Str} {v : Value} : ∀ {P : List Str} {vs : List Value} {i : Nat} {m : Str → Option Value}, P.Nodup → P[i]? = some x → vs[i]? = some v → kindOf x = some .local →
    bindL kindOf (P.zip vs) m x = some v
  | [], _, _, _, _, h, _, _ => by simp at h
  | _ :: _, [], _, _, _, _, h, _ => by simp at h
  | p :: P, w :: vs, 0, m, nd, h1, h2, hk => by
    simp at h1 h2; subst h1; subst h2
    show bindL kindOf ((p, w) :: P.zip vs) m p = _
    unfold bindL
    rw [bindL_out fun v hv => (List.nodup_cons.mp nd).1 (List.of_mem_zip hv).1, if_pos hk]
    simp
  | p :: P, w :: vs, i + 1, m, nd, h1, h2, hk => by
    show bindL kindOf ((p, w) :: P.zip vs) m x = _
    unfold bindL
    exact bindL_get (i := i) (List.nodup_cons.mp nd).2 (by simpa using h1) (by simpa using h2) hk
theorem bindC_get {kindOf : Str → Option NameKind} {x : Str} {v : Value} : ∀ {P : List Str} {vs : List Value} {i : Nat} {m : Str → Option Value}, P.Nodup → P[i]? = some x → vs[i]? = some v → kindOf x ≠ some .local →
    bindC kindOf (P.zip vs) m x = some v
  | [], _, _, _, _, h, _, _ => by simp at h
  | _ :: _, [], _, _, _, _, h, _ => by simp at h
  | p :: P, w :: vs, 0, m, nd, h1, h2, hk => by
    simp at h1 h2; subst h1; subst h2
    show bindC kindOf ((p, w) :: P.zip vs) m p = _
    unfold bindC
    rw [bindC_out fun v hv => (List.nodup_cons.mp nd).1 (List.of_mem_zip hv).1, if_neg hk]
    simp
  | p :: P, w :: vs, i + 1, m, nd, h1, h2, hk => by
    show bindC kindOf ((p, w) :: P.zip vs) m x = _
    unfold bindC
    exact bindC_get (i := i) (List.nodup_cons.mp nd).2 (by simpa using h1) (by simpa using h2) hk
def start (N : List Str) (vs : List V) : St := vs.map some ++ List.replicate (N.length - vs.length) none
def cxOf (CX : CXT) (P : Program) (w : World) (K : PySem.W.Frag) (mg : Str → Option Value) (base : Heap) (N : List Str) (qual : Str) (scope : Scope) (f : Addr) (cd : Value) (A : Around) (outer : List Env) (s : Shared) (H : Hp) (E : XK) : Cx where
  prog := P
  w := w
  K := K
  mg := mg
  base := base
  A := A.deeper (envOfC qual scope s.heap.objs.size f cd)
  N := N
  s₀ := s
  H₀ := H
  env := envOfC qual scope s.heap.objs.size f cd
  outer := outer
  stack := envOfC qual scope s.heap.objs.size f cd :: outer
  ex := []
  calm := true
  fn := fun _ => true
  pn := []
  xe := fun e s' => wpAny (model P w) (A.deeper (envOfC qual scope s.heap.objs.size f cd)) (leaving (envOfC qual scope s.heap.objs.size f cd) e) (fun _ s'' => CX outer H s E e s'') (fun e' s'' => CX outer H s E e' s'') s'
theorem cell_has {sc : Scope} {n : Nat} {x : Str} (h : sc.names.lookup x = some .cell) : ∃ c, (cellsFrom n sc.names []).lookup x = some c := by
  have q := PySem.W.cellsFrom_some sc.names n [] (.inl h)
  exact Option.isSome_iff_exists.mp q
theorem inv_start {CX : CXT} {P : Program} {w : World} {K : PySem.W.Frag} {mg : Str → Option Value} {base : Heap} {N ps : List Str} {qual : Str} {scope : Scope} {f : Addr} {cd : Value} {A : Around} {outer : List Env} {s s1 : Shared} {H : Hp} {E : XK} {us : List Value} {vs : List V}
    (S : FnScope N ps scope) (hd : A.handled = none) (e0 : Env0 P w K mg base A outer s H) (hl : vs.length = ps.length) (r : Vals vs us)
    (x : InCallC s s.heap.objs.size (bindL (envOfC qual scope s.heap.objs.size f cd).kindOf (ps.zip us) fun _ => none) (cellsFrom (s.heap.objs.size + 1) scope.names []) (bindC (envOfC qual scope s.heap.objs.size f cd).kindOf (ps.zip us) fun _ => none) s1) :
    Inv (cxOf CX P w K mg base N qual scope f cd A outer s H E) [] (start N vs) H s1 := by
  have hpl : ps.length ≤ N.length := by have := congrArg List.length S.pre; rw [List.length_take] at this; omega
  obtain ⟨h1, tk, rfl, hk⟩ := x.done
  have noA : ∀ b : Addr, b ∉ (cxOf CX P w K mg base N qual scope f cd A outer s H E).ex := fun b z => absurd (show b ∈ ([] : List Addr) from z) (by simp)
  refine ⟨⟨e0.mod, S.kind, rfl, rfl, Nat.le_refl _, fun y z c h1 h2 => ?_, fun y hy => ?_, fun y c _ h => ?_, fun _ => hd, Around.frames_deeper e0.frames, .inr ⟨rfl, rfl⟩, fun b z => absurd z (noA b), e0.bs, e0.bsz, fun b _ _ => noA b, fun b z => absurd z (noA b), e0.funs, e0.frf⟩,
    rfl, e0.bare, Un.kept hk, ⟨_, x.toInCall.ns, fun i y v h1 h2 h3 => ?_⟩, fun y c h => ⟨_, x.cell y c h⟩, e0.hok.fresh (Nat.le_refl _), fun y c h => ?_, fun p hp => absurd (show p ∈ ([] : List (Addr × Obj)) from hp) (by simp), e0.hok.kept hk, ?_⟩
  · exact name_of_addr x.apart (PySem.mem_of_lookup h1) (PySem.mem_of_lookup h2)
  · have hy : scope.names.lookup y = some .cell ∨ scope.names.lookup y = some .free := hy
    rcases hy with hy | hy
    · exact cell_has hy
    · exact absurd rfl (S.nofree _ (PySem.mem_of_lookup hy))
  · exact Nat.le_of_lt (x.above y c (PySem.mem_of_lookup h))
  · have hi : i < vs.length := by
      unfold start at h2
      by_cases hi : i < vs.length
      · exact hi
      · rw [List.getElem?_append_right (by simpa using hi)] at h2
        rw [List.getElem?_replicate] at h2
        split at h2 <;> cases h2
    have ha : vs[i]? = some v := by
      unfold start at h2
      rw [List.getElem?_append_left (by simpa using hi), List.getElem?_map] at h2
      cases e : vs[i]? with
      | none => rw [e] at h2; cases h2
      | some a => rw [e] at h2; cases h2; rfl
    obtain ⟨u, hu, rv⟩ := r.get ha
    have hp : ps[i]? = some y := by
      rw [← S.pre, List.getElem?_take_of_lt (by omega)]; exact h1
    have ndP : ps.Nodup := by rw [← S.pre]; exact S.nd.sublist (List.take_sublist _ _)
    refine ⟨u, rv, ?_⟩
    rcases S.par y (List.mem_of_getElem? hp) with k | k
    · exact .inl ⟨k, bindL_get ndP hp hu k⟩
    · obtain ⟨c, e⟩ := cell_has (n := s.heap.objs.size + 1) k
      refine .inr ⟨.inl k, c, e, ?_⟩
      have q := x.cell y c e
      rw [bindC_get ndP hp hu (by show scope.names.lookup y ≠ _; rw [k]; decide)] at q
      exact q
  · exact e0.hok.fresh (Nat.le_of_lt (x.above y c (PySem.mem_of_lookup h)))
  · unfold start
    show _ = N.length
    rw [List.length_append, List.length_map, List.length_replicate]
    omega
theorem fn_of {CX : CXT} {P : Program} {w : World} {K : PySem.W.Frag} {mg : Str → Option Value} {base : Heap} {k : Nat} {f : Addr} {name qual : Str} {params : Arguments} {body : List Stmt} {scope : Scope} {dV kV doc pm cdv ct oc : Value} {an od : Option Addr}
    {osl : Array (Option Value)} {N ps : List Str} {sp : Sp} (lk : K.lookup f = some ⟨oc, od, .func (PySem.W.fnOf name qual params body scope dV kV doc pm an cdv ct), osl⟩) (hcd : PySem.W.codeIn K cdv qual = true) (S : FnScope N ps scope)
    (len : ∀ vs H Q E, sp vs H Q E → vs.length = ps.length)
    (hbody : ∀ (A : Around) (outer : List Env) (s : Shared) (H : Hp) (vs : List V) (Q : VK) (E : XK), Room k (A.deeper (envOfC qual scope s.heap.objs.size f cdv)) → sp vs H Q E →
      ∃ t, PSs (cxOf CX P w K mg base N qual scope f cdv A outer s H E) body t ∧ t { nx := fun _ H' => Q .non H', rt := Q } (start N vs) H) :
    FnOk P w K mg base CX (k + 1) f (PySem.W.fnOf name qual params body scope dV kV doc pm an cdv ct) ps sp := by
  refine ⟨len, fun A outer s H args us vs Q E hr e0 hb r hsp => ?_⟩
  have hl := len _ _ _ _ hsp
  have KX : K.In s.heap := e0.mod.kin.keeps fun b o e => (e0.bs b o e).1
  have lim : s.heap.NoLimit := e0.mod.nolimit.keeps fun b o e => (e0.bs b o e).1
  have hkind : ∀ y ∈ ps.zip us, scope.names.lookup y.1 = some .local ∨ (scope.names.lookup y.1 = some .cell ∧ ((cellsFrom (s.heap.objs.size + 1) scope.names []).lookup y.1).isSome = true) := fun ⟨n, v⟩ hy => by
    rcases S.par n (List.of_mem_zip hy).1 with q | q
    · exact .inl q
    · exact .inr ⟨q, PySem.W.cellsFrom_some _ _ _ (.inl q)⟩
  refine codeAny_call_function hr.depth (KX _ _ lk) rfl S.co S.gen rfl (PySem.W.codeRec_of KX hcd) (hb _ _ _ _ ?_)
  refine wpAny_newFunctionEnv_cells S.kind hkind fun env he s1 x => ?_
  subst he
  refine ⟨lim.keeps x.toInCall.keep, codeAny_func ?_⟩
  obtain ⟨t, ht, hq⟩ := hbody A outer s H vs Q E (hr.deeper _) hsp
  have I : Inv (cxOf CX P w K mg base N qual scope f cdv A outer s H E) [] (start N vs) H s1 := inv_start S hr.hd e0 hl r x
  refine wpAny_mono (ht [] s1 (start N vs) H _ I hq) (fun fl s' hs => ?_) fun e s' hs => hs
  have fin : ∀ {σ' : St} {H' : Hp} {v : V} {u : Value}, Inv (cxOf CX P w K mg base N qual scope f cdv A outer s H E) [] σ' H' s' → RelV v u → Q v H' → CE outer P w H s Q u s' :=
    fun {σ' H' v u} J rv q => ⟨v, H', J.os, J.bare, J.base, J.hok, rv, q⟩
  cases fl with
  | ret u =>
    obtain ⟨v, σ', H', J, rv, q⟩ := hs
    exact fin J rv q
  | next =>
    obtain ⟨σ', H', J, q⟩ := hs
    exact fin (v := V.non) (u := Value.none) J rfl q
  | brk =>
    obtain ⟨_, _, _, q⟩ := hs
    exact False.elim q
  | cont =>
    obtain ⟨_, _, _, q⟩ := hs
    exact False.elim q
end L2
namespace L2
open PySem PySem.Spec PyProof.Rows
section
variable {X : Cx} {x : Str} {p pos : Pos} {e : Expr} {es : List Expr} {t : TA} {id T : String} {r : List V → Hp → VK → Prop}
def tCB (r : List V → Hp → VK → Prop) (t : TA) : TE := fun σ H Q => t σ H fun vs H1 => r vs H1 Q
theorem pe_callB (hc : CallR X (.builtin id) r) (hg : Gl X x) (hm : X.mg x = none) (hv : bootBuiltins x = some (.builtin id)) (ha : PA X (e :: es) t) (hn : x ≠ "__name__" := by decide) (hdb : (x == ("__debug__" : Str)) = false := by decide)
    (he : starEach (e :: es) X.env = (false, eval e X.env) :: starEach es X.env := by rfl) (hpl : (backTo pos (starEach es X.env)).any (·.1) = false := by rfl) : PE X (.Call (.Name x p) (e :: es) [] pos) (tCB r t) := by
  intro pins s σ H Q I h
  refine wpAny_Call_Name_kw (ld_blt I hg hm hv ?_ hn hdb)
  exact PyProof.Rows.callWith_builtin1 (thn (ha pos pins s σ H _ I h) fun us s1 ⟨vs, H1, I1, r1, q1⟩ => hc pins s1 σ H1 vs us Q I1 r1 q1) he hpl
theorem pe_callTy (hc : CallR X (.type T) r) (hg : Gl X x) (hm : X.mg x = none) (hv : bootBuiltins x = some (.type T)) (ha : PA X (e :: es) t) (hn : x ≠ "__name__" := by decide) (hdb : (x == ("__debug__" : Str)) = false := by decide)
    (he : starEach (e :: es) X.env = (false, eval e X.env) :: starEach es X.env := by rfl) (hpl : (backTo pos (starEach es X.env)).any (·.1) = false := by rfl) : PE X (.Call (.Name x p) (e :: es) [] pos) (tCB r t) := by
  intro pins s σ H Q I h
  refine wpAny_Call_Name_kw (ld_blt I hg hm hv ?_ hn hdb)
  exact PyProof.Rows.callWith_type1 (thn (ha pos pins s σ H _ I h) fun us s1 ⟨vs, H1, I1, r1, q1⟩ => hc pins s1 σ H1 vs us Q I1 r1 q1) he hpl
end
end L2
namespace HT
open PySem PyProof.Rows
def lexLt : List Int → List Int → Bool
  | [], [] => false
  | [], _ :: _ => true
  | _ :: _, [] => false
  | x :: xs, y :: ys => if x = y then lexLt xs ys else decide (x < y)
theorem lexLt_cons (x y : Int) (xs ys : List Int) : lexLt (x :: xs) (y :: ys) = if x = y then lexLt xs ys else decide (x < y) := rfl
theorem lexLt_nil_nil : lexLt [] [] = false := rfl
theorem lexLt_nil_cons (y : Int) (ys : List Int) : lexLt [] (y :: ys) = true := rfl
theorem lexLt_cons_nil (x : Int) (xs : List Int) : lexLt (x :: xs) [] = false := rfl
theorem eqAt_int (A : Around) (s : Shared) (a : Int) (t : Tok) (c : Int) (u : Tok) : ∃ e, SeqAt.EqAt A s (.int a t) (.int c u) e ∧ (e = true ↔ a = c) :=
  ⟨(a == c), SeqAt.EqAt.int_int a t c u, by simp⟩
theorem rcLt_int (A : Around) (s : Shared) (a : Int) (t : Tok) (c : Int) (u : Tok) (prog : Program) (w : World) (E : Value → Shared → Prop) (Q : Value → Shared → Prop) (h : Q (.bool (decide (a < c))) s) :
    wpAny (model prog w) A (richCompare .Lt (.int a t) (.int c u)) Q E s :=
  (PyProof.Rows.lt_int h : wpAny (model prog w) A (compareOp .Lt (.int a t) (.int c u)) Q E s)
section
open PySem.SeqAt
open PySem.AutoSeq1 (wpAny_loadPart')
open PySem.MeetsSeq PySem.MeetsSeq2 PySem.MeetsSeq3
theorem tuple_lt_ints (l b : Addr) (items items2 : Array Value) (n n2 : Nat) (dd dd2 : Option Addr) (sl sl2 : Array (Option Value)) (ns ms : List Int) (hi : IntsAre items.toList ns) (hj : IntsAre items2.toList ms) :
    Meets (Builtin.«tuple.__lt__» ⟨[.ref l, .ref b], []⟩)
      (fun _ R s => s.heap.get? l = some { cls := .type "tuple", dict := dd, data := .seq items n, slots := sl } ∧ s.heap.get? b = some { cls := .type "tuple", dict := dd2, data := .seq items2 n2, slots := sl2 } ∧
        R (.ok (.ret (.bool (lexLt ns ms)))) s) :=
  .of_wp fun prog w A R s h => by
    obtain ⟨hp, g, d, tk, os⟩ := s; obtain ⟨hl, hb, h⟩ := h
    have f2 := AutoSeq1.sub_tuple_tuple
    have z1 : items.size = ns.length := by rw [← hi.length]; simp
    have z2 : items2.size = ms.length := by rw [← hj.length]; simp
    wp_walk using wpAny_loadPart' hl, wpAny_loadPart' hb, wpAny_forIn_list _ (fun rest b s' => b.1 = none ∧ s' = ⟨hp, g, d, tk, os⟩ ∧ ∃ (vs ws : List Value) (ns' ms' : List Int), rest = vs.zip ws ∧
      IntsAre vs ns' ∧ IntsAre ws ms' ∧ ns'.length + items2.size = ms'.length + items.size ∧ R (.ok (.ret (.bool (lexLt ns' ms')))) ⟨hp, g, d, tk, os⟩) _
    case turn =>
      rintro ⟨y, x⟩ rest b s' ⟨hb', rfl, vs, ws, ns', ms', hz, hvi, hwi, hlen, hR⟩
      cases hvi with
      | nil => rw [List.zip_nil_left] at hz; cases hz
      | cons a t hvi' =>
        cases hwi with
        | nil => rw [List.zip_nil_right] at hz; cases hz
        | cons c u hwi' =>
          rw [List.zip_cons_cons] at hz
          injection hz with hyx hrest
          injection hyx with hy hx
          subst hy hx
          rw [lexLt_cons] at hR
          simp only [List.length_cons] at hlen
          obtain ⟨e, he, hiff⟩ := eqAt_int A.in1 ⟨hp, g, d, tk, os⟩ a t c u
          refine wpAny_bind (he prog w _ _ ?_)
          cases e with
          | true =>
            rw [if_pos (hiff.mp rfl)] at hR
            wp_walk
            exact ⟨rfl, rfl, _, _, _, _, hrest, hvi', hwi', by omega, hR⟩
          | false =>
            rw [if_neg (fun q => absurd (hiff.mpr q) Bool.false_ne_true)] at hR
            have hri := rcLt_int A.in1 ⟨hp, g, d, tk, os⟩ a t c u prog w
            wp_walk using hri
            exact ⟨_, rfl, by simpa using hR⟩
    case fin =>
      rintro ⟨b1, b2⟩ s' ⟨hb', rfl, vs, ws, ns', ms', hz, hvi, hwi, hlen, hR⟩
      simp only at hb'
      subst hb'
      have hv : lexLt ns' ms' = decide (items.size < items2.size) := by
        cases hvi with
        | nil =>
          cases hwi with
          | nil =>
            simp only [List.length_nil] at hlen
            rw [lexLt_nil_nil]
            exact (decide_eq_false (by omega)).symm
          | cons c u hw =>
            simp only [List.length_nil, List.length_cons] at hlen
            rw [lexLt_nil_cons]
            exact (decide_eq_true (by omega)).symm
        | cons a t hv =>
          cases hwi with
          | nil =>
            simp only [List.length_nil, List.length_cons] at hlen
            rw [lexLt_cons_nil]
            exact (decide_eq_false (by omega)).symm
          | cons c u hw =>
            rw [List.zip_cons_cons] at hz
            cases hz
      rw [hv] at hR
      wp_walk
      exact ⟨_, rfl, by simpa [Builtin.Tuple.tupleCompareSizes] using hR⟩
    case h =>
      exact ⟨rfl, rfl, items.toList, items2.toList, ns, ms, rfl, hi, hj, by omega, h⟩
end
section
variable {prog : Program} {w : World} {A : Around} {E : Value → Shared → Prop} {s : Shared}
theorem lt_tupInts {l b : Addr} {items items2 : Array Value} {ns ms : List Int} {Q : Value → Shared → Prop} (hl : IsTup s.heap l items) (hb : IsTup s.heap b items2) (hi : IntsAre items.toList ns) (hj : IntsAre items2.toList ms)
    (hu : A.units < cLine) (h : Q (.bool (lexLt ns ms)) s) : wpAny (model prog w) A (compareOp .Lt (.ref l) (.ref b)) Q E s := by
  obtain ⟨⟨cls, dd, data, sl⟩, ho, hc, n, hd⟩ := id hl
  obtain ⟨⟨cls2, dd2, data2, sl2⟩, ho2, hc2, n2, hd2⟩ := id hb
  simp only at hc hd hc2 hd2
  subst hc hd hc2 hd2
  exact richCompare_meets_room (op := .Lt) ⟨_, ho, rfl⟩ ⟨_, ho2, rfl⟩ PySem.F.slot_tuple_lt PySem.F.entry_tuple_lt (PySem.F.args_tuple_lt_2 _ _) (tuple_lt_ints l b items items2 n n2 dd dd2 sl sl2 ns ms hi hj)
    ⟨ho, ho2, show Value.bool (lexLt ns ms) ≠ Value.notImplemented ∧ Q (.bool (lexLt ns ms)) s from ⟨(fun x => nomatch x), h⟩⟩ hu
theorem cat_tup {t b : Addr} {vs ws : List Value} {Q : Value → Shared → Prop} (ht : IsTup s.heap t vs.toArray) (hb : IsTup s.heap b ws.toArray) (hv : vs ≠ [])
    (h1 : ws = [] → Q (.ref t) s) (h2 : ws ≠ [] → Q (.ref s.heap.objs.size) { s with heap := s.heap.push { cls := .type "tuple", data := .seq (vs ++ ws).toArray } })
    (hsz : vs.length + ws.length ≤ sizeLine) : wpAny (model prog w) A (binaryOp .Add (.ref t) (.ref b)) Q E s := by
  obtain ⟨⟨cls, dd, data, sl⟩, ho, hc, n, hd⟩ := id ht
  obtain ⟨⟨cls2, dd2, data2, sl2⟩, ho2, hc2, n2, hd2⟩ := id hb
  simp only at hc hd hc2 hd2
  subst hc hd hc2 hd2
  have e : vs.toArray ++ ws.toArray = (vs ++ ws).toArray := by simp
  by_cases hw : ws = []
  · exact concat_meets ⟨_, ho, rfl⟩ ⟨_, ho2, rfl⟩ noFill_tuple_add seq_tuple_add PySem.F.slot_tuple_add PySem.F.entry_tuple_add (PySem.F.args_tuple_add_2 _ _)
      (tuple_addW1 t b vs.toArray ws.toArray n n2 dd dd2 sl sl2 (by simpa using hv) (by simp [hw])) ⟨ho, ho2, h1 hw⟩
  · refine concat_meets ⟨_, ho, rfl⟩ ⟨_, ho2, rfl⟩ noFill_tuple_add seq_tuple_add PySem.F.slot_tuple_add PySem.F.entry_tuple_add (PySem.F.args_tuple_add_2 _ _)
      (tuple_addW2 t b vs.toArray ws.toArray n n2 dd dd2 sl sl2 (by simpa using hv) (by simpa using hw) (by rw [List.size_toArray, List.size_toArray]; exact hsz)) ⟨ho, ho2, ?_⟩
    rw [e]
    exact h2 hw
def sIx (n d : Nat) : Option Int → Nat
  | none => d
  | some v => if v < 0 then (v + (n : Int)).toNat else min v.toNat n
theorem sIx_le (n d : Nat) (hd : d ≤ n) (o : Option Int) : sIx n d o ≤ n := by
  cases o with
  | none => exact hd
  | some v =>
    show (if v < 0 then (v + (n : Int)).toNat else min v.toNat n) ≤ n
    by_cases hv : v < 0
    · rw [if_pos hv]; omega
    · rw [if_neg hv]; exact Nat.min_le_right _ _
theorem clip_eq (v : Int) (n d : Nat) : (if v < 0 then max (v + (n : Int)) 0 else min v (n : Int)) = ((sIx n d (some v) : Nat) : Int) := by
  show (if v < 0 then max (v + (n : Int)) 0 else min v (n : Int)) = (((if v < 0 then (v + (n : Int)).toNat else min v.toNat n) : Nat) : Int)
  by_cases hv : v < 0
  · simp only [if_pos hv]; omega
  · simp only [if_neg hv]; omega
theorem adjust_gen (lo hi : Option Int) (n : Nat) : Builtin.Slice.sliceAdjust lo hi 1 (n : Int) = (((sIx n 0 lo : Nat) : Int), ((sIx n n hi : Nat) : Int)) := by
  have h1 : ¬ ((1 : Int) < 0) := by omega
  unfold Builtin.Slice.sliceAdjust
  simp only [h1, if_false]
  refine Prod.ext ?_ ?_
  · cases lo with
    | none => rfl
    | some v => exact clip_eq v n 0
  · cases hi with
    | none => rfl
    | some v => exact clip_eq v n n
theorem places_gen (i j : Nat) : Builtin.Slice.slicePlaces (i : Int) (j : Int) 1 = j - i := by
  unfold Builtin.Slice.slicePlaces
  have h1 : (1 : Int) > 0 := by omega
  simp only [h1, if_true, Int.ediv_one]
  split <;> omega
theorem slicePart_ {v : Value} {o : Option Int} {Q : Option Int → Shared → Prop} (p : IsPart v o) (h : Q o s) : wpAny (model prog w) A (Builtin.Slice.slicePartIndex v) Q E s := by
  cases p with
  | none => exact slicePart_none h
  | int i t => exact slicePart_int h
theorem sliceApplied_gen {sl : Addr} {vl vu : Value} {lo hi : Option Int} {n : Nat} {Q : Int × Int × Nat → Shared → Prop} (hs : s.heap.IsSliceOf sl vl vu .none) (pl : IsPart vl lo) (pu : IsPart vu hi)
    (h : Q (((sIx n 0 lo : Nat) : Int), 1, sIx n n hi - sIx n 0 lo) s) : wpAny (model prog w) A (Builtin.Slice.sliceApplied (.ref sl) (pure (n : Int))) Q E s := by
  obtain ⟨os, hos, hcs, hds⟩ := id hs
  unfold Builtin.Slice.sliceApplied Builtin.Slice.sliceFields
  refine wpAny_bind (wpAny_bind (wpAny_field hos hds (x := vl) rfl (wpAny_bind (wpAny_field hos hds (x := vu) rfl (wpAny_bind (wpAny_field hos hds (x := .none) rfl (wpAny_pure ?_)))))))
  refine wpAny_bind (slicePart_none ?_)
  show wpAny _ _ (if ((1 : Int) == 0) = true then _ else _) _ _ s
  rw [if_neg (by decide)]
  refine wpAny_bind (slicePart_ pl (wpAny_bind (slicePart_ pu (wpAny_bind (wpAny_pure ?_)))))
  show wpAny _ _ (match Builtin.Slice.sliceAdjust lo hi 1 (n : Int) with | (lo, hi) => pure (lo, (1 : Int), Builtin.Slice.slicePlaces lo hi 1)) _ _ s
  rw [adjust_gen lo hi n]
  show wpAny _ _ (pure (((sIx n 0 lo : Nat) : Int), (1 : Int), Builtin.Slice.slicePlaces ((sIx n 0 lo : Nat) : Int) ((sIx n n hi : Nat) : Int) 1)) _ _ s
  rw [places_gen]
  exact wpAny_pure h
theorem pick_gen (xs : Array Value) (i k : Nat) : ((List.range k).filterMap fun (m : Nat) => xs[((i : Int) + (m : Int) * 1).toNat]?).toArray = ((xs.toList.drop i).take k).toArray := by
  have e : (fun (m : Nat) => xs[((i : Int) + (m : Int) * 1).toNat]?) = fun m => xs[i + m]? := by
    funext m
    have : ((i : Int) + (m : Int) * 1).toNat = i + m := by omega
    rw [this]
  rw [e]
  have := pick_run xs i k
  rw [List.filterMap_map] at this
  have e2 : ((fun x => xs[x]?) ∘ fun x => i + x) = fun m => xs[i + m]? := rfl
  rw [e2] at this
  rw [this]
theorem getItem_tuple_cut {t sl : Addr} {items : Array Value} {vl vu : Value} {lo hi : Option Int} {Q : Value → Shared → Prop} (ht : IsTup s.heap t items) (hs : s.heap.IsSliceOf sl vl vu .none) (pl : IsPart vl lo) (pu : IsPart vu hi)
    (hw : ¬ (sIx items.size 0 lo = 0 ∧ sIx items.size items.size hi = items.size))
    (h : Q (.ref s.heap.objs.size) { s with heap := s.heap.push { cls := .type "tuple", data := .seq ((items.toList.drop (sIx items.size 0 lo)).take (sIx items.size items.size hi - sIx items.size 0 lo)).toArray } })
    (hsz : items.size ≤ sizeLine) : wpAny (model prog w) A (getItem (.ref t) (.ref sl)) Q E s := by
  have htake : sizeOk (.seq ((items.toList.drop (sIx items.size 0 lo)).take (sIx items.size items.size hi - sIx items.size 0 lo)).toArray) := by
    show ((items.toList.drop (sIx items.size 0 lo)).take (sIx items.size items.size hi - sIx items.size 0 lo)).toArray.size ≤ sizeLine
    rw [List.size_toArray, List.length_take, List.length_drop, Array.length_toList]
    omega
  have hj : sIx items.size items.size hi ≤ items.size := sIx_le _ _ (Nat.le_refl _) hi
  obtain ⟨os, hos, hcs, hds⟩ := id hs
  have hTs : s.TypeIs (.ref sl) "slice" := ⟨os, hos, hcs⟩
  unfold getItem
  try with_reducible refine wpAny_holding ?_
  first | refine wpAny_bind (wpAny_pure ?_) | skip
  refine wpAny_bind (wpAny_sequenceKey ht.typeIs (by decide) ?_)
  refine wpAny_bind (wpAny_callSpecial?_slot (name := Str.ofString "__getitem__") ht.typeIs PyProof.Rows.slot_tuple_getitem
    (wpAny_call_entry PyProof.Rows.slot_tuple_getitem ht.typeIs entry_tuple_getitem ?_ (args_tuple_getitem _ _)))
  show wpAny _ _ (Builtin.Tuple.tupleItemsOf (.ref t) >>= _) _ _ s
  refine wpAny_bind (tupleItemsOf_ ht ?_)
  refine wpAny_bind (wpAny_typeOf hTs ?_)
  rw [if_pos (by decide)]
  refine wpAny_bind (sliceApplied_gen hs pl pu ?_)
  have hno : ¬ ((((sIx items.size 0 lo : Nat) : Int) == 0 && (1 : Int) == 1 && (sIx items.size items.size hi - sIx items.size 0 lo) == items.size) = true) := by
    intro q
    rw [Bool.and_eq_true, Bool.and_eq_true] at q
    have q1 : ((sIx items.size 0 lo : Nat) : Int) = 0 := eq_of_beq q.1.1
    have q2 : sIx items.size items.size hi - sIx items.size 0 lo = items.size := eq_of_beq q.2
    exact hw ⟨by omega, by omega⟩
  show wpAny _ _ (if (((sIx items.size 0 lo : Nat) : Int) == 0 && (1 : Int) == 1 && (sIx items.size items.size hi - sIx items.size 0 lo) == items.size) = true then _ else _) _ _ s
  rw [if_neg hno, pick_gen]
  first
    | exact wpAny_bind (m := Builtin.Tuple.tupleExact _) (wpAny_newObj_type (wpAny_pure ⟨_, rfl, wpAny_pure h⟩) htake)
    | exact wpAny_bind (m := Builtin.Tuple.tupleExact _) (wpAny_newObj_type (wpAny_bind (wpAny_pure (wpAny_pure ⟨_, rfl, wpAny_pure h⟩))) htake)
    | exact wpAny_bind (wpAny_bind (m := Builtin.Tuple.tupleExact _) (wpAny_newObj_type (wpAny_pure (wpAny_pure ⟨_, rfl, wpAny_pure h⟩)) htake))
    | exact wpAny_bind (wpAny_bind (m := Builtin.Tuple.tupleExact _) (wpAny_newObj_type (wpAny_pure ⟨_, rfl, wpAny_pure h⟩) htake))
end
end HT
namespace L2
open PySem PySem.Spec PyProof.Rows
abbrev TO := St → Hp → (Option Int → Hp → Prop) → Prop
def PO (X : Cx) (e : Option Expr) (t : TO) : Prop :=
  ∀ (pins : List (Addr × Obj)) (s : Shared) (σ : St) (H : Hp) (Q : Option Int → Hp → Prop), Inv X pins σ H s → t σ H Q →
    wpAny (model X.prog X.w) X.A (evalPart e X.env) (fun u s' => ∃ o H', Inv X pins σ H' s' ∧ IsPart u o ∧ Q o H') X.xe s
def tNoPart : TO := fun _ H Q => Q none H
def tPart (t : TE) : TO := fun σ H Q => t σ H fun x H1 => ∃ i, x = .int i ∧ Q (some i) H1
theorem intsAre_of {ns : List Int} : ∀ {us : List Value}, Vals (ns.map V.int) us → IntsAre us ns := by
  induction ns with
  | nil => intro us r; rw [List.map_nil] at r; cases r; exact .nil
  | cons n ns ih =>
    intro us r
    rw [List.map_cons] at r
    cases r with
    | cons r1 r2 =>
      obtain ⟨t, e⟩ := r1
      subst e
      exact .cons n t (ih r2)
section
variable {X : Cx} {e : Expr} {te : TE} {lo hi : Option Expr} {tl th : TO} {pos p2 : Pos}
theorem po_none : PO X none tNoPart := by
  intro pins s σ H Q I h
  rw [evalPart_none]
  exact wpAny_pure ⟨none, H, I, .none, h⟩
theorem po_some (h : PE X e te) : PO X (some e) (tPart te) := by
  intro pins s σ H Q I hw
  rw [evalPart_some]
  refine thn (h pins s σ H _ I hw) fun u s1 ⟨x, H1, I1, r1, q1⟩ => ?_
  obtain ⟨i, rfl, q⟩ := q1
  obtain ⟨t, rfl⟩ := r1
  exact ⟨some i, H1, I1, .int i t, q⟩
def SlR (X : Cx) (r : V → Option Int → Option Int → Hp → VK → Prop) : Prop :=
  ∀ (pins : List (Addr × Obj)) (s : Shared) (σ : St) (H : Hp) (x : V) (v vl vu : Value) (lo hi : Option Int) (sl : Addr) (Q : VK), Inv X pins σ H s → RelV x v → s.heap.IsSliceOf sl vl vu .none → IsPart vl lo → IsPart vu hi → r x lo hi H Q →
    ∃ T id, typeLookup (.type T) "__getitem__" = pure (some (.builtin id)) ∧ s.TypeIs v T ∧ wpAny (model X.prog X.w) X.A (getItem v (.ref sl)) (EP X pins σ Q) X.xe s
theorem SlR.or {r r' : V → Option Int → Option Int → Hp → VK → Prop} (h : SlR X r) (h' : SlR X r') : SlR X (fun x lo hi H Q => r x lo hi H Q ∨ r' x lo hi H Q) := by
  intro pins s σ H x v vl vu lo hi sl Q I rx hs pl pu q
  rcases q with q | q
  · exact h pins s σ H x v vl vu lo hi sl Q I rx hs pl pu q
  · exact h' pins s σ H x v vl vu lo hi sl Q I rx hs pl pu q
def tSl (r : V → Option Int → Option Int → Hp → VK → Prop) (te : TE) (tl th : TO) : TE := fun σ H Q => te σ H fun x H1 => tl σ H1 fun l H2 => th σ H2 fun u H3 => r x l u H3 Q
theorem pe_slice {r : V → Option Int → Option Int → Hp → VK → Prop} (hr : SlR X r) (he : PE X e te) (hl : PO X lo tl) (hu : PO X hi th) : PE X (.Subscript e (.Slice lo hi none p2) pos) (tSl r te tl th) := by
  intro pins s σ H Q I h
  refine Subscript_ (thn (he pins s σ H _ I h) fun v s1 ⟨x, H1, I1, r1, q1⟩ => ?_)
  refine wpAny_Slice (thn (hl pins s1 σ H1 _ I1 q1) fun vl s2 ⟨l, H2, I2, pl, q2⟩ => thn (hu pins s2 σ H2 _ I2 q2) fun vu s3 ⟨u, H3, I3, pu, q3⟩ => ?_)
  rw [evalPart_none]
  refine wpAny_pure ?_
  have I4 : Inv X pins σ H3 { s3 with heap := s3.heap.push { cls := .type "slice", data := .fields #[vl, vu, .none] } } := I3.kept (t' := s3.toks) fun b ob q => Heap.get?_push_of_some _ q
  obtain ⟨T, id, hT, ht, hg⟩ := hr pins { s3 with heap := s3.heap.push { cls := .type "slice", data := .fields #[vl, vu, .none] } } σ H3 x v vl vu l u s3.heap.objs.size Q I4 r1 (Heap.IsSliceOf.new ..) pl pu q3
  show wpAny (model X.prog X.w) X.A (subscriptTail e (.Slice lo hi none p2) v (.ref s3.heap.objs.size)) (EP X pins σ Q) X.xe { s3 with heap := s3.heap.push { cls := .type "slice", data := .fields #[vl, vu, .none] } }
  exact tail_any (ops := [.ref s3.heap.objs.size, v]) ht hT hg (by with_unfolding_all rfl)
def cutV (xs : List V) (lo hi : Option Int) : List V := (xs.drop (HT.sIx xs.length 0 lo)).take (HT.sIx xs.length xs.length hi - HT.sIx xs.length 0 lo)
theorem cutV_length (xs : List V) (lo hi : Option Int) : (cutV xs lo hi).length ≤ xs.length := by
  unfold cutV
  rw [List.length_take, List.length_drop]
  omega
def rSlT (K : PySem.W.Frag) : V → Option Int → Option Int → Hp → VK → Prop := fun x lo hi H Q => ∃ a xs, x = .ref a ∧ SqT K H a xs ∧
  ¬ (HT.sIx xs.length 0 lo = 0 ∧ HT.sIx xs.length xs.length hi = xs.length) ∧ ∀ p, H p = none → Q (.ref p) (upd H p (.tup (cutV xs lo hi)))
theorem sl_tup : SlR X (rSlT X.K) := by
  intro pins s σ H x v vl vu lo hi sl Q I rx hs pl pu h
  obtain ⟨a, xs, rfl, hx, hw, q⟩ := h
  cases rx
  obtain ⟨its, r, ht, hz⟩ := I.tuple hx
  have hlen : its.toArray.size = xs.length := by rw [List.size_toArray]; exact r.length.symm
  refine ⟨"tuple", _, PyProof.Rows.slot_tuple_getitem.lookup, ht.typeIs, ?_⟩
  refine HT.getItem_tuple_cut ht hs pl pu (by rw [hlen]; exact hw) ?_ (by rw [hlen]; exact hz)
  rw [hlen]
  refine ⟨.ref s.heap.objs.size, _, I.laid (t' := s.toks) (o := .tup (cutV xs lo hi)) (fun b ob q => Heap.get?_push_of_some _ q) (Nat.le_refl _) ?_, rfl, q _ (I.hok.fresh (Nat.le_refl _))⟩
  exact ⟨Nat.le_trans (cutV_length xs lo hi) hz, _, (r.drop (HT.sIx xs.length 0 lo)).take (HT.sIx xs.length xs.length hi - HT.sIx xs.length 0 lo), IsTup.new _ _⟩
def rLtT (K : PySem.W.Frag) : R2 := fun x y H Q => ∃ a b ns ms, x = .ref a ∧ y = .ref b ∧ SqT K H a (ns.map V.int) ∧ SqT K H b (ms.map V.int) ∧ Q (.bl (HT.lexLt ns ms)) H
theorem op_ltT (hu : X.A.units < cLine) : OpR X (compareOp .Lt) (rLtT X.K) := by
  intro pins s σ H x y v u Q I rx ry h
  obtain ⟨a, b, ns, ms, rfl, rfl, ha, hb, q⟩ := h
  cases rx
  cases ry
  obtain ⟨its, r1, p1, _⟩ := I.tuple ha
  obtain ⟨its2, r2, p2, _⟩ := I.tuple hb
  have i1 : IntsAre its.toArray.toList ns := intsAre_of r1
  have i2 : IntsAre its2.toArray.toList ms := intsAre_of r2
  exact HT.lt_tupInts p1 p2 i1 i2 hu ⟨.bl (HT.lexLt ns ms), H, I, rfl, q⟩
def rCatT (K : PySem.W.Frag) : R2 := fun x y H Q => ∃ a b xs ys, x = .ref a ∧ y = .ref b ∧ SqT K H a xs ∧ SqT K H b ys ∧ xs ≠ [] ∧ xs.length + ys.length ≤ sizeLine ∧
  (ys = [] → Q (.ref a) H) ∧ (ys ≠ [] → ∀ p, H p = none → Q (.ref p) (upd H p (.tup (xs ++ ys))))
theorem Vals.nil_iff {xs : List V} {us : List Value} (r : Vals xs us) : us = [] ↔ xs = [] := by
  cases r with
  | nil => simp
  | cons _ _ => simp
theorem op_catT : OpR X (binaryOp .Add) (rCatT X.K) := by
  intro pins s σ H x y v u Q I rx ry h
  obtain ⟨a, b, xs, ys, rfl, rfl, ha, hb, hx, hz, q1, q2⟩ := h
  cases rx
  cases ry
  obtain ⟨its, r1, p1, _⟩ := I.tuple ha
  obtain ⟨its2, r2, p2, _⟩ := I.tuple hb
  refine HT.cat_tup p1 p2 (fun z => hx (r1.nil_iff.mp z)) (fun z => ⟨.ref a, H, I, rfl, q1 (r2.nil_iff.mp z)⟩) (fun z => ?_) (by rw [← r1.length, ← r2.length]; exact hz)
  refine ⟨.ref s.heap.objs.size, _, I.laid (t' := s.toks) (o := .tup (xs ++ ys)) (fun b ob q => Heap.get?_push_of_some _ q) (Nat.le_refl _) ?_, rfl, q2 (fun w => z (r2.nil_iff.mpr w)) _ (I.hok.fresh (Nat.le_refl _))⟩
  exact ⟨by rw [List.length_append]; exact hz, _, r1.append r2, IsTup.new _ _⟩
end
end L2
namespace L2
open PySem PySem.Spec PyProof.Rows
def ixN (n : Nat) (i : Int) : Option Nat := if 0 ≤ i then (if i < n then some i.toNat else none) else if -(n : Int) ≤ i then some (i + n).toNat else none
def atI {α : Type} (xs : List α) (i : Int) : Option α := (ixN xs.length i).bind fun j => xs[j]?
theorem ixN_seq {n : Nat} {i : Int} {j : Nat} (h : ixN n i = some j) : seqIndex? i n = some j ∧ j < n ∧ -(n : Int) ≤ i ∧ i < n := by
  unfold ixN at h
  by_cases h0 : 0 ≤ i
  · rw [if_pos h0] at h
    by_cases h1 : i < n
    · rw [if_pos h1] at h
      have e : i.toNat = j := Option.some.inj h
      exact ⟨by rw [seqIndex_of h0 h1, e], by omega, by omega, h1⟩
    · rw [if_neg h1] at h; cases h
  · rw [if_neg h0] at h
    by_cases h1 : -(n : Int) ≤ i
    · rw [if_pos h1] at h
      have e : (i + n).toNat = j := Option.some.inj h
      exact ⟨by rw [seqIndex_neg (by omega) h1, e], by omega, h1, by omega⟩
    · rw [if_neg h1] at h; cases h
theorem atI_get {α : Type} {xs : List α} {i : Int} {v : α} (h : atI xs i = some v) : ∃ j, seqIndex? i xs.length = some j ∧ xs[j]? = some v ∧ j < xs.length ∧ -(xs.length : Int) ≤ i ∧ i < xs.length := by
  unfold atI at h
  cases e : ixN xs.length i with
  | none => rw [e] at h; cases h
  | some j =>
    rw [e] at h
    obtain ⟨h1, h2, h3, h4⟩ := ixN_seq e
    exact ⟨j, h1, h, h2, h3, h4⟩
theorem atI_nat {α : Type} {xs : List α} {j : Nat} {v : α} (h : xs[j]? = some v) : atI xs (j : Int) = some v := by
  have hj : j < xs.length := (List.getElem?_eq_some_iff.mp h).1
  have e : ixN xs.length (j : Int) = some j := by
    unfold ixN
    rw [if_pos (by omega), if_pos (by omega)]; simp
  unfold atI; rw [e]; exact h
theorem atI_last {α : Type} (xs : List α) (v : α) : atI (xs ++ [v]) (-1) = some v := by
  have hl : (xs ++ [v]).length = xs.length + 1 := by simp
  have e : ixN (xs ++ [v]).length (-1) = some xs.length := by
    unfold ixN
    rw [hl, if_neg (by decide), if_pos (by omega)]
    congr 1
    omega
  unfold atI
  rw [e]
  show (xs ++ [v])[xs.length]? = some v
  simp
def PlainIx (b : Expr) : Prop := ∀ o i, subscripted b false o i = operate [o, i] (getItem o i)
def IxR (X : Cx) (r : R2) : Prop :=
  ∀ (value slice : Expr) (pins : List (Addr × Obj)) (s : Shared) (σ : St) (H : Hp) (x y : V) (v u : Value) (Q : VK), Inv X pins σ H s → RelV x v → RelV y u → r x y H Q →
    subscripted slice false v u = operate [v, u] (getItem v u) → wpAny (model X.prog X.w) X.A (subscriptTail value slice v u) (EP X pins σ Q) X.xe s
def MtR (X : Cx) (id : String) (r : V → List V → Hp → VK → Prop) : Prop :=
  ∀ (pins : List (Addr × Obj)) (s : Shared) (σ : St) (H : Hp) (x : V) (xs : List V) (v : Value) (us : List Value) (Q : VK), Inv X pins σ H s → RelV x v → Vals xs us → r x xs H Q →
    wpAny (model X.prog X.w) X.A (call (.builtin id) (v :: us)) (EP X pins σ Q) X.xe s
section
variable {X : Cx} {a b : Expr} {ta tb : TE} {pos : Pos}
theorem IxR.or {r r' : R2} (h : IxR X r) (h' : IxR X r') : IxR X (fun x y H Q => r x y H Q ∨ r' x y H Q) := by
  intro value slice pins s σ H x y v u Q I rx ry q hs
  rcases q with q | q
  · exact h value slice pins s σ H x y v u Q I rx ry q hs
  · exact h' value slice pins s σ H x y v u Q I rx ry q hs
theorem pe_ix {r : R2} (hr : IxR X r) (ha : PE X a ta) (hb : PE X b tb) (hs : PlainIx b) : PE X (.Subscript a b pos) (tOp r ta tb) := by
  intro pins s σ H Q I h
  exact Subscript_ (binT ha hb I h fun v u s2 x y H2 I2 rx ry q => hr a b pins s2 σ H2 x y v u Q I2 rx ry q (hs _ _))
def rIxL (K : PySem.W.Frag) : R2 := fun x y H Q => ∃ p xs i v, x = .ref p ∧ y = .int i ∧ SqL K H p xs ∧ atI xs i = some v ∧ Q v H
def rIxT (K : PySem.W.Frag) : R2 := fun x y H Q => ∃ p xs i v, x = .ref p ∧ y = .int i ∧ SqT K H p xs ∧ atI xs i = some v ∧ Q v H
def rIxS : R2 := fun x y H Q => ∃ z i c, x = .str z ∧ y = .int i ∧ z.length ≤ sizeLine ∧ atI z.cps.toList i = some c ∧ Q (.str ⟨#[c]⟩) H
theorem ix_list : IxR X (rIxL X.K) := by
  intro value slice pins s σ H x y v u Q I rx ry h hs
  obtain ⟨p, xs, i, z, rfl, rfl, hq, he, q⟩ := h
  cases rx
  obtain ⟨t, rfl⟩ := ry
  obtain ⟨its, r, pl, hz⟩ := I.list hq
  obtain ⟨j, h1, h2, h3, h4, h5⟩ := atI_get he
  obtain ⟨w, ew, rw'⟩ := r.get h2
  have hl := r.length
  have hn := line63
  have fin : EP X pins σ Q w s := ⟨z, H, I, rw', q⟩
  by_cases h0 : 0 ≤ i
  · have hj : i.toNat = j := by
      rw [seqIndex_of h0 h5] at h1
      exact Option.some.inj h1
    exact item_listR pl.isList h0 (by omega) (by rw [hj]; simpa using ew) fin hs
  · have hj : (i + (its.toArray.size : Int)).toNat = j := by
      rw [seqIndex_neg (by omega) h4] at h1
      rw [List.size_toArray, ← hl]
      exact Option.some.inj h1
    exact subscriptTail_builtinR (x := w) pl.isList.typeIs slot_list_getitem.lookup
      (wpAny_getItem_list_neg (Q := fun r s' => r = w ∧ EP X pins σ Q r s') pl.isList (by omega) (by rw [List.size_toArray] <;> omega) (by omega) (by rw [hj]; simpa using ew) ⟨rfl, fin⟩) hs
theorem ix_tup : IxR X (rIxT X.K) := by
  intro value slice pins s σ H x y v u Q I rx ry h hs
  obtain ⟨p, xs, i, z, rfl, rfl, hq, he, q⟩ := h
  cases rx
  obtain ⟨t, rfl⟩ := ry
  obtain ⟨its, r, pl, hz⟩ := I.tuple hq
  obtain ⟨j, h1, h2, h3, h4, h5⟩ := atI_get he
  obtain ⟨w, ew, rw'⟩ := r.get h2
  have hl := r.length
  have hn := line63
  have fin : EP X pins σ Q w s := ⟨z, H, I, rw', q⟩
  exact subscriptTail_builtinR (x := w) pl.typeIs slot_tuple_getitem.lookup
    (getItem_tuple (j := j) (Q := fun r s' => r = w ∧ EP X pins σ Q r s') pl (by omega) (by omega) (by rw [List.size_toArray, ← hl]; exact h1) (by simpa using ew) ⟨rfl, fin⟩) hs
theorem ix_str : IxR X rIxS := by
  intro value slice pins s σ H x y v u Q I rx ry h hs
  obtain ⟨z, i, c, rfl, rfl, hz, he, q⟩ := h
  obtain ⟨t, rfl⟩ := rx
  obtain ⟨t', rfl⟩ := ry
  obtain ⟨j, h1, h2, h3, h4, h5⟩ := atI_get he
  have hl : z.cps.toList.length = z.length := by simp [Str.length]
  rw [hl] at h1 h4 h5
  have hn := line63
  exact tail_any (typeIs_str s z t) slot_str_getitem.lookup (getItem_str (c := c) (by
    have e1 : decide (i < -(2 ^ 63 : Int)) = false := decide_eq_false (by omega)
    have e2 : decide (i ≥ 2 ^ 63) = false := decide_eq_false (by omega)
    rw [e1, e2, Bool.or_false]) (by rw [h1]; simpa using h2) ⟨.str ⟨#[c]⟩, H, I.tok _, ⟨_, rfl⟩, q⟩) hs
def rIx (K : PySem.W.Frag) : R2 := fun x y H Q => rIxL K x y H Q ∨ rIxT K x y H Q ∨ rIxS x y H Q
theorem ix_seq : IxR X (rIx X.K) := ix_list.or (ix_tup.or ix_str)
theorem slice_bounds (lo hi : Option Int) (n : Nat) : (sliceBounds lo hi none n).1 = ((HT.sIx n 0 lo : Nat) : Int) ∧ (sliceBounds lo hi none n).2.1 = ((HT.sIx n n hi : Nat) : Int) ∧ (sliceBounds lo hi none n).2.2 = 1 := by
  refine ⟨?_, ?_, rfl⟩
  · cases lo with
    | none => simp [sliceBounds, HT.sIx]
    | some i =>
      simp only [sliceBounds, HT.sIx, Option.getD_none, show (1 : Int) > 0 by decide, if_true]
      by_cases h : i < 0
      · simp only [h, if_true] <;> omega
      · simp only [h, if_false] <;> omega
  · cases hi with
    | none => simp [sliceBounds, HT.sIx]
    | some i =>
      simp only [sliceBounds, HT.sIx, Option.getD_none, show (1 : Int) > 0 by decide, if_true]
      by_cases h : i < 0
      · simp only [h, if_true] <;> omega
      · simp only [h, if_false] <;> omega
theorem slicePick_cut (its : List Value) (lo hi : Option Int) : slicePick its.toArray lo hi none = ((its.drop (HT.sIx its.length 0 lo)).take (HT.sIx its.length its.length hi - HT.sIx its.length 0 lo)).toArray := by
  obtain ⟨h1, h2, h3⟩ := slice_bounds lo hi its.toArray.size
  unfold slicePick
  rw [h1, h2, h3]
  simp only [sliceRange_one, pick_run, List.size_toArray] <;> rfl
def rSlL (K : PySem.W.Frag) : V → Option Int → Option Int → Hp → VK → Prop := fun x lo hi H Q => ∃ a xs, x = .ref a ∧ SqL K H a xs ∧ ∀ p, H p = none → Q (.ref p) (upd H p (.lst (cutV xs lo hi)))
theorem sl_list : SlR X (rSlL X.K) := by
  intro pins s σ H x v vl vu lo hi sl Q I rx hs pl pu h
  obtain ⟨a, xs, rfl, hx, q⟩ := h
  cases rx
  obtain ⟨its, r, ht, hz⟩ := I.list hx
  have hlen := r.length
  refine ⟨"list", _, slot_list_getitem.lookup, ht.isList.typeIs, ?_⟩
  refine wpAny_getItem_list_slice ht.isList hs pl pu .none (by simp) ?_ (by rw [List.size_toArray] <;> omega)
  rw [slicePick_cut, ← hlen]
  refine ⟨.ref s.heap.objs.size, _, I.laid (t' := s.toks) (o := .lst (cutV xs lo hi)) (fun b ob q => Heap.get?_push_of_some _ q) (Nat.le_refl _) ?_, rfl, q _ (I.hok.fresh (Nat.le_refl _))⟩
  exact ⟨Nat.le_trans (cutV_length xs lo hi) hz, _, 0, (r.drop (HT.sIx xs.length 0 lo)).take (HT.sIx xs.length xs.length hi - HT.sIx xs.length 0 lo), Heap.get?_push_size _ rfl⟩
def flatV : V → Bool
  | .non => true
  | .bl _ => true
  | .int _ => true
  | .str _ => true
  | _ => false
def eqV : V → V → Bool
  | .non, .non => true
  | .bl a, .bl b => a == b
  | .bl a, .int b => (if a then 1 else 0) == b
  | .int a, .bl b => a == (if b then 1 else 0)
  | .int a, .int b => a == b
  | .str a, .str b => a == b
  | _, _ => false
theorem eqAt_V {A : Around} {s : Shared} {y x : V} {u v : Value} (ry : RelV y u) (rx : RelV x v) (fy : flatV y = true) (fx : flatV x = true) : SeqAt.EqAt A s u v (eqV y x) := by
  cases y with
  | non =>
    cases ry
    cases x with
    | non => cases rx; exact SeqAt.EqAt.same _
    | bl b => cases rx; exact SeqAt.EqAt.none_bool b
    | int b => obtain ⟨t, rfl⟩ := rx; exact SeqAt.EqAt.none_int b t
    | str b => obtain ⟨t, rfl⟩ := rx; exact SeqAt.EqAt.none_str b t
    | _ => exact absurd (show false = true from fx) Bool.false_ne_true
  | bl a =>
    cases ry
    cases x with
    | non => cases rx; exact SeqAt.EqAt.bool_none a
    | bl b => cases rx; exact SeqAt.EqAt.bool_bool a b
    | int b => obtain ⟨t, rfl⟩ := rx; exact SeqAt.EqAt.bool_int a b t
    | str b => obtain ⟨t, rfl⟩ := rx; exact SeqAt.EqAt.bool_str a b t
    | _ => exact absurd (show false = true from fx) Bool.false_ne_true
  | int a =>
    obtain ⟨t', rfl⟩ := ry
    cases x with
    | non => cases rx; exact SeqAt.EqAt.int_none a t'
    | bl b => cases rx; exact SeqAt.EqAt.int_bool a t' b
    | int b => obtain ⟨t, rfl⟩ := rx; exact SeqAt.EqAt.int_int a t' b t
    | str b => obtain ⟨t, rfl⟩ := rx; exact SeqAt.EqAt.int_str a t' b t
    | _ => exact absurd (show false = true from fx) Bool.false_ne_true
  | str a =>
    obtain ⟨t', rfl⟩ := ry
    cases x with
    | non => cases rx; exact SeqAt.EqAt.str_none a t'
    | bl b => cases rx; exact SeqAt.EqAt.str_bool a t' b
    | int b => obtain ⟨t, rfl⟩ := rx; exact SeqAt.EqAt.str_int a t' b t
    | str b => obtain ⟨t, rfl⟩ := rx; exact SeqAt.EqAt.str_str a t' b t
    | _ => exact absurd (show false = true from fx) Bool.false_ne_true
  | _ => exact absurd (show false = true from fy) Bool.false_ne_true
def eqU (x : V) (u : Value) : Bool := match u with
  | .none => eqV .non x
  | .bool b => eqV (.bl b) x
  | .int i _ => eqV (.int i) x
  | .str z _ => eqV (.str z) x
  | _ => false
theorem eqU_of {x y : V} {u : Value} (r : RelV y u) (f : flatV y = true) : eqU x u = eqV y x := by
  cases y with
  | non => cases r; rfl
  | bl b => cases r; rfl
  | int i => obtain ⟨t, rfl⟩ := r; rfl
  | str z => obtain ⟨t, rfl⟩ := r; rfl
  | _ => exact absurd (show false = true from f) Bool.false_ne_true
theorem any_eqU {x : V} : ∀ {xs : List V} {us : List Value}, Vals xs us → xs.all flatV = true → us.any (eqU x) = xs.any fun y => eqV y x
  | _, _, .nil, _ => rfl
  | y :: xs, u :: us, .cons r t, f => by
    rw [List.all_cons, Bool.and_eq_true] at f
    rw [List.any_cons, List.any_cons, eqU_of r f.1, any_eqU t f.2]
theorem mem_eqAt {A : Around} {s : Shared} {x : V} {v : Value} (rx : RelV x v) (fx : flatV x = true) : ∀ {xs : List V} {us : List Value}, Vals xs us → xs.all flatV = true → ∀ u ∈ us, SeqAt.EqAt A s u v (eqU x u)
  | _, _, .nil, _ => fun u hu => by cases hu
  | y :: xs, u :: us, .cons r t, f => fun u' hu => by
    rw [List.all_cons, Bool.and_eq_true] at f
    rcases List.mem_cons.mp hu with rfl | hu
    · rw [eqU_of r f.1]; exact eqAt_V r rx f.1 fx
    · exact mem_eqAt rx fx t f.2 u' hu
def inV (x : V) (xs : List V) : Bool := xs.any fun y => eqV y x
theorem CallR.or {f : Value} {r r' : List V → Hp → VK → Prop} (h : CallR X f r) (h' : CallR X f r') : CallR X f (fun xs H Q => r xs H Q ∨ r' xs H Q) := by
  intro pins s σ H xs us Q I rs q
  rcases q with q | q
  · exact h pins s σ H xs us Q I rs q
  · exact h' pins s σ H xs us Q I rs q
theorem call_tuple_of : CallR X (.type "tuple") (fun xs H Q => ∃ p ys, xs = [.ref p] ∧ ((SqL X.K H p ys ∧ ∀ l, H l = none → Q (.ref l) (upd H l (.tup ys))) ∨ (SqT X.K H p ys ∧ Q (.ref p) H))) := by
  intro pins s σ H xs us Q I r h
  obtain ⟨p, ys, rfl, h⟩ := h
  obtain ⟨u, rfl, rx⟩ := vals1 r
  cases rx
  rcases h with ⟨hq, q⟩ | ⟨hq, q⟩
  · obtain ⟨its, r', pl, hz⟩ := I.list hq
    have hlen := r'.length
    refine call_tuple_list pl.isList (fun h' kp => ?_) (by simp only [List.size_toArray] <;> omega)
    have I1 : Inv X pins σ H { s with heap := h' } := I.kept (t' := s.toks) kp
    have I2 : Inv X pins σ (upd H h'.objs.size (.tup ys)) { s with heap := h'.push { cls := .type "tuple", data := .seq its.toArray } } :=
      I1.laid (t' := s.toks) (fun b o e => Heap.get?_push_of_some _ e) (Nat.le_refl _) (show ObjOk X.prog X.w _ _ _ (.tup ys) from ⟨hz, its, r', IsTup.new _ _⟩)
    exact ⟨.ref h'.objs.size, _, I2, rfl, q _ (I1.hok.fresh (Nat.le_refl _))⟩
  · obtain ⟨its, r', pl, hz⟩ := I.tuple hq
    exact call_tuple_same pl ⟨.ref p, H, I, rfl, q⟩
def tyV (K : PySem.W.Frag) (T : String) (x : V) (H : Hp) : Prop := match x with
  | .str _ => T = "str"
  | .int _ => T = "int"
  | .ref p => (T = "list" ∧ ∃ xs, SqL K H p xs) ∨ (T = "tuple" ∧ ∃ o, K.lookup p = some o ∧ o.cls = .type "tuple" ∧ o.dict = none) ∨
      (T = "dict" ∧ ((∃ kvs, H p = some (.dK kvs)) ∨ ∃ kvs, H p = some (.dT kvs))) ∨ (T = "set" ∧ ∃ S n, H p = some (.set S n))
  | _ => False
theorem tyV_is {pins : List (Addr × Obj)} {σ : St} {H : Hp} {s : Shared} {T : String} {x : V} {v : Value} (I : Inv X pins σ H s) (r : RelV x v) (ty : tyV X.K T x H) :
    s.TypeIs v T ∧ ∀ a, v = .ref a → ∃ ob, s.heap.get? a = some ob ∧ ob.dict = none := by
  cases x with
  | str z =>
    obtain ⟨t, rfl⟩ := r
    cases (show T = "str" from ty)
    exact ⟨typeIs_str s z t, fun _ e => nomatch e⟩
  | int i =>
    obtain ⟨t, rfl⟩ := r
    cases (show T = "int" from ty)
    exact ⟨typeIs_int s i t, fun _ e => nomatch e⟩
  | ref p =>
    cases r
    rcases ty with ⟨rfl, xs, hq⟩ | ⟨rfl, o, hk, hc, hd⟩ | ⟨rfl, hk⟩ | ⟨rfl, S, n, hk⟩
    · obtain ⟨its, _, pl, _⟩ := I.list hq
      refine ⟨pl.isList.typeIs, fun a e => ?_⟩
      cases e
      obtain ⟨o, n, e, c, hd, _⟩ := pl
      exact ⟨o, e, hd⟩
    · refine ⟨⟨o, I.kIn p o hk, hc⟩, fun a e => ?_⟩
      cases e
      exact ⟨o, I.kIn _ o hk, hd⟩
    · have z : ∃ o, s.heap.get? p = some o ∧ o.ExactDict := by
        rcases hk with ⟨kvs, hk⟩ | ⟨kvs, hk⟩
        · obtain ⟨_, _, _, _, o, _, _, e, ex, _⟩ := I.hok p _ hk
          exact ⟨o, e, ex⟩
        · obtain ⟨_, _, _, _, o, _, _, e, ex, _⟩ := I.hok p _ hk
          exact ⟨o, e, ex⟩
      obtain ⟨o, e, ex⟩ := z
      refine ⟨⟨o, e, ex.1⟩, fun a e2 => ?_⟩
      cases e2
      exact ⟨o, e, ex.2.1⟩
    · obtain ⟨o, _, _, _, e, ex, _⟩ := I.hok p _ hk
      refine ⟨⟨o, e, ex.1⟩, fun a e2 => ?_⟩
      cases e2
      exact ⟨o, e, ex.2.1⟩
  | _ => exact False.elim ty
def tBM0 (K : PySem.W.Frag) (T : String) (r : V → List V → Hp → VK → Prop) (to : TE) : TE := fun σ H Q => to σ H fun x H1 => tyV K T x H1 ∧ r x [] H1 Q
def tBM (K : PySem.W.Frag) (T : String) (r : V → List V → Hp → VK → Prop) (to : TE) (t : TA) : TE := fun σ H Q => to σ H fun x H1 => tyV K T x H1 ∧ t σ H1 fun xs H2 => r x xs H2 Q
variable {o e : Expr} {es : List Expr} {to : TE} {t : TA} {name : Str} {apos cpos : Pos} {T id : String} {r : V → List V → Hp → VK → Prop}
theorem pe_bm0 (pa : PlainAttrs T) (slot : Slot T name id) (hty : typeOf (.builtin id) = pure (.type "method_descriptor")) (hm : MtR X id r) (ho : PE X o to)
    (hbase : attributeBase o name X.env (eval o X.env) = eval o X.env := by rfl) (hline : (apos.endLine == cpos.line) = true := by rfl) : PE X (.Call (.Attribute o name apos) [] [] cpos) (tBM0 X.K T r to) := by
  intro pins s σ H Q I h
  refine wpAny_Call_method0_late hbase hline (thn (ho pins s σ H _ I h) fun v s1 ⟨x, H1, I1, r1, ty, q1⟩ => ?_)
  obtain ⟨h1, h2⟩ := tyV_is I1 r1 ty
  exact ⟨T, id, pa, slot, hty, h1, h2, Calls.callWith_builtin rfl (PySem.evalArgs_none (hm pins s1 σ H1 x [] v [] Q I1 r1 .nil q1))⟩
theorem pe_bm (pa : PlainAttrs T) (slot : Slot T name id) (hty : typeOf (.builtin id) = pure (.type "method_descriptor")) (hm : MtR X id r) (ho : PE X o to) (ha : PA X (e :: es) t)
    (hbase : attributeBase o name X.env (eval o X.env) = eval o X.env := by rfl)
    (hfew : ((backTo cpos (starEach (e :: es) X.env)).all (fun x => !x.1) && (backToKw cpos (keywordEach [] X.env)).all (fun x => x.1.isSome)
      && decide ((e :: es).length + ([] : List Keyword).length + (if ([] : List Keyword).isEmpty then 0 else 1) < 30)) = true := by rfl)
    (hline : (apos.endLine == cpos.line) = true := by rfl) (hs : starEach (e :: es) X.env = (false, eval e X.env) :: starEach es X.env := by rfl) (hplain : (backTo cpos (starEach es X.env)).any (·.1) = false := by rfl) :
    PE X (.Call (.Attribute o name apos) (e :: es) [] cpos) (tBM X.K T r to t) := by
  intro pins s σ H Q I h
  refine wpAny_Call_method_late hbase hfew hline rfl (thn (ho pins s σ H _ I h) fun v s1 ⟨x, H1, I1, r1, ty, q1⟩ => ?_)
  obtain ⟨h1, h2⟩ := tyV_is I1 r1 ty
  refine ⟨T, id, pa, slot, hty, h1, h2, ?_⟩
  have hA := ha cpos pins s1 σ H1 _ I1 q1
  rw [hs] at hA ⊢
  refine Calls.callWith_builtin (by show (false || (backTo cpos (starEach es X.env)).any (·.1)) = false; rw [hplain] <;> rfl) (Calls.evalArgs_plain ?_)
  exact thn hA fun us s2 ⟨vs, H2, I2, r2, q2⟩ => hm pins s2 σ H2 x vs v us Q I2 r1 r2 q2
/- xs.append(e), list.index on a module's tuple .. are MtR facts of 06m -/
end
end L2
namespace L2
open PySem PySem.Spec PyProof.Rows
def MtM (X : Cx) (id : String) (r : V → List V → Hp → VK → Prop) : Prop :=
  ∀ (pins : List (Addr × Obj)) (s : Shared) (σ : St) (H : Hp) (x : V) (xs : List V) (v : Value) (us : List Value) (Q : VK), Inv X pins σ H s → RelV x v → Vals xs us → r x xs H Q →
    wpAny (model X.prog X.w) X.A (call (.builtin id) (v :: us)) (EP X pins σ Q) X.xe s
theorem Vals.one : ∀ {x : V} {us : List Value}, Vals [x] us → ∃ u, us = [u] ∧ RelV x u
  | _, _, .cons r .nil => ⟨_, rfl, r⟩
theorem Vals.zero : ∀ {us : List Value}, Vals [] us → us = []
  | _, .nil => rfl
theorem Vals.dropLast {xs : List V} {us : List Value} (h : Vals xs us) : Vals xs.dropLast us.dropLast := by
  induction h with
  | nil => exact .nil
  | cons r t ih =>
    cases t with
    | nil => exact .nil
    | cons q t' => exact .cons r ih
theorem Vals.rep {xs : List V} {us : List Value} (h : Vals xs us) : ∀ k : Nat, Vals (List.replicate k xs).flatten (List.replicate k us).flatten
  | 0 => .nil
  | k + 1 => by
    rw [List.replicate_succ, List.replicate_succ, List.flatten_cons, List.flatten_cons]
    exact Vals.append h (Vals.rep h k)
theorem erase_last {α : Type} (l : List α) : l.eraseIdx (l.length - 1) = l.dropLast := by
  induction l with
  | nil => rfl
  | cons a r ih =>
    cases r with
    | nil => rfl
    | cons b r =>
      have e : (a :: b :: r).length - 1 = ((b :: r).length - 1) + 1 := by
        have h1 : (a :: b :: r).length = r.length + 2 := rfl
        have h2 : (b :: r).length = r.length + 1 := rfl
        omega
      rw [e, List.eraseIdx_cons_succ, ih]
      all_goals rfl
theorem foldl_rep (its : List Value) : ∀ (k : Nat) (acc : List Value),
    List.foldl (fun x1 x2 => x1 ++ x2) acc.toArray (List.replicate k its.toArray) = (acc ++ (List.replicate k its).flatten).toArray
  | 0, acc => by simp
  | k + 1, acc => by
    have e : acc.toArray ++ its.toArray = (acc ++ its).toArray := by simp
    have e2 : (acc ++ its) ++ (List.replicate k its).flatten = acc ++ (List.replicate (k + 1) its).flatten := by
      rw [List.replicate_succ, List.flatten_cons, List.append_assoc]
    rw [← e2, ← foldl_rep its k (acc ++ its), ← e, List.replicate_succ, List.foldl_cons]
section
variable {X : Cx} {pins : List (Addr × Obj)} {σ : St} {H : Hp} {s : Shared} {l b : Addr} {xs ys zs : List V}
theorem Inv.lset {its its' : List Value} {n : Nat} {f : Array Value → Array Value} {t' : Nat} (I : Inv X pins σ H s) (hH : H l = some (.lst xs))
    (e : s.heap.get? l = some { cls := .type "list", data := .seq its.toArray n }) (hf : f its.toArray = its'.toArray) (hv : Vals ys its') (hz : ys.length ≤ sizeLine) :
    Inv X pins σ (upd H l (.lst ys)) { s with heap := s.heap.update l (Obj.mapSeq f), toks := t' } := by
  have q := PySem.IsL.update e f
  rw [hf] at q
  refine I.write (x := l) (e := l) (by rw [hH]; exact trivial) (.inl rfl) (fun b' u hb hu => (Heap.get?_update_other s.heap (Obj.mapSeq f) (Ne.symm hb)).trans hu) ⟨_, q⟩ ?_
  exact ⟨hz, its', _, hv, q⟩
theorem Inv.lnew {its : List Value} {t' : Nat} (I : Inv X pins σ H s) (hv : Vals ys its) (hz : ys.length ≤ sizeLine) :
    Inv X pins σ (upd H s.heap.objs.size (.lst ys)) { s with heap := s.heap.push { cls := .type "list", data := .seq its.toArray }, toks := t' } :=
  I.laid (fun _ _ q => Heap.get?_push_of_some _ q) (Nat.le_refl _) ⟨hz, its, 0, hv, Heap.get?_push_size _ rfl⟩
theorem Inv.fresh (I : Inv X pins σ H s) : H s.heap.objs.size = none := I.hok.fresh (Nat.le_refl _)
theorem Inv.lstM (I : Inv X pins σ H s) (hH : H l = some (.lst xs)) : xs.length ≤ sizeLine ∧ ∃ (its : List Value) (n : Nat), Vals xs its ∧ xs.length = its.length ∧ s.heap.get? l = some { cls := .type "list", data := .seq its.toArray n } := by
  obtain ⟨z, its, n, r, e⟩ := I.hok l _ hH
  exact ⟨z, its, n, r, r.length, e⟩
theorem notLongL {n : Nat} (h : n ≤ sizeLine) : Builtin.List.listTooLong n = false := by
  unfold Builtin.List.listTooLong
  exact decide_eq_false (by omega)
end
section
variable {X : Cx}
def rAppend : V → List V → Hp → VK → Prop := fun x vs H Q => ∃ l xs y, x = .ref l ∧ vs = [y] ∧ H l = some (.lst xs) ∧ xs.length < sizeLine ∧ Q .non (upd H l (.lst (xs ++ [y])))
theorem mt_append : MtM X "list.append" rAppend := by
  intro pins s σ H x vs v us Q I rx rv h
  obtain ⟨l, xs, y, rfl, rfl, hH, hz, q⟩ := h
  cases rx
  obtain ⟨u, rfl, ru⟩ := rv.one
  obtain ⟨z, its, n, r, hl, e⟩ := I.lstM hH
  refine call_meets F.slot_list_append ⟨_, e, rfl⟩ F.entry_list_append (F.args_list_append_2 _ _) (PySem.list_append l its.toArray n u (by rw [List.size_toArray]; omega)) ⟨e, ?_⟩
  refine ⟨.non, _, I.lset (its' := its ++ [u]) hH e (by simp) (r.append (.cons ru .nil)) ?_, rfl, q⟩
  rw [List.length_append, List.length_singleton]
  omega
def rPop : V → List V → Hp → VK → Prop := fun x vs H Q => ∃ l xs y, x = .ref l ∧ vs = [] ∧ H l = some (.lst xs) ∧ xs[xs.length - 1]? = some y ∧ Q y (upd H l (.lst xs.dropLast))
theorem mt_pop : MtM X "list.pop" rPop := by
  intro pins s σ H x vs v us Q I rx rv h
  obtain ⟨l, xs, y, rfl, rfl, hH, hy, q⟩ := h
  cases rx
  have hus := rv.zero
  subst hus
  obtain ⟨z, its, n, r, hl, e⟩ := I.lstM hH
  obtain ⟨u, hu, ru⟩ := r.get hy
  have hy' : its.toArray[its.toArray.size - 1]? = some u := by
    show its.toArray[its.length - 1]? = some u
    rw [← Array.getElem?_toList, ← hl]
    exact hu
  refine call_meets F.slot_list_pop ⟨_, e, rfl⟩ F.entry_list_pop (F.args_list_pop_1 _) (MeetsSeq.list_pop_last l its.toArray n u hy' (by rw [List.size_toArray]; omega)) ⟨e, ?_⟩
  refine ⟨y, _, I.lset (its' := its.dropLast) hH e ?_ r.dropLast ?_, ru, q⟩
  · show its.toArray.eraseIdxIfInBounds (its.toArray.size - 1) = its.dropLast.toArray
    rw [List.size_toArray, List.eraseIdxIfInBounds_toArray, erase_last]
  · rw [List.length_dropLast]
    omega
def rRep : R2 := fun x y H Q => ∃ l k xs, x = .ref l ∧ y = .int k ∧ H l = some (.lst xs) ∧ -(2 ^ 63) ≤ k ∧ k < 2 ^ 63 ∧ xs.length * k.toNat ≤ sizeLine ∧
  ∀ p, H p = none → Q (.ref p) (upd H p (.lst (List.replicate k.toNat xs).flatten))
theorem len_rep {α : Type} (xs : List α) (k : Nat) : (List.replicate k xs).flatten.length = k * xs.length := by
  induction k with
  | zero => simp
  | succ k ih => rw [List.replicate_succ, List.flatten_cons, List.length_append, ih, Nat.succ_mul, Nat.add_comm]
theorem op_rep : OpR X (binaryOp .Mult) rRep := by
  intro pins s σ H x y v u Q I rx ry h
  obtain ⟨l, k, xs, rfl, rfl, hH, h1, h2, hz, q⟩ := h
  cases rx
  obtain ⟨t, rfl⟩ := ry
  obtain ⟨z, its, n, r, hl, e⟩ := I.lstM hH
  have hlen : its.toArray.size * k.toNat ≤ sizeLine := by rw [List.size_toArray, ← hl]; exact hz
  have hcap : ¬ its.toArray.size * k.toNat > (2 ^ 63 - 1) / 8 := by
    have : (sizeLine : Nat) ≤ (2 ^ 63 - 1) / 8 := by decide
    omega
  have hfit : ¬ (!Builtin.List.listFitsIndex k) = true := by
    rw [fitsIndex_both h1 h2]
    exact Bool.false_ne_true
  have hlong : ¬ Builtin.List.listTooLong (its.toArray.size * k.toNat) = true := by
    rw [notLongL hlen]
    exact Bool.false_ne_true
  have hnew : List.foldl (fun x1 x2 => x1 ++ x2) #[] (List.replicate (if its.toArray.isEmpty = true then 0 else k.toNat) its.toArray) = (List.replicate k.toNat its).flatten.toArray := by
    have f0 : ∀ m : Nat, List.foldl (fun x1 x2 => x1 ++ x2) #[] (List.replicate m its.toArray) = (List.replicate m its).flatten.toArray := fun m => by
      have := foldl_rep its m []
      rw [List.nil_append] at this
      exact this
    rw [f0]
    cases its with
    | nil => simp
    | cons a r' => rw [if_neg (by simp)]
  refine wpAny_binaryOp_repeat_ref (T := "list") (U := "int") (by decide) ⟨_, e, rfl⟩ (fun s' => typeIs_int s' k t) noFill_list_mul F.fills_int_mul F.slot_int_rmul repeat_list F.slot_int_index.lookup
    (call_meets F.slot_int_rmul (typeIs_int s k t) F.entry_int_rmul (F.args_int_rmul_2 _ _) (int___rmul___int_list k t l its.toArray n)
      ⟨e, rfl, ⟨_, e, rfl⟩, call_meets F.slot_list_mul ⟨_, e, rfl⟩ F.entry_list_mul (F.args_list_mul_2 _ _) (AutoListH.list___mul___list_int_3 l its.toArray n k t hfit hcap hlong) ⟨e, ?_⟩⟩)
  rw [hnew]
  exact ⟨.ref _, _, I.lnew (t' := s.toks) (r.rep k.toNat) (by rw [len_rep, Nat.mul_comm]; exact hz), rfl, q _ I.fresh⟩
end
section
variable {prog : Program} {w : World} {A : Around} {E : Value → Shared → Prop} {s : Shared}
end
section
variable {X : Cx}
end
end L2
namespace Att
open PySem PySem.W PySem.Calls PyProof.Rows
theorem ints_of_wellAll {P : Params} {h : Heap} : ∀ (ns : List Int) (vs : List Value), WellAll P h vs (ns.map WData.int) → IntsAre vs ns := by
  intro ns
  induction ns with
  | nil =>
    intro vs w
    rw [List.map_nil] at w
    cases w
    exact .nil
  | cons n ns ih =>
    intro vs w
    rw [List.map_cons] at w
    cases w with
    | cons a b =>
      cases a
      exact .cons _ _ (ih _ b)
theorem script_of {l : OpenLaw} {n : Nat} (hn : l.most = some n) {P : Params} {h : Heap} {args : List WData} {vals : List Value}
    (hpre : l.row.toRowW.claim.pre args = true) (hwl : WellAll P h vals args) :
    ∃ a vs ns, vals = [Value.ref a] ∧ args = [WData.list (ns.map WData.int)] ∧ h.get? a = some { cls := .type "list", data := .seq vs.toArray } ∧ IntsAre vs ns ∧ ns.length ≤ n := by
  have hsh : WShape.hasAll [] args [.list .int] = true := (pre_splitW hpre).1
  have hc : l.pre.holds [] { args := args } = true := (pre_splitW hpre).2
  obtain ⟨d, r, rfl, h1, h2⟩ := hasAllW_cons hsh
  obtain rfl := hasAllW_nil h2
  obtain ⟨xs, rfl, h3⟩ := hasW_list h1
  obtain ⟨ns, rfl⟩ := items_int h3
  have hlen : ns.length ≤ n := by
    unfold OpenLaw.pre at hc
    have h4 : (WTm.not (.lt (.lit (.int (n : Int))) (.len (.arg 0)))).holds [] { args := [.list (ns.map .int)] } = true := by
      have h4 := (holds_andW hc).1
      rw [hn] at h4
      exact h4
    have h5 := condW_of h4 (w_not (w_lt w_lit (w_len_list (w_arg rfl))))
    rw [List.length_map] at h5
    refine Nat.le_of_not_lt fun q => ?_
    have q' : (n : Int) < ((ns.length : Nat) : Int) := by omega
    first
      | (rw [decide_eq_true q'] at h5; exact absurd h5 (by decide))
      | (simp at h5; omega)
  cases hwl with
  | cons w1 w2 =>
    cases w2
    cases w1 with
    | list ho hall => exact ⟨_, _, ns, rfl, rfl, ho, ints_of_wellAll ns _ hall, hlen⟩
theorem post_true (l : OpenLaw) (args : List WData) : l.row.toRowW.claim.post args (.bool true) args = true :=
  postW_of (r := l.row.toRowW) (X := (true == true))
    (show WShape.has [] (.bool true) .bool = true by first | rfl | decide | simp [WShape.has, WShape.arms, WShape.armsAll])
    (show (WTm.eq .res (.lit (.bool true))).value [] { args := args, res := some (.bool true), after := args } = some (.bool (true == true)) from w_eq_bool (w_res rfl) w_lit) rfl
theorem attach_call {l : OpenLaw} {n : Nat} {q : Program} {loose : List Str} {XP : (Str → Option Value) → Heap → Prop} {YP : World → Heap → Prop} {d : DefRec}
    (hn : l.most = some n) (hdf : d.params.defaults = [])
    (call : ∀ (w : World) (s₀ s₁ : Shared) (mg mb : Str → Option Value) (fa : Addr) (o : Obj) (pm cd doc : Value) (a : Addr) (vs : List Value) (ns : List Int),
      Ground q loose [] XP w s₀ mg mb s₁.heap → YP w s₁.heap →
      s₁.heap.get? fa = some o → o.data = .func (docDef d.name d.params d.body d.scope pm cd doc) → s₁.heap.CodeRec cd d.name → mg d.name = some (.ref fa) →
      s₁.heap.get? a = some { cls := .type "list", data := .seq vs.toArray } → IntsAre vs ns → ns.length ≤ n → s₁.gens = #[] →
      codeAny (model l.prog w) callerA (.call (.ref fa) ⟨[.ref a], []⟩) (fun r s' => r = .ok (.ret (.bool true)) ∧ OldK s₁.heap s'.heap ∧ s'.os = s₁.os ∧ AllBare s'.gens) s₁) :
    WalkO q loose XP YP l.row.toRowW d [] (fun f vs => PySem.call f vs) := by
  intro w s₀ s₁ mg mb G Y fa o pm cd doc dV kV ho hd hcd hD hmg hg args vals as hpre hlay hrd hwl hlo
  obtain rfl : dV = .none := Dflts.none hD hdf
  obtain rfl : kV = .none := Dflts.noKw hD
  obtain ⟨a, vs, ns, rfl, rfl, hobj, hints, hlen⟩ := script_of hn hpre hwl
  refine enter_call (codeAny_mono (call w s₀ s₁ mg mb fa o pm cd doc a vs ns G Y ho (fd_plain hd) hcd hmg hobj hints hlen hg) fun r s' hq => ?_)
  obtain ⟨rfl, h2, h3, h4⟩ := hq
  exact ⟨.inl ⟨.bool true, .bool true, [], rfl, fun _ => rfl, .bool true, post_true l _, fun _ => ⟨List.Pairwise.nil, fun _ hm => (nomatch hm)⟩⟩, h2, h3, h4⟩
section
variable {prog : Program} {w : World} {A : Around} {E : Value → Shared → Prop} {s : Shared} {K : Frag}
end
end Att
namespace L2
open PySem PySem.Spec PyProof.Rows
theorem vals_ints : ∀ {vs : List Value} {ns : List Int}, IntsAre vs ns → Vals (ns.map V.int) vs
  | _, _, .nil => .nil
  | _, _, .cons n t h => .cons ⟨t, rfl⟩ (vals_ints h)
def Only (H : Hp) : Prop := ∀ b, H b = none ∨ ∃ o xs, H b = some (.frz o (.lst xs))
theorem law_call {P : Program} {w : World} {K : PySem.W.Frag} {mg mb : Str → Option Value} {CX : CXT} {k : Nat} {fa a : Addr} {fd : FuncData} {x : Str} {sp : Sp} {s₁ : Shared} {vs : List Value} {ns : List Int}
    (KX : K.In s₁.heap) (hns : s₁.heap.Ns mainGlobals mg) (hb : s₁.heap.Ns builtinsNs mb) (hbb : ∀ x : Str, x ≠ "__name__" → mb x = bootBuiltins x) (hlim : s₁.heap.NoLimit) (hg : s₁.gens = #[])
    (ha : s₁.heap.get? a = some { cls := .type "list", data := .seq vs.toArray }) (hi : IntsAre vs ns) (hl : ns.length ≤ sizeLine) (hr : Room k callerA)
    (F : ∀ base : Heap, K.In base → base.Ns mainGlobals mg → FnOk P w K mg base CX k fa fd [x] sp) (hbind : ∀ (s : Shared) (u : Value), BindsTo s fd ⟨[u], []⟩ [(x, u)])
    (hsp : ∀ H : Hp, Only H → SqL K H a (ns.map V.int) → sp [.ref a] H (fun v _ => v = .bl true) fun _ _ _ => False)
    (hCX : ∀ H e s', CX [] H s₁ (fun _ _ _ => False) e s' → False) :
    codeAny (model P w) callerA (.call (.ref fa) ⟨[.ref a], []⟩) (fun r s' => r = .ok (.ret (.bool true)) ∧ OldK s₁.heap s'.heap ∧ s'.os = s₁.os ∧ AllBare s'.gens) s₁ := by
  have rv := vals_ints hi
  have lenV := hi.length
  -- from an abstract heap in which nothing but the script may be tracked
  have core : ∀ H : Hp, Only H → SqL K H a (ns.map V.int) → HOk P w H s₁.heap → (∀ b, H b ≠ none → b = a) → (H a ≠ none → K.lookup a = none) →
      codeAny (model P w) callerA (.call (.ref fa) ⟨[.ref a], []⟩) (fun r s' => r = .ok (.ret (.bool true)) ∧ OldK s₁.heap s'.heap ∧ s'.os = s₁.os ∧ AllBare s'.gens) s₁ := by
    intro H hO hS hok hA hK
    have base_of : ∀ {b : Addr} {o : Obj}, s₁.heap.get? b = some o → H b = none → (hidT s₁.heap H).get? b = some o := fun e n => hidT_get e n
    have noA : ∀ {b : Addr} {o : Obj} {es : Array DictEntry} {ep : Nat}, s₁.heap.get? b = some o → o.data = .dict es ep → H b = none := fun {b o es ep} e d => by
      cases q : H b with
      | none => rfl
      | some u =>
        have e' : b = a := hA b (by rw [q]; simp)
        subst e'
        rw [ha] at e; cases e
        have d' : Data.seq vs.toArray _ = Data.dict es ep := d
        cases d'
    have nsK : ∀ {b : Addr} {m : Str → Option Value}, s₁.heap.Ns b m → (hidT s₁.heap H).Ns b m := fun {b m} ⟨o, es, ep, e, d, r⟩ => ⟨o, es, ep, base_of e (noA e d), d, r⟩
    have hKb : K.In (hidT s₁.heap H) := fun b o e => base_of (KX b o e) (by
      cases q : H b with
      | none => rfl
      | some u =>
        have e' : b = a := hA b (by rw [q]; simp)
        subst e'
        rw [hK (by rw [q]; simp)] at e; cases e)
    have hM : Mod K mg (hidT s₁.heap H) := ⟨hKb, nsK hns, ⟨mb, nsK hb, hbb⟩, let ⟨mc, h1, h2⟩ := hlim; ⟨mc, nsK h1, h2⟩⟩
    have e0 : Env0 P w K mg (hidT s₁.heap H) callerA [] s₁ H := ⟨rfl, hM, fun b o e => of_hidT e, Nat.le_of_eq (hidT_size _ _), trivial, fun b hb => absurd (show b ∈ ([] : List Addr) from hb) (by simp), hok, .of_eq hg⟩
    refine codeAny_mono ((F _ hKb (nsK hns)).run callerA [] s₁ H ⟨[.ref a], []⟩ [.ref a] [.ref a] _ _ hr e0 (hbind s₁ (.ref a)) (.cons rfl .nil) (hsp H hO hS)) fun r s' h => ?_
    cases r with
    | error e => exact (hCX H e s' h).elim
    | ok fl =>
      cases fl with
      | next => exact False.elim h
      | brk => exact False.elim h
      | cont => exact False.elim h
      | ret u =>
        obtain ⟨v, H', os, bare, un, hok', r', q⟩ := h
        have q' : v = .bl true := q
        subst q'
        obtain rfl : u = Value.bool true := r'
        refine ⟨rfl, OldK.of_keep fun b o e => ?_, os, bare⟩
        cases q : H b with
        | none => exact un.keep b o e q (by intro z; exact absurd (show b ∈ ([] : List Addr) from z) (by simp)) (by simp)
        | some u =>
          rcases hO b with z | ⟨ob, xs, z⟩
          · rw [q] at z; cases z
          · have z2 := un.frzs b ob _ z
            obtain ⟨e1, _⟩ := hok b _ z
            obtain ⟨e2, _⟩ := hok' b _ z2
            rw [e] at e1; cases e1
            exact e2
  cases hk : K.lookup a with
  | some o =>
    -- the script is one of the module's own objects
    have e := KX a o hk
    rw [ha] at e
    cases e
    refine core (fun _ => none) (fun _ => .inl rfl) (.inr ⟨_, vs.toArray, _, hk, rfl, rfl, rfl, by rw [List.size_toArray, lenV]; exact hl, by simpa using rv⟩) (fun b u z => by have z' : (none : Option HO) = some u := z; cases z') (fun b z => absurd rfl z) fun z => absurd rfl z
  | none =>
    refine core (fun b => if b = a then some (.frz { cls := .type "list", data := .seq vs.toArray } (.lst (ns.map V.int))) else none) (fun b => ?_) (.inl (.inr ⟨{ cls := .type "list", data := .seq vs.toArray }, if_pos rfl⟩)) (fun b u z => ?_) (fun b z => ?_) fun _ => hk
    · by_cases hb : b = a
      · exact .inr ⟨_, _, if_pos hb⟩
      · exact .inl (if_neg hb)
    · by_cases hb : b = a
      · have z' := (if_pos hb).symm.trans z
        cases z'
        subst hb
        exact ⟨ha, by rw [List.length_map]; exact hl, vs, _, rv, ha⟩
      · have z' := (if_neg hb).symm.trans z
        cases z'
    · by_cases hb : b = a
      · exact hb
      · exact absurd (if_neg hb) z
end L2
namespace L2
open PySem PySem.Spec PyProof.Rows
theorem walk_of {l : PySem.W.OpenLaw} {n k : Nat} {q : Program} {loose : List Str} {XP : (Str → Option Value) → Heap → Prop} {YP : World → Heap → Prop} {d : DefRec} {K : Params → PySem.W.Frag} {CX : World → CXT} {sp : World → Sp} {x : Str}
    (hn : l.most = some n) (hn2 : n ≤ sizeLine) (hdf : d.params.defaults = []) (hr : Room k callerA)
    (hY : ∀ (w : World) (h : Heap), YP w h → (K w.params).In h)
    (F : ∀ (w : World) (mg : Str → Option Value) (fa : Addr) (h : Heap), (K w.params).In h → h.Ns mainGlobals mg → mg d.name = some (.ref fa) →
      ∃ fd : FuncData, (∀ (s : Shared) (u : Value), BindsTo s fd ⟨[u], []⟩ [(x, u)]) ∧
        ∀ base : Heap, (K w.params).In base → base.Ns mainGlobals mg → FnOk l.prog w (K w.params) mg base (CX w) k fa fd [x] (sp w))
    (hsp : ∀ (w : World) (H : Hp) (a : Addr) (ns : List Int), ns.length ≤ n → Only H → SqL (K w.params) H a (ns.map V.int) → sp w [.ref a] H (fun v _ => v = .bl true) fun _ _ _ => False)
    (hCX : ∀ (w : World) (H : Hp) (s : Shared) (e : Value) (s' : Shared), CX w [] H s (fun _ _ _ => False) e s' → False) :
    PySem.W.WalkO q loose XP YP l.row.toRowW d [] (fun f vs => PySem.call f vs) := by
  refine Att.attach_call hn hdf fun w s₀ s₁ mg mb fa o pm cd doc a vs ns G Y ho hd hcd hmg hobj hints hlen hg => ?_
  have KX := hY w _ Y
  obtain ⟨fd, hb, hF⟩ := F w mg fa _ KX G.T.g hmg
  exact law_call KX G.T.g G.T.b G.T.builtins G.T.nolimit hg hobj hints (Nat.le_trans hlen hn2) hr hF hb (fun H hO hS => hsp w H a ns hlen hO hS) fun H e s' => hCX w H s₁ e s'
end L2
/- THE LAST THEOREM (shape; LID, My.* are yours):
   My.Adr: a structure of the addresses that your layer names (classes, functions); My.Txt K t: a structure (Prop) of the equations over K;
   My.txt_mk : {K} {implicit addresses ..} (e1 : nsIn K mainGlobals "law" = some (some (.ref f))) (e2 : K.lookup f = some ⟨oc, od, .func (fnOf "law" "law" params body scope dV kV doc pm an cdv ct), sl⟩) (e3 : codeIn K cdv "law" = true) .. : ∃ t, My.Txt K t
set_option maxRecDepth 100000 in
set_option maxHeartbeats 0 in
theorem PySem.Challenge.cw_LID_holds : PySem.Challenge.rw_LID.Holds := by
  w_on; o_law; k_head; (case hw => w_witness2)
  k_fill
  refine L2.walk_of (l := PySem.Challenge.rw_LID) (n := 63) (k := 40) (x := "script") (CX := fun w => ..) (sp := fun _ => My.sp_law) rfl (by decide) rfl ⟨rfl, by decide, by decide⟩ (fun w h Y => PySem.W.kIn_of Y) ?F ?S ?C
  case F =>
    intro w mg fa h KX G hmg
    have T : ∃ t, My.Txt (L2.KOf KX) t := by
      dsimp only [L2.KOf]                          -- K must stand as «<heap const> w.params» for k_is
      refine' My.txt_mk ?e1 ?e2 ?e3 ..
      (case e1 => PySem.W.k_is)                    -- in the order: a name -> its address -> its object -> its parts
      (case e2 => PySem.W.k_is)
      ..
    obtain ⟨t, T⟩ := T
    have e0 := hmg.symm.trans (PySem.W.mg_of KX G T.law)
    cases e0                                       -- fa is the law's own address
    exact ⟨_, fun s u => .of_eq rfl, fun base kb nb => My.law_fn T kb nb⟩     -- if «.of_eq rfl» comes too early: refine' ⟨_, ?b, fun base kb nb => My.law_fn T kb nb⟩; exact fun s u => .of_eq rfl
  case S => exact fun w H a ns hl hO hS => ..
  case C => exact ..
(the tactic k_is has no namespace: write k_is) -/
namespace L2
open PySem PySem.Spec PyProof.Rows
def defArgs (s : Stmt) : Arguments := match s with
  | .FunctionDef _ a _ _ _ _ _ _ _ _ => a
  | _ => { posonlyargs := [], args := [], vararg := none, kwonlyargs := [], kw_defaults := [], kwarg := none, defaults := [] }
def defBody (s : Stmt) : List Stmt := match s with
  | .FunctionDef _ _ b _ _ _ _ _ _ _ => b
  | _ => []
def defScope (s : Stmt) : Scope := match s with
  | .FunctionDef _ _ _ _ _ _ sc _ _ _ => sc
  | _ => { kind := .function, names := [], isGenerator := false, isCoroutine := false }
abbrev CX0 : CXT := fun _ _ _ _ _ _ => False
abbrev E0 : XK := fun _ _ _ => False
theorem pass0 {X : Cx} : Passes CX0 X E0 := fun _ _ _ _ _ _ _ h => h.elim
structure Fun (K : PySem.W.Frag) (x qual : Str) (st : Stmt) (f : Addr) (fd : FuncData) : Prop where
  ex : ∃ (oc : Value) (od : Option Addr) (kV doc pm : Value) (an : Option Addr) (cdv ct : Value) (osl : Array (Option Value)),
    fd = PySem.W.fnOf x qual (defArgs st) (defBody st) (defScope st) .none kV doc pm an cdv ct ∧ K.lookup f = some ⟨oc, od, .func fd, osl⟩ ∧ PySem.W.codeIn K cdv qual = true
  kp : PySem.W.keepIn K (.ref f) = true
section
variable {P : Program} {w : World} {K : PySem.W.Frag} {mg : Str → Option Value} {base : Heap}
theorem Fun.ok {x qual : Str} {st : Stmt} {f : Addr} {fd : FuncData} {N ps : List Str} {k : Nat} {sp : Sp} (F : Fun K x qual st f fd) (S : FnScope N ps (defScope st)) (len : ∀ vs H Q E, sp vs H Q E → vs.length = ps.length)
    (hbody : ∀ (cdv : Value) (A : Around) (outer : List Env) (s : Shared) (H : Hp) (vs : List V) (Q : VK) (E : XK), Room k (A.deeper (envOfC qual (defScope st) s.heap.objs.size f cdv)) → sp vs H Q E →
      ∃ t, PSs (cxOf CX0 P w K mg base N qual (defScope st) f cdv A outer s H E).nox (defBody st) t ∧ t { nx := fun _ H' => Q .non H', rt := Q } (start N vs) H) : FnOk P w K mg base CX0 (k + 1) f fd ps sp := by
  obtain ⟨oc, od, kV, doc, pm, an, cdv, ct, osl, rfl, lk, hcd⟩ := F.ex
  refine fn_of lk hcd S len fun A outer s H vs Q E hr hsp => ?_
  obtain ⟨t, h, q⟩ := hbody cdv A outer s H vs Q E hr hsp
  exact ⟨t, h.nox, q⟩
theorem Fun.binds {x qual : Str} {st : Stmt} {f : Addr} {fd : FuncData} {ps : List Str} (F : Fun K x qual st f fd)
    (h : ∀ (kV doc pm : Value) (an : Option Addr) (cdv ct : Value) (us : List Value), us.length = ps.length → bindArgs (PySem.W.fnOf x qual (defArgs st) (defBody st) (defScope st) .none kV doc pm an cdv ct) ⟨us, []⟩ = pure (ps.zip us)) : Binds K fd ps [] := by
  obtain ⟨oc, od, kV, doc, pm, an, cdv, ct, osl, rfl, lk, hcd⟩ := F.ex
  exact .all (h kV doc pm an cdv ct)
theorem fun_mk {x qual : Str} {st : Stmt} {f : Addr} {oc : Value} {od an : Option Addr} {osl : Array (Option Value)} {kV doc pm cdv ct : Value} (l : K.lookup f = some ⟨oc, od, .func (PySem.W.fnOf x qual (defArgs st) (defBody st) (defScope st) .none kV doc pm an cdv ct), osl⟩)
    (c : PySem.W.codeIn K cdv qual = true) (k : PySem.W.keepIn K (.ref f) = true) : Fun K x qual st f (PySem.W.fnOf x qual (defArgs st) (defBody st) (defScope st) .none kV doc pm an cdv ct) := ⟨⟨oc, od, kV, doc, pm, an, cdv, ct, osl, rfl, l, c⟩, k⟩
end
section
variable {X : Cx}
end
theorem ite2 {c A B : Prop} [Decidable c] (h1 : c → A) (h2 : ¬ c → B) : if c then A else B := by
  by_cases h : c
  · rw [if_pos h]
    exact h1 h
  · rw [if_neg h]
    exact h2 h
end L2
namespace L2
open PySem PySem.Spec PyProof.Rows
section
variable {κ : Type} [DecidableEq κ]
def valV (kvs : List (κ × V)) (k : κ) : Option V := (kvs.find? fun kv => decide (kv.1 = k)).map (·.2)
def putK (kvs : List (κ × V)) (k : κ) (v : V) : List (κ × V) :=
  if (kvs.any fun kv => decide (kv.1 = k)) = true then kvs.map (fun kv => if kv.1 = k then (kv.1, v) else kv) else kvs ++ [(k, v)]
def dropK (kvs : List (κ × V)) (k : κ) : List (κ × V) := kvs.filter fun kv => decide (kv.1 ≠ k)
theorem valV_pos {p : κ × V} {r : List (κ × V)} {k : κ} (e : p.1 = k) : valV (p :: r) k = some p.2 := by simp [valV, List.find?_cons, e]
theorem valV_neg {p : κ × V} {r : List (κ × V)} {k : κ} (e : ¬ p.1 = k) : valV (p :: r) k = valV r k := by simp [valV, List.find?_cons, e]
theorem valV_any (k : κ) : ∀ kvs : List (κ × V), (kvs.any fun kv => decide (kv.1 = k)) = (valV kvs k).isSome
  | [] => rfl
  | p :: r => by
    rw [List.any_cons]
    by_cases e : p.1 = k
    · simp only [valV_pos e, decide_eq_true e, Bool.true_or, Option.isSome_some]
    · rw [valV_neg e, decide_eq_false e, Bool.false_or]; exact valV_any k r
theorem valV_map (k j : κ) (y : V) : ∀ kvs : List (κ × V), valV (kvs.map fun kv => if kv.1 = k then (kv.1, y) else kv) j = (valV kvs j).map fun x => if j = k then y else x
  | [] => rfl
  | p :: r => by
    have ih := valV_map k j y r
    rw [List.map_cons]
    by_cases h : p.1 = k
    · rw [if_pos h]
      by_cases e : p.1 = j
      · rw [valV_pos (p := (p.1, y)) e, valV_pos e, Option.map_some, if_pos (e.symm.trans h)]
      · rw [valV_neg (p := (p.1, y)) e, valV_neg e, ih]
    · rw [if_neg h]
      by_cases e : p.1 = j
      · rw [valV_pos (p := p) e, valV_pos e, Option.map_some, if_neg (fun z => h (e.trans z))]
      · rw [valV_neg (p := p) e, valV_neg e, ih]
theorem putK_new {kvs : List (κ × V)} {k : κ} (v : V) (h : valV kvs k = none) : putK kvs k v = kvs ++ [(k, v)] := by
  unfold putK
  rw [valV_any, h]
  exact if_neg (by decide)
end
theorem kV_inj {a b : Key} (e : kV a = kV b) : a = b := by
  cases a with
  | inl i => cases b with
    | inl j => have e' : V.int i = V.int j := e; injection e' with e'; rw [e']
    | inr y => exact nomatch (show V.int i = V.str y from e)
  | inr x => cases b with
    | inl j => exact nomatch (show V.str x = V.int j from e)
    | inr y => have e' : V.str x = V.str y := e; injection e' with e'; rw [e']
theorem kVs_inj : ∀ {a b : List Key}, a.map kV = b.map kV → a = b
  | [], [], _ => rfl
  | [], _ :: _, e => by simp at e
  | _ :: _, [], e => by simp at e
  | x :: xs, y :: ys, e => by
    rw [List.map_cons, List.map_cons] at e
    injection e with e1 e2
    rw [kV_inj e1, kVs_inj e2]
abbrev KTp (H : Hp) : List (List Key × V) → List (List Key × Addr × Value) → Prop := Paired fun p q => p.1 = q.1 ∧ H q.2.1 = some (.tup (p.1.map kV)) ∧ RelV p.2 q.2.2
section
variable {P : Program} {w : World} {H : Hp} {h : Heap} {a : Addr}
end
section
variable {X : Cx} {pins : List (Addr × Obj)} {σ : St} {H : Hp} {s : Shared} {a : Addr} {y v : V} {u r : Value} {o : Option V} {A : Around} {E : Value → Shared → Prop}
end
section
variable {X : Cx} {pins : List (Addr × Obj)} {σ : St} {H : Hp} {s : Shared} {a : Addr} {kvs : List (Key × V)} {k : Key} {u : Value} {A : Around} {E : Value → Shared → Prop}
end
section
variable {X : Cx} {o i e value : Expr} {pos pos' tpos : Pos} {td ty tv : TE}
end
section
variable {X : Cx} {pos : Pos}
end
abbrev VV : List (V × V) → List (Value × Value) → Prop := Paired fun p q => RelV p.1 q.1 ∧ RelV p.2 q.2
section
variable {X : Cx} {pins : List (Addr × Obj)} {σ : St} {H : Hp} {s : Shared} {a : Addr} {y d : V} {u r : Value} {o : Option V} {A : Around} {E : Value → Shared → Prop}
end
section
variable {X : Cx} {o e f : Expr} {apos cpos : Pos} {td ty tx : TE}
end
section
variable {X : Cx} {pins : List (Addr × Obj)} {σ : St} {H : Hp} {s : Shared} {a : Addr} {kvs : List (Key × V)} {A : Around} {E : Value → Shared → Prop}
end
section
variable {X : Cx} {pins : List (Addr × Obj)} {σ : St} {H : Hp} {s : Shared} {a : Addr} {y : V} {u : Value} {A : Around} {E : Value → Shared → Prop}
end
section
variable {X : Cx}
end
section
variable {κ : Type} [DecidableEq κ]
theorem dropK_pos {p : κ × V} {r : List (κ × V)} {k : κ} (e : p.1 = k) : dropK (p :: r) k = dropK r k := by
  unfold dropK
  rw [List.filter_cons, if_neg (by simp [e])]
theorem dropK_neg {p : κ × V} {r : List (κ × V)} {k : κ} (e : ¬ p.1 = k) : dropK (p :: r) k = p :: dropK r k := by
  unfold dropK
  rw [List.filter_cons, if_pos (by simp [e])]
theorem dropK_no : ∀ {kvs : List (κ × V)} {k : κ}, ¬ k ∈ kvs.map (·.1) → dropK kvs k = kvs
  | [], _, _ => rfl
  | p :: r, k, h => by
    have h' : ¬ k ∈ r.map (·.1) := fun m => by
      obtain ⟨q, hq, e⟩ := List.mem_map.mp m
      exact h (List.mem_map.mpr ⟨q, List.mem_cons.mpr (Or.inr hq), e⟩)
    rw [dropK_neg fun e => h (List.mem_map.mpr ⟨p, List.mem_cons.mpr (Or.inl rfl), e⟩), dropK_no h']
end
end L2
namespace U2
open PySem L2
inductive U where
  | non | bl (b : Bool) | int (i : Int) | str (x : Str) | tup (us : List U) | lst (us : List U) | ref (a : Addr) | ty (n : String) | dic (ks : List (List Key)) (tk : Bool) (us : List U)
inductive MO where
  | lst (us : List U) | dK (kvs : List (Key × U)) | dT (kvs : List (List Key × U)) | tbl (q : Str)
abbrev MHp := Addr → Option MO
def mup (M : MHp) (a : Addr) (o : MO) : MHp := fun b => if b = a then some o else M b
theorem mup_same {M : MHp} {a : Addr} {o : MO} : mup M a o a = some o := by unfold mup; rw [if_pos rfl]
theorem mup_ne {M : MHp} {a b : Addr} {o : MO} (h : b ≠ a) : mup M a o b = M b := by unfold mup; rw [if_neg h]
theorem mup_mup {M : MHp} {a : Addr} {o u : MO} : mup (mup M a o) a u = mup M a u := by
  funext b; unfold mup; split <;> rfl
def KT (K : PySem.W.Frag) (a : Addr) (xs : List V) : Prop :=
  ∃ (o : Obj) (its : Array Value) (n : Nat), K.lookup a = some o ∧ o.cls = .type "tuple" ∧ o.data = .seq its n ∧ its.size ≤ sizeLine ∧ Vals xs its.toList
def KL (K : PySem.W.Frag) (a : Addr) (xs : List V) : Prop :=
  ∃ (o : Obj) (its : Array Value) (n : Nat), K.lookup a = some o ∧ o.cls = .type "list" ∧ o.dict = none ∧ o.data = .seq its n ∧ its.size ≤ sizeLine ∧ Vals xs its.toList
def DicAt (H : Hp) (a : Addr) (ks : List (List Key)) (tk : Bool) (vs : List V) : Prop := match tk with
  | true => ∃ ws, H a = some (.dT ws) ∧ ks = ws.map (·.1) ∧ vs = ws.map (·.2)
  | false => ∃ ws, H a = some (.dK ws) ∧ ks = ws.map (fun p => [p.1]) ∧ vs = ws.map (·.2)
mutual
def RelU (K : PySem.W.Frag) (H : Hp) (M : MHp) : U → V → Prop
  | .non, v => v = .non
  | .bl b, v => v = .bl b
  | .int i, v => v = .int i
  | .str x, v => v = .str x
  | .ty n, v => v = .ty n
  | .ref a, v => v = .ref a
  | .tup us, v => ∃ a vs, v = .ref a ∧ (M a = none ∧ H a = some (.tup vs)) ∧ RelUs K H M us vs
  | .dic ks tk us, v => ∃ a vs, v = .ref a ∧ M a = none ∧ DicAt H a ks tk vs ∧ RelUs K H M us vs
  | .lst us, v => ∃ a vs, v = .ref a ∧ ((M a = none ∧ Rd H a (.lst vs)) ∨ KL K a vs) ∧ RelUs K H M us vs
def RelUs (K : PySem.W.Frag) (H : Hp) (M : MHp) : List U → List V → Prop
  | [], vs => vs = []
  | u :: us, vs => ∃ v vs', vs = v :: vs' ∧ RelU K H M u v ∧ RelUs K H M us vs'
end
def Stp (H : Hp) (M : MHp) (H1 : Hp) (M1 : MHp) : Prop := ∀ b o, H b = some o → M b = none → H1 b = some o ∧ M1 b = none
theorem Stp.refl (H : Hp) (M : MHp) : Stp H M H M := fun _ _ h m => ⟨h, m⟩
theorem Stp.trans {H H1 H2 : Hp} {M M1 M2 : MHp} (a : Stp H M H1 M1) (b : Stp H1 M1 H2 M2) : Stp H M H2 M2 := fun c o h m => let ⟨h1, m1⟩ := a c o h m; b c o h1 m1
theorem Rd.stp {H H1 : Hp} {M M1 : MHp} {a : Addr} {u : HO} (st : Stp H M H1 M1) (m : M a = none) (h : Rd H a u) : M1 a = none ∧ Rd H1 a u := by
  rcases h with h | ⟨o, h⟩
  · obtain ⟨x, y⟩ := st a _ h m; exact ⟨y, .inl x⟩
  · obtain ⟨x, y⟩ := st a _ h m; exact ⟨y, .inr ⟨o, x⟩⟩
theorem DicAt.stp {H H1 : Hp} {M M1 : MHp} {a : Addr} {ks : List (List Key)} {tk : Bool} {vs : List V} (st : Stp H M H1 M1) (m : M a = none) (h : DicAt H a ks tk vs) : M1 a = none ∧ DicAt H1 a ks tk vs := by
  cases tk with
  | true => obtain ⟨ws, e, r⟩ := h; exact ⟨(st a _ e m).2, ws, (st a _ e m).1, r⟩
  | false => obtain ⟨ws, e, r⟩ := h; exact ⟨(st a _ e m).2, ws, (st a _ e m).1, r⟩
mutual
theorem RelU.stp {K : PySem.W.Frag} {H H1 : Hp} {M M1 : MHp} (st : Stp H M H1 M1) : ∀ {u : U} {v : V}, RelU K H M u v → RelU K H1 M1 u v
  | .non, _, h => by simpa only [RelU] using h
  | .bl _, _, h => by simpa only [RelU] using h
  | .int _, _, h => by simpa only [RelU] using h
  | .str _, _, h => by simpa only [RelU] using h
  | .ty _, _, h => by simpa only [RelU] using h
  | .ref _, _, h => by simpa only [RelU] using h
  | .tup us, _, h => by
    simp only [RelU] at h ⊢
    obtain ⟨a, vs, e, h1, h2⟩ := h
    refine ⟨a, vs, e, ?_, RelUs.stp st h2⟩
    obtain ⟨m, r⟩ := h1
    exact ⟨(st a _ r m).2, (st a _ r m).1⟩
  | .dic ks tk us, _, h => by
    simp only [RelU] at h ⊢
    obtain ⟨a, vs, e, m, h1, h2⟩ := h
    have q := DicAt.stp st m h1
    exact ⟨a, vs, e, q.1, q.2, RelUs.stp st h2⟩
  | .lst us, _, h => by
    simp only [RelU] at h ⊢
    obtain ⟨a, vs, e, h1, h2⟩ := h
    refine ⟨a, vs, e, ?_, RelUs.stp st h2⟩
    rcases h1 with ⟨m, r⟩ | k
    · exact .inl (Rd.stp st m r)
    · exact .inr k
theorem RelUs.stp {K : PySem.W.Frag} {H H1 : Hp} {M M1 : MHp} (st : Stp H M H1 M1) : ∀ {us : List U} {vs : List V}, RelUs K H M us vs → RelUs K H1 M1 us vs
  | [], _, h => by simpa only [RelUs] using h
  | u :: us, _, h => by
    simp only [RelUs] at h ⊢
    obtain ⟨v, vs', e, h1, h2⟩ := h
    exact ⟨v, vs', e, RelU.stp st h1, RelUs.stp st h2⟩
end
theorem Stp.less {H : Hp} {M M1 : MHp} (h : ∀ b, M b = none → M1 b = none) : Stp H M H M1 := fun b o e m => ⟨e, h b m⟩
def RelKv {κ : Type} (K : PySem.W.Frag) (H : Hp) (M : MHp) : List (κ × U) → List (κ × V) → Prop := Paired fun p q => p.1 = q.1 ∧ RelU K H M p.2 q.2
theorem RelKv.stp {κ : Type} {K : PySem.W.Frag} {H H1 : Hp} {M M1 : MHp} (st : Stp H M H1 M1) : ∀ {us : List (κ × U)} {vs : List (κ × V)}, RelKv K H M us vs → RelKv K H1 M1 us vs
  | _, _, .nil => .nil
  | _, _, .cons h t => .cons ⟨h.1, h.2.stp st⟩ (RelKv.stp st t)
def RelMO (K : PySem.W.Frag) (H : Hp) (M : MHp) (a : Addr) : MO → Prop
  | .lst us => ∃ vs, H a = some (.lst vs) ∧ RelUs K H M us vs
  | .dK kvs => ∃ ws, H a = some (.dK ws) ∧ RelKv K H M kvs ws
  | .dT kvs => ∃ ws, H a = some (.dT ws) ∧ RelKv K H M kvs ws
  | .tbl q => (∀ b, M b = some (.tbl q) → b = a) ∧ ∃ ps, H a = some (.tbl ps) ∧ TriplesOk ps.toList ∧ ∀ pos c, codeAmong pos ps.toList = some c → ∃ c' oc vs t, c = .ref c' ∧ H c' = some (.frz oc (.own 0)) ∧ M c' = none ∧ oc.data = .fields vs ∧ vs[1]? = some (.str q t)
def RelM (K : PySem.W.Frag) (H : Hp) (M : MHp) : Prop := ∀ a mo, M a = some mo → RelMO K H M a mo
theorem RelMO.stp {K : PySem.W.Frag} {H H1 : Hp} {M M1 : MHp} {a : Addr} {mo : MO} (hu : ∀ b q, M1 b = some (.tbl q) → M b = some (.tbl q)) (st : Stp H M H1 M1) (e : H1 a = H a) (h : RelMO K H M a mo) : RelMO K H1 M1 a mo := by
  cases mo with
  | lst us => obtain ⟨vs, x, y⟩ := h; exact ⟨vs, e.trans x, y.stp st⟩
  | dK us => obtain ⟨vs, x, y⟩ := h; exact ⟨vs, e.trans x, y.stp st⟩
  | dT us => obtain ⟨vs, x, y⟩ := h; exact ⟨vs, e.trans x, y.stp st⟩
  | tbl q =>
    obtain ⟨un, ps, x, y, z⟩ := h
    refine ⟨fun b hb => un b (hu b q hb), ps, e.trans x, y, fun pos c hc => ?_⟩
    obtain ⟨c', oc, vs, t, h1, h2, h3, h4⟩ := z pos c hc
    exact ⟨c', oc, vs, t, h1, (st c' _ h2 h3).1, (st c' _ h2 h3).2, h4⟩
theorem RelM.ex {K : PySem.W.Frag} {H : Hp} {M : MHp} (r : RelM K H M) {a : Addr} {mo : MO} (h : M a = some mo) : ∃ o, H a = some o := by
  have := r a mo h
  cases mo with
  | lst us => obtain ⟨vs, x, y⟩ := this; exact ⟨_, x⟩
  | dK us => obtain ⟨vs, x, y⟩ := this; exact ⟨_, x⟩
  | dT us => obtain ⟨vs, x, y⟩ := this; exact ⟨_, x⟩
  | tbl q => obtain ⟨_, ps, x, _⟩ := this; exact ⟨_, x⟩
theorem RelM.no {K : PySem.W.Frag} {H : Hp} {M : MHp} (r : RelM K H M) {a : Addr} (h : H a = none) : M a = none := by
  cases e : M a with
  | none => rfl
  | some mo => obtain ⟨o, q⟩ := r.ex e; rw [h] at q; cases q
theorem Stp.laid {K : PySem.W.Frag} {H : Hp} {M : MHp} {p : Addr} {o : HO} (r : RelM K H M) (h : H p = none) : Stp H M (upd H p o) M := fun b u e m => ⟨by rw [upd_ne (ne_of_none e h)]; exact e, m⟩
theorem RelM.laid {K : PySem.W.Frag} {H : Hp} {M : MHp} {p : Addr} {o : HO} (r : RelM K H M) (h : H p = none) : RelM K (upd H p o) M := fun a mo e => by
  obtain ⟨u, q⟩ := r.ex e
  exact (r a mo e).stp (fun _ _ z => z) (Stp.laid r h) (upd_ne (ne_of_none q h))
theorem Stp.own {K : PySem.W.Frag} {H : Hp} {M : MHp} {p : Addr} {o : HO} {mo : MO} (r : RelM K H M) (h : H p = none) : Stp H M (upd H p o) (mup M p mo) := fun b u e m => by
  have n := ne_of_none e h
  exact ⟨by rw [upd_ne n]; exact e, by rw [mup_ne n]; exact m⟩
theorem RelM.put {K : PySem.W.Frag} {H : Hp} {M : MHp} {p : Addr} {o : HO} {mo : MO} (r : RelM K H M) (st : Stp H M (upd H p o) (mup M p mo)) (new : RelMO K (upd H p o) (mup M p mo) p mo) (hm : ∀ q, mo ≠ .tbl q := by intro q z; cases z) : RelM K (upd H p o) (mup M p mo) := fun a m e => by
  by_cases ha : a = p
  · subst ha; rw [mup_same] at e; cases e; exact new
  · rw [mup_ne ha] at e
    refine (r a m e).stp (fun b q z => ?_) st (upd_ne ha)
    by_cases hb : b = p
    · subst hb; rw [mup_same] at z; exact absurd (Option.some.inj z) (hm q)
    · rw [mup_ne hb] at z; exact z
theorem Stp.write {H : Hp} {M : MHp} {p : Addr} {o : HO} {mo m0 : MO} (h : M p = some m0) : Stp H M (upd H p o) (mup M p mo) := fun b u e m => by
  have n : b ≠ p := fun z => by subst z; rw [h] at m; cases m
  exact ⟨by rw [upd_ne n]; exact e, by rw [mup_ne n]; exact m⟩
section
variable {K : PySem.W.Frag} {H : Hp} {M : MHp}
theorem RelUs.nil : RelUs K H M [] [] := by simp only [RelUs]
theorem RelUs.cons {u : U} {v : V} {us : List U} {vs : List V} (h : RelU K H M u v) (t : RelUs K H M us vs) : RelUs K H M (u :: us) (v :: vs) := by simp only [RelUs]; exact ⟨v, vs, rfl, h, t⟩
theorem RelUs.length : ∀ {us : List U} {vs : List V}, RelUs K H M us vs → us.length = vs.length
  | [], _, h => by simp only [RelUs] at h; subst h; rfl
  | u :: us, _, h => by
    simp only [RelUs] at h
    obtain ⟨v, vs', rfl, _, t⟩ := h
    simp [RelUs.length t]
theorem RelUs.inv_cons {u : U} {us : List U} {vs : List V} (h : RelUs K H M (u :: us) vs) : ∃ v vs', vs = v :: vs' ∧ RelU K H M u v ∧ RelUs K H M us vs' := by simpa only [RelUs] using h
theorem RelUs.inv_nil {vs : List V} (h : RelUs K H M [] vs) : vs = [] := by simpa only [RelUs] using h
theorem RelUs.append : ∀ {us ws : List U} {vs zs : List V}, RelUs K H M us vs → RelUs K H M ws zs → RelUs K H M (us ++ ws) (vs ++ zs)
  | [], _, _, _, h, t => by cases h.inv_nil; exact t
  | u :: us, _, _, _, h, t => by
    obtain ⟨v, vs', rfl, a, b⟩ := h.inv_cons
    exact .cons a (RelUs.append b t)
theorem RelUs.get : ∀ {us : List U} {vs : List V} {i : Nat} {u : U}, RelUs K H M us vs → us[i]? = some u → ∃ v, vs[i]? = some v ∧ RelU K H M u v
  | [], _, _, _, _, e => by simp at e
  | u :: us, _, 0, _, h, e => by
    obtain ⟨v, vs', rfl, a, b⟩ := h.inv_cons
    simp at e; subst e; exact ⟨v, rfl, a⟩
  | u :: us, _, i + 1, _, h, e => by
    obtain ⟨v, vs', rfl, a, b⟩ := h.inv_cons
    simp at e
    obtain ⟨w, x, y⟩ := RelUs.get b e
    exact ⟨w, by simpa using x, y⟩
theorem RelUs.drop : ∀ {us : List U} {vs : List V} (n : Nat), RelUs K H M us vs → RelUs K H M (us.drop n) (vs.drop n)
  | _, _, 0, h => h
  | [], _, _ + 1, h => by cases h.inv_nil; exact .nil
  | u :: us, _, n + 1, h => by
    obtain ⟨v, vs', rfl, a, b⟩ := h.inv_cons
    exact RelUs.drop n b
theorem RelUs.take : ∀ {us : List U} {vs : List V} (n : Nat), RelUs K H M us vs → RelUs K H M (us.take n) (vs.take n)
  | _, _, 0, _ => by simp only [List.take_zero]; exact .nil
  | [], _, _ + 1, h => by cases h.inv_nil; exact .nil
  | u :: us, _, n + 1, h => by
    obtain ⟨v, vs', rfl, a, b⟩ := h.inv_cons
    exact .cons a (RelUs.take n b)
theorem RelUs.dropLast {us : List U} {vs : List V} (h : RelUs K H M us vs) : RelUs K H M us.dropLast vs.dropLast := by
  rw [List.dropLast_eq_take, List.dropLast_eq_take, h.length]; exact h.take _
end
abbrev SU := List (Option U)
abbrev UK := U → MHp → Prop
abbrev UE := SU → MHp → UK → Prop
abbrev UT := SU → MHp → (Bool → MHp → Prop) → Prop
abbrev UA := SU → MHp → (List U → MHp → Prop) → Prop
structure UEnds where
  nx : SU → MHp → Prop
  rt : UK
  bk : SU → MHp → Prop := fun _ _ => False
  ct : SU → MHp → Prop := fun _ _ => False
abbrev US := UEnds → SU → MHp → Prop
def RelS (K : PySem.W.Frag) (H : Hp) (M : MHp) (σ : St) (τ : SU) : Prop := τ.length = σ.length ∧ ∀ (i : Nat) u, τ[i]? = some (some u) → ∃ v, σ[i]? = some (some v) ∧ RelU K H M u v
theorem RelS.stp {K : PySem.W.Frag} {H H1 : Hp} {M M1 : MHp} {σ : St} {τ : SU} (st : Stp H M H1 M1) (r : RelS K H M σ τ) : RelS K H1 M1 σ τ := ⟨r.1, fun i u e => let ⟨v, a, b⟩ := r.2 i u e; ⟨v, a, b.stp st⟩⟩
theorem RelS.set {K : PySem.W.Frag} {H : Hp} {M : MHp} {σ : St} {τ : SU} {i : Nat} {u : U} {v : V} (r : RelS K H M σ τ) (h : RelU K H M u v) : RelS K H M (σ.set i (some v)) (τ.set i (some u)) := by
  refine ⟨by simp [r.1], fun j w e => ?_⟩
  rw [List.getElem?_set] at e ⊢
  split at e
  · rename_i hij
    subst hij
    split at e
    · rename_i hl
      cases e
      rw [if_pos rfl, if_pos (by rw [← r.1]; exact hl)]
      exact ⟨v, rfl, h⟩
    · cases e
  · rename_i hij
    rw [if_neg hij]
    exact r.2 j w e
def SimE (K : PySem.W.Frag) (t : TE) (t' : UE) : Prop := ∀ (σ : St) (τ : SU) (H : Hp) (M : MHp) (Q' : UK), RelS K H M σ τ → RelM K H M → t' τ M Q' →
  ∀ Q : VK, (∀ u v M1 H1, Stp H M H1 M1 → RelM K H1 M1 → RelU K H1 M1 u v → Q' u M1 → Q v H1) → t σ H Q
def SimT (K : PySem.W.Frag) (t : TT) (t' : UT) : Prop := ∀ (σ : St) (τ : SU) (H : Hp) (M : MHp) (Q' : Bool → MHp → Prop), RelS K H M σ τ → RelM K H M → t' τ M Q' →
  ∀ Q : Bool → Hp → Prop, (∀ b M1 H1, Stp H M H1 M1 → RelM K H1 M1 → Q' b M1 → Q b H1) → t σ H Q
def SimA (K : PySem.W.Frag) (t : TA) (t' : UA) : Prop := ∀ (σ : St) (τ : SU) (H : Hp) (M : MHp) (Q' : List U → MHp → Prop), RelS K H M σ τ → RelM K H M → t' τ M Q' →
  ∀ Q : List V → Hp → Prop, (∀ us vs M1 H1, Stp H M H1 M1 → RelM K H1 M1 → RelUs K H1 M1 us vs → Q' us M1 → Q vs H1) → t σ H Q
structure SimD (K : PySem.W.Frag) (H : Hp) (M : MHp) (D : Ends) (D' : UEnds) : Prop where
  nx : ∀ σ τ H1 M1, Stp H M H1 M1 → RelM K H1 M1 → RelS K H1 M1 σ τ → D'.nx τ M1 → D.nx σ H1
  rt : ∀ u v H1 M1, Stp H M H1 M1 → RelM K H1 M1 → RelU K H1 M1 u v → D'.rt u M1 → D.rt v H1
  bk : ∀ σ τ H1 M1, Stp H M H1 M1 → RelM K H1 M1 → RelS K H1 M1 σ τ → D'.bk τ M1 → D.bk σ H1
  ct : ∀ σ τ H1 M1, Stp H M H1 M1 → RelM K H1 M1 → RelS K H1 M1 σ τ → D'.ct τ M1 → D.ct σ H1
theorem SimD.stp {K : PySem.W.Frag} {H H1 : Hp} {M M1 : MHp} {D : Ends} {D' : UEnds} (d : SimD K H M D D') (st : Stp H M H1 M1) : SimD K H1 M1 D D' :=
  ⟨fun σ τ H2 M2 s => d.nx σ τ H2 M2 (st.trans s), fun u v H2 M2 s => d.rt u v H2 M2 (st.trans s), fun σ τ H2 M2 s => d.bk σ τ H2 M2 (st.trans s), fun σ τ H2 M2 s => d.ct σ τ H2 M2 (st.trans s)⟩
def SimS (K : PySem.W.Frag) (t : TS) (t' : US) : Prop := ∀ (σ : St) (τ : SU) (H : Hp) (M : MHp) (D' : UEnds), RelS K H M σ τ → RelM K H M → t' D' τ M → ∀ D : Ends, SimD K H M D D' → t D σ H
end U2
namespace U2
open PySem L2
abbrev UR2 := U → U → MHp → UK → Prop
def Cont (K : PySem.W.Frag) (H : Hp) (M : MHp) (Q' : UK) (Q : VK) : Prop := ∀ u v M1 H1, Stp H M H1 M1 → RelM K H1 M1 → RelU K H1 M1 u v → Q' u M1 → Q v H1
theorem Cont.stp {K : PySem.W.Frag} {H H1 : Hp} {M M1 : MHp} {Q' : UK} {Q : VK} (c : Cont K H M Q' Q) (st : Stp H M H1 M1) : Cont K H1 M1 Q' Q := fun u v M2 H2 s => c u v M2 H2 (st.trans s)
theorem Cont.here {K : PySem.W.Frag} {H : Hp} {M : MHp} {Q' : UK} {Q : VK} {u : U} {v : V} (c : Cont K H M Q' Q) (rm : RelM K H M) (r : RelU K H M u v) (q : Q' u M) : Q v H := c u v M H (Stp.refl H M) rm r q
def SimR2 (K : PySem.W.Frag) (r : R2) (r' : UR2) : Prop := ∀ (x y : V) (u w : U) (H : Hp) (M : MHp) (Q' : UK), RelM K H M → RelU K H M u x → RelU K H M w y → r' u w M Q' → ∀ Q : VK, Cont K H M Q' Q → r x y H Q
def SimU1 (K : PySem.W.Frag) (r : V → Hp → VK → Prop) (r' : U → MHp → UK → Prop) : Prop := ∀ (x : V) (u : U) (H : Hp) (M : MHp) (Q' : UK), RelM K H M → RelU K H M u x → r' u M Q' → ∀ Q : VK, Cont K H M Q' Q → r x H Q
def SimCl (K : PySem.W.Frag) (r : List V → Hp → VK → Prop) (r' : List U → MHp → UK → Prop) : Prop := ∀ (xs : List V) (us : List U) (H : Hp) (M : MHp) (Q' : UK), RelM K H M → RelUs K H M us xs → r' us M Q' → ∀ Q : VK, Cont K H M Q' Q → r xs H Q
def SimMt (K : PySem.W.Frag) (r : V → List V → Hp → VK → Prop) (r' : U → List U → MHp → UK → Prop) : Prop := ∀ (x : V) (xs : List V) (u : U) (us : List U) (H : Hp) (M : MHp) (Q' : UK), RelM K H M → RelU K H M u x → RelUs K H M us xs → r' u us M Q' → ∀ Q : VK, Cont K H M Q' Q → r x xs H Q
section
variable {K : PySem.W.Frag} {H : Hp} {M : MHp} {v : V}
theorem RelU.non (h : RelU K H M .non v) : v = .non := by simpa only [RelU] using h
theorem RelU.bl {b : Bool} (h : RelU K H M (.bl b) v) : v = .bl b := by simpa only [RelU] using h
theorem RelU.int {i : Int} (h : RelU K H M (.int i) v) : v = .int i := by simpa only [RelU] using h
theorem RelU.str {x : Str} (h : RelU K H M (.str x) v) : v = .str x := by simpa only [RelU] using h
theorem RelU.ty {n : String} (h : RelU K H M (.ty n) v) : v = .ty n := by simpa only [RelU] using h
theorem RelU.ref {a : Addr} (h : RelU K H M (.ref a) v) : v = .ref a := by simpa only [RelU] using h
theorem RelU.tup {us : List U} (h : RelU K H M (.tup us) v) : ∃ a vs, v = .ref a ∧ SqT K H a vs ∧ RelUs K H M us vs := by
  simp only [RelU] at h
  obtain ⟨a, vs, e, h1, h2⟩ := h
  refine ⟨a, vs, e, ?_, h2⟩
  exact .inl (.inl h1.2)
theorem RelU.lst {us : List U} (h : RelU K H M (.lst us) v) : ∃ a vs, v = .ref a ∧ SqL K H a vs ∧ RelUs K H M us vs := by
  simp only [RelU] at h
  obtain ⟨a, vs, e, h1, h2⟩ := h
  refine ⟨a, vs, e, ?_, h2⟩
  rcases h1 with ⟨_, r⟩ | k
  · exact .inl r
  · exact .inr k
theorem relU_non : RelU K H M .non .non := by simp only [RelU]
theorem relU_bl {b : Bool} : RelU K H M (.bl b) (.bl b) := by simp only [RelU]
theorem relU_int {i : Int} : RelU K H M (.int i) (.int i) := by simp only [RelU]
theorem relU_str {x : Str} : RelU K H M (.str x) (.str x) := by simp only [RelU]
theorem relU_ty {n : String} : RelU K H M (.ty n) (.ty n) := by simp only [RelU]
theorem relU_ref {a : Addr} : RelU K H M (.ref a) (.ref a) := by simp only [RelU]
theorem relU_tup {a : Addr} {us : List U} {vs : List V} (m : M a = none) (h : H a = some (.tup vs)) (r : RelUs K H M us vs) : RelU K H M (.tup us) (.ref a) := by
  simp only [RelU]; exact ⟨a, vs, rfl, ⟨m, h⟩, r⟩
theorem relU_lst {a : Addr} {us : List U} {vs : List V} (m : M a = none) (h : H a = some (.lst vs)) (r : RelUs K H M us vs) : RelU K H M (.lst us) (.ref a) := by
  simp only [RelU]; exact ⟨a, vs, rfl, .inl ⟨m, .inl h⟩, r⟩
theorem Cont.tup {Q' : UK} {Q : VK} {us : List U} {vs : List V} {p : Addr} (c : Cont K H M Q' Q) (rm : RelM K H M) (r : RelUs K H M us vs) (hp : H p = none) (q : Q' (.tup us) M) : Q (.ref p) (upd H p (.tup vs)) :=
  c _ _ M _ (Stp.laid rm hp) (rm.laid hp) (relU_tup (rm.no hp) upd_same (r.stp (Stp.laid rm hp))) q
def mkL (o : Bool) (us : List U) (M : MHp) (Q : UK) : Prop := match o with
  | true => ∀ p, M p = none → Q (.ref p) (mup M p (.lst us))
  | false => Q (.lst us) M
theorem Cont.lst {o : Bool} {Q' : UK} {Q : VK} {us : List U} {vs : List V} {p : Addr} (c : Cont K H M Q' Q) (rm : RelM K H M) (r : RelUs K H M us vs) (hp : H p = none) (q : mkL o us M Q') : Q (.ref p) (upd H p (.lst vs)) := by
  cases o with
  | false => exact c _ _ M _ (Stp.laid rm hp) (rm.laid hp) (relU_lst (rm.no hp) upd_same (r.stp (Stp.laid rm hp))) q
  | true =>
    have st : Stp H M (upd H p (.lst vs)) (mup M p (.lst us)) := Stp.own rm hp
    exact c (.ref p) _ _ _ st (rm.put st ⟨vs, upd_same, r.stp st⟩) relU_ref (q p (rm.no hp))
end
def view (M : MHp) : U → U
  | .ref a => match M a with
    | some (.lst us) => .lst us
    | _ => .ref a
  | u => u
theorem view_ref {M : MHp} {a : Addr} {us : List U} (h : M a = some (.lst us)) : view M (.ref a) = .lst us := by simp only [view, h]
theorem view_lst {K : PySem.W.Frag} {H : Hp} {M : MHp} {u : U} {v : V} {us : List U} (rm : RelM K H M) (r : RelU K H M u v) (h : view M u = .lst us) : ∃ a vs, v = .ref a ∧ SqL K H a vs ∧ RelUs K H M us vs := by
  cases u with
  | lst ws => simp only [view] at h; cases h; exact r.lst
  | ref a =>
    simp only [view] at h
    split at h
    · rename_i ws e
      cases h
      obtain ⟨vs, h1, h2⟩ := rm a _ e
      exact ⟨a, vs, r.ref, .inl (.inl h1), h2⟩
    · cases h
  | _ => simp [view] at h
section
variable {K : PySem.W.Frag} {t ta tb tc : TE} {t' ta' tb' tc' : UE}
def uVar (i : Nat) : UE := fun τ M Q => match τ[i]? with
  | some (some u) => Q u M
  | _ => False
theorem sim_var (i : Nat) : SimE K (tVar i) (uVar i) := fun σ τ H M Q' rs rm h Q c => by
  unfold uVar at h
  split at h
  · rename_i u e
    obtain ⟨v, e2, r⟩ := rs.2 i u e
    exact ⟨v, e2, c u v M H (Stp.refl _ _) rm r h⟩
  · exact h.elim
def uC (u : U) : UE := fun _ M Q => Q u M
theorem sim_c {u : U} {v : V} (h : ∀ H M, RelU K H M u v) : SimE K (tC v) (uC u) := fun σ τ H M Q' rs rm q Q c => c u v M H (Stp.refl _ _) rm (h H M) q
theorem sim_int {i : Int} : SimE K (tC (.int i)) (uC (.int i)) := sim_c fun _ _ => relU_int
theorem sim_bl {i : Bool} : SimE K (tC (.bl i)) (uC (.bl i)) := sim_c fun _ _ => relU_bl
theorem sim_str {i : Str} : SimE K (tC (.str i)) (uC (.str i)) := sim_c fun _ _ => relU_str
theorem sim_non : SimE K (tC .non) (uC .non) := sim_c fun _ _ => relU_non
theorem sim_ty {n : String} : SimE K (tC (.ty n)) (uC (.ty n)) := sim_c fun _ _ => relU_ty
theorem sim_ref {a : Addr} : SimE K (tC (.ref a)) (uC (.ref a)) := sim_c fun _ _ => relU_ref
def uOp (r : UR2) (ta tb : UE) : UE := fun τ M Q => ta τ M fun x M1 => tb τ M1 fun y M2 => r x y M2 Q
theorem sim_op {r : R2} {r' : UR2} (hr : SimR2 K r r') (ha : SimE K ta ta') (hb : SimE K tb tb') : SimE K (tOp r ta tb) (uOp r' ta' tb') := fun σ τ H M Q' rs rm h Q c =>
  ha σ τ H M _ rs rm h _ fun u v M1 H1 s1 rm1 ru h1 => hb σ τ H1 M1 _ (rs.stp s1) rm1 h1 _ fun w x M2 H2 s2 rm2 rw h2 => hr v x u w H2 M2 Q' rm2 (ru.stp s2) rw h2 Q (Cont.stp c (s1.trans s2))
def uUn (r : U → MHp → UK → Prop) (ta : UE) : UE := fun τ M Q => ta τ M fun x M1 => r x M1 Q
theorem sim_un {r : V → Hp → VK → Prop} {r' : U → MHp → UK → Prop} (hr : SimU1 K r r') (ha : SimE K ta ta') : SimE K (tUn r ta) (uUn r' ta') := fun σ τ H M Q' rs rm h Q c =>
  ha σ τ H M _ rs rm h _ fun u v M1 H1 s1 rm1 ru h1 => hr v u H1 M1 Q' rm1 ru h1 Q (Cont.stp c s1)
def uTest (t : UE) : UT := fun τ M Q => t τ M fun u M1 => match u with
  | .bl b => Q b M1
  | _ => False
theorem sim_test (h : SimE K t t') : SimT K (tTest t) (uTest t') := fun σ τ H M Q' rs rm q Q c => h σ τ H M _ rs rm q _ fun u v M1 H1 s1 rm1 ru h1 => by
  cases u with
  | bl b => exact ⟨b, ru.bl, c b M1 H1 s1 rm1 h1⟩
  | _ => exact h1.elim
def uTru (t : UE) : UT := fun τ M Q => t τ M fun u M1 => match view M1 u with
  | .non => Q false M1
  | .bl b => Q b M1
  | .int i => Q (i != 0) M1
  | .str x => x.length ≤ sizeLine ∧ Q ((x.length : Int) != 0) M1
  | .tup us => Q (!us.isEmpty) M1
  | .lst us => Q (!us.isEmpty) M1
  | _ => False
theorem isEmpty_rel {H : Hp} {M : MHp} {us : List U} {vs : List V} (r : RelUs K H M us vs) : us.isEmpty = vs.isEmpty := by
  have := r.length
  cases us <;> cases vs <;> simp_all
theorem sim_tru (h : SimE K t t') : SimT K (fun σ H Q => t σ H fun x H' => ∃ k, TruV K x H' k ∧ Q k H') (uTru t') := fun σ τ H M Q' rs rm q Q c => h σ τ H M _ rs rm q _ fun u v M1 H1 s1 rm1 ru h1 => by
  split at h1
  · rename_i e
    cases u with
    | non => exact ⟨false, by rw [ru.non]; rfl, c _ M1 H1 s1 rm1 h1⟩
    | ref a => simp only [view] at e; split at e <;> cases e
    | _ => simp [view] at e
  · rename_i b e
    cases u with
    | bl b' => simp only [view] at e; cases e; exact ⟨b, by rw [ru.bl]; rfl, c _ M1 H1 s1 rm1 h1⟩
    | ref a => simp only [view] at e; split at e <;> cases e
    | _ => simp [view] at e
  · rename_i b e
    cases u with
    | int b' => simp only [view] at e; cases e; exact ⟨b != 0, by rw [ru.int]; rfl, c _ M1 H1 s1 rm1 h1⟩
    | ref a => simp only [view] at e; split at e <;> cases e
    | _ => simp [view] at e
  · rename_i b e
    cases u with
    | str b' => simp only [view] at e; cases e; exact ⟨(b.length : Int) != 0, by rw [ru.str]; exact ⟨h1.1, rfl⟩, c _ M1 H1 s1 rm1 h1.2⟩
    | ref a => simp only [view] at e; split at e <;> cases e
    | _ => simp [view] at e
  · rename_i us e
    cases u with
    | tup us' =>
      simp only [view] at e; cases e
      obtain ⟨a, vs, rfl, r1, r2⟩ := ru.tup
      exact ⟨!vs.isEmpty, .inr (.inl ⟨vs, r1, rfl⟩), c _ M1 H1 s1 rm1 (by rw [← isEmpty_rel r2]; exact h1)⟩
    | ref a => simp only [view] at e; split at e <;> cases e
    | _ => simp [view] at e
  · rename_i us e
    obtain ⟨a, vs, rfl, r1, r2⟩ := view_lst rm1 ru e
    exact ⟨!vs.isEmpty, .inl ⟨vs, r1, rfl⟩, c _ M1 H1 s1 rm1 (by rw [← isEmpty_rel r2]; exact h1)⟩
  · exact h1.elim
def uAnd (t u : UT) : UT := fun τ M Q => t τ M fun c M1 => if c = true then u τ M1 Q else Q false M1
def uOr (t u : UT) : UT := fun τ M Q => t τ M fun c M1 => if c = true then Q true M1 else u τ M1 Q
def uNot (t : UT) : UT := fun τ M Q => t τ M fun c M1 => Q (!c) M1
theorem sim_and {t u : TT} {t' u' : UT} (h : SimT K t t') (k : SimT K u u') : SimT K (tAnd t u) (uAnd t' u') := fun σ τ H M Q' rs rm q Q c => h σ τ H M _ rs rm q _ fun b M1 H1 s1 rm1 h1 => by
  cases b with
  | true => exact k σ τ H1 M1 Q' (rs.stp s1) rm1 h1 Q fun b M2 H2 s2 => c b M2 H2 (s1.trans s2)
  | false => exact c _ M1 H1 s1 rm1 h1
theorem sim_or {t u : TT} {t' u' : UT} (h : SimT K t t') (k : SimT K u u') : SimT K (tOr t u) (uOr t' u') := fun σ τ H M Q' rs rm q Q c => h σ τ H M _ rs rm q _ fun b M1 H1 s1 rm1 h1 => by
  cases b with
  | false => exact k σ τ H1 M1 Q' (rs.stp s1) rm1 h1 Q fun b M2 H2 s2 => c b M2 H2 (s1.trans s2)
  | true => exact c _ M1 H1 s1 rm1 h1
theorem sim_not {t : TT} {t' : UT} (h : SimT K t t') : SimT K (tNot t) (uNot t') := fun σ τ H M Q' rs rm q Q c => h σ τ H M _ rs rm q _ fun b M1 H1 s1 rm1 h1 => c _ M1 H1 s1 rm1 h1
def uAndV (ta tb : UE) : UE := fun τ M Q => ta τ M fun x M1 => match x with
  | .bl c => if c = true then tb τ M1 Q else Q (.bl false) M1
  | _ => False
def uOrV (ta tb : UE) : UE := fun τ M Q => ta τ M fun x M1 => match x with
  | .bl c => if c = true then Q (.bl true) M1 else tb τ M1 Q
  | _ => False
def uNotV (ta : UE) : UE := fun τ M Q => ta τ M fun x M1 => match x with
  | .bl c => Q (.bl (!c)) M1
  | _ => False
theorem sim_andV (h : SimE K ta ta') (k : SimE K tb tb') : SimE K (tAndV ta tb) (uAndV ta' tb') := fun σ τ H M Q' rs rm q Q c => h σ τ H M _ rs rm q _ fun u v M1 H1 s1 rm1 ru h1 => by
  cases u with
  | bl b =>
    refine ⟨b, ru.bl, ?_⟩
    cases b with
    | true => exact k σ τ H1 M1 Q' (rs.stp s1) rm1 h1 Q (Cont.stp c s1)
    | false => exact c _ _ M1 H1 s1 rm1 relU_bl h1
  | _ => exact h1.elim
theorem sim_notV (h : SimE K ta ta') : SimE K (tNotV ta) (uNotV ta') := fun σ τ H M Q' rs rm q Q c => h σ τ H M _ rs rm q _ fun u v M1 H1 s1 rm1 ru h1 => by
  cases u with
  | bl b => exact ⟨b, ru.bl, c _ _ M1 H1 s1 rm1 relU_bl h1⟩
  | _ => exact h1.elim
def uIf (t : UT) (ta tb : UE) : UE := fun τ M Q => t τ M fun c M1 => if c = true then ta τ M1 Q else tb τ M1 Q
theorem sim_if {t : TT} {t' : UT} (h : SimT K t t') (k : SimE K ta ta') (l : SimE K tb tb') : SimE K (tIf t ta tb) (uIf t' ta' tb') := fun σ τ H M Q' rs rm q Q c => h σ τ H M _ rs rm q _ fun b M1 H1 s1 rm1 h1 => by
  cases b with
  | true => exact k σ τ H1 M1 Q' (rs.stp s1) rm1 h1 Q (Cont.stp c s1)
  | false => exact l σ τ H1 M1 Q' (rs.stp s1) rm1 h1 Q (Cont.stp c s1)
def uChain (r r' : UR2) (ta tb tc : UE) : UE := fun τ M Q => ta τ M fun x M1 => tb τ M1 fun y M2 => r x y M2 fun z M3 => match z with
  | .bl k => if k = true then tc τ M3 fun w M4 => r' y w M4 Q else Q (.bl false) M3
  | _ => False
theorem sim_chain {r r' : R2} {s s' : UR2} (hr : SimR2 K r s) (hr' : SimR2 K r' s') (ha : SimE K ta ta') (hb : SimE K tb tb') (hc : SimE K tc tc') : SimE K (tChain r r' ta tb tc) (uChain s s' ta' tb' tc') := fun σ τ H M Q' rs rm h Q c =>
  ha σ τ H M _ rs rm h _ fun u v M1 H1 s1 rm1 ru h1 => hb σ τ H1 M1 _ (rs.stp s1) rm1 h1 _ fun w x M2 H2 s2 rm2 rw h2 =>
    hr v x u w H2 M2 _ rm2 (ru.stp s2) rw h2 _ fun z zv M3 H3 s3 rm3 rz h3 => by
      cases z with
      | bl k =>
        refine ⟨k, rz.bl, ?_⟩
        cases k with
        | true => exact hc σ τ H3 M3 _ ((rs.stp s1).stp (s2.trans s3)) rm3 h3 _ fun w2 x2 M4 H4 s4 rm4 rw4 h4 => hr' x x2 w w2 H4 M4 Q' rm4 (rw.stp (s3.trans s4)) rw4 h4 Q (Cont.stp c (((s1.trans s2).trans s3).trans s4))
        | false => exact c _ _ M3 H3 ((s1.trans s2).trans s3) rm3 relU_bl h3
      | _ => exact h3.elim
def uNil : UA := fun _ M Q => Q [] M
def uCons (ta : UE) (tr : UA) : UA := fun τ M Q => ta τ M fun x M1 => tr τ M1 fun xs M2 => Q (x :: xs) M2
theorem sim_nil : SimA K tNil uNil := fun σ τ H M Q' rs rm q Q c => c [] [] M H (Stp.refl _ _) rm .nil q
theorem sim_cons {tr : TA} {tr' : UA} (ha : SimE K ta ta') (hr : SimA K tr tr') : SimA K (tCons ta tr) (uCons ta' tr') := fun σ τ H M Q' rs rm h Q c =>
  ha σ τ H M _ rs rm h _ fun u v M1 H1 s1 rm1 ru h1 => hr σ τ H1 M1 _ (rs.stp s1) rm1 h1 _ fun us vs M2 H2 s2 rm2 rus h2 => c (u :: us) (v :: vs) M2 H2 (s1.trans s2) rm2 (.cons (ru.stp s2) rus) h2
def uTup (t : UA) : UE := fun τ M Q => t τ M fun us M1 => us.length ≤ sizeLine ∧ Q (.tup us) M1
def uLst (o : Bool) (t : UA) : UE := fun τ M Q => t τ M fun us M1 => us.length ≤ sizeLine ∧ mkL o us M1 Q
theorem sim_tup {t : TA} {t' : UA} (h : SimA K t t') : SimE K (tTup t) (uTup t') := fun σ τ H M Q' rs rm q Q c =>
  h σ τ H M _ rs rm q _ fun us vs M1 H1 s1 rm1 r h1 => ⟨by rw [← r.length]; exact h1.1, fun p hp => (Cont.stp c s1).tup rm1 r hp h1.2⟩
theorem sim_lst {o : Bool} {t : TA} {t' : UA} (h : SimA K t t') : SimE K (tLst t) (uLst o t') := fun σ τ H M Q' rs rm q Q c =>
  h σ τ H M _ rs rm q _ fun us vs M1 H1 s1 rm1 r h1 => ⟨by rw [← r.length]; exact h1.1, fun p hp => (Cont.stp c s1).lst rm1 r hp h1.2⟩
def uCB (r : List U → MHp → UK → Prop) (t : UA) : UE := fun τ M Q => t τ M fun us M1 => r us M1 Q
theorem sim_cb {r : List V → Hp → VK → Prop} {r' : List U → MHp → UK → Prop} {t : TA} {t' : UA} (hr : SimCl K r r') (h : SimA K t t') : SimE K (tCB r t) (uCB r' t') := fun σ τ H M Q' rs rm q Q c =>
  h σ τ H M _ rs rm q _ fun us vs M1 H1 s1 rm1 ru h1 => hr vs us H1 M1 Q' rm1 ru h1 Q (Cont.stp c s1)
end
end U2
namespace U2
open PySem L2
section
variable {K : PySem.W.Frag}
def uI0 (g : Int → Int → U) : UR2 := fun x y M Q => match x, y with
  | .int i, .int j => Q (g i j) M
  | _, _ => False
def uI (C : Int → Int → Prop) (g : Int → Int → U) : UR2 := fun x y M Q => match x, y with
  | .int i, .int j => C i j ∧ Q (g i j) M
  | _, _ => False
theorem sim_I0 {g : Int → Int → V} {g' : Int → Int → U} (hg : ∀ H M i j, RelU K H M (g' i j) (g i j)) : SimR2 K (rI0 g) (uI0 g') := fun x y u w H M Q' rm ru rw h Q c => by
  cases u with
  | int i => cases w with
    | int j => exact ⟨i, j, ru.int, rw.int, c _ _ M H (Stp.refl _ _) rm (hg H M i j) h⟩
    | _ => exact h.elim
  | _ => exact h.elim
theorem sim_I {C : Int → Int → Prop} {g : Int → Int → V} {g' : Int → Int → U} (hg : ∀ H M i j, RelU K H M (g' i j) (g i j)) : SimR2 K (rI C g) (uI C g') := fun x y u w H M Q' rm ru rw h Q c => by
  cases u with
  | int i => cases w with
    | int j => exact ⟨i, j, ru.int, rw.int, h.1, c _ _ M H (Stp.refl _ _) rm (hg H M i j) h.2⟩
    | _ => exact h.elim
  | _ => exact h.elim
theorem sim_int2 {f : Int → Int → Int} : SimR2 K (rI0 fun i j => .int (f i j)) (uI0 fun i j => .int (f i j)) := sim_I0 fun _ _ _ _ => relU_int
theorem sim_bool2 {f : Int → Int → Bool} : SimR2 K (rI0 fun i j => .bl (f i j)) (uI0 fun i j => .bl (f i j)) := sim_I0 fun _ _ _ _ => relU_bl
theorem sim_int2c {C : Int → Int → Prop} {f : Int → Int → Int} : SimR2 K (rI C fun i j => .int (f i j)) (uI C fun i j => .int (f i j)) := sim_I fun _ _ _ _ => relU_int
def uAddS : UR2 := fun x y M Q => match x, y with
  | .str i, .str j => i.length + j.length ≤ sizeLine ∧ Q (.str (i ++ j)) M
  | _, _ => False
theorem sim_addS : SimR2 K (fun x y H Q => ∃ i j, x = .str i ∧ y = .str j ∧ i.length + j.length ≤ sizeLine ∧ Q (.str (i ++ j)) H) uAddS := fun x y u w H M Q' rm ru rw h Q c => by
  cases u with
  | str i => cases w with
    | str j => exact ⟨i, j, ru.str, rw.str, h.1, c _ _ M H (Stp.refl _ _) rm relU_str h.2⟩
    | _ => exact h.elim
  | _ => exact h.elim
def rCatTA (K : PySem.W.Frag) : R2 := fun x y H Q => ∃ a b xs ys, x = .ref a ∧ y = .ref b ∧ SqT K H a xs ∧ SqT K H b ys ∧ xs.length + ys.length ≤ sizeLine ∧
  (xs = [] → Q (.ref b) H) ∧ (xs ≠ [] → ys = [] → Q (.ref a) H) ∧ (xs ≠ [] → ys ≠ [] → ∀ p, H p = none → Q (.ref p) (upd H p (.tup (xs ++ ys))))
def uAddT : UR2 := fun x y M Q => match x, y with
  | .tup us, .tup ws => us.length + ws.length ≤ sizeLine ∧ Q (.tup (us ++ ws)) M
  | _, _ => False
theorem sim_addT : SimR2 K (rCatTA K) uAddT := fun x y u w H M Q' rm ru rw h Q c => by
  cases u with
  | tup us => cases w with
    | tup ws =>
      obtain ⟨h2, h3⟩ := h
      obtain ⟨a, xs, rfl, s1, r1⟩ := ru.tup
      obtain ⟨b, ys, rfl, s2, r2⟩ := rw.tup
      refine ⟨a, b, xs, ys, rfl, rfl, s1, s2, by rw [← r1.length, ← r2.length]; exact h2, fun e => ?_, fun _ e => ?_, fun _ _ p hp => c.tup rm (r1.append r2) hp h3⟩
      · subst e
        have e2 : us = [] := List.length_eq_zero_iff.mp r1.length
        subst e2
        exact c _ _ M H (Stp.refl _ _) rm rw h3
      · subst e
        have e2 : ws = [] := List.length_eq_zero_iff.mp r2.length
        subst e2
        exact c _ _ M H (Stp.refl _ _) rm ru (by rw [List.append_nil] at h3; exact h3)
    | _ => exact h.elim
  | _ => exact h.elim
def uAddL (o : Bool) : UR2 := fun x y M Q => match view M x, view M y with
  | .lst us, .lst ws => us.length + ws.length ≤ sizeLine ∧ mkL o (us ++ ws) M Q
  | _, _ => False
def rCatL (K : PySem.W.Frag) : R2 := fun x y H Q => ∃ l b xs zs, x = .ref l ∧ y = .ref b ∧ SqL K H l xs ∧ SqL K H b zs ∧ xs.length + zs.length ≤ sizeLine ∧ ∀ p, H p = none → Q (.ref p) (upd H p (.lst (xs ++ zs)))
theorem sim_addL {o : Bool} : SimR2 K (rCatL K) (uAddL o) := fun x y u w H M Q' rm ru rw h Q c => by
  unfold uAddL at h
  split at h
  · rename_i us ws e1 e2
    obtain ⟨a, xs, rfl, s1, r1⟩ := view_lst rm ru e1
    obtain ⟨b, ys, rfl, s2, r2⟩ := view_lst rm rw e2
    exact ⟨a, b, xs, ys, rfl, rfl, s1, s2, by rw [← r1.length, ← r2.length]; exact h.1, fun p hp => c.lst rm (r1.append r2) hp h.2⟩
  · exact h.elim
theorem atI_rel {H : Hp} {M : MHp} {us : List U} {vs : List V} {i : Int} {u : U} (r : RelUs K H M us vs) (h : atI us i = some u) : ∃ v, atI vs i = some v ∧ RelU K H M u v := by
  unfold atI at h ⊢
  rw [← r.length]
  cases e : ixN us.length i with
  | none => rw [e] at h; cases h
  | some j => rw [e] at h; exact r.get h
def uIx : UR2 := fun x y M Q => match view M x, y with
  | .lst us, .int i => ∃ u, atI us i = some u ∧ Q u M
  | .tup us, .int i => ∃ u, atI us i = some u ∧ Q u M
  | .str z, .int i => z.length ≤ sizeLine ∧ ∃ c, atI z.cps.toList i = some c ∧ Q (.str ⟨#[c]⟩) M
  | _, _ => False
theorem view_tup {M : MHp} {u : U} {us : List U} (h : view M u = .tup us) : u = .tup us := by
  cases u with
  | ref a => simp only [view] at h; split at h <;> cases h
  | _ => simpa [view] using h
theorem view_str {M : MHp} {u : U} {x : Str} (h : view M u = .str x) : u = .str x := by
  cases u with
  | ref a => simp only [view] at h; split at h <;> cases h
  | _ => simpa [view] using h
theorem sim_ix : SimR2 K (rIx K) uIx := fun x y u w H M Q' rm ru rw h Q c => by
  unfold uIx at h
  split at h
  · rename_i us i e
    obtain ⟨z, h1, h2⟩ := h
    obtain ⟨a, xs, rfl, s1, r1⟩ := view_lst rm ru e
    obtain ⟨v, h3, h4⟩ := atI_rel r1 h1
    exact .inl ⟨a, xs, i, v, rfl, rw.int, s1, h3, c _ _ M H (Stp.refl _ _) rm h4 h2⟩
  · rename_i us i e
    obtain ⟨z, h1, h2⟩ := h
    have e' := view_tup e
    subst e'
    obtain ⟨a, xs, rfl, s1, r1⟩ := ru.tup
    obtain ⟨v, h3, h4⟩ := atI_rel r1 h1
    exact .inr (.inl ⟨a, xs, i, v, rfl, rw.int, s1, h3, c _ _ M H (Stp.refl _ _) rm h4 h2⟩)
  · rename_i z i e
    obtain ⟨h0, d, h1, h2⟩ := h
    have e' := view_str e
    subst e'
    exact .inr (.inr ⟨z, i, d, ru.str, rw.int, h0, h1, c _ _ M H (Stp.refl _ _) rm relU_str h2⟩)
  · exact h.elim
abbrev UO := SU → MHp → (Option Int → MHp → Prop) → Prop
def SimO (K : PySem.W.Frag) (t : TO) (t' : UO) : Prop := ∀ (σ : St) (τ : SU) (H : Hp) (M : MHp) (Q' : Option Int → MHp → Prop), RelS K H M σ τ → RelM K H M → t' τ M Q' →
  ∀ Q : Option Int → Hp → Prop, (∀ o M1 H1, Stp H M H1 M1 → RelM K H1 M1 → Q' o M1 → Q o H1) → t σ H Q
def uNoPart : UO := fun _ M Q => Q none M
def uPart (t : UE) : UO := fun τ M Q => t τ M fun x M1 => match x with
  | .int i => Q (some i) M1
  | _ => False
theorem sim_noPart : SimO K tNoPart uNoPart := fun σ τ H M Q' rs rm q Q c => c none M H (Stp.refl _ _) rm q
theorem sim_part {t : TE} {t' : UE} (h : SimE K t t') : SimO K (tPart t) (uPart t') := fun σ τ H M Q' rs rm q Q c => h σ τ H M _ rs rm q _ fun u v M1 H1 s1 rm1 ru h1 => by
  cases u with
  | int i => exact ⟨i, ru.int, c _ M1 H1 s1 rm1 h1⟩
  | _ => exact h1.elim
def cutU {α : Type} (xs : List α) (lo hi : Option Int) : List α := (xs.drop (HT.sIx xs.length 0 lo)).take (HT.sIx xs.length xs.length hi - HT.sIx xs.length 0 lo)
theorem cut_rel {H : Hp} {M : MHp} {us : List U} {vs : List V} (r : RelUs K H M us vs) (lo hi : Option Int) : RelUs K H M (cutU us lo hi) (cutV vs lo hi) := by
  unfold cutU cutV
  rw [r.length]
  exact (r.drop _).take _
def rSlA (K : PySem.W.Frag) : V → Option Int → Option Int → Hp → VK → Prop := fun x lo hi H Q =>
  (∃ a xs, x = .ref a ∧ SqL K H a xs ∧ ∀ p, H p = none → Q (.ref p) (upd H p (.lst (cutV xs lo hi)))) ∨
  (∃ a xs, x = .ref a ∧ SqT K H a xs ∧ ¬ (HT.sIx xs.length 0 lo = 0 ∧ HT.sIx xs.length xs.length hi = xs.length) ∧ ∀ p, H p = none → Q (.ref p) (upd H p (.tup (cutV xs lo hi)))) ∨
  (∃ z : Str, x = .str z ∧ z.length ≤ sizeLine ∧ Q (.str (Txt.slice z lo hi)) H)
def uSl (o : Bool) (te : UE) (tl th : UO) : UE := fun τ M Q => te τ M fun x M1 => tl τ M1 fun l M2 => th τ M2 fun h M3 => match view M3 x with
  | .lst us => mkL o (cutU us l h) M3 Q
  | .tup us => ¬ (HT.sIx us.length 0 l = 0 ∧ HT.sIx us.length us.length h = us.length) ∧ Q (.tup (cutU us l h)) M3
  | .str z => z.length ≤ sizeLine ∧ Q (.str (Txt.slice z l h)) M3
  | _ => False
theorem sim_sl {o : Bool} {te : TE} {te' : UE} {tl th : TO} {tl' th' : UO} (h0 : SimE K te te') (h1 : SimO K tl tl') (h2 : SimO K th th') : SimE K (tSl (rSlA K) te tl th) (uSl o te' tl' th') := fun σ τ H M Q' rs rm q Q c =>
  h0 σ τ H M _ rs rm q _ fun u v M1 H1 s1 rm1 ru q1 => h1 σ τ H1 M1 _ (rs.stp s1) rm1 q1 _ fun lo M2 H2 s2 rm2 q2 => h2 σ τ H2 M2 _ ((rs.stp s1).stp s2) rm2 q2 _ fun hi M3 H3 s3 rm3 q3 => by
    have c3 := Cont.stp c ((s1.trans s2).trans s3)
    have ru3 := ru.stp (s2.trans s3)
    split at q3
    · rename_i us e
      obtain ⟨a, xs, rfl, r1, r2⟩ := view_lst rm3 ru3 e
      exact .inl ⟨a, xs, rfl, r1, fun p hp => c3.lst rm3 (cut_rel r2 lo hi) hp q3⟩
    · rename_i us e
      have e' := view_tup e
      subst e'
      obtain ⟨a, xs, rfl, r1, r2⟩ := ru3.tup
      exact .inr (.inl ⟨a, xs, rfl, r1, by rw [← r2.length]; exact q3.1, fun p hp => c3.tup rm3 (cut_rel r2 lo hi) hp q3.2⟩)
    · rename_i z e
      have e' := view_str e
      subst e'
      exact .inr (.inr ⟨z, ru3.str, q3.1, c3 _ _ M3 H3 (Stp.refl _ _) rm3 relU_str q3.2⟩)
    · exact q3.elim
end
section
variable {K : PySem.W.Frag} {t u : TS} {t' u' : US} {te : TE} {te' : UE}
def uNext : US := fun D τ M => D.nx τ M
def uSeq (t u : US) : US := fun D τ M => t { D with nx := u D } τ M
def uBreak : US := fun D τ M => D.bk τ M
def uCont : US := fun D τ M => D.ct τ M
def uDrop (te : UE) : US := fun D τ M => te τ M fun _ M1 => D.nx τ M1
def uRet (te : UE) : US := fun D τ M => te τ M D.rt
def uRetN : US := fun D _ M => D.rt .non M
def uIfS (c : UT) (t u : US) : US := fun D τ M => c τ M fun b M1 => if b = true then t D τ M1 else u D τ M1
theorem sim_next : SimS K tNext uNext := fun σ τ H M D' rs rm h D d => d.nx σ τ H M (Stp.refl _ _) rm rs h
theorem sim_break : SimS K tBreak uBreak := fun σ τ H M D' rs rm h D d => d.bk σ τ H M (Stp.refl _ _) rm rs h
theorem sim_seq (h1 : SimS K t t') (h2 : SimS K u u') : SimS K (tSeq t u) (uSeq t' u') := fun σ τ H M D' rs rm h D d =>
  h1 σ τ H M _ rs rm h _ ⟨fun σ1 τ1 H1 M1 s rm1 rs1 q => h2 σ1 τ1 H1 M1 D' rs1 rm1 q D (d.stp s), d.rt, d.bk, d.ct⟩
theorem sim_drop (h1 : SimE K te te') : SimS K (tDrop te) (uDrop te') := fun σ τ H M D' rs rm h D d => h1 σ τ H M _ rs rm h _ fun u v M1 H1 s rm1 ru q => d.nx σ τ H1 M1 s rm1 (rs.stp s) q
theorem sim_ret (h1 : SimE K te te') : SimS K (tRet te) (uRet te') := fun σ τ H M D' rs rm h D d => h1 σ τ H M _ rs rm h _ fun u v M1 H1 s rm1 ru q => d.rt u v H1 M1 s rm1 ru q
theorem sim_ifS {c : TT} {c' : UT} (hc : SimT K c c') (h1 : SimS K t t') (h2 : SimS K u u') : SimS K (tIfS c t u) (uIfS c' t' u') := fun σ τ H M D' rs rm h D d => hc σ τ H M _ rs rm h _ fun b M1 H1 s rm1 q => by
  cases b with
  | true => exact h1 σ τ H1 M1 D' (rs.stp s) rm1 q D (d.stp s)
  | false => exact h2 σ τ H1 M1 D' (rs.stp s) rm1 q D (d.stp s)
abbrev UG := U → SU → MHp → (SU → MHp → Prop) → Prop
abbrev UGs := List U → SU → MHp → (SU → MHp → Prop) → Prop
def SimG (K : PySem.W.Frag) (g : TG) (g' : UG) : Prop := ∀ (u : U) (v : V) (σ : St) (τ : SU) (H : Hp) (M : MHp) (Q' : SU → MHp → Prop), RelU K H M u v → RelS K H M σ τ → RelM K H M → g' u τ M Q' →
  ∀ Q : St → Hp → Prop, (∀ σ1 τ1 H1 M1, Stp H M H1 M1 → RelM K H1 M1 → RelS K H1 M1 σ1 τ1 → Q' τ1 M1 → Q σ1 H1) → g v σ H Q
def SimGs (K : PySem.W.Frag) (g : TGs) (g' : UGs) : Prop := ∀ (us : List U) (vs : List V) (σ : St) (τ : SU) (H : Hp) (M : MHp) (Q' : SU → MHp → Prop), RelUs K H M us vs → RelS K H M σ τ → RelM K H M → g' us τ M Q' →
  ∀ Q : St → Hp → Prop, (∀ σ1 τ1 H1 M1, Stp H M H1 M1 → RelM K H1 M1 → RelS K H1 M1 σ1 τ1 → Q' τ1 M1 → Q σ1 H1) → g vs σ H Q
def hName (i : Nat) : UG := fun u τ M Q => Q (τ.set i (some u)) M
theorem sim_gname (i : Nat) : SimG K (gName i) (hName i) := fun u v σ τ H M Q' ru rs rm h Q c => c _ _ H M (Stp.refl _ _) rm (rs.set ru) h
def hNil : UGs := fun us τ M Q => match us with
  | [] => Q τ M
  | _ => False
def hCons (g : UG) (r : UGs) : UGs := fun us τ M Q => match us with
  | u :: us => g u τ M fun τ1 M1 => r us τ1 M1 Q
  | _ => False
theorem sim_gnil : SimGs K gNil hNil := fun us vs σ τ H M Q' ru rs rm h Q c => by
  cases us with
  | nil => exact ⟨ru.inv_nil, c σ τ H M (Stp.refl _ _) rm rs h⟩
  | cons _ _ => exact h.elim
theorem sim_gcons {g : TG} {g' : UG} {r : TGs} {r' : UGs} (h1 : SimG K g g') (h2 : SimGs K r r') : SimGs K (gCons g r) (hCons g' r') := fun us vs σ τ H M Q' ru rs rm h Q c => by
  cases us with
  | nil => exact h.elim
  | cons u us =>
    obtain ⟨v, vs', rfl, a, b⟩ := ru.inv_cons
    exact ⟨v, vs', rfl, h1 u v σ τ H M _ a rs rm h _ fun σ1 τ1 H1 M1 s rm1 rs1 q => h2 us vs' σ1 τ1 H1 M1 Q' (b.stp s) rs1 rm1 q Q fun σ2 τ2 H2 M2 s2 => c σ2 τ2 H2 M2 (s.trans s2)⟩
def hTup (n : Nat) (r : UGs) : UG := fun u τ M Q => match u with
  | .tup us => us.length = n ∧ r us τ M Q
  | _ => False
theorem sim_gtup {n : Nat} {r : TGs} {r' : UGs} (h2 : SimGs K r r') : SimG K (gTup K n r) (hTup n r') := fun u v σ τ H M Q' ru rs rm h Q c => by
  cases u with
  | tup us =>
    obtain ⟨a, vs, rfl, s1, r1⟩ := ru.tup
    exact ⟨a, vs, rfl, s1, by rw [← r1.length]; exact h.1, h2 us vs σ τ H M Q' r1 rs rm h.2 Q c⟩
  | _ => exact h.elim
def uAsg (te : UE) (g : UG) : US := fun D τ M => te τ M fun x M1 => g x τ M1 D.nx
theorem sim_asg {g : TG} {g' : UG} (h1 : SimE K te te') (h2 : SimG K g g') : SimS K (tAsg te g) (uAsg te' g') := fun σ τ H M D' rs rm h D d =>
  h1 σ τ H M _ rs rm h _ fun u v M1 H1 s rm1 ru q => h2 u v σ τ H1 M1 _ ru (rs.stp s) rm1 q _ fun σ1 τ1 H2 M2 s2 rm2 rs2 q2 => d.nx σ1 τ1 H2 M2 (s.trans s2) rm2 rs2 q2
def uWhile (c : UT) (tb : US) : US := fun D τ M => ∃ (P : SU → MHp → Prop) (μ : SU → MHp → Nat), P τ M ∧ ∀ τ M, P τ M → c τ M fun b M1 => if b = true then tb { D with nx := fun τ' M' => P τ' M' ∧ μ τ' M' < μ τ M, ct := fun τ' M' => P τ' M' ∧ μ τ' M' < μ τ M, bk := D.nx } τ M1 else D.nx τ M1
theorem sim_while {c : TT} {c' : UT} (hc : SimT K c c') (h1 : SimS K t t') : SimS K (tWhile c t) (uWhile c' t') := fun σ τ H M D' rs rm h D d => by
  obtain ⟨P, μ, p0, turn⟩ := h
  refine ⟨fun m σ1 H1 => ∃ τ1 M1, Stp H M H1 M1 ∧ RelM K H1 M1 ∧ RelS K H1 M1 σ1 τ1 ∧ P τ1 M1 ∧ m = μ τ1 M1, ⟨_, τ, M, Stp.refl _ _, rm, rs, p0, rfl⟩, ?_⟩
  rintro m σ1 H1 ⟨τ1, M1, s1, rm1, rs1, p1, rfl⟩
  refine hc σ1 τ1 H1 M1 _ rs1 rm1 (turn τ1 M1 p1) _ fun b M2 H2 s2 rm2 q => ?_
  cases b with
  | true =>
    refine ⟨fun σ3 H3 => ∃ τ3 M3, Stp H M H3 M3 ∧ RelM K H3 M3 ∧ RelS K H3 M3 σ3 τ3 ∧ P τ3 M3 ∧ μ τ3 M3 < μ τ1 M1, ?_, ?_⟩
    · rintro σ3 H3 ⟨τ3, M3, s3, rm3, rs3, p3, lt⟩
      exact ⟨_, lt, τ3, M3, s3, rm3, rs3, p3, rfl⟩
    · have d2 := d.stp (s1.trans s2)
      exact h1 σ1 τ1 H2 M2 _ (rs1.stp s2) rm2 q _ ⟨fun σ3 τ3 H3 M3 s3 rm3 rs3 q3 => ⟨τ3, M3, (s1.trans s2).trans s3, rm3, rs3, q3.1, q3.2⟩, d2.rt, d2.nx, fun σ3 τ3 H3 M3 s3 rm3 rs3 q3 => ⟨τ3, M3, (s1.trans s2).trans s3, rm3, rs3, q3.1, q3.2⟩⟩
  | false => exact d.nx σ1 τ1 H2 M2 (s1.trans s2) rm2 (rs1.stp s2) q
structure Src where
  own : Option Addr
  xs : List U
def Src.ok (S : Src) (M : MHp) : Prop := ∀ a, S.own = some a → M a = some (.lst S.xs)
structure Walk (K : PySem.W.Frag) (J : It) (S : Src) (H : Hp) (M : MHp) : Prop where
  step : ∀ H1 M1, Stp H M H1 M1 → RelM K H1 M1 → S.ok M1 → ∀ (i : Nat) u, S.xs[i]? = some u → J.go i H1 ∧ ∀ x H2, J.yld i H1 x H2 → Stp H1 M1 H2 M1 ∧ RelM K H2 M1 ∧ RelU K H2 M1 u x
  stop : ∀ H1 M1, Stp H M H1 M1 → RelM K H1 M1 → S.ok M1 → J.stop S.xs.length H1
abbrev UI := SU → MHp → (Src → MHp → Prop) → Prop
def SimI (K : PySem.W.Frag) (t : TI) (t' : UI) : Prop := ∀ (σ : St) (τ : SU) (H : Hp) (M : MHp) (R' : Src → MHp → Prop), RelS K H M σ τ → RelM K H M → t' τ M R' →
  ∀ R : It → Hp → Prop, (∀ J S M1 H1, Stp H M H1 M1 → RelM K H1 M1 → Walk K J S H1 M1 → R' S M1 → R J H1) → t σ H R
def uFor (wi : UI) (g : UG) (tb : US) : US := fun D τ M => wi τ M fun S M1 => ∃ P : Nat → SU → MHp → Prop, P 0 τ M1 ∧ (∀ i τ M, P i τ M → S.ok M) ∧
  (∀ i x τ M, S.xs[i]? = some x → P i τ M → g x τ M fun τ2 M2 => tb { D with nx := P (i + 1), ct := P (i + 1), bk := D.nx } τ2 M2) ∧ ∀ τ M, P S.xs.length τ M → D.nx τ M
theorem sim_for {wi : TI} {wi' : UI} {g : TG} {g' : UG} (hi : SimI K wi wi') (hg : SimG K g g') (h1 : SimS K t t') : SimS K (tFor wi g t) (uFor wi' g' t') := fun σ τ H M D' rs rm h D d => by
  refine hi σ τ H M _ rs rm h _ fun J S M0 H0 s0 rm0 w h => ?_
  obtain ⟨P, p0, hok, turn, fin⟩ := h
  refine ⟨fun i m σ1 H1 => ∃ τ1 M1, Stp H0 M0 H1 M1 ∧ RelM K H1 M1 ∧ RelS K H1 M1 σ1 τ1 ∧ P i τ1 M1 ∧ i ≤ S.xs.length ∧ m = S.xs.length - i, ⟨_, τ, M0, Stp.refl _ _, rm0, rs.stp s0, p0, Nat.zero_le _, rfl⟩, ?_⟩
  rintro i m σ1 H1 ⟨τ1, M1, s1, rm1, rs1, p1, hle, rfl⟩
  have ok1 := hok i τ1 M1 p1
  by_cases hlt : i < S.xs.length
  · obtain ⟨go, yl⟩ := w.step H1 M1 s1 rm1 ok1 i S.xs[i] (by simp [hlt])
    refine .inr ⟨go, fun σ3 H3 => ∃ τ3 M3, Stp H0 M0 H3 M3 ∧ RelM K H3 M3 ∧ RelS K H3 M3 σ3 τ3 ∧ P (i + 1) τ3 M3, ?_, fun x H2 y => ?_⟩
    · rintro σ3 H3 ⟨τ3, M3, s3, rm3, rs3, p3⟩
      exact ⟨S.xs.length - (i + 1), by omega, τ3, M3, s3, rm3, rs3, p3, hlt, rfl⟩
    · obtain ⟨s2, rm2, ru⟩ := yl x H2 y
      refine hg _ x σ1 τ1 H2 M1 _ ru (rs1.stp s2) rm2 (turn i S.xs[i] τ1 M1 (by simp [hlt]) p1) _ fun σ3 τ3 H3 M3 s3 rm3 rs3 q3 => ?_
      have d3 := d.stp (((s0.trans s1).trans s2).trans s3)
      exact h1 σ3 τ3 H3 M3 _ rs3 rm3 q3 _ ⟨fun σ4 τ4 H4 M4 s4 rm4 rs4 q4 => ⟨τ4, M4, ((s1.trans s2).trans s3).trans s4, rm4, rs4, q4⟩, d3.rt, d3.nx, fun σ4 τ4 H4 M4 s4 rm4 rs4 q4 => ⟨τ4, M4, ((s1.trans s2).trans s3).trans s4, rm4, rs4, q4⟩⟩
  · have e : i = S.xs.length := by omega
    subst e
    exact .inl ⟨w.stop H1 M1 s1 rm1 ok1, d.nx σ1 τ1 H1 M1 (s0.trans s1) rm1 rs1 (fin τ1 M1 p1)⟩
end
end U2
namespace U2
open PySem L2
section
variable {K : PySem.W.Frag}
theorem walk_list {a : Addr} {us : List U} {vs : List V} {H : Hp} {M : MHp} (m : (M a = none ∧ Rd H a (.lst vs)) ∨ KL K a vs) (r : RelUs K H M us vs) : Walk K (Itl K a) ⟨none, us⟩ H M := by
  have sq : ∀ H1 M1, Stp H M H1 M1 → SqL K H1 a vs := fun H1 M1 s => by
    rcases m with ⟨m, h⟩ | k
    · exact .inl (Rd.stp s m h).2
    · exact .inr k
  refine ⟨fun H1 M1 s rm _ i u e => ?_, fun H1 M1 s rm _ => ⟨vs, sq H1 M1 s, by rw [r.length]; exact Nat.le_refl _⟩⟩
  obtain ⟨v, e2, ru⟩ := r.get e
  refine ⟨⟨vs, v, sq H1 M1 s, e2⟩, fun x H2 y => ?_⟩
  obtain ⟨rfl, y⟩ := y
  have := y vs (sq _ M1 s)
  rw [e2] at this; cases this
  exact ⟨Stp.refl _ _, rm, ru.stp s⟩
theorem walk_tup {a : Addr} {us : List U} {vs : List V} {H : Hp} {M : MHp} (m : M a = none ∧ H a = some (.tup vs)) (r : RelUs K H M us vs) : Walk K (Itt K a) ⟨none, us⟩ H M := by
  have sq : ∀ H1 M1, Stp H M H1 M1 → SqT K H1 a vs := fun H1 M1 s => by
    exact .inl (.inl (s a _ m.2 m.1).1)
  refine ⟨fun H1 M1 s rm _ i u e => ?_, fun H1 M1 s rm _ => ⟨vs, sq H1 M1 s, by rw [r.length]; exact Nat.le_refl _⟩⟩
  obtain ⟨v, e2, ru⟩ := r.get e
  refine ⟨⟨vs, v, sq H1 M1 s, e2⟩, fun x H2 y => ?_⟩
  obtain ⟨rfl, y⟩ := y
  have := y vs (sq _ M1 s)
  rw [e2] at this; cases this
  exact ⟨Stp.refl _ _, rm, ru.stp s⟩
theorem walk_own {a : Addr} {us : List U} {H : Hp} {M : MHp} : Walk K (Itl K a) ⟨some a, us⟩ H M := by
  refine ⟨fun H1 M1 s rm ok i u e => ?_, fun H1 M1 s rm ok => ?_⟩
  · obtain ⟨vs, h1, r⟩ := rm a _ (ok a rfl)
    obtain ⟨v, e2, ru⟩ := r.get e
    refine ⟨⟨vs, v, .inl (.inl h1), e2⟩, fun x H2 y => ?_⟩
    obtain ⟨rfl, y⟩ := y
    have := y vs (.inl (.inl h1))
    rw [e2] at this; cases this
    exact ⟨Stp.refl _ _, rm, ru⟩
  · obtain ⟨vs, h1, r⟩ := rm a _ (ok a rfl)
    exact ⟨vs, .inl (.inl h1), by rw [r.length]; exact Nat.le_refl _⟩
def Its (z : Str) : It := ⟨fun i _ => i < z.cps.size, fun i H x H' => H' = H ∧ ∃ c, z.cps[i]? = some c ∧ x = .str ⟨#[c]⟩, fun i _ => i = z.cps.size⟩
def chars (z : Str) : List U := z.cps.toList.map fun c => .str ⟨#[c]⟩
theorem walk_str {z : Str} {H : Hp} {M : MHp} : Walk K (Its z) ⟨none, chars z⟩ H M := by
  refine ⟨fun H1 M1 s rm _ i u e => ?_, fun H1 M1 s rm _ => ?_⟩
  · have hi : i < z.cps.size := by
      have := (List.getElem?_eq_some_iff.mp e).1
      simpa [chars] using this
    refine ⟨hi, fun x H2 y => ?_⟩
    obtain ⟨rfl, c, h1, rfl⟩ := y
    have : u = .str ⟨#[c]⟩ := by
      simp only [chars, List.getElem?_map, Array.getElem?_toList, h1, Option.map_some] at e
      exact (Option.some.inj e).symm
    subst this
    exact ⟨Stp.refl _ _, rm, relU_str⟩
  · show (chars z).length = z.cps.size
    simp [chars]
def iSeq (K : PySem.W.Frag) (tl : TE) : TI := fun σ H R => tl σ H fun x H1 =>
  (∃ a, x = .ref a ∧ (∃ xs, SqL K H1 a xs) ∧ R (Itl K a) H1) ∨ (∃ a, x = .ref a ∧ (∃ xs, SqT K H1 a xs) ∧ R (Itt K a) H1) ∨ (∃ z, x = .str z ∧ R (Its z) H1)
def uIter (te : UE) : UI := fun τ M R => te τ M fun u M1 => match u with
  | .lst us => R ⟨none, us⟩ M1
  | .tup us => R ⟨none, us⟩ M1
  | .str z => R ⟨none, chars z⟩ M1
  | .ref a => match M1 a with
    | some (.lst us) => R ⟨some a, us⟩ M1
    | _ => False
  | _ => False
theorem sim_iter {te : TE} {te' : UE} (h : SimE K te te') : SimI K (iSeq K te) (uIter te') := fun σ τ H M R' rs rm q R c => h σ τ H M _ rs rm q _ fun u v M1 H1 s1 rm1 ru h1 => by
  cases u with
  | lst us =>
    simp only [RelU] at ru
    obtain ⟨a, vs, rfl, m, r⟩ := ru
    refine .inl ⟨a, rfl, ⟨vs, ?_⟩, c _ _ M1 H1 s1 rm1 (walk_list m r) h1⟩
    rcases m with ⟨_, m⟩ | k
    · exact .inl m
    · exact .inr k
  | tup us =>
    simp only [RelU] at ru
    obtain ⟨a, vs, rfl, m, r⟩ := ru
    refine .inr (.inl ⟨a, rfl, ⟨vs, ?_⟩, c _ _ M1 H1 s1 rm1 (walk_tup m r) h1⟩)
    exact .inl (.inl m.2)
  | str z => exact .inr (.inr ⟨z, ru.str, c _ _ M1 H1 s1 rm1 walk_str h1⟩)
  | ref a =>
    dsimp only at h1
    split at h1
    · rename_i us e
      obtain ⟨vs, h2, r⟩ := rm1 a _ e
      exact .inl ⟨a, ru.ref, ⟨vs, .inl (.inl h2)⟩, c _ _ M1 H1 s1 rm1 walk_own h1⟩
    · exact h1.elim
  | _ => exact h1.elim
def rangeU (lo : Int) (n : Nat) : List U := (List.range n).map fun (k : Nat) => U.int (lo + (k : Int))
def uRng1 (ta : UA) : UI := fun τ M R => ta τ M fun us M1 => match us with
  | [.int j] => -(2 ^ 62) ≤ j ∧ j < 2 ^ 62 ∧ R ⟨none, rangeU 0 j.toNat⟩ M1
  | _ => False
def uRng2 (ta : UA) : UI := fun τ M R => ta τ M fun us M1 => match us with
  | [.int i, .int j] => (-(2 ^ 62) ≤ i ∧ i < 2 ^ 62 ∧ -(2 ^ 62) ≤ j ∧ j < 2 ^ 62) ∧ R ⟨none, rangeU i (j - i).toNat⟩ M1
  | _ => False
abbrev USp := List U → MHp → UK → Prop
def liftSp (K : PySem.W.Frag) (sp : USp) : Sp := fun vs H Q _ => ∃ us M Q', RelM K H M ∧ RelUs K H M us vs ∧ sp us M Q' ∧ Cont K H M Q' Q
def uCall (sp : USp) (dus : List U) (t : UA) : UE := fun τ M Q => t τ M fun us M1 => sp (us ++ dus) M1 Q
theorem sim_call {sp : USp} {dus : List U} {dvs : List V} {E : XK} {t : TA} {t' : UA} (hd : ∀ H M, RelUs K H M dus dvs) (h : SimA K t t') : SimE K (tCall (liftSp K sp) dvs E t) (uCall sp dus t') := fun σ τ H M Q' rs rm q Q c =>
  h σ τ H M _ rs rm q _ fun us vs M1 H1 s1 rm1 ru h1 => ⟨us ++ dus, M1, Q', rm1, ru.append (hd _ _), h1, Cont.stp c s1⟩
def Sub (M' M1 : MHp) : Prop := ∀ b mo, M' b = some mo → M1 b = some mo
theorem Sub.refl (M : MHp) : Sub M M := fun _ _ h => h
theorem Sub.mup {M M1 : MHp} {p : Addr} {o : MO} (h : Sub M M1) (hp : M p = none) : Sub M (mup M1 p o) := fun b mo e => by
  have : b ≠ p := fun z => by subst z; rw [hp] at e; cases e
  rw [mup_ne this]; exact h b mo e
theorem Sub.less {M M1 : MHp} (h : Sub M M1) {H : Hp} : Stp H M1 H M := Stp.less fun b e => by
  cases q : M b with
  | none => rfl
  | some mo => rw [h b mo q] at e; cases e
theorem RelM.sub {H : Hp} {M M1 : MHp} (rm : RelM K H M1) (h : Sub M M1) : RelM K H M := fun a mo e => (rm a mo (h a mo e)).stp (fun b q z => h b _ z) (h.less) rfl
def Out (M1 M' : MHp) (u u' : U) : Prop := u' = u ∨ ∃ a us, u = .ref a ∧ M1 a = some (.lst us) ∧ M' a = none ∧ u' = .lst us
def rtU (Q : UK) : UK := fun u M1 => ∃ u' M', Sub M' M1 ∧ Out M1 M' u u' ∧ Q u' M'
theorem rtU.ok {H H1 : Hp} {M M1 : MHp} {Q' : UK} {Q : VK} {u : U} {v : V} (c : Cont K H M Q' Q) (s : Stp H M H1 M1) (rm : RelM K H1 M1) (ru : RelU K H1 M1 u v) (h : rtU Q' u M1) : Q v H1 := by
  obtain ⟨u', M', sb, o, q⟩ := h
  have s' : Stp H1 M1 H1 M' := sb.less
  refine c u' v M' H1 (s.trans s') (rm.sub sb) ?_ q
  rcases o with rfl | ⟨a, us, rfl, h1, h2, rfl⟩
  · exact ru.stp s'
  · obtain ⟨vs, h3, h4⟩ := rm a _ h1
    cases ru.ref
    exact relU_lst h2 h3 (h4.stp s')
def startU (N : List Str) (us : List U) : SU := us.map some ++ List.replicate (N.length - us.length) none
def isL (M : MHp) (x : U) : Prop := ∃ us, view M x = .lst us
def uBM (r : U → List U → MHp → UK → Prop) (to : UE) (t : UA) : UE := fun τ M Q => to τ M fun x M1 => isL M1 x ∧ t τ M1 fun xs M2 => r x xs M2 Q
def uBM0 (r : U → List U → MHp → UK → Prop) (to : UE) : UE := fun τ M Q => to τ M fun x M1 => isL M1 x ∧ r x [] M1 Q
theorem isL.ty {H : Hp} {M : MHp} {u : U} {v : V} (rm : RelM K H M) (ru : RelU K H M u v) (h : isL M u) : tyV K "list" v H := by
  obtain ⟨us, h⟩ := h
  obtain ⟨a, vs, rfl, s, _⟩ := view_lst rm ru h
  exact .inl ⟨rfl, vs, s⟩
theorem sim_bm {r : V → List V → Hp → VK → Prop} {r' : U → List U → MHp → UK → Prop} {to : TE} {to' : UE} {t : TA} {t' : UA} (hr : SimMt K r r') (ho : SimE K to to') (h : SimA K t t') :
    SimE K (tBM K "list" r to t) (uBM r' to' t') := fun σ τ H M Q' rs rm q Q c =>
  ho σ τ H M _ rs rm q _ fun u v M1 H1 s1 rm1 ru h1 => ⟨h1.1.ty rm1 ru, h σ τ H1 M1 _ (rs.stp s1) rm1 h1.2 _ fun us vs M2 H2 s2 rm2 rus h2 => hr v vs u us H2 M2 Q' rm2 (ru.stp s2) rus h2 Q (Cont.stp c (s1.trans s2))⟩
theorem sim_bm0 {r : V → List V → Hp → VK → Prop} {r' : U → List U → MHp → UK → Prop} {to : TE} {to' : UE} (hr : SimMt K r r') (ho : SimE K to to') :
    SimE K (tBM0 K "list" r to) (uBM0 r' to') := fun σ τ H M Q' rs rm q Q c =>
  ho σ τ H M _ rs rm q _ fun u v M1 H1 s1 rm1 ru h1 => ⟨h1.1.ty rm1 ru, hr v [] u [] H1 M1 Q' rm1 ru .nil h1.2 Q (Cont.stp c s1)⟩
theorem Cont.write {H : Hp} {M : MHp} {Q' : UK} {Q : VK} {a : Addr} {us us' : List U} {xs' : List V} {r : U} {v : V} (c : Cont K H M Q' Q) (rm : RelM K H M) (e : M a = some (.lst us)) (r1 : RelUs K H M us' xs') (r2 : RelU K H M r v) (q : Q' r (mup M a (.lst us'))) : Q v (upd H a (.lst xs')) := by
  have st : Stp H M (upd H a (.lst xs')) (mup M a (.lst us')) := Stp.write e
  exact c _ _ _ _ st (rm.put st ⟨xs', upd_same, r1.stp st⟩) (r2.stp st) q
def mAppend : U → List U → MHp → UK → Prop := fun x ws M Q => match x, ws with
  | .ref a, [w] => match M a with
    | some (.lst us) => us.length < sizeLine ∧ Q .non (mup M a (.lst (us ++ [w])))
    | _ => False
  | _, _ => False
theorem sim_append : SimMt K rAppend mAppend := fun x xs u us H M Q' rm ru rus h Q c => by
  unfold mAppend at h
  split at h
  · rename_i a w
    split at h
    · rename_i ws e
      obtain ⟨vs, h1, r⟩ := rm a _ e
      obtain ⟨v, vs', rfl, a1, b⟩ := rus.inv_cons
      cases b.inv_nil
      cases ru.ref
      exact ⟨a, vs, v, rfl, rfl, h1, by rw [← r.length]; exact h.1, c.write rm e (r.append (.cons a1 .nil)) relU_non h.2⟩
    · exact h.elim
  · exact h.elim
def mPop : U → List U → MHp → UK → Prop := fun x ws M Q => match x, ws with
  | .ref a, [] => match M a with
    | some (.lst us) => match us.getLast? with
      | some w => Q w (mup M a (.lst us.dropLast))
      | none => False
    | _ => False
  | _, _ => False
theorem sim_pop : SimMt K rPop mPop := fun x xs u us H M Q' rm ru rus h Q c => by
  unfold mPop at h
  split at h
  · rename_i a
    split at h
    · rename_i ws e
      split at h
      · rename_i w e2
        obtain ⟨vs, h1, r⟩ := rm a _ e
        cases rus.inv_nil
        cases ru.ref
        rw [List.getLast?_eq_getElem?] at e2
        obtain ⟨v, h3, h4⟩ := r.get e2
        exact ⟨a, vs, v, rfl, rfl, h1, by rw [← r.length]; exact h3, c.write rm e r.dropLast h4 h⟩
      · exact h.elim
    · exact h.elim
  · exact h.elim
def rExtendL (K : PySem.W.Frag) : V → List V → Hp → VK → Prop := fun x vs H Q => ∃ l b xs zs, x = .ref l ∧ vs = [.ref b] ∧ H l = some (.lst xs) ∧ SqL K H b zs ∧ xs.length + zs.length ≤ sizeLine ∧ Q .non (upd H l (.lst (xs ++ zs)))
def mExtend : U → List U → MHp → UK → Prop := fun x ws M Q => match x, ws with
  | .ref a, [w] => match M a, view M w with
    | some (.lst us), .lst zs => us.length + zs.length ≤ sizeLine ∧ Q .non (mup M a (.lst (us ++ zs)))
    | _, _ => False
  | _, _ => False
theorem sim_extend : SimMt K (rExtendL K) mExtend := fun x xs u us H M Q' rm ru rus h Q c => by
  unfold mExtend at h
  split at h
  · rename_i a w
    split at h
    · rename_i ws zs e e2
      obtain ⟨vs, h1, r⟩ := rm a _ e
      obtain ⟨v, vs', rfl, a1, b⟩ := rus.inv_cons
      cases b.inv_nil
      cases ru.ref
      obtain ⟨b, zvs, rfl, s2, r2⟩ := view_lst rm a1 e2
      exact ⟨a, b, vs, zvs, rfl, rfl, h1, s2, by rw [← r.length, ← r2.length]; exact h.1, c.write rm e (r.append r2) relU_non h.2⟩
    · exact h.elim
  · exact h.elim
def mClear : U → List U → MHp → UK → Prop := fun x ws M Q => match x, ws with
  | .ref a, [] => match M a with
    | some (.lst us) => Q .non (mup M a (.lst []))
    | _ => False
  | _, _ => False
def bLen : List U → MHp → UK → Prop := fun us M Q => match us with
  | [x] => match view M x with
    | .lst ws => Q (.int ws.length) M
    | .tup ws => Q (.int ws.length) M
    | .str z => z.length ≤ sizeLine ∧ Q (.int z.length) M
    | _ => False
  | _ => False
theorem sim_len : SimCl K (fun xs H Q => ∃ x n, xs = [x] ∧ LenV K x H n ∧ Q (.int n) H) bLen := fun xs us H M Q' rm rus h Q c => by
  unfold bLen at h
  split at h
  · rename_i x
    obtain ⟨v, vs', rfl, a1, b⟩ := rus.inv_cons
    cases b.inv_nil
    split at h
    · rename_i ws e
      obtain ⟨b, zvs, rfl, s2, r2⟩ := view_lst rm a1 e
      exact ⟨_, zvs.length, rfl, .inl ⟨zvs, s2, rfl⟩, c.here rm relU_int (by rw [← r2.length]; exact h)⟩
    · rename_i ws e
      have e' := view_tup e
      subst e'
      obtain ⟨b, zvs, rfl, s2, r2⟩ := a1.tup
      exact ⟨_, zvs.length, rfl, .inr ⟨zvs, s2, rfl⟩, c.here rm relU_int (by rw [← r2.length]; exact h)⟩
    · rename_i z e
      have e' := view_str e
      subst e'
      cases a1.str
      exact ⟨_, z.length, rfl, ⟨h.1, rfl⟩, c.here rm relU_int h.2⟩
    · exact h.elim
  · exact h.elim
def bInt1 (C : Int → Prop) (g : Int → U) : List U → MHp → UK → Prop := fun us M Q => match us with
  | [.int i] => C i ∧ Q (g i) M
  | _ => False
def bInt2 (g : Int → Int → U) : List U → MHp → UK → Prop := fun us M Q => match us with
  | [.int i, .int j] => Q (g i j) M
  | _ => False
theorem RelUs.one {H : Hp} {M : MHp} {u : U} {vs : List V} (h : RelUs K H M [u] vs) : ∃ v, vs = [v] ∧ RelU K H M u v := by
  obtain ⟨v, vs', rfl, a1, b⟩ := h.inv_cons
  cases b.inv_nil
  exact ⟨v, rfl, a1⟩
theorem RelUs.two {H : Hp} {M : MHp} {u w : U} {vs : List V} (h : RelUs K H M [u, w] vs) : ∃ v z, vs = [v, z] ∧ RelU K H M u v ∧ RelU K H M w z := by
  obtain ⟨v, vs', rfl, a1, b⟩ := h.inv_cons
  obtain ⟨z, rfl, b1⟩ := b.one
  exact ⟨v, z, rfl, a1, b1⟩
theorem sim_max2 : SimCl K (fun xs H Q => ∃ i j, xs = [.int i, .int j] ∧ Q (.int (if j > i then j else i)) H) (bInt2 fun i j => .int (if j > i then j else i)) := fun xs us H M Q' rm rus h Q c => by
  unfold bInt2 at h
  split at h
  · rename_i i j
    obtain ⟨v, z, rfl, a, b⟩ := rus.two
    cases a.int
    cases b.int
    exact ⟨i, j, rfl, c.here rm relU_int h⟩
  · exact h.elim
theorem sim_strInt : SimCl K (fun xs H Q => ∃ i, xs = [.int i] ∧ i.natAbs.log2 < 1920 ∧ Q (.str (toString i)) H) (bInt1 (fun i => i.natAbs.log2 < 1920) fun i => .str (toString i)) := fun xs us H M Q' rm rus h Q c => by
  unfold bInt1 at h
  split at h
  · rename_i i
    obtain ⟨v, rfl, a⟩ := rus.one
    cases a.int
    exact ⟨i, rfl, h.1, c.here rm relU_str h.2⟩
  · exact h.elim
def bList (o : Bool) : List U → MHp → UK → Prop := fun us M Q => match us with
  | [x] => match view M x with
    | .lst ws => mkL o ws M Q
    | .tup ws => mkL o ws M Q
    | _ => False
  | _ => False
def bTuple : List U → MHp → UK → Prop := fun us M Q => match us with
  | [x] => match view M x with
    | .lst ws => Q (.tup ws) M
    | .tup ws => Q (.tup ws) M
    | _ => False
  | _ => False
theorem sim_tuple : SimCl K (fun xs H Q => ∃ p ys, xs = [.ref p] ∧ ((SqL K H p ys ∧ ∀ l, H l = none → Q (.ref l) (upd H l (.tup ys))) ∨ (SqT K H p ys ∧ Q (.ref p) H))) bTuple := fun xs us H M Q' rm rus h Q c => by
  unfold bTuple at h
  split at h
  · rename_i x
    obtain ⟨v, rfl, a1⟩ := rus.one
    split at h
    · rename_i ws e
      obtain ⟨b, zvs, rfl, s2, r2⟩ := view_lst rm a1 e
      exact ⟨b, zvs, rfl, .inl ⟨s2, fun l hl => c.tup rm r2 hl h⟩⟩
    · rename_i ws e
      have e' := view_tup e
      subst e'
      have a2 := a1
      obtain ⟨b, zvs, rfl, s2, r2⟩ := a1.tup
      exact ⟨b, zvs, rfl, .inr ⟨s2, c.here rm a2 h⟩⟩
    · exact h.elim
  · exact h.elim
def typU (M : MHp) (x : U) : Option String := match x with
  | .non => some "NoneType"
  | .bl _ => some "bool"
  | .int _ => some "int"
  | .str _ => some "str"
  | .tup _ => some "tuple"
  | .lst _ => some "list"
  | .ref a => match M a with
    | some (.lst _) => some "list"
    | some (.dK _) => some "dict"
    | some (.dT _) => some "dict"
    | _ => none
  | .dic _ _ _ => some "dict"
  | .ty _ => none
def eqS : U → U → Option Bool
  | .non, .non => some true
  | .non, .int _ => some false | .int _, .non => some false | .non, .bl _ => some false | .bl _, .non => some false | .non, .str _ => some false | .str _, .non => some false
  | .int i, .int j => some (decide (i = j))
  | .bl i, .bl j => some (decide (i = j))
  | .str i, .str j => some (decide (i = j))
  | .int _, .str _ => some false | .str _, .int _ => some false | .bl _, .str _ => some false | .str _, .bl _ => some false
  | _, _ => none
def uEqS : UR2 := fun x y M Q => match eqS x y with
  | some b => Q (.bl b) M
  | none => False
def uNeS : UR2 := fun x y M Q => match eqS x y with
  | some b => Q (.bl (!b)) M
  | none => False
theorem eqS_rel {H : Hp} {M : MHp} {x y : V} {u w : U} {b : Bool} (ru : RelU K H M u x) (rw : RelU K H M w y) (h : eqS u w = some b) : scal x y = true ∧ decide (x = y) = b := by
  cases u <;> cases w <;> simp only [eqS, Option.some.injEq, reduceCtorEq] at h <;> subst h <;>
    (first
      | (cases ru.non) | (cases ru.bl) | (cases ru.int) | (cases ru.str)) <;>
    (first
      | (cases rw.non) | (cases rw.bl) | (cases rw.int) | (cases rw.str)) <;> simp [scal]
theorem sim_eqS : SimR2 K rEq uEqS := fun x y u w H M Q' rm ru rw h Q c => by
  unfold uEqS at h
  split at h
  · rename_i b e
    obtain ⟨h1, h2⟩ := eqS_rel ru rw e
    exact ⟨h1, c.here rm (by rw [h2]; exact relU_bl) h⟩
  · exact h.elim
def isNon : U → Bool
  | .non => true
  | _ => false
def uIsN : UR2 := fun x y M Q => match y with
  | .non => Q (.bl (isNon x)) M
  | _ => False
def uNotN : UR2 := fun x y M Q => match y with
  | .non => Q (.bl (!isNon x)) M
  | _ => False
theorem isN_rel {H : Hp} {M : MHp} {x : V} {u : U} (ru : RelU K H M u x) : decide (x = .non) = isNon u := by
  cases u with
  | non => cases ru.non; simp [isNon]
  | bl b => cases ru.bl; simp [isNon]
  | int b => cases ru.int; simp [isNon]
  | str b => cases ru.str; simp [isNon]
  | ty b => cases ru.ty; simp [isNon]
  | ref b => cases ru.ref; simp [isNon]
  | tup b => obtain ⟨a, vs, rfl, _⟩ := ru.tup; simp [isNon]
  | lst b => obtain ⟨a, vs, rfl, _⟩ := ru.lst; simp [isNon]
  | dic ks tk us => simp only [RelU] at ru; obtain ⟨a, vs, rfl, _⟩ := ru; simp [isNon]
theorem sim_isN : SimR2 K (fun x y H Q => y = .non ∧ Q (.bl (decide (x = .non))) H) uIsN := fun x y u w H M Q' rm ru rw h Q c => by
  unfold uIsN at h
  split at h
  · exact ⟨rw.non, c.here rm (by rw [isN_rel ru]; exact relU_bl) h⟩
  · exact h.elim
end
end U2
namespace U2
open PySem L2
def capt {α : Type} (k : Nat) (ix : List Nat) (σ : List (Option α)) : List (Option α) := List.replicate k none ++ ix.map fun i => (σ[i]?).getD none
def tComp (k : Nat) (ix : List Nat) (wi : TI) (g : TG) (tc : TT) (te : TE) : TE := fun σ H Q => wi σ H fun J H1 => ∀ D, H1 D = none → ∃ W : Nat → Nat → Hp → Prop, (∃ m, W 0 m (upd H1 D (.lst []))) ∧ ∀ i m H, W i m H →
  (J.stop i H ∧ Q (.ref D) H) ∨ (J.go i H ∧ ∀ x H', J.yld i H x H' → g x (capt k ix σ) H' fun σ2 H2 => tc σ2 H2 fun ok H3 =>
    if ok = true then te σ2 H3 fun y H4 => ∃ ys, H4 D = some (.lst ys) ∧ ys.length < sizeLine ∧ ∃ m', m' < m ∧ W (i + 1) m' (upd H4 D (.lst (ys ++ [y]))) else ∃ m', m' < m ∧ W (i + 1) m' H3)
def endC (o : Bool) (Q : UK) (D : Addr) (ys : List U) (M : MHp) : Prop := match o with
  | true => Q (.ref D) M
  | false => ∃ M', Sub M' M ∧ M' D = none ∧ Q (.lst ys) M'
def uComp (o : Bool) (k : Nat) (ix : List Nat) (wi : UI) (g : UG) (tc : UT) (te : UE) : UE := fun τ M Q => wi τ M fun S M1 => S.xs.length ≤ sizeLine ∧ ∀ D, M1 D = none → ∃ P : Nat → List U → MHp → Prop, P 0 [] (mup M1 D (.lst [])) ∧
  (∀ i ys M, P i ys M → S.ok M ∧ M D = some (.lst ys) ∧ ys.length ≤ i) ∧
  (∀ i x ys M, S.xs[i]? = some x → P i ys M → g x (capt k ix τ) M fun τ2 M2 => tc τ2 M2 fun ok M3 => if ok = true then te τ2 M3 fun y M4 => M4 D = some (.lst ys) ∧ P (i + 1) (ys ++ [y]) (mup M4 D (.lst (ys ++ [y]))) else P (i + 1) ys M3) ∧
  ∀ ys M, P S.xs.length ys M → endC o Q D ys M
section
variable {K : PySem.W.Frag}
theorem capt_rel {H : Hp} {M : MHp} {σ : St} {τ : SU} (k : Nat) (ix : List Nat) (r : RelS K H M σ τ) : RelS K H M (capt k ix σ) (capt k ix τ) := by
  refine ⟨by simp [capt], fun i u e => ?_⟩
  unfold capt at e ⊢
  by_cases hi : i < k
  · rw [List.getElem?_append_left (by simpa using hi), List.getElem?_replicate] at e
    split at e <;> cases e
  · rw [List.getElem?_append_right (by simpa using Nat.le_of_not_lt hi), List.getElem?_map] at e ⊢
    simp only [List.length_replicate] at e ⊢
    cases q : ix[i - k]? with
    | none => rw [q] at e; cases e
    | some j =>
      rw [q] at e
      simp only [Option.map_some, Option.some.injEq] at e ⊢
      cases z : τ[j]? with
      | none => rw [z] at e; cases e
      | some w =>
        rw [z] at e
        simp only [Option.getD_some] at e
        subst e
        obtain ⟨v, h1, h2⟩ := r.2 j u z
        exact ⟨v, by rw [h1]; rfl, h2⟩
theorem sim_comp {o : Bool} {k : Nat} {ix : List Nat} {wi : TI} {wi' : UI} {g : TG} {g' : UG} {tc : TT} {tc' : UT} {te : TE} {te' : UE} (hi : SimI K wi wi') (hg : SimG K g g') (hc : SimT K tc tc') (he : SimE K te te') :
    SimE K (tComp k ix wi g tc te) (uComp o k ix wi' g' tc' te') := fun σ τ H M Q' rs rm h Q c => by
  refine hi σ τ H M _ rs rm h _ fun J S M1 H1 s1 rm1 w h => ?_
  obtain ⟨hz, h⟩ := h
  intro D hD
  obtain ⟨P, p0, inv, turn, fin⟩ := h D (rm1.no hD)
  have sD : Stp H1 M1 (upd H1 D (.lst [])) (mup M1 D (.lst [])) := Stp.own rm1 hD
  have rmD : RelM K (upd H1 D (.lst [])) (mup M1 D (.lst [])) := rm1.put sD ⟨[], upd_same, .nil⟩
  refine ⟨fun i m H2 => ∃ M2 ys, Stp H1 M1 H2 M2 ∧ RelM K H2 M2 ∧ P i ys M2 ∧ i ≤ S.xs.length ∧ m = S.xs.length - i, ⟨_, _, [], sD, rmD, p0, Nat.zero_le _, rfl⟩, ?_⟩
  rintro i m H2 ⟨M2, ys, s2, rm2, p2, hle, rfl⟩
  obtain ⟨ok2, d2, l2⟩ := inv i ys M2 p2
  by_cases hlt : i < S.xs.length
  · obtain ⟨go, yl⟩ := w.step H2 M2 s2 rm2 ok2 i S.xs[i] (by simp [hlt])
    refine .inr ⟨go, fun x H3 y => ?_⟩
    obtain ⟨s3, rm3, ru⟩ := yl x H3 y
    have rs3 : RelS K H3 M2 (capt k ix σ) (capt k ix τ) := capt_rel k ix (((rs.stp s1).stp s2).stp s3)
    refine hg _ x _ _ H3 M2 _ ru rs3 rm3 (turn i S.xs[i] ys M2 (by simp [hlt]) p2) _ fun σ4 τ4 H4 M4 s4 rm4 rs4 q4 => ?_
    refine hc σ4 τ4 H4 M4 _ rs4 rm4 q4 _ fun b M5 H5 s5 rm5 q5 => ?_
    have s25 : Stp H1 M1 H5 M5 := ((s2.trans s3).trans s4).trans s5
    cases b with
    | false =>
      exact ⟨S.xs.length - (i + 1), by omega, M5, ys, s25, rm5, q5, hlt, rfl⟩
    | true =>
      refine he σ4 τ4 H5 M5 _ (rs4.stp s5) rm5 q5 _ fun u v M6 H6 s6 rm6 ru6 q6 => ?_
      obtain ⟨d6, p6⟩ := q6
      obtain ⟨vs, h6, r6⟩ := rm6 D _ d6
      have l6 : vs.length < sizeLine := by rw [← r6.length]; omega
      have s7 : Stp H6 M6 (upd H6 D (.lst (vs ++ [v]))) (mup M6 D (.lst (ys ++ [u]))) := Stp.write d6
      exact ⟨vs, h6, l6, S.xs.length - (i + 1), by omega, _, ys ++ [u], (s25.trans s6).trans s7, rm6.put s7 ⟨_, upd_same, (r6.append (.cons ru6 .nil)).stp s7⟩, p6, hlt, rfl⟩
  · have e : i = S.xs.length := by omega
    subst e
    refine .inl ⟨w.stop H2 M2 s2 rm2 ok2, ?_⟩
    have q := fin ys M2 p2
    cases o with
    | true => exact c _ _ M2 H2 (s1.trans s2) rm2 relU_ref q
    | false =>
      obtain ⟨M', sb, n, q⟩ := q
      obtain ⟨vs, h6, r6⟩ := rm2 D _ d2
      have s' : Stp H2 M2 H2 M' := sb.less
      exact c _ _ M' H2 ((s1.trans s2).trans s') (rm2.sub sb) (relU_lst n h6 (r6.stp s')) q
end
theorem comp_pure {o : Bool} {k : Nat} {ix : List Nat} {wi : UI} {g : UG} {tc : UT} {te : UE} {τ : SU} {M1 : MHp} {Q : UK} {S : Src} (f : U → Option U) (hz : S.xs.length ≤ sizeLine) (hs : S.ok M1)
    (h : ∀ x ∈ S.xs, ∀ M, Sub M1 M → ∀ R : Option U → MHp → Prop, R (f x) M → g x (capt k ix τ) M fun τ2 M2 => tc τ2 M2 fun ok M3 => if ok = true then te τ2 M3 fun y M4 => R (some y) M4 else R none M3)
    (q : mkL o (S.xs.filterMap f) M1 Q) : S.xs.length ≤ sizeLine ∧ ∀ D, M1 D = none → ∃ P : Nat → List U → MHp → Prop, P 0 [] (mup M1 D (.lst [])) ∧
  (∀ i ys M, P i ys M → S.ok M ∧ M D = some (.lst ys) ∧ ys.length ≤ i) ∧
  (∀ i x ys M, S.xs[i]? = some x → P i ys M → g x (capt k ix τ) M fun τ2 M2 => tc τ2 M2 fun ok M3 => if ok = true then te τ2 M3 fun y M4 => M4 D = some (.lst ys) ∧ P (i + 1) (ys ++ [y]) (mup M4 D (.lst (ys ++ [y]))) else P (i + 1) ys M3) ∧
  ∀ ys M, P S.xs.length ys M → endC o Q D ys M := by
  refine ⟨hz, fun D hD => ⟨fun i ys M => ys = (S.xs.take i).filterMap f ∧ M = mup M1 D (.lst ys) ∧ i ≤ S.xs.length, ⟨by simp, rfl, Nat.zero_le _⟩, ?_, ?_, ?_⟩⟩
  · rintro i ys M ⟨rfl, rfl, hi⟩
    refine ⟨fun a e => ?_, mup_same, ?_⟩
    · have := hs a e
      rw [mup_ne (fun z => by subst z; rw [hD] at this; cases this)]
      exact this
    · refine Nat.le_trans (List.length_filterMap_le _ _) ?_
      rw [List.length_take]; omega
  · rintro i x ys M e ⟨rfl, rfl, hi⟩
    have hlt : i < S.xs.length := (List.getElem?_eq_some_iff.mp e).1
    have hx : x ∈ S.xs := List.mem_of_getElem? e
    have tk : (S.xs.take (i + 1)).filterMap f = (S.xs.take i).filterMap f ++ (f x).toList := by
      rw [List.take_add_one, e, List.filterMap_append]
      cases q : f x <;> simp [q]
    refine h x hx (mup M1 D (.lst ((S.xs.take i).filterMap f))) ((Sub.refl M1).mup hD) (fun r M4 => match r with
      | some y => M4 D = some (.lst ((S.xs.take i).filterMap f)) ∧ ((S.xs.take i).filterMap f ++ [y] = (S.xs.take (i + 1)).filterMap f ∧ mup M4 D (.lst ((S.xs.take i).filterMap f ++ [y])) = mup M1 D (.lst ((S.xs.take i).filterMap f ++ [y])) ∧ i + 1 ≤ S.xs.length)
      | none => (S.xs.take i).filterMap f = (S.xs.take (i + 1)).filterMap f ∧ M4 = mup M1 D (.lst ((S.xs.take i).filterMap f)) ∧ i + 1 ≤ S.xs.length) ?_
    rw [tk]
    cases f x with
    | none => exact ⟨by simp, rfl, hlt⟩
    | some y => exact ⟨mup_same, rfl, mup_mup, hlt⟩
  · rintro ys M ⟨rfl, rfl, hi⟩
    rw [List.take_length]
    cases o with
    | true => exact q D hD
    | false => exact ⟨M1, (Sub.refl M1).mup hD, hD, q⟩
end U2
namespace U2
open PySem PySem.Spec PyProof.Rows L2
theorem turn_str {P : Program} {w : World} {K : PySem.W.Frag} {tg : Expr} {ty : String} (z : Str) (t : Tok) (it : Addr)
    (W : ∀ A' : Around, A'.handled = none → Walks P w A' it [it] [it] z.cps.size (SignAt z) (fun i h => h.IsStrIter it ty z t i))
    (hty : ["enumerate", "zip", "dict_itemiterator", "dict_reverseitemiterator", "odict_iterator", "itertools.zip_longest", "itertools.pairwise"].contains ty = false)
    (self : ∀ (A : Around) (i : Nat) (s : Shared) (Q : Value → Shared → Prop) (E : Value → Shared → Prop), s.heap.IsStrIter it ty z t i → Q (.ref it) s → wpAny (model P w) A (pyIter (.ref it)) Q E s) :
    Turn P w K tg (Its z) [it] it (fun i h => h.IsStrIter it ty z t i) where
  mem := by simp
  obj := fun i h st b hb => by
    have e : b = it := by simpa using hb
    subst e
    obtain ⟨o, e, c, d⟩ := st
    exact ⟨o, e, fun v z => by rw [d] at z; cases z⟩
  keep := fun i h h' st k => let ⟨o, ho, r⟩ := st; ⟨o, k it (by simp) o ho, r⟩
  item := by
    intro X hP hw hK hc i pins s σ H E I hf st hg
    subst hP hw hK
    obtain ⟨f0, f1, f2, f3, f4, f5⟩ := hf it (by simp)
    refine (W X.A (I.ok.hd hc)).item i s _ E hg st fun v h' tk hv st' k => ?_
    obtain ⟨c, u, hc', rfl⟩ := hv
    have I1 : Inv X pins σ H { s with heap := h', toks := tk } := I.turned (t' := tk) (fun b o hb e => k b o (by simpa using hb) e) f0 f1 f3 f4 f5
    obtain ⟨o, e, cl, d⟩ := id st'
    exact ⟨_, rfl, go_of (s := { s with heap := h', toks := tk }) e cl d hty ⟨.str ⟨#[c]⟩, H, I1, ⟨_, rfl⟩, ⟨rfl, c, hc', rfl⟩, st', fun b hb => (hf b hb).1⟩⟩
  done := by
    intro X hP hw hK hc i pins s σ H E I hf st hg
    subst hP hw hK
    have hg' : i = z.cps.size := hg
    subst hg'
    obtain ⟨f0, f1, f2, f3, f4, f5⟩ := hf it (by simp)
    exact (W X.A (I.ok.hd hc)).done s _ E st fun h' tk k => ⟨rfl, I.turned (t' := tk) (fun b o hb e => k b o (by simpa using hb) e) f0 f1 f3 f4 f5⟩
  self := self
section
variable {X : Cx} {tg : Expr}
theorem pi_seq {l : Expr} {tl : TE} (hl : PE X l tl) : PI X tg l (iSeq X.K tl) := by
  intro pins s σ H R I h
  refine thn (hl pins s σ H _ I h) fun v s1 ⟨x, H1, I1, r1, q1⟩ => ?_
  have fp : ∀ b ∈ [s1.heap.objs.size], FpOk X pins H1 b := fun b hb => by
    have e : b = s1.heap.objs.size := by simpa using hb
    subst e
    exact I1.fpOk (Nat.le_refl _) (I1.hok.fresh (Nat.le_refl _))
  rcases q1 with ⟨a, rfl, ⟨xs, hq⟩, q⟩ | ⟨a, rfl, ⟨xs, hq⟩, q⟩ | ⟨z, rfl, q⟩
  · cases r1
    obtain ⟨its, rv, p, hz⟩ := I1.list hq
    refine wpAny_pyIter_list p.isList ?_
    exact ⟨s1.heap.objs.size, [s1.heap.objs.size], _, _, H1, rfl, I1.kept (t' := s1.toks) fun b o e => Heap.get?_push_of_some _ e, turn_list a _, ⟨_, Heap.get?_push_size _ rfl, rfl, rfl⟩, fp, q⟩
  · cases r1
    obtain ⟨its, rv, p, hz⟩ := I1.tuple hq
    refine wpAny_pyIter_tuple (show s1.heap.IsTuple a its.toArray from p) ?_
    exact ⟨s1.heap.objs.size, [s1.heap.objs.size], _, _, H1, rfl, I1.kept (t' := s1.toks) fun b o e => Heap.get?_push_of_some _ e, turn_tuple a _, ⟨_, Heap.get?_push_size _ rfl, rfl, rfl⟩, fp, q⟩
  · obtain ⟨t, rfl⟩ := r1
    cases ha : z.cps.all (· < 128)
    · refine wpAny_pyIter_wide ha ?_
      exact ⟨s1.heap.objs.size, [s1.heap.objs.size], _, _, H1, rfl, I1.kept (t' := s1.toks) fun b o e => Heap.get?_push_of_some _ e,
        turn_str z t _ (fun A' hA => Walks.strWide hA _ z t) (by decide) (fun A i s Q E st h => wpAny_pyIter_striter_wide st h), ⟨_, Heap.get?_push_size _ rfl, rfl, rfl⟩, fp, q⟩
    · refine wpAny_pyIter_ascii ha ?_
      exact ⟨s1.heap.objs.size, [s1.heap.objs.size], _, _, H1, rfl, I1.kept (t' := s1.toks) fun b o e => Heap.get?_push_of_some _ e,
        turn_str z t _ (fun A' hA => Walks.strAscii hA _ z t) (by decide) (fun A i s Q E st h => wpAny_pyIter_striter_ascii st h), ⟨_, Heap.get?_push_size _ rfl, rfl, rfl⟩, fp, q⟩
end
section
variable {prog : Program} {w : World} {A : Around} {R : Result → Shared → Prop} {s : Shared}
theorem compLoop_tg {elt target iter : Expr} {ifs : List Expr} {scope : Scope} {pos : Pos} {it acc : Value} {env : Env} (I : Nat → Shared → Prop)
    (turn : ∀ n s, I n s → wpAny (model prog w) A (pyNext it) (fun r s₁ => match r with
      | none => R (.ok .next) s₁
      | some v => wpAny (model prog w) A (letOwnedTupleGo target it v) (fun _ s₀ => wpAny (model prog w) A (assign target env v) (fun _ s₂ =>
          wpAny (model prog w) A (forIn ifs true fun c r => if r = true then do let ok ← isTrue c env (eval c env); pure (ForInStep.yield ok) else pure (ForInStep.yield r)) (fun ok s₃ =>
            if ok = true then wpAny (model prog w) A (eval elt env) (fun x s₄ =>
              wpAny (model prog w) A (call (.builtin "list.append") [acc, x]) (fun _ s₅ => ∃ m, m < n ∧ I m s₅) (fun _ _ => False) s₄) (fun _ _ => False) s₃
            else ∃ m, m < n ∧ I m s₃) (fun _ _ => False) s₂) (fun _ _ => False) s₀) (fun _ _ => False) s₁) (fun _ _ => False) s)
    (n : Nat) (h : I n s) :
    codeAny (model prog w) A (.compLoop (.ListComp elt [⟨target, iter, ifs, 0⟩] scope pos) 0 it acc env) R s := by
  refine codeAny_loop rfl I (fun n s hI => ?_) n h
  show wpAny _ A ((compTurn (.ListComp elt [⟨target, iter, ifs, 0⟩] scope pos) 0 it acc env).onRaise (fun x => do noteFrame x env; theTreesLotGoes x)) _ _ s
  refine wpAny_noted ?_
  rw [compTurn_list]
  refine wpAny_bind (wpAny_standAt (wpAny_bind (wpAny_mono (turn n s hI) (fun r s₁ h₁ => ?_) fun _ _ h' => h'.elim)))
  cases r with
  | none => exact wpAny_pure h₁
  | some v =>
    refine wpAny_bind (wpAny_mono h₁ (fun _ s₀ h₀ => ?_) fun _ _ h' => h'.elim)
    refine wpAny_bind (wpAny_mono h₀ (fun _ s₂ h₂ => wpAny_bind (wpAny_mono h₂ (fun ok s₃ h₃ => ?_) fun _ _ h' => h'.elim)) fun _ _ h' => h'.elim)
    cases ok with
    | false => exact wpAny_pure ⟨rfl, h₃⟩
    | true =>
      exact wpAny_bind (wpAny_bind (wpAny_mono h₃ (fun x s₄ h₄ => wpAny_bind (wpAny_mono h₄ (fun _ s₅ h₅ => wpAny_pure (wpAny_pure ⟨rfl, h₅⟩)) fun _ _ h' => h'.elim)) fun _ _ h' => h'.elim))
theorem closure_go {env : Env} : ∀ (names : List (Str × NameKind)) (cs : List (Str × Addr)), (∀ x ∈ names, x.2 = .free → ∃ c, env.cells.lookup x.1 = some c) →
    (∀ x c, cs.lookup x = some c → env.cells.lookup x = some c) →
    ∃ cl, (forIn names cs fun (x : Str × NameKind) (cs : List (Str × Addr)) => (if (x.2 == NameKind.free) = true then do let c ← cellOf env x.1; pure (ForInStep.yield ((x.1, c) :: cs)) else pure (ForInStep.yield cs) : Sem (ForInStep (List (Str × Addr))))) = pure cl ∧
      (∀ x c, cl.lookup x = some c → env.cells.lookup x = some c) ∧ (∀ x, (∃ c, cs.lookup x = some c) ∨ (x, NameKind.free) ∈ names → ∃ c, cl.lookup x = some c)
  | [], cs, _, h => ⟨cs, rfl, h, fun x hx => by rcases hx with hx | hx; exact hx; cases hx⟩
  | (n, k) :: r, cs, hf, h => by
    rw [List.forIn_cons]
    by_cases hk : k = .free
    · subst hk
      obtain ⟨c, hc⟩ := hf (n, .free) List.mem_cons_self rfl
      have e : cellOf env n = pure c := by unfold cellOf; rw [hc]
      simp only [beq_self_eq_true, if_true, e, pure_bind]
      obtain ⟨cl, h1, h2, h3⟩ := closure_go r ((n, c) :: cs) (fun x hx => hf x (List.mem_cons_of_mem _ hx)) (fun x d q => by
        rw [List.lookup_cons] at q
        split at q
        · rename_i e; cases q; rw [beq_iff_eq.mp e]; exact hc
        · exact h x d q)
      refine ⟨cl, h1, h2, fun x hx => h3 x ?_⟩
      rcases hx with ⟨d, hd⟩ | hx
      · left
        rw [List.lookup_cons]
        split
        · exact ⟨_, rfl⟩
        · exact ⟨d, hd⟩
      · rcases List.mem_cons.mp hx with e | hx
        · left; cases e; exact ⟨c, by simp [List.lookup_cons]⟩
        · exact .inr hx
    · have hb : (k == NameKind.free) = false := by simpa using hk
      simp only [hb, Bool.false_eq_true, if_false, pure_bind]
      obtain ⟨cl, h1, h2, h3⟩ := closure_go r cs (fun x hx => hf x (List.mem_cons_of_mem _ hx)) h
      refine ⟨cl, h1, h2, fun x hx => h3 x ?_⟩
      rcases hx with hx | hx
      · exact .inl hx
      · rcases List.mem_cons.mp hx with e | hx
        · cases e; exact absurd rfl hk
        · exact .inr hx
theorem closure_of {env : Env} {scope : Scope} (hf : ∀ x ∈ scope.names, x.2 = .free → ∃ c, env.cells.lookup x.1 = some c) :
    ∃ cl, closureFor scope env = pure cl ∧ (∀ x c, cl.lookup x = some c → env.cells.lookup x = some c) ∧ (∀ x, (x, NameKind.free) ∈ scope.names → ∃ c, cl.lookup x = some c) := by
  obtain ⟨cl, h1, h2, h3⟩ := closure_go (env := env) scope.names [] hf (fun x c h => by cases h)
  refine ⟨cl, ?_, h2, fun x hx => h3 x (.inr hx)⟩
  unfold closureFor
  first
    | exact h1
    | (have : _ := h1; simpa using this)
end
def compCx (X : Cx) (N : List Str) (scope : Scope) (cl : List (Str × Addr)) (C : Addr) (s : Shared) (H : Hp) (fp : List Addr) : Cx where
  prog := X.prog
  w := X.w
  K := X.K
  mg := X.mg
  base := X.base
  A := X.A
  N := N
  s₀ := s
  H₀ := H
  env := compEnvC scope cl C X.env
  outer := X.stack
  stack := X.stack
  ex := fp
  fn := fun _ => false
  calm := X.calm
  pn := []
  xe := fun _ _ => False
def PIf (X : Cx) (ifs : List Expr) (t : TT) : Prop :=
  ∀ (pins : List (Addr × Obj)) (s : Shared) (σ : L2.St) (H : Hp) (Q : Bool → Hp → Prop), Inv X pins σ H s → t σ H Q →
    wpAny (model X.prog X.w) X.A (forIn ifs true fun c r => if r = true then do let ok ← isTrue c X.env (eval c X.env); pure (ForInStep.yield ok) else pure (ForInStep.yield r)) (TP X pins σ Q) X.xe s
def tYes : TT := fun _ H Q => Q true H
theorem pif_nil {X : Cx} : PIf X [] tYes := fun pins s σ H Q I h => wpAny_tests_nil ⟨H, I, h⟩
def GK (k : Nat) (g : TG) : Prop := ∀ x σ H Q, g x σ H Q → g x σ H (fun σ2 H2 => (∀ j, k ≤ j → σ2[j]? = σ[j]?) ∧ Q σ2 H2)
def GKs (k : Nat) (g : TGs) : Prop := ∀ xs σ H Q, g xs σ H Q → g xs σ H (fun σ2 H2 => (∀ j, k ≤ j → σ2[j]? = σ[j]?) ∧ Q σ2 H2)
theorem gk_name {k i : Nat} (h : i < k) : GK k (gName i) := fun x σ H Q q => ⟨fun j hj => by rw [List.getElem?_set, if_neg (by omega)], q⟩
theorem gk_nil {k : Nat} : GKs k gNil := fun xs σ H Q q => ⟨q.1, fun j _ => rfl, q.2⟩
theorem gk_cons {k : Nat} {g : TG} {r : TGs} (h1 : GK k g) (h2 : GKs k r) (m2 : ∀ xs σ H Q Q', (∀ σ2 H2, Q σ2 H2 → Q' σ2 H2) → r xs σ H Q → r xs σ H Q') (m1 : ∀ x σ H Q Q', (∀ σ2 H2, Q σ2 H2 → Q' σ2 H2) → g x σ H Q → g x σ H Q') : GKs k (gCons g r) := fun xs σ H Q q => by
  obtain ⟨v, r', rfl, q⟩ := q
  refine ⟨v, r', rfl, m1 _ _ _ _ _ (fun σ2 H2 z => ?_) (h1 _ _ _ _ q)⟩
  exact m2 _ _ _ _ _ (fun σ3 H3 y => ⟨fun j hj => (y.1 j hj).trans (z.1 j hj), y.2⟩) (h2 _ _ _ _ z.2)
theorem m_name {i : Nat} : ∀ x σ H (Q Q' : L2.St → Hp → Prop), (∀ σ2 H2, Q σ2 H2 → Q' σ2 H2) → gName i x σ H Q → gName i x σ H Q' := fun x σ H Q Q' h q => h _ _ q
theorem m_nil : ∀ xs σ H (Q Q' : L2.St → Hp → Prop), (∀ σ2 H2, Q σ2 H2 → Q' σ2 H2) → gNil xs σ H Q → gNil xs σ H Q' := fun x σ H Q Q' h q => ⟨q.1, h _ _ q.2⟩
theorem m_cons {g : TG} {r : TGs} (m1 : ∀ x σ H Q Q', (∀ σ2 H2, Q σ2 H2 → Q' σ2 H2) → g x σ H Q → g x σ H Q') (m2 : ∀ xs σ H Q Q', (∀ σ2 H2, Q σ2 H2 → Q' σ2 H2) → r xs σ H Q → r xs σ H Q') :
    ∀ xs σ H (Q Q' : L2.St → Hp → Prop), (∀ σ2 H2, Q σ2 H2 → Q' σ2 H2) → gCons g r xs σ H Q → gCons g r xs σ H Q' := fun xs σ H Q Q' h q => by
  obtain ⟨v, r', rfl, q⟩ := q
  exact ⟨v, r', rfl, m1 _ _ _ _ _ (fun σ2 H2 z => m2 _ _ _ _ _ h z) q⟩
theorem gk_tup {K : PySem.W.Frag} {k n : Nat} {r : TGs} (h : GKs k r) : GK k (gTup K n r) := fun x σ H Q q => by
  obtain ⟨a, xs, rfl, h1, h2, q⟩ := q
  exact ⟨a, xs, rfl, h1, h2, h _ _ _ _ q⟩
theorem m_tup {K : PySem.W.Frag} {n : Nat} {r : TGs} (m2 : ∀ xs σ H Q Q', (∀ σ2 H2, Q σ2 H2 → Q' σ2 H2) → r xs σ H Q → r xs σ H Q') :
    ∀ x σ H (Q Q' : L2.St → Hp → Prop), (∀ σ2 H2, Q σ2 H2 → Q' σ2 H2) → gTup K n r x σ H Q → gTup K n r x σ H Q' := fun x σ H Q Q' h q => by
  obtain ⟨a, xs, rfl, h1, h2, q⟩ := q
  exact ⟨a, xs, rfl, h1, h2, m2 _ _ _ _ _ h q⟩
theorem comp_core {X : Cx} {tg elt iter : Expr} {ifs : List Expr} {scope : Scope} {pos : Pos} {N : List Str} {k : Nat} {ix : List Nat} {wi : TI} {g : TG} {tc : TT} {te : TE}
    (hc : X.calm = true) (hi : PI X tg iter wi) (gk : GK k g)
    (hk : scope.kind = .function) (hcell : ∀ y ∈ scope.names, y.2 ≠ .cell) (hnames : ∀ y ∈ scope.names, y.2 = .local → scope.names.lookup y.1 = some .local)
    (hfree : ∀ y ∈ scope.names, y.2 = .free → X.env.kindOf y.1 = some .cell ∨ X.env.kindOf y.1 = some .free)
    (hone : ∀ y ∈ scope.names, y.2 = .free → scope.names.lookup y.1 = some .free)
    (hN : ∀ (j : Nat) x, N[k + j]? = some x → ∃ i, ix[j]? = some i ∧ X.N[i]? = some x)
    (hcap : ∀ (j : Nat) x, N[k + j]? = some x → scope.names.lookup x = some .free)
    (hlen : N.length = k + ix.length)
    (hg : ∀ cl C s H fp, PG (compCx X N scope cl C s H fp) tg g)
    (hif : ∀ cl C s H fp, PIf (compCx X N scope cl C s H fp) ifs tc)
    (he : ∀ cl C s H fp, PE (compCx X N scope cl C s H fp) elt te)
    (hs : ∀ x, foldedSetIterable iter X.env x = pure x) {pins : List (Addr × Obj)} {s : Shared} {σ : L2.St} {H : Hp} {Q : VK} (I : L2.Inv X pins σ H s) (h : tComp k ix wi g tc te σ H Q) {pos' : Pos} {use : Option (Value → Sem Unit)} {QQ : Value → Shared → Prop}
    (end_ : ∀ (D C : Addr) (H3 : Hp) (s4 : Shared), L2.Inv X pins σ H3 s4 → (∃ m, s4.heap.Ns C m) → H3 C = none → C ≠ X.env.locals → X.s₀.heap.objs.size ≤ C → (∀ x c, X.env.cells.lookup x = some c → c ≠ C) → (∀ p ∈ X.pn ++ pins, p.1 ≠ C) →
      (∀ h' : Heap, Heap.SameBut C s4.heap h' → L2.Inv X pins σ H3 { s4 with heap := h' }) → Q (.ref D) H3 → compPost (model X.prog X.w) X.A X.xe use QQ (.ref D) C (.ok .next) s4) :
    wpAny (model X.prog X.w) X.A (comprehension (.ListComp elt [⟨tg, iter, ifs, 0⟩] scope pos) scope X.env pos' (newList []) false (eval iter X.env) use) QQ X.xe s := by
  obtain ⟨cl, hclos, hcl, hcl2⟩ := closure_of (env := X.env) (scope := scope) (fun x hx e => I.ok.has x.1 (hfree x hx e))
  refine wpAny_comprehension_free (use := use) rfl hs hclos hk hnames (thn (hi pins s σ H _ I h) fun v s1 h1 => thn h1 fun itv s2 h2 => ?_)
  obtain ⟨it, fp, tn, J, H2, rfl, I2, T, st2, f2, h2⟩ := h2
  refine wpAny_newObj_type (wpAny_newFunctionEnv hcell (by intro y hy; simp at hy) (fun h₁ hns₁ hsb₁ => ?_) hk)
  dsimp only at hns₁ hsb₁ ⊢
  generalize hP : s2.heap.push { cls := .type "list", dict := none, data := .seq ([] : List Value).toArray } = P2 at hns₁ hsb₁ ⊢
  have hCs : P2.objs.size = s2.heap.objs.size + 1 := by rw [← hP, Heap.size_push]
  have below : ∀ b, b < s2.heap.objs.size → b ≠ P2.objs.size := fun b hb => by rw [hCs]; omega
  have old : ∀ b o, s2.heap.get? b = some o → h₁.get? b = some o := fun b o e => hsb₁.extBut b o (below b (Heap.lt_size e)) (Heap.get?_push_of_some _ (hP ▸ Heap.get?_push_of_some _ e))
  have hacc : h₁.get? s2.heap.objs.size = some { cls := .type "list", dict := none, data := .seq ([] : List Value).toArray } := hsb₁.extBut _ _ (show s2.heap.objs.size ≠ P2.objs.size by rw [hCs]; exact Nat.ne_of_lt (Nat.lt_succ_self _)) (Heap.get?_push_of_some _ (hP ▸ Heap.get?_push_size _ rfl))
  obtain ⟨W, ⟨m0, w0⟩, turn⟩ := h2 s2.heap.objs.size (I2.hok.fresh (Nat.le_refl _))
  have fpl : ∀ b ∈ fp, b < s2.heap.objs.size := fun b hb => let ⟨o, e, _⟩ := T.obj _ _ st2 b hb; Heap.lt_size e
  have σl : (capt k ix σ).length = N.length := by rw [hlen]; simp [capt]
  have i2 := I2.ok
  -- the block's context is in order
  have ok' : (compCx X N scope cl P2.objs.size s2 H2 fp).Ok := by
    refine ⟨i2.mod, hk, i2.glob, i2.blt, (by show s2.heap.objs.size ≤ P2.objs.size; rw [hCs]; exact Nat.le_succ _), fun x y c e1 e2 => i2.inj x y c (hcl x c e1) (hcl y c e2), fun x hx => ?_, (fun x c e => by cases e), i2.hd, i2.frames, .inl rfl, fun b hb => ?_, fun b o e => I2.bs b o e, Nat.le_trans i2.bsz I2.sz, fun b o e hb => ?_, fun b hb hb2 => ?_, I2.stack, I2.stkFree⟩
    · -- a cell of the block's
      have hx' : (relabel scope X.env).names.lookup x = some .cell ∨ (relabel scope X.env).names.lookup x = some .free := hx
      have key : ∀ (names : List (Str × NameKind)), (∀ y ∈ names, y.2 ≠ .cell) → ((names.map fun (n, k) => if (k == NameKind.free && X.env.scope.kind == .function && X.env.kindOf n == some .cell) then (n, NameKind.cell) else (n, k)).lookup x = some .cell ∨
          (names.map fun (n, k) => if (k == NameKind.free && X.env.scope.kind == .function && X.env.kindOf n == some .cell) then (n, NameKind.cell) else (n, k)).lookup x = some .free) → (x, NameKind.free) ∈ names := by
        intro names
        induction names with
        | nil => intro _ h; rcases h with h | h <;> cases h
        | cons y r ih =>
          obtain ⟨n, kd⟩ := y
          intro hnc h
          by_cases hxn : x = n
          · subst hxn
            have hkc : kd ≠ .cell := hnc (x, kd) List.mem_cons_self
            by_cases hkf : kd = .free
            · subst hkf; exact List.mem_cons_self
            · exfalso
              have hb : (kd == NameKind.free) = false := by simpa using hkf
              simp only [List.map_cons, hb, Bool.false_and, Bool.false_eq_true, if_false, List.lookup_cons, beq_self_eq_true] at h
              rcases h with h | h
              · exact hkc (Option.some.inj h)
              · exact hkf (Option.some.inj h)
          · have hb : (x == n) = false := by simpa using hxn
            refine List.mem_cons_of_mem _ (ih (fun y hy => hnc y (List.mem_cons_of_mem _ hy)) ?_)
            have e1 : ∀ z : NameKind, List.lookup x (((n, z)) :: (r.map fun (n, k) => if (k == NameKind.free && X.env.scope.kind == .function && X.env.kindOf n == some .cell) then (n, NameKind.cell) else (n, k))) = List.lookup x (r.map fun (n, k) => if (k == NameKind.free && X.env.scope.kind == .function && X.env.kindOf n == some .cell) then (n, NameKind.cell) else (n, k)) := fun z => by rw [List.lookup_cons, hb]
            rw [List.map_cons] at h
            dsimp only at h
            split at h
            · rw [e1] at h; exact h
            · rw [e1] at h; exact h
      exact hcl2 x (key scope.names hcell hx')
    · exact ⟨below b (fpl b hb), fun x c e => (f2 b hb).2.2.2.2.1 x c (hcl x c e)⟩
    · rcases (f2 b hb).2.2.2.1 with z | z
      · exact i2.noex b o e z
      · exact absurd (Nat.lt_of_lt_of_le (Heap.lt_size e) (Nat.le_trans i2.bsz z)) (Nat.lt_irrefl _)
    · rcases List.mem_cons.mp (I2.stkSub b hb2) with z | z
      · exact (f2 b hb).2.1 z
      · exact (f2 b hb).2.2.1 z
  have stat : ∀ {H' : Hp}, (∀ b ∈ fp, H' b = none) → ∀ b ∈ fp, FpOk (compCx X N scope cl P2.objs.size s2 H2 fp) [] H' b := fun hn b hb =>
    ⟨hn b hb, below b (fpl b hb), fun z => ok'.exfs b hb z, .inl hb, fun x c e => (f2 b hb).2.2.2.2.1 x c (hcl x c e), (fun p hp => by cases hp)⟩
  have hD : H2 s2.heap.objs.size = none := I2.hok.fresh (Nat.le_refl _)
  have relf : ∀ x, scope.names.lookup x = some .free → (X.env.kindOf x = some .cell ∨ X.env.kindOf x = some .free) → ((relabel scope X.env).names.lookup x = some .cell ∨ (relabel scope X.env).names.lookup x = some .free) := by
    intro x hx hkx
    have key : ∀ (names : List (Str × NameKind)), names.lookup x = some .free → ((names.map fun (n, k) => if (k == NameKind.free && X.env.scope.kind == .function && X.env.kindOf n == some .cell) then (n, NameKind.cell) else (n, k)).lookup x = some .cell ∨
        (names.map fun (n, k) => if (k == NameKind.free && X.env.scope.kind == .function && X.env.kindOf n == some .cell) then (n, NameKind.cell) else (n, k)).lookup x = some .free) := by
      intro names
      induction names with
      | nil => intro h; cases h
      | cons y r ih =>
        obtain ⟨n, kd⟩ := y
        intro h
        rw [List.lookup_cons] at h
        by_cases hxn : x = n
        · subst hxn
          simp only [beq_self_eq_true] at h
          cases h
          rw [List.map_cons]
          dsimp only
          split
          · left; simp [List.lookup_cons]
          · right; simp [List.lookup_cons]
        · have hb : (x == n) = false := by simpa using hxn
          rw [hb] at h
          have := ih h
          rw [List.map_cons]
          dsimp only
          split
          · rw [List.lookup_cons, hb]; exact this
          · rw [List.lookup_cons, hb]; exact this
    exact key scope.names hx
  have Istart : ∀ tk, Inv (compCx X N scope cl P2.objs.size s2 H2 fp) [] (capt k ix σ) (upd H2 s2.heap.objs.size (.lst [])) { s2 with heap := h₁, toks := tk } := fun tk => by
    refine ⟨ok', rfl, I2.bare, Un.laid old (Nat.le_refl _) hD, ⟨_, hns₁, fun i x v e1 e2 e3 => ?_⟩, fun x c e => ?_, ?_, fun x c e => ?_, (fun p hp => by cases hp), I2.hok.laid old (Nat.le_refl _) ⟨Nat.zero_le _, [], _, .nil, hacc⟩, σl⟩
    · by_cases hik : i < k
      · exfalso
        unfold capt at e2
        rw [List.getElem?_append_left (by simpa using hik), List.getElem?_replicate] at e2
        split at e2 <;> cases e2
      · have ej : i = k + (i - k) := by omega
        have e1' : N[k + (i - k)]? = some x := by rw [← ej]; exact e1
        obtain ⟨i0, hi0, hXN⟩ := hN (i - k) x e1'
        have hfx := hcap (i - k) x e1'
        have hmem : (x, NameKind.free) ∈ scope.names := PySem.mem_of_lookup hfx
        have hkx := hfree _ hmem rfl
        have e4 : σ[i0]? = some (some v) := by
          unfold capt at e2
          rw [List.getElem?_append_right (by simpa using Nat.le_of_not_lt hik), List.getElem?_map] at e2
          simp only [List.length_replicate, hi0, Option.map_some, Option.some.injEq] at e2
          cases z : σ[i0]? with
          | none => rw [z] at e2; cases e2
          | some y => rw [z] at e2; simp only [Option.getD_some] at e2; rw [e2]
        obtain ⟨m2, hn2, hl2⟩ := I2.loc
        obtain ⟨u, ru, lk⟩ := hl2 i0 x v hXN e4 (by rcases hkx with z | z; exact .inr (.inl z); exact .inr (.inr z))
        rcases lk with ⟨z, _⟩ | ⟨_, c, hc1, hc2⟩
        · exfalso
          have z' : X.env.kindOf x = some .local := z
          rcases hkx with y | y <;> (rw [z'] at y; cases y)
        · obtain ⟨c', hc'⟩ := hcl2 x hmem
          have e5 := hcl x c' hc'
          rw [hc1] at e5; cases e5
          obtain ⟨o, ho, hd⟩ := hc2
          exact ⟨u, ru, .inr ⟨relf x hfx hkx, c, hc', o, old _ _ ho, hd⟩⟩
    · obtain ⟨v, o, ho, hd⟩ := I2.cell x c (hcl x c e)
      exact ⟨v, o, old _ _ ho, hd⟩
    · show upd H2 s2.heap.objs.size (.lst []) P2.objs.size = none
      rw [upd_ne (show P2.objs.size ≠ s2.heap.objs.size by rw [hCs]; exact Nat.succ_ne_self _)]
      exact I2.hok.fresh (show s2.heap.objs.size ≤ P2.objs.size by rw [hCs]; exact Nat.le_succ _)
    · have e' := hcl x c e
      obtain ⟨v, o, ho, hd⟩ := I2.cell x c e'
      rw [upd_ne (Nat.ne_of_lt (Heap.lt_size ho))]
      exact I2.freeC x c e'
  have st1 : tn 0 h₁ := T.keep 0 _ _ st2 fun b hb o e => old b o e
  have fr1 : ∀ b ∈ fp, upd H2 s2.heap.objs.size (.lst []) b = none := fun b hb => by rw [upd_ne (Nat.ne_of_lt (fpl b hb))]; exact (f2 b hb).1
  -- behind the block
  have fin : ∀ (H3 : Hp) (s4 : Shared), Inv (compCx X N scope cl P2.objs.size s2 H2 fp) [] (capt k ix σ) H3 s4 → ∀ h' : Heap, Heap.SameBut P2.objs.size s4.heap h' → Inv X pins σ H3 { s4 with heap := h' } := fun H3 s4 I4 h' sb => by
    have kp : ∀ b o, b < s2.heap.objs.size → s4.heap.get? b = some o → h'.get? b = some o := fun b o hb e => sb.extBut b o (below b hb) e
    have u : Un (frs X.stack) fp H2 H3 s2.heap s4.heap := I4.base
    refine I2.call' (ch := fp) (H' := H3) I4.os ⟨fun b o q n hb hx => kp b o (Heap.lt_size q) (u.keep b o q n hb hx), fun b o q n hb hx => ?_, u.free, fun b o q hx => ?_, u.tups, u.frzs, u.tbls⟩ (fun a o e => ?_) I4.bare fun b hb => ⟨(f2 b hb).2.2.2.1, (f2 b hb).2.1, (f2 b hb).2.2.2.2.1, (f2 b hb).2.2.2.2.2⟩
    · obtain ⟨sl, e⟩ := u.slot b o q n hb hx
      exact ⟨sl, kp b _ (Heap.lt_size q) e⟩
    · obtain ⟨o', e⟩ := u.there b o q hx
      exact ⟨o', kp b _ (Heap.lt_size q) e⟩
    · have nC : H3 P2.objs.size = none := I4.free
      refine (I4.hok a o e).stay (fun b z hb q => sb.extBut b z ?_ q) (fun _ q => q) fun _ _ q => q
      rcases hb with rfl | hb
      · exact ne_of_none e nC
      · exact ne_of_none hb nC
  have loop : ∀ tk, codeAny (model X.prog X.w) X.A (.compLoop (.ListComp elt [⟨tg, iter, ifs, 0⟩] scope pos) 0 (.ref it) (.ref s2.heap.objs.size) (compEnvC scope cl P2.objs.size X.env))
      (compPost (model X.prog X.w) X.A X.xe use QQ (.ref s2.heap.objs.size) P2.objs.size) { s2 with heap := h₁, toks := tk } := fun tk => by
    refine compLoop_tg (fun n s' => ∃ i H', Inv (compCx X N scope cl P2.objs.size s2 H2 fp) [] (capt k ix σ) H' s' ∧ tn i s'.heap ∧ (∀ b ∈ fp, H' b = none) ∧ W i n H') ?_ m0 ⟨0, _, Istart tk, st1, fr1, w0⟩
    rintro n s3 ⟨i, H3, I3, st3, fr3, w3⟩
    rcases turn i n H3 w3 with ⟨stop, q⟩ | ⟨go, step⟩
    · refine thn (T.done (compCx X N scope cl P2.objs.size s2 H2 fp) rfl rfl rfl hc i [] s3 _ H3 (fun _ _ => False) I3 (stat fr3) st3 stop) fun r s4 ⟨hr, I4⟩ => ?_
      subst hr
      obtain ⟨m, hn, _⟩ := I4.loc
      refine end_ s2.heap.objs.size P2.objs.size H3 s4 (fin H3 s4 I4 s4.heap (Heap.SameBut.refl ..)) ⟨m, hn⟩ I4.free (Ne.symm (below _ I2.lt)) (Nat.le_trans I2.sz (show s2.heap.objs.size ≤ P2.objs.size by rw [hCs]; exact Nat.le_succ _)) (fun x c e => ?_) (fun p hp => below _ (Heap.lt_size (I2.pin p hp).1)) (fin H3 s4 I4) q
      obtain ⟨v, o, ho, _⟩ := I2.cell x c e
      exact below _ (Heap.lt_size ho)
    · refine thn (T.item (compCx X N scope cl P2.objs.size s2 H2 fp) rfl rfl rfl hc i [] s3 _ H3 (fun _ _ => False) I3 (stat fr3) st3 go) fun r s4 ⟨u, hr, h4⟩ => ?_
      subst hr
      refine thn h4 fun _ s5 ⟨x, H5, I5, r5, y5, st5, fr5⟩ => ?_
      have I5' := I5.pinned (stat fr5) (T.obj _ _ st5)
      refine thn (hg cl P2.objs.size s2 H2 fp _ s5 _ H5 x u _ I5' r5 (gk _ _ _ _ (step x H5 y5))) fun _ s6 ⟨σ6, H6, I6, ag, q6⟩ => ?_
      have again : ∀ {s7 : Shared} {H7 : Hp} {m' : Nat}, Inv (compCx X N scope cl P2.objs.size s2 H2 fp) ([] ++ pinsAt fp s5.heap) σ6 H7 s7 → m' < n → W (i + 1) m' H7 → ∃ m, m < n ∧ ∃ i H', Inv (compCx X N scope cl P2.objs.size s2 H2 fp) [] (capt k ix σ) H' s7 ∧ tn i s7.heap ∧ (∀ b ∈ fp, H' b = none) ∧ W i m H' := fun {s7 H7 m'} I7 hm w7 => by
        refine ⟨m', hm, i + 1, H7, (I7.unpinned).weak (by rw [σl]; exact (I7.len).symm) (fun j v e => ?_), T.keep _ _ _ st5 fun b hb o e => (I7.pin (b, o) (List.mem_append_right _ (List.mem_append_right _ (mem_pinsAt hb e)))).1, fun b hb => ?_, w7⟩
        · by_cases hj : j < k
          · exfalso
            unfold capt at e
            rw [List.getElem?_append_left (by simpa using hj), List.getElem?_replicate] at e
            split at e <;> cases e
          · rw [ag j (by omega)]; exact e
        · obtain ⟨o, e, d⟩ := T.obj _ _ st5 b hb
          exact (I7.pin (b, o) (List.mem_append_right _ (List.mem_append_right _ (mem_pinsAt hb e)))).2.1
      refine thn (hif cl P2.objs.size s2 H2 fp _ s6 σ6 H6 _ I6 q6) fun ok s7 ⟨H7, I7, q7⟩ => ?_
      cases ok with
      | false =>
        obtain ⟨m', hm, w7⟩ := q7
        exact again I7 hm w7
      | true =>
        refine thn (he cl P2.objs.size s2 H2 fp _ s7 σ6 H7 _ I7 q7) fun y s8 ⟨yv, H8, I8, r8, ys, hD8, hz8, m', hm, w8⟩ => ?_
        refine thn (mt_append _ s8 σ6 H8 (.ref s2.heap.objs.size) [yv] (.ref s2.heap.objs.size) [y] (fun v H9 => H9 = upd H8 s2.heap.objs.size (.lst (ys ++ [yv]))) I8 rfl (.cons r8 .nil) ⟨_, ys, yv, rfl, rfl, hD8, hz8, rfl⟩) fun _ s9 ⟨_, H9, I9, _, e9⟩ => ?_
        subst e9
        exact again I9 hm w8
  exact codeAny_compStart_list (loop _) (T.self _ 0 _ _ _ st1 (loop _))
theorem pe_comp {X : Cx} {tg elt iter : Expr} {ifs : List Expr} {scope : Scope} {pos : Pos} {N : List Str} {k : Nat} {ix : List Nat} {wi : TI} {g : TG} {tc : TT} {te : TE}
    (hc : X.calm = true) (hi : PI X tg iter wi) (gk : GK k g)
    (hk : scope.kind = .function) (hcell : ∀ y ∈ scope.names, y.2 ≠ .cell) (hnames : ∀ y ∈ scope.names, y.2 = .local → scope.names.lookup y.1 = some .local)
    (hfree : ∀ y ∈ scope.names, y.2 = .free → X.env.kindOf y.1 = some .cell ∨ X.env.kindOf y.1 = some .free)
    (hone : ∀ y ∈ scope.names, y.2 = .free → scope.names.lookup y.1 = some .free)
    (hN : ∀ (j : Nat) x, N[k + j]? = some x → ∃ i, ix[j]? = some i ∧ X.N[i]? = some x)
    (hcap : ∀ (j : Nat) x, N[k + j]? = some x → scope.names.lookup x = some .free)
    (hlen : N.length = k + ix.length)
    (hg : ∀ cl C s H fp, PG (compCx X N scope cl C s H fp) tg g)
    (hif : ∀ cl C s H fp, PIf (compCx X N scope cl C s H fp) ifs tc)
    (he : ∀ cl C s H fp, PE (compCx X N scope cl C s H fp) elt te)
    (hs : ∀ x, foldedSetIterable iter X.env x = pure x := by intro _; rfl) :
    PE X (.ListComp elt [⟨tg, iter, ifs, 0⟩] scope pos) (tComp k ix wi g tc te) := by
  intro pins s σ H Q I h
  rw [eval_ListComp]
  refine comp_core (use := none) hc hi gk hk hcell hnames hfree hone hN hcap hlen hg hif he hs I h fun D C H3 s4 I4 ⟨m, hn⟩ _ _ _ _ _ fin q => ?_
  exact ⟨m, hn, fun h' sb => ⟨.ref D, H3, fin h' sb, rfl, q⟩⟩
theorem ps_comp {X : Cx} {tg elt iter : Expr} {ifs : List Expr} {scope : Scope} {pos spos py : Pos} {N : List Str} {k : Nat} {ix : List Nat} {wi : TI} {g : TG} {tc : TT} {te : TE} {i : Nat} {y : Str}
    (hc : X.calm = true) (hi : PI X tg iter wi) (gk : GK k g)
    (hk : scope.kind = .function) (hcell : ∀ y ∈ scope.names, y.2 ≠ .cell) (hnames : ∀ y ∈ scope.names, y.2 = .local → scope.names.lookup y.1 = some .local)
    (hfree : ∀ y ∈ scope.names, y.2 = .free → X.env.kindOf y.1 = some .cell ∨ X.env.kindOf y.1 = some .free)
    (hone : ∀ y ∈ scope.names, y.2 = .free → scope.names.lookup y.1 = some .free)
    (hN : ∀ (j : Nat) x, N[k + j]? = some x → ∃ i, ix[j]? = some i ∧ X.N[i]? = some x)
    (hcap : ∀ (j : Nat) x, N[k + j]? = some x → scope.names.lookup x = some .free)
    (hlen : N.length = k + ix.length)
    (hg : ∀ cl C s H fp, PG (compCx X N scope cl C s H fp) tg g)
    (hif : ∀ cl C s H fp, PIf (compCx X N scope cl C s H fp) ifs tc)
    (he : ∀ cl C s H fp, PE (compCx X N scope cl C s H fp) elt te)
    (hs : ∀ x, foldedSetIterable iter X.env x = pure x) (hsw : swapsWith (.ListComp elt [⟨tg, iter, ifs, 0⟩] scope pos) (some (.Name y py)) spos.line X.env = pure true)
    (hNd : X.N.Nodup) (hiy : X.N[i]? = some y) (hy : Loc X.env.scope y) (hf : X.fn y = true ∨ X.env.scope.names.lookup y = some .local) :
    PS X (.Assign [.Name y py] (.ListComp elt [⟨tg, iter, ifs, 0⟩] scope pos) spos) (tAsg (tComp k ix wi g tc te) (gName i)) := by
  intro pins s σ H D I h
  rw [exec_Assign_Name_used _ _ _ _ hsw]
  refine wpAny_bind (wpAny_standAt (wpAny_bind ?_))
  show wpAny _ X.A (do let _ ← comprehension (.ListComp elt [⟨tg, iter, ifs, 0⟩] scope pos) scope X.env _ (newList []) false (eval iter X.env) (some (assign (.Name y py) X.env))) _ _ s
  refine wpAny_bind (wpAny_mono (comp_core (use := some (assign (.Name y py) X.env)) (QQ := fun _ s' => SP X pins D .next s') hc hi gk hk hcell hnames hfree hone hN hcap hlen hg hif he hs I h fun A C H3 s4 I4 hn nC nL sC cC pC fin q => ?_) (fun _ s' hq => wpAny_pure (wpAny_pure hq)) fun _ _ e => e)
  show wpAny _ X.A (assign (.Name y py) X.env (.ref A)) _ _ _
  refine wpAny_assign_Name (store_ok2 (i := i) (v := .ref A) I4 hNd hiy hy rfl (fun s5 I5 ⟨a, sb, ha⟩ => ?_) hf)
  obtain ⟨m, hn⟩ := hn
  have aC : C ≠ a := by
    rcases ha with z | z
    · rw [z]; exact nL
    · exact fun e => cC y a z e.symm
  refine ⟨m, hn.at' fun o e => sb.extBut C o aC e, fun h' sb' => ?_⟩
  exact ⟨_, H3, I5.turned (t' := s5.toks) (fun b o hb e => sb'.extBut b o hb e) nC nL (.inr sC) cC pC, q⟩
section
variable {X : Cx}
theorem op_catL : OpR X (binaryOp .Add) (rCatL X.K) := by
  intro pins s σ H x y v u Q I rx ry h
  obtain ⟨l, b, xs, zs, rfl, rfl, hH, hB, hz, q⟩ := h
  cases rx
  cases ry
  obtain ⟨its, r, p, hl⟩ := I.list hH
  obtain ⟨its2, r2, p2, hl2⟩ := I.list hB
  obtain ⟨⟨cls, dd, data, sl⟩, n, ho, hc, _, hd⟩ := p
  obtain ⟨⟨cls2, dd2, data2, sl2⟩, n2, ho2, hc2, _, hd2⟩ := p2
  simp only at hc hd hc2 hd2
  subst hc hd hc2 hd2
  have q1 := r.length
  have q2 := r2.length
  have e : its.toArray ++ its2.toArray = (its ++ its2).toArray := by simp
  refine concat_meets ⟨_, ho, rfl⟩ ⟨_, ho2, rfl⟩ noFill_list_add seq_list_add PySem.F.slot_list_add PySem.F.entry_list_add (PySem.F.args_list_add_2 _ _) (list_addW l b its.toArray its2.toArray n n2 dd dd2 sl sl2 (by rw [List.size_toArray, List.size_toArray]; omega)) ⟨ho, ho2, ?_⟩
  rw [e]
  exact ⟨.ref _, _, I.lnew (t' := s.toks) (r.append r2) (by rw [List.length_append]; omega), rfl, q _ I.fresh⟩
theorem op_catTA : OpR X (binaryOp .Add) (rCatTA X.K) := by
  intro pins s σ H x y v u Q I rx ry h
  obtain ⟨a, b, xs, ys, rfl, rfl, ha, hb, hz, q0, q1, q2⟩ := h
  by_cases hx : xs = []
  · cases rx
    cases ry
    obtain ⟨its, r1, p1, _⟩ := I.tuple ha
    obtain ⟨its2, r2, p2, _⟩ := I.tuple hb
    obtain ⟨⟨cls, dd, data, sl⟩, ho, hc, n, hd⟩ := p1
    obtain ⟨⟨cls2, dd2, data2, sl2⟩, ho2, hc2, n2, hd2⟩ := p2
    simp only at hc hd hc2 hd2
    subst hc hd hc2 hd2
    have e : its = [] := r1.nil_iff.mpr hx
    exact concat_meets ⟨_, ho, rfl⟩ ⟨_, ho2, rfl⟩ noFill_tuple_add seq_tuple_add PySem.F.slot_tuple_add PySem.F.entry_tuple_add (PySem.F.args_tuple_add_2 _ _) (tuple_addW0 a b its.toArray its2.toArray n n2 dd dd2 sl sl2 (by rw [e]; rfl)) ⟨ho, ho2, .ref b, H, I, rfl, q0 hx⟩
  · exact op_catT pins s σ H _ _ v u Q I rx ry ⟨a, b, xs, ys, rfl, rfl, ha, hb, hx, hz, q1 hx, q2 hx⟩
theorem sl_str : SlR X (fun x lo hi H Q => ∃ z : Str, x = .str z ∧ z.length ≤ sizeLine ∧ Q (.str (Txt.slice z lo hi)) H) := by
  intro pins s σ H x v vl vu lo hi sl Q I rx hs pl pu h
  obtain ⟨z, rfl, hz, q⟩ := h
  obtain ⟨t, rfl⟩ := rx
  refine ⟨"str", _, F.slot_str_getitem.lookup, typeIs_str _ _ _, ?_⟩
  have fin : ∀ t' k, EP X pins σ Q (.str (Txt.slice z lo hi) t') { s with toks := k } := fun t' k => ⟨.str (Txt.slice z lo hi), H, I.tok k, ⟨t', rfl⟩, q⟩
  cases pl with
  | none => cases pu with
    | none => exact wpAny_getItem_str_slice (l := none) (u := none) (st := none) hs rfl (post_val_or_str ⟨Nat.le_trans (Txt.slice_le z _ _) hz, fun t' k => fin t' k⟩)
    | int j uj => exact wpAny_getItem_str_slice (l := none) (u := some (j, uj)) (st := none) hs rfl (post_val_or_str ⟨Nat.le_trans (Txt.slice_le z _ _) hz, fun t' k => fin t' k⟩)
  | int i ui => cases pu with
    | none => exact wpAny_getItem_str_slice (l := some (i, ui)) (u := none) (st := none) hs rfl (post_val_or_str ⟨Nat.le_trans (Txt.slice_le z _ _) hz, fun t' k => fin t' k⟩)
    | int j uj => exact wpAny_getItem_str_slice (l := some (i, ui)) (u := some (j, uj)) (st := none) hs rfl (post_val_or_str ⟨Nat.le_trans (Txt.slice_le z _ _) hz, fun t' k => fin t' k⟩)
theorem sl_any : SlR X (rSlA X.K) := sl_list.or (sl_tup.or sl_str)
theorem call_allB (hc : X.calm = true) : CallR X (.builtin "all") (fun xs H Q => ∃ (p : Addr) (bs : List Bool), xs = [.ref p] ∧ SqL X.K H p (bs.map V.bl) ∧ Q (.bl (bs.all fun b => b)) H) := by
  intro pins s σ H xs us Q I r h
  obtain ⟨a, bs, rfl, ha, q⟩ := h
  obtain ⟨u, rfl, ru⟩ := vals1 r
  cases ru
  obtain ⟨its, rv, p, hz⟩ := I.list ha
  have hl := rv.length
  have hne : a ≠ s.heap.objs.size := by
    obtain ⟨o, n, e, _⟩ := p
    exact Nat.ne_of_lt (Heap.lt_size e)
  refine call_all_walk (wpAny_pyIter_list p.isList ?_)
  refine ⟨s.heap.objs.size, _, _, _, _, _, fun i => (bs[i]?).getD false, rfl, Walks.list (show X.A.in1.handled = none from I.ok.hd hc) s.heap.objs.size a hne its.toArray, ⟨⟨_, Heap.get?_push_size _ rfl, rfl, rfl⟩, ?_⟩, ?_, fun h' tk k => ?_⟩
  · obtain ⟨o, n, e, c, d, z⟩ := p
    exact ⟨o, Heap.get?_push_of_some _ e, c, n, z⟩
  · intro i v s' Q' E' hP hQ
    have hv : its[i]? = some v := by simpa using hP
    have hi : i < bs.length := by
      have := (List.getElem?_eq_some_iff.mp hv).1
      rw [← hl] at this; simpa using this
    obtain ⟨u, hu, ru⟩ := rv.get (i := i) (x := .bl bs[i]) (by simp [hi])
    rw [hv] at hu; cases hu
    cases ru
    refine wpAny_truthy_bool ?_
    have : (bs[i]?).getD false = bs[i] := by simp [hi]
    rw [← this]; exact hQ
  · have e : (List.range its.toArray.size).all (fun i => (bs[i]?).getD false) = bs.all fun b => b := by
      have : its.toArray.size = bs.length := by rw [List.size_toArray, ← hl, List.length_map]
      rw [this]
      clear this hl rv p hz k
      rw [Bool.eq_iff_iff]
      simp only [List.all_eq_true, List.mem_range]
      constructor
      · intro h b hb
        obtain ⟨i, hi, rfl⟩ := List.mem_iff_getElem.mp hb
        have := h i hi
        simpa [hi] using this
      · intro h i hi
        have := h bs[i] (List.getElem_mem hi)
        simpa [hi] using this
    rw [e]
    exact ⟨.bl _, H, I.kept (t' := tk) (fun b o e => k b o (fun z => Nat.lt_irrefl _ (Nat.lt_of_lt_of_le (Heap.lt_size e) (Nat.le_of_eq (show s.heap.objs.size = b from (List.mem_singleton.mp z).symm)))) (Heap.get?_push_of_some _ e)), rfl, q⟩
end
end U2
namespace U2
open PySem PySem.Spec PyProof.Rows L2
structure Dat where
  prog : Program
  w : World
  K : PySem.W.Frag
  mg : Str → Option Value
  base : Heap
  N : List Str
  sc : Scope
  k : Nat
  fn : Bool
  cod : Value := .none
  qual : Str := ""
structure Has (D : Dat) (X : Cx) : Prop where
  prog : X.prog = D.prog
  w : X.w = D.w
  K : X.K = D.K
  mg : X.mg = D.mg
  base : X.base = D.base
  N : X.N = D.N
  sc : X.env.scope = D.sc
  room : Room D.k X.A
  calm : X.calm = true
  xe : X.xe = fun _ _ => False
  fn : D.fn = true → ∀ x, X.fn x = true
  cod : D.cod ≠ .none → X.env.code = D.cod ∧ X.env.qual = D.qual
def PEU (D : Dat) (e : Expr) (t' : UE) : Prop := ∃ t, (∀ X, Has D X → PE X e t) ∧ SimE D.K t t'
def PTU (D : Dat) (e : Expr) (t' : UT) : Prop := ∃ t, (∀ X, Has D X → PT X e t) ∧ SimT D.K t t'
def PWU (D : Dat) (e : Expr) (t' : UT) : Prop := ∃ t, (∀ X, Has D X → PW X e t) ∧ SimT D.K t t'
def PAU (D : Dat) (es : List Expr) (t' : UA) : Prop := ∃ t, (∀ X, Has D X → PA X es t) ∧ SimA D.K t t'
def PSU (D : Dat) (s : Stmt) (t' : US) : Prop := ∃ t, (∀ X, Has D X → PS X s t) ∧ SimS D.K t t'
def PSsU (D : Dat) (s : List Stmt) (t' : US) : Prop := ∃ t, (∀ X, Has D X → PSs X s t) ∧ SimS D.K t t'
def PGU (D : Dat) (k : Nat) (e : Expr) (g' : UG) : Prop := ∃ g, (∀ X, Has D X → PG X e g) ∧ SimG D.K g g' ∧ GK k g ∧ ∀ x σ H Q Q', (∀ σ2 H2, Q σ2 H2 → Q' σ2 H2) → g x σ H Q → g x σ H Q'
def PGsU (D : Dat) (k : Nat) (es : List Expr) (g' : UGs) : Prop := ∃ g, (∀ X, Has D X → PGs X es g) ∧ SimGs D.K g g' ∧ GKs k g ∧ ∀ x σ H Q Q', (∀ σ2 H2, Q σ2 H2 → Q' σ2 H2) → g x σ H Q → g x σ H Q'
def PIU (D : Dat) (tg e : Expr) (t' : UI) : Prop := ∃ t, (∀ X, Has D X → PI X tg e t) ∧ SimI D.K t t'
def POU (D : Dat) (e : Option Expr) (t' : UO) : Prop := ∃ t, (∀ X, Has D X → PO X e t) ∧ SimO D.K t t'
def PIfU (D : Dat) (es : List Expr) (t' : UT) : Prop := ∃ t, (∀ X, Has D X → PIf X es t) ∧ SimT D.K t t'
section
variable {D : Dat} {a b c e o : Expr} {ta tb tc te : UE} {pos : Pos}
theorem uv (i : Nat) {x : Str} (hN : D.N[i]? = some x := by rfl) (hv : Vis D.sc x := by first | exact Or.inl rfl | exact Or.inr (Or.inl rfl) | exact Or.inr (Or.inr rfl)) (hd : (x == ("__debug__" : Str)) = false := by decide)
    (hcd : (x == ("__classdict__" : Str)) = false := by decide) : PEU D (.Name x pos) (uVar i) :=
  ⟨_, fun X h => pe_var (by rw [h.N]; exact hN) (by rw [h.sc]; exact hv) hd hcd, sim_var i⟩
theorem un_ {i j} : PEU D (.Constant (.int i) j pos) (uC (.int i)) := ⟨_, fun X h => pe_int, sim_int⟩
theorem ub_ {i j} : PEU D (.Constant (.bool i) j pos) (uC (.bl i)) := ⟨_, fun X h => pe_bl, sim_bl⟩
theorem us_ {i j} : PEU D (.Constant (.str i) j pos) (uC (.str i)) := ⟨_, fun X h => pe_str, sim_str⟩
theorem uo_ {j} : PEU D (.Constant .none j pos) (uC .non) := ⟨_, fun X h => pe_non, sim_non⟩
theorem ug_int {x : Str} {i : Int} {t : Tok} (hm : D.mg x = some (.int i t)) (hg : D.sc.names.lookup x = some .globalImplicit := by rfl) (hd : (x == ("__debug__" : Str)) = false := by decide) : PEU D (.Name x pos) (uC (.int i)) :=
  ⟨_, fun X h => pe_glob (v := .int i) (by show X.env.scope.names.lookup x = _; rw [h.sc]; exact hg) (by rw [h.mg]; exact hm) ⟨t, rfl⟩ hd, sim_int⟩
theorem ug_str {x : Str} {i : Str} {t : Tok} (hm : D.mg x = some (.str i t)) (hg : D.sc.names.lookup x = some .globalImplicit := by rfl) (hd : (x == ("__debug__" : Str)) = false := by decide) : PEU D (.Name x pos) (uC (.str i)) :=
  ⟨_, fun X h => pe_glob (v := .str i) (by show X.env.scope.names.lookup x = _; rw [h.sc]; exact hg) (by rw [h.mg]; exact hm) ⟨t, rfl⟩ hd, sim_str⟩
theorem ug_ref {x : Str} {f : Addr} (hm : D.mg x = some (.ref f)) (hg : D.sc.names.lookup x = some .globalImplicit := by rfl) (hd : (x == ("__debug__" : Str)) = false := by decide) : PEU D (.Name x pos) (uC (.ref f)) :=
  ⟨_, fun X h => pe_glob (v := .ref f) (by show X.env.scope.names.lookup x = _; rw [h.sc]; exact hg) (by rw [h.mg]; exact hm) rfl hd, sim_ref⟩
theorem ug_ty {x : Str} {n : String} (hm : D.mg x = none) (hv : bootBuiltins x = some (.type n) := by kernel_rfl) (hg : D.sc.names.lookup x = some .globalImplicit := by rfl) (hn : x ≠ "__name__" := by decide) (hd : (x == ("__debug__" : Str)) = false := by decide) : PEU D (.Name x pos) (uC (.ty n)) :=
  ⟨_, fun X h => pe_bltn (v := .ty n) (by show X.env.scope.names.lookup x = _; rw [h.sc]; exact hg) (by rw [h.mg]; exact hm) hv rfl hn hd, sim_ty⟩
theorem ue_op {op : Operator} {r : R2} {r' : UR2} (ho : ∀ X, Has D X → OpR X (binaryOp op) r) (hr : SimR2 D.K r r') (ha : PEU D a ta) (hb : PEU D b tb) : PEU D (.BinOp a op b pos) (uOp r' ta tb) := by
  obtain ⟨x, p, s⟩ := ha; obtain ⟨y, q, r⟩ := hb
  exact ⟨_, fun X h => pe_op (ho X h) (p X h) (q X h), sim_op hr s r⟩
theorem ue_sub (ha : PEU D a ta) (hb : PEU D b tb) : PEU D (.BinOp a .Sub b pos) (uOp (uI0 fun i j => .int (i - j)) ta tb) := ue_op (fun _ _ => op_sub) sim_int2 ha hb
theorem ue_mod (ha : PEU D a ta) (hb : PEU D b tb) : PEU D (.BinOp a .Mod b pos) (uOp (uI (fun _ j => 0 < j) fun i j => .int (i % j)) ta tb) := ue_op (fun _ _ => op_mod) sim_int2c ha hb
theorem ue_div (ha : PEU D a ta) (hb : PEU D b tb) : PEU D (.BinOp a .FloorDiv b pos) (uOp (uI CDiv fun i j => .int (i / j)) ta tb) := ue_op (fun _ _ => op_fdiv) sim_int2c ha hb
theorem ue_pow (ha : PEU D a ta) (hb : PEU D b tb) : PEU D (.BinOp a .Pow b pos) (uOp (uI CPow fun i j => .int (i ^ j.toNat)) ta tb) := ue_op (fun _ _ => op_pow) sim_int2c ha hb
def uAdd (o : Bool) : UR2 := fun x y M Q => match x, y with
  | .int i, .int j => Q (.int (i + j)) M
  | .str i, .str j => i.length + j.length ≤ sizeLine ∧ Q (.str (i ++ j)) M
  | .tup us, .tup ws => us.length + ws.length ≤ sizeLine ∧ Q (.tup (us ++ ws)) M
  | x, y => uAddL o x y M Q
def rAddA (K : PySem.W.Frag) : R2 := fun x y H Q => rI0 (fun i j => .int (i + j)) x y H Q ∨ ((∃ i j, x = .str i ∧ y = .str j ∧ i.length + j.length ≤ sizeLine ∧ Q (.str (i ++ j)) H) ∨ (rCatTA K x y H Q ∨ rCatL K x y H Q))
theorem sim_add {K : PySem.W.Frag} {o : Bool} : SimR2 K (rAddA K) (uAdd o) := fun x y u w H M Q' rm ru rw h Q c => by
  unfold uAdd at h
  split at h
  · exact .inl (sim_int2 x y _ _ H M Q' rm ru rw h Q c)
  · exact .inr (.inl (sim_addS x y _ _ H M Q' rm ru rw h Q c))
  · exact .inr (.inr (.inl (sim_addT x y _ _ H M Q' rm ru rw h Q c)))
  · exact .inr (.inr (.inr (sim_addL x y _ _ H M Q' rm ru rw h Q c)))
theorem ue_add (own : Bool := false) (ha : PEU D a ta) (hb : PEU D b tb) : PEU D (.BinOp a .Add b pos) (uOp (uAdd own) ta tb) :=
  ue_op (r := rAddA D.K) (fun X h => by have := op_add.or (op_add_str.or ((op_catTA (X := X)).or (op_catL (X := X)))); rw [h.K] at this; exact this) sim_add ha hb
theorem ue_neg (ha : PEU D a ta) : PEU D (.UnaryOp .USub a pos) (uUn (fun x M Q => match x with | .int i => Q (.int (-i)) M | _ => False) ta) := by
  obtain ⟨x, p, s⟩ := ha
  refine ⟨_, fun X h => pe_un un_neg (p X h), sim_un (fun x u H M Q' rm ru h Q c => ?_) s⟩
  cases u with
  | int i => exact ⟨i, ru.int, c.here rm relU_int h⟩
  | _ => exact h.elim
theorem ue_cmp {op : CmpOp} {r : R2} {r' : UR2} (ho : ∀ X, Has D X → OpR X (compareOp op) r) (hr : SimR2 D.K r r') (ha : PEU D a ta) (hb : PEU D b tb) (hm : behindInMarks op b = false) : PEU D (.Compare a [op] [b] pos) (uOp r' ta tb) := by
  obtain ⟨x, p, s⟩ := ha; obtain ⟨y, q, r⟩ := hb
  exact ⟨_, fun X h => pe_cmpR (ho X h) (p X h) (q X h) hm, sim_op hr s r⟩
theorem ut_cmp {op : CmpOp} {r : R2} {r' : UR2} (ho : ∀ X, Has D X → OpR X (compareOp op) r) (hr : SimR2 D.K r r') (ha : PEU D a ta) (hb : PEU D b tb) (hm : behindInMarks op b = false) : PTU D (.Compare a [op] [b] pos) (uTest (uOp r' ta tb)) := by
  obtain ⟨x, p, s⟩ := ha; obtain ⟨y, q, r⟩ := hb
  exact ⟨_, fun X h => pt_cmpR (ho X h) (p X h) (q X h) hm, sim_test (sim_op hr s r)⟩
abbrev cLt : UR2 := uI0 fun i j => .bl (decide (i < j))
abbrev cLe : UR2 := uI0 fun i j => .bl (decide (i ≤ j))
abbrev cGt : UR2 := uI0 fun i j => .bl (decide (j < i))
abbrev cGe : UR2 := uI0 fun i j => .bl (decide (j ≤ i))
structure Cmp (D : Dat) (op : CmpOp) (r' : UR2) : Prop where
  ex : ∃ r : R2, (∀ X, Has D X → OpR X (compareOp op) r) ∧ SimR2 D.K r r'
theorem k_lt : Cmp D .Lt cLt := ⟨⟨_, fun _ _ => op_lt, sim_bool2⟩⟩
theorem k_le : Cmp D .LtE cLe := ⟨⟨_, fun _ _ => op_le, sim_bool2⟩⟩
theorem k_gt : Cmp D .Gt cGt := ⟨⟨_, fun _ _ => op_gt, sim_bool2⟩⟩
theorem k_eqS : Cmp D .Eq uEqS := ⟨⟨_, fun _ _ => op_eq, sim_eqS⟩⟩
theorem k_isN : Cmp D .Is uIsN := ⟨⟨_, fun _ _ => op_isN, sim_isN⟩⟩
def inSt (neg : Bool) : UR2 := fun x y M Q => match x, y with
  | .str i, .str j => Q (.bl (if neg then !(!(Builtin.Str.occurrences j i 0 j.length 1).isEmpty) else !(Builtin.Str.occurrences j i 0 j.length 1).isEmpty)) M
  | _, _ => False
theorem k_inS : Cmp D .In (inSt false) := ⟨⟨_, fun _ _ => op_in_str, fun x y u w H M Q' rm ru rw h Q c => by
  cases u with
  | str i => cases w with
    | str j => exact ⟨i, j, ru.str, rw.str, c.here rm relU_bl h⟩
    | _ => exact h.elim
  | _ => exact h.elim⟩⟩
theorem ue_c {op : CmpOp} {r' : UR2} (k : Cmp D op r') (ha : PEU D a ta) (hb : PEU D b tb) (hm : behindInMarks op b = false := by first | exact nomark _ | with_unfolding_all rfl) : PEU D (.Compare a [op] [b] pos) (uOp r' ta tb) :=
  let ⟨_, h1, h2⟩ := k.ex; ue_cmp h1 h2 ha hb hm
theorem ut_c {op : CmpOp} {r' : UR2} (k : Cmp D op r') (ha : PEU D a ta) (hb : PEU D b tb) (hm : behindInMarks op b = false := by first | exact nomark _ | with_unfolding_all rfl) : PTU D (.Compare a [op] [b] pos) (uTest (uOp r' ta tb)) :=
  let ⟨_, h1, h2⟩ := k.ex; ut_cmp h1 h2 ha hb hm
theorem ue_ch {op op' : CmpOp} {r r' : UR2} (k : Cmp D op r) (k' : Cmp D op' r') (ha : PEU D a ta) (hb : PEU D b tb) (hc : PEU D c tc) (hm : lastMarks [op, op'] [b, c] = false := by with_unfolding_all rfl) :
    PEU D (.Compare a [op, op'] [b, c] pos) (uChain r r' ta tb tc) := by
  obtain ⟨x, p, s⟩ := ha; obtain ⟨y, q, r⟩ := hb; obtain ⟨z, u, v⟩ := hc
  obtain ⟨_, h1, h2⟩ := k.ex
  obtain ⟨_, h3, h4⟩ := k'.ex
  exact ⟨_, fun X h => pe_chain (h1 X h) (h3 X h) (p X h) (q X h) (u X h) hm, sim_chain h2 h4 s r v⟩
theorem ut_ch {op op' : CmpOp} {r r' : UR2} (k : Cmp D op r) (k' : Cmp D op' r') (ha : PEU D a ta) (hb : PEU D b tb) (hc : PEU D c tc) (hm : lastMarks [op, op'] [b, c] = false := by with_unfolding_all rfl) :
    PTU D (.Compare a [op, op'] [b, c] pos) (uTest (uChain r r' ta tb tc)) := by
  obtain ⟨x, p, s⟩ := ha; obtain ⟨y, q, r⟩ := hb; obtain ⟨z, u, v⟩ := hc
  obtain ⟨_, h1, h2⟩ := k.ex
  obtain ⟨_, h3, h4⟩ := k'.ex
  exact ⟨_, fun X h => pt_chain (h1 X h) (h3 X h) (p X h) (q X h) (u X h) hm, sim_test (sim_chain h2 h4 s r v)⟩
theorem ut_val (ha : PEU D a ta) (he : ∀ env whole, isTrue a env whole = (do let v ← whole; standAt a.pos; holding [v] (truthy v)) := by intro _ _; rfl) : PTU D a (uTru ta) := by
  obtain ⟨x, p, s⟩ := ha
  refine ⟨_, fun X h => ?_, sim_tru s⟩
  have := pt_truth (p X h) (he X.env)
  rw [h.K] at this
  exact this
theorem PWU.pt {t : UT} (h : PWU D a t) : PTU D a t := let ⟨_, p, s⟩ := h; ⟨_, fun X h => (p X h).pt, s⟩
variable {rest : List Expr} {tA tB' : UT}
theorem uw_and1 (ha : PTU D a tA) : PWU D (.BoolOp .And [a] pos) tA := let ⟨_, p, s⟩ := ha; ⟨_, fun X h => pw_and1 (p X h), s⟩
theorem uw_or1 (ha : PTU D a tA) : PWU D (.BoolOp .Or [a] pos) tA := let ⟨_, p, s⟩ := ha; ⟨_, fun X h => pw_or1 (p X h), s⟩
theorem uw_and (ha : PTU D a tA) (hb : PWU D (.BoolOp .And (b :: rest) pos) tB') : PWU D (.BoolOp .And (a :: b :: rest) pos) (uAnd tA tB') := let ⟨_, p, s⟩ := ha; let ⟨_, q, r⟩ := hb; ⟨_, fun X h => pw_and (p X h) (q X h), sim_and s r⟩
theorem uw_or (ha : PTU D a tA) (hb : PWU D (.BoolOp .Or (b :: rest) pos) tB') : PWU D (.BoolOp .Or (a :: b :: rest) pos) (uOr tA tB') := let ⟨_, p, s⟩ := ha; let ⟨_, q, r⟩ := hb; ⟨_, fun X h => pw_or (p X h) (q X h), sim_or s r⟩
theorem ut_not (ha : PTU D a tA) : PTU D (.UnaryOp .Not a pos) (uNot tA) := let ⟨_, p, s⟩ := ha; ⟨_, fun X h => pt_not (p X h), sim_not s⟩
theorem ue_one {op} (ha : PEU D a ta) : PEU D (.BoolOp op [a] pos) ta := let ⟨_, p, s⟩ := ha; ⟨_, fun X h => pe_one (p X h), s⟩
theorem ue_and (ha : PEU D a ta) (hb : PEU D (.BoolOp .And (b :: rest) pos) tb) : PEU D (.BoolOp .And (a :: b :: rest) pos) (uAndV ta tb) := let ⟨_, p, s⟩ := ha; let ⟨_, q, r⟩ := hb; ⟨_, fun X h => pe_and (p X h) (q X h), sim_andV s r⟩
theorem ue_not (ha : PEU D a ta) : PEU D (.UnaryOp .Not a pos) (uNotV ta) := let ⟨_, p, s⟩ := ha; ⟨_, fun X h => pe_not (p X h), sim_notV s⟩
theorem ue_if (hc : PTU D c tA) (ha : PEU D a ta) (hb : PEU D b tb) : PEU D (.IfExp c a b pos) (uIf tA ta tb) := let ⟨_, p, s⟩ := ha; let ⟨_, q, r⟩ := hb; let ⟨_, u, v⟩ := hc; ⟨_, fun X h => pe_ifExp (u X h) (p X h) (q X h), sim_if v s r⟩
variable {es : List Expr} {tas : UA}
theorem ua_nil : PAU D [] uNil := ⟨_, fun X h => pa_nil, sim_nil⟩
theorem ua_cons (ha : PEU D e te) (hr : PAU D es tas) (hs : ∀ env, starEach (e :: es) env = (false, eval e env) :: starEach es env := by intro _; rfl) : PAU D (e :: es) (uCons te tas) := let ⟨_, p, s⟩ := ha; let ⟨_, q, r⟩ := hr; ⟨_, fun X h => pa_cons (p X h) (q X h) (hs _), sim_cons s r⟩
theorem ue_tup {x1} (h : PAU D es tas) : PEU D (.Tuple es x1 pos) (uTup tas) := let ⟨_, p, s⟩ := h; ⟨_, fun X h => pe_tup (p X h), sim_tup s⟩
theorem ue_lst (own : Bool := false) (h : PAU D es tas) : PEU D (.List es pos) (uLst own tas) := let ⟨_, p, s⟩ := h; ⟨_, fun X h => pe_lst (p X h), sim_lst s⟩
theorem ue_ix (ha : PEU D a ta) (hb : PEU D b tb) (hs : PlainIx b := by intro _ _; rfl) : PEU D (.Subscript a b pos) (uOp uIx ta tb) := by
  obtain ⟨x, p, s⟩ := ha; obtain ⟨y, q, r⟩ := hb
  refine ⟨_, fun X h => ?_, sim_op sim_ix s r⟩
  have := pe_ix (pos := pos) ix_seq (p X h) (q X h) hs
  rw [h.K] at this
  exact this
theorem uo_none : POU D none uNoPart := ⟨_, fun X h => po_none, sim_noPart⟩
theorem uo_some (h : PEU D e te) : POU D (some e) (uPart te) := let ⟨_, p, s⟩ := h; ⟨_, fun X h => po_some (p X h), sim_part s⟩
variable {st : Stmt} {sts body body2 : List Stmt} {t u : US}
theorem uss_nil : PSsU D [] uNext := ⟨_, fun X h => pss_nil, sim_next⟩
theorem uss_cons (h1 : PSU D st t) (h2 : PSsU D sts u) : PSsU D (st :: sts) (uSeq t u) := let ⟨_, p, s⟩ := h1; let ⟨_, q, r⟩ := h2; ⟨_, fun X h => pss_cons (p X h) (q X h), sim_seq s r⟩
theorem uss_one (h1 : PSU D st t) : PSsU D [st] t := let ⟨_, p, s⟩ := h1; ⟨_, fun X h => pss_one (p X h), s⟩
theorem us_break : PSU D (.Break pos) uBreak := ⟨_, fun X h => ps_break, sim_break⟩
theorem us_expr (he : PEU D e te) (hs : ∀ env, swapsWith e none pos.line env = pure false := by intro _; rfl) : PSU D (.Expr e pos) (uDrop te) := let ⟨_, p, s⟩ := he; ⟨_, fun X h => ps_expr (p X h) (hs _), sim_drop s⟩
theorem us_ret (he : PEU D e te) : PSU D (.Return (some e) pos) (uRet te) := let ⟨_, p, s⟩ := he; ⟨_, fun X h => ps_ret (p X h), sim_ret s⟩
theorem us_if {c : Expr} {tc : UT} (hc : PTU D c tc) (ha : PSsU D body t) (hb : PSsU D body2 u) : PSU D (.If c body body2 pos) (uIfS tc t u) := let ⟨_, p, s⟩ := ha; let ⟨_, q, r⟩ := hb; let ⟨_, x, y⟩ := hc; ⟨_, fun X h => ps_if (x X h) (p X h) (q X h), sim_ifS y s r⟩
theorem us_while {c : Expr} {tc : UT} (hc : PTU D c tc) (hb : PSsU D body t) : PSU D (.While c body [] pos) (uWhile tc t) := by
  obtain ⟨_, p, s⟩ := hb; obtain ⟨_, x, y⟩ := hc
  exact ⟨_, fun X h => ps_while (by rw [h.xe]; exact PassesOwn.never) (x X h) (p X h), sim_while y s⟩
variable {k : Nat} {g : UG} {gs : UGs}
theorem ug_name (i : Nat) {x : Str} (hN : D.N.Nodup) (hi : D.N[i]? = some x := by rfl) (hx : Loc D.sc x := by first | exact Or.inl rfl | exact Or.inr rfl) (hik : i < k := by decide) (hf : D.fn = true ∨ D.sc.names.lookup x = some .local := by first | exact .inl rfl | exact .inr rfl) : PGU D k (.Name x pos) (hName i) :=
  ⟨_, fun X h => pg_name (i := i) (by rw [h.N]; exact hN) (by rw [h.N]; exact hi) (by rw [h.sc]; exact hx) (by rcases hf with z | z; exact .inl (h.fn z x); exact .inr (by rw [h.sc]; exact z)), sim_gname i, gk_name hik, m_name⟩
theorem ugs_nil : PGsU D k [] hNil := ⟨_, fun X h => pgs_nil, sim_gnil, gk_nil, m_nil⟩
theorem ugs_cons (h1 : PGU D k e g) (h2 : PGsU D k es gs) (hs : ∀ env, (assignEach (e :: es) env).map (·.2) = assign e env :: (assignEach es env).map (·.2) := by intro _; rfl) : PGsU D k (e :: es) (hCons g gs) :=
  let ⟨_, p, s, x, y⟩ := h1; let ⟨_, q, r, z, w⟩ := h2; ⟨_, fun X h => pgs_cons (p X h) (q X h) (hs _), sim_gcons s r, gk_cons x z w y, m_cons y w⟩
theorem ug_tup {kk : Nat} {n : Nat} (h : PGsU D k es gs) (hn : ∀ env, (assignEach es env).length = n := by intro _; rfl) (hst : ∀ env, (assignEach es env).findIdx? (·.1) = none := by intro _; rfl) : PGU D k (.Tuple es kk pos) (hTup n gs) := by
  obtain ⟨_, p, s, x, y⟩ := h
  refine ⟨_, fun X h => ?_, sim_gtup s, gk_tup x, m_tup y⟩
  have := pg_tup (pos := pos) (k := kk) h.calm (p X h) (hn _) (hst _)
  rw [h.K] at this
  exact this
theorem us_set (i : Nat) {x : Str} {pos' : Pos} (hN : D.N.Nodup) (he : PEU D e te) (hi : D.N[i]? = some x := by rfl) (hx : Loc D.sc x := by first | exact Or.inl rfl | exact Or.inr rfl) (hs : ∀ env, swapsWith e (some (.Name x pos')) pos.line env = pure false := by intro _; rfl)
    (hf : D.fn = true ∨ D.sc.names.lookup x = some .local := by first | exact .inl rfl | exact .inr rfl) : PSU D (.Assign [.Name x pos'] e pos) (uAsg te (hName i)) := by
  obtain ⟨_, p, s⟩ := he
  exact ⟨_, fun X h => ps_set (i := i) (by rw [h.N]; exact hN) (by rw [h.N]; exact hi) (by rw [h.sc]; exact hx) (p X h) (hs _) (by rcases hf with z | z; exact .inl (h.fn z x); exact .inr (by rw [h.sc]; exact z)), sim_asg s (sim_gname i)⟩
variable {tg iter : Expr} {wi : UI}
theorem ui_seq (h : PEU D e te) : PIU D tg e (uIter te) := by
  obtain ⟨_, p, s⟩ := h
  refine ⟨_, fun X h => ?_, sim_iter s⟩
  have := pi_seq (tg := tg) (p X h)
  rw [h.K] at this
  exact this
theorem us_for (hi : PIU D tg iter wi) (hg : PGU D k tg g) (hb : PSsU D body t) (hs : ∀ env x, foldedSetIterable iter env x = pure x := by intro _ _; rfl) : PSU D (.For tg iter body [] pos) (uFor wi g t) := by
  obtain ⟨_, p, s⟩ := hi; obtain ⟨_, q, r, _⟩ := hg; obtain ⟨_, x, y⟩ := hb
  exact ⟨_, fun X h => ps_for (by rw [h.xe]; exact PassesOwn.never) h.calm (p X h) (q X h) (x X h) (hs _), sim_for s r y⟩
end
end U2
namespace U2
open PySem PySem.Spec PyProof.Rows L2
structure Callee (P : Program) (w : World) (K : PySem.W.Frag) (mg : Str → Option Value) (base : Heap) (j : Nat) (x : Str) (sp : USp) (dus : List U) : Prop where
  ex : ∃ f fd ps dvs ds, FnOk P w K mg base CX0 j f fd ps (liftSp K sp) ∧ mg x = some (.ref f) ∧ PySem.W.keepIn K (.ref f) = true ∧ Binds K fd ps ds ∧ Vals dvs ds ∧ ∀ H M, RelUs K H M dus dvs
abbrev Cal (D : Dat) := Callee D.prog D.w D.K D.mg D.base
section
variable {D : Dat} {a b c e o : Expr} {ta tb tc te : UE} {pos p : Pos} {es : List Expr} {tas : UA} {x : Str}
theorem ue_call {sp : USp} {dus : List U} {j : Nat} (F : Cal D j x sp dus) (ha : PAU D (e :: es) tas) (hj : j ≤ D.k := by first | exact Nat.le_refl _ | (dsimp only; omega) | omega | (dsimp only [compD]; omega)) (hg : D.sc.names.lookup x = some .globalImplicit := by rfl) (hdb : (x == ("__debug__" : Str)) = false := by decide)
    (he : ∀ env, starEach (e :: es) env = (false, eval e env) :: starEach es env := by intro _; rfl) (hpl : ∀ env, (backTo pos (starEach es env)).any (·.1) = false := by intro _; rfl) : PEU D (.Call (.Name x p) (e :: es) [] pos) (uCall sp dus tas) := by
  obtain ⟨f, fd, ps, dvs, ds, F, hm, kp, hb, hd, hr⟩ := F.ex
  obtain ⟨_, q, s⟩ := ha
  refine ⟨tCall (liftSp D.K sp) dvs E0 _, fun X h => ?_, sim_call hr s⟩
  have F' : FnOk X.prog X.w X.K X.mg X.base CX0 j f fd ps (liftSp D.K sp) := by rw [h.prog, h.w, h.K, h.mg, h.base]; exact F
  exact pe_call F' (h.room.mono hj) (by show X.env.scope.names.lookup x = _; rw [h.sc]; exact hg) (by rw [h.mg]; exact hm) (by rw [h.K]; exact kp) (by rw [h.K]; exact hb) hd pass0 (q X h) hdb (he _) (hpl _)
structure Blt (D : Dat) (f : Value) (r' : List U → MHp → UK → Prop) : Prop where
  ex : ∃ r, (∀ X, Has D X → CallR X f r) ∧ SimCl D.K r r'
theorem ue_b {id : String} {r' : List U → MHp → UK → Prop} (k : Blt D (.builtin id) r') (hm : D.mg x = none) (ha : PAU D (e :: es) tas) (hv : bootBuiltins x = some (.builtin id) := by kernel_rfl) (hg : D.sc.names.lookup x = some .globalImplicit := by rfl) (hn : x ≠ "__name__" := by decide) (hdb : (x == ("__debug__" : Str)) = false := by decide)
    (he : ∀ env, starEach (e :: es) env = (false, eval e env) :: starEach es env := by intro _; rfl) (hpl : ∀ env, (backTo pos (starEach es env)).any (·.1) = false := by intro _; rfl) : PEU D (.Call (.Name x p) (e :: es) [] pos) (uCB r' tas) := by
  obtain ⟨r, h1, h2⟩ := k.ex
  obtain ⟨_, q, s⟩ := ha
  exact ⟨_, fun X h => pe_callB (h1 X h) (by show X.env.scope.names.lookup x = _; rw [h.sc]; exact hg) (by rw [h.mg]; exact hm) hv (q X h) hn hdb (he _) (hpl _), sim_cb h2 s⟩
theorem ue_t {T : String} {r' : List U → MHp → UK → Prop} (k : Blt D (.type T) r') (hm : D.mg x = none) (ha : PAU D (e :: es) tas) (hv : bootBuiltins x = some (.type T) := by kernel_rfl) (hg : D.sc.names.lookup x = some .globalImplicit := by rfl) (hn : x ≠ "__name__" := by decide) (hdb : (x == ("__debug__" : Str)) = false := by decide)
    (he : ∀ env, starEach (e :: es) env = (false, eval e env) :: starEach es env := by intro _; rfl) (hpl : ∀ env, (backTo pos (starEach es env)).any (·.1) = false := by intro _; rfl) : PEU D (.Call (.Name x p) (e :: es) [] pos) (uCB r' tas) := by
  obtain ⟨r, h1, h2⟩ := k.ex
  obtain ⟨_, q, s⟩ := ha
  exact ⟨_, fun X h => pe_callTy (h1 X h) (by show X.env.scope.names.lookup x = _; rw [h.sc]; exact hg) (by rw [h.mg]; exact hm) hv (q X h) hn hdb (he _) (hpl _), sim_cb h2 s⟩
theorem b_len : Blt D (.builtin "len") bLen := ⟨⟨_, fun X h => by have := call_len (X := X); rw [h.K] at this; exact this, sim_len⟩⟩
theorem b_max : Blt D (.builtin "max") (bInt2 fun i j => .int (if j > i then j else i)) := ⟨⟨_, fun X h => call_max2 h.calm, sim_max2⟩⟩
theorem b_str : Blt D (.type "str") (bInt1 (fun i => i.natAbs.log2 < 1920) fun i => .str (toString i)) := ⟨⟨_, fun X h => call_str_int, sim_strInt⟩⟩
theorem b_tuple : Blt D (.type "tuple") bTuple := ⟨⟨_, fun X h => by have := call_tuple_of (X := X); rw [h.K] at this; exact this, sim_tuple⟩⟩
def rIsi (K : PySem.W.Frag) : List V → Hp → VK → Prop := fun xs H Q => ∃ x T t b, xs = [x, .ty T] ∧ (TyOf K H x (.type t) ∨ (t = "tuple" ∧ ∃ p vs ob, x = .ref p ∧ H p = some (.frz ob (.tup vs))) ∨ (t = "tuple" ∧ ∃ p vs, x = .ref p ∧ KT K p vs) ∨ (t = "list" ∧ ∃ p vs, x = .ref p ∧ KL K p vs)) ∧ PySem.W.kitOne K (.type t) (.type T) = some b ∧ Q (.bl b) H
theorem call_isi {X : Cx} : CallR X (.builtin "isinstance") (rIsi X.K) := by
  intro pins s σ H xs us Q I r h
  obtain ⟨x, T, t, b, rfl, ty, e, q⟩ := h
  obtain ⟨u, w', rfl, ru, rw'⟩ := vals2 r
  cases rw'
  rcases ty with ty | ⟨rfl, p, vs, ob, rfl, m⟩ | ⟨rfl, p, vs, rfl, o, its, n, hk, hc, hd, _, _⟩ | ⟨rfl, p, vs, rfl, o, its, n, hk, hc, _, hd, _, _⟩
  · exact isinst_ok I ru ty e fun tk => ⟨.bl b, H, I.tok tk, rfl, q⟩
  · cases ru
    obtain ⟨_, _, _, _, o, h1, h2, _⟩ := (show ObjOk X.prog X.w H s.heap p (.frz ob (.tup vs)) from I.hok p _ m)
    exact PySem.W.kia_one PySem.W.kitx_tuple I.kIn ⟨o, h1, h2⟩ e (fun z => nomatch z) fun tk => ⟨.bl b, H, I.tok tk, rfl, q⟩
  · cases ru
    exact PySem.W.kia_one PySem.W.kitx_tuple I.kIn ⟨o, I.kIn _ _ hk, hc⟩ e (fun z => nomatch z) fun tk => ⟨.bl b, H, I.tok tk, rfl, q⟩
  · cases ru
    exact PySem.W.kia_one PySem.W.kitx_list I.kIn ⟨o, I.kIn _ _ hk, hc⟩ e (fun z => nomatch z) fun tk => ⟨.bl b, H, I.tok tk, rfl, q⟩
def isiTab : List (String × String × Bool) := [("NoneType", "bool", false), ("NoneType", "int", false), ("NoneType", "str", false), ("NoneType", "tuple", false), ("NoneType", "list", false), ("NoneType", "dict", false), ("bool", "bool", true), ("bool", "int", true), ("bool", "str", false), ("bool", "tuple", false), ("bool", "list", false), ("bool", "dict", false), ("int", "bool", false), ("int", "int", true), ("int", "str", false), ("int", "tuple", false), ("int", "list", false), ("int", "dict", false), ("str", "bool", false), ("str", "int", false), ("str", "str", true), ("str", "tuple", false), ("str", "list", false), ("str", "dict", false), ("tuple", "bool", false), ("tuple", "int", false), ("tuple", "str", false), ("tuple", "tuple", true), ("tuple", "list", false), ("tuple", "dict", false), ("list", "bool", false), ("list", "int", false), ("list", "str", false), ("list", "tuple", false), ("list", "list", true), ("list", "dict", false), ("dict", "bool", false), ("dict", "int", false), ("dict", "str", false), ("dict", "tuple", false), ("dict", "list", false), ("dict", "dict", true)]
theorem isiTab_ok {K : PySem.W.Frag} : ∀ r ∈ isiTab, PySem.W.kitOne K (.type r.1) (.type r.2.1) = some r.2.2 := by
  intro r hr
  simp only [isiTab, List.mem_cons, List.not_mem_nil, or_false] at hr
  rcases hr with rfl | rfl | rfl | rfl | rfl | rfl | rfl | rfl | rfl | rfl | rfl | rfl | rfl | rfl | rfl | rfl | rfl | rfl | rfl | rfl | rfl | rfl | rfl | rfl | rfl | rfl | rfl | rfl | rfl | rfl | rfl | rfl | rfl | rfl | rfl | rfl | rfl | rfl | rfl | rfl | rfl | rfl <;> first | rfl | kernel_rfl
def under2 (t T : String) : Option Bool := (isiTab.find? fun r => r.1 == t && r.2.1 == T).map (·.2.2)
theorem under2_ok {K : PySem.W.Frag} {t T : String} {b : Bool} (h : under2 t T = some b) : PySem.W.kitOne K (.type t) (.type T) = some b := by
  unfold under2 at h
  cases e : isiTab.find? fun r => r.1 == t && r.2.1 == T with
  | none => rw [e] at h; cases h
  | some r =>
    rw [e] at h
    cases h
    have h1 := List.find?_some e
    have h2 := isiTab_ok (K := K) r (List.mem_of_find?_eq_some e)
    simp only [Bool.and_eq_true, beq_iff_eq] at h1
    rw [h1.1, h1.2] at h2
    exact h2
def bIsi2 : List U → MHp → UK → Prop := fun us M Q => match us with
  | [x, .ty T] => match typU M x with
    | some t => match under2 t T with
      | some b => Q (.bl b) M
      | none => False
    | none => False
  | _ => False
theorem sim_isi {K : PySem.W.Frag} : SimCl K (rIsi K) bIsi2 := fun xs us H M Q' rm rus h Q c => by
  unfold bIsi2 at h
  split at h
  · rename_i x T
    split at h
    · rename_i t e
      split at h
      · rename_i b e2
        obtain ⟨v, z, rfl, a1, a2⟩ := rus.two
        cases a2.ty
        refine ⟨v, T, t, b, rfl, ?_, under2_ok e2, c.here rm relU_bl h⟩
        cases x with
        | non => cases a1.non; cases e; exact .inl .non
        | bl y => cases a1.bl; cases e; exact .inl (.bl y)
        | int y => cases a1.int; cases e; exact .inl (.int y)
        | str y => cases a1.str; cases e; exact .inl (.str y)
        | ty y => cases e
        | tup y =>
          cases e
          simp only [RelU] at a1
          obtain ⟨a, vs, rfl, m, r⟩ := a1
          exact .inl (.tup m.2)
        | lst y =>
          cases e
          simp only [RelU] at a1
          obtain ⟨a, vs, rfl, m, r⟩ := a1
          rcases m with ⟨_, m | ⟨ob, m⟩⟩ | k
          · exact .inl (.lst m)
          · exact .inl (.frz m)
          · exact .inr (.inr (.inr ⟨rfl, a, vs, rfl, k⟩))
        | dic ks tk y =>
          cases e
          simp only [RelU] at a1
          obtain ⟨a, vs, rfl, m, r, _⟩ := a1
          cases tk with
          | true => obtain ⟨ws, h1, _⟩ := r; exact .inl (.dT h1)
          | false => obtain ⟨ws, h1, _⟩ := r; exact .inl (.dK h1)
        | ref y =>
          cases a1.ref
          simp only [typU] at e
          split at e
          · rename_i ws e3
            cases e
            obtain ⟨vs, h1, _⟩ := rm y _ e3
            exact .inl (.lst h1)
          · rename_i ws e4
            cases e
            obtain ⟨vs, h1, _⟩ := rm y _ e4; exact .inl (.dK h1)
          · rename_i ws e4
            cases e
            obtain ⟨vs, h1, _⟩ := rm y _ e4; exact .inl (.dT h1)
          · cases e
      · exact h.elim
    · exact h.elim
  · exact h.elim
theorem b_isi : Blt D (.builtin "isinstance") bIsi2 := ⟨⟨_, fun X h => by have := call_isi (X := X); rw [h.K] at this; exact this, sim_isi⟩⟩
def blsU : List U → Option (List Bool)
  | [] => some []
  | .bl b :: r => (blsU r).map (b :: ·)
  | _ => none
def bAll : List U → MHp → UK → Prop := fun us M Q => match us with
  | [x] => match view M x with
    | .lst ws => match blsU ws with
      | some bs => Q (.bl (bs.all fun b => b)) M
      | none => False
    | _ => False
  | _ => False
theorem blsU_rel {K : PySem.W.Frag} {H : Hp} {M : MHp} : ∀ {us : List U} {vs : List V} {bs : List Bool}, RelUs K H M us vs → blsU us = some bs → vs = bs.map V.bl
  | [], _, _, r, h => by cases h; exact r.inv_nil
  | u :: us, _, bs, r, h => by
    obtain ⟨v, vs', rfl, a, b⟩ := r.inv_cons
    cases u with
    | bl y =>
      simp only [blsU] at h
      cases e : blsU us with
      | none => rw [e] at h; cases h
      | some cs =>
        rw [e] at h
        cases h
        rw [blsU_rel b e, a.bl]; rfl
    | _ => cases h
theorem b_all : Blt D (.builtin "all") bAll := ⟨⟨_, fun X h => by have := call_allB (X := X) h.calm; rw [h.K] at this; exact this, fun xs us H M Q' rm rus h Q c => by
  unfold bAll at h
  split at h
  · rename_i x
    obtain ⟨v, rfl, a1⟩ := rus.one
    split at h
    · rename_i ws e
      split at h
      · rename_i bs e2
        obtain ⟨b, zvs, rfl, s2, r2⟩ := view_lst rm a1 e
        rw [blsU_rel r2 e2] at s2
        exact ⟨b, bs, rfl, s2, c.here rm relU_bl h⟩
      · exact h.elim
    · exact h.elim
  · exact h.elim⟩⟩
theorem ue_sl (own : Bool := false) {lo hi : Option Expr} {tl th : UO} {p2 : Pos} (ha : PEU D a ta) (hl : POU D lo tl) (hh : POU D hi th) : PEU D (.Subscript a (.Slice lo hi none p2) pos) (uSl own ta tl th) := by
  obtain ⟨_, p, s⟩ := ha; obtain ⟨_, q, r⟩ := hl; obtain ⟨_, u, v⟩ := hh
  refine ⟨_, fun X h => ?_, sim_sl s r v⟩
  have := pe_slice (pos := pos) (p2 := p2) sl_any (p X h) (q X h) (u X h)
  rw [h.K] at this
  exact this
theorem ue_append {apos : Pos} (ho : PEU D o ta) (ha : PAU D [e] tas) (hbase : ∀ env, attributeBase o "append" env (eval o env) = eval o env := by intro _; rfl)
    (hfew : ∀ env, ((backTo pos (starEach [e] env)).all (fun x => !x.1) && (backToKw pos (keywordEach [] env)).all (fun x => x.1.isSome) && decide ([e].length + ([] : List Keyword).length + (if ([] : List Keyword).isEmpty then 0 else 1) < 30)) = true := by intro _; rfl)
    (hline : (apos.endLine == pos.line) = true := by rfl) (hs : ∀ env, starEach [e] env = [(false, eval e env)] := by intro _; rfl) : PEU D (.Call (.Attribute o "append" apos) [e] [] pos) (uBM mAppend ta tas) := by
  obtain ⟨_, p, s⟩ := ho; obtain ⟨_, q, r⟩ := ha
  refine ⟨_, fun X h => ?_, sim_bm sim_append s r⟩
  have := pe_bm (cpos := pos) (apos := apos) PySem.F.plainAttrs_list PySem.F.slot_list_append PySem.F.type_list_append mt_append (p X h) (q X h) (hbase _) (hfew _) hline (hs _) (by rfl)
  rw [h.K] at this
  exact this
theorem ue_pop {apos : Pos} (ho : PEU D o ta) (hbase : ∀ env, attributeBase o "pop" env (eval o env) = eval o env := by intro _; rfl)
    (hline : (apos.endLine == pos.line) = true := by rfl) : PEU D (.Call (.Attribute o "pop" apos) [] [] pos) (uBM0 mPop ta) := by
  obtain ⟨_, p, s⟩ := ho
  refine ⟨_, fun X h => ?_, sim_bm0 sim_pop s⟩
  have := pe_bm0 (cpos := pos) (apos := apos) PySem.F.plainAttrs_list PySem.F.slot_list_pop PySem.F.type_list_pop mt_pop (p X h) (hbase _) hline
  rw [h.K] at this
  exact this
def relabelSc (scope sc : Scope) : Scope :=
  { scope with names := scope.names.map fun (n, k) => if (k == .free && sc.kind == .function && sc.names.lookup n == some .cell) then (n, .cell) else (n, k) }
def compD (D : Dat) (N : List Str) (scope : Scope) : Dat := { D with N := N, sc := relabelSc scope D.sc, fn := false, cod := .none }
theorem Has.comp {X : Cx} (h : Has D X) (N : List Str) (scope : Scope) (cl : List (Str × Addr)) (C : Addr) (s : Shared) (H : Hp) (fp : List Addr) : Has (compD D N scope) (compCx X N scope cl C s H fp) :=
  ⟨h.prog, h.w, h.K, h.mg, h.base, rfl, by show relabelSc scope X.env.scope = relabelSc scope D.sc; rw [h.sc], h.room, h.calm, rfl, (fun z => by cases z), (fun z => absurd rfl z)⟩
theorem uif_nil : PIfU D [] (fun _ M Q => Q true M) := ⟨tYes, fun X h => pif_nil, fun σ τ H M Q' rs rm q Q c => c true M H (Stp.refl _ _) rm q⟩
theorem ue_comp (own : Bool) (N : List Str) (k : Nat) (ix : List Nat) {scope : Scope} {tg iter elt : Expr} {ifs : List Expr} {wi : UI} {g : UG} {tcs : UT} (hi : PIU D tg iter wi) (hg : PGU (compD D N scope) k tg g) (hif : PIfU (compD D N scope) ifs tcs) (he : PEU (compD D N scope) elt te)
    (hk : scope.kind = .function := by rfl) (hcell : ∀ y ∈ scope.names, y.2 ≠ .cell := by first | decide +kernel | (dsimp only; decide +kernel) | (dsimp only [compD, relabelSc]; decide +kernel)) (hnames : ∀ y ∈ scope.names, y.2 = .local → scope.names.lookup y.1 = some .local := by first | decide +kernel | (dsimp only; decide +kernel) | (dsimp only [compD, relabelSc]; decide +kernel))
    (hfree : ∀ y ∈ scope.names, y.2 = .free → D.sc.names.lookup y.1 = some .cell ∨ D.sc.names.lookup y.1 = some .free := by first | decide +kernel | (dsimp only; decide +kernel) | (dsimp only [compD, relabelSc]; decide +kernel)) (hone : ∀ y ∈ scope.names, y.2 = .free → scope.names.lookup y.1 = some .free := by first | decide +kernel | (dsimp only; decide +kernel) | (dsimp only [compD, relabelSc]; decide +kernel))
    (hN : ix.map (fun i => D.N[i]?) = (N.drop k).map some := by rfl) (hcap : ∀ x ∈ N.drop k, scope.names.lookup x = some .free := by first | decide +kernel | (dsimp only; decide +kernel) | (dsimp only [compD, relabelSc]; decide +kernel)) (hlen : N.length = k + ix.length := by rfl)
    (hs : ∀ env x, foldedSetIterable iter env x = pure x := by intro _ _; rfl) : PEU D (.ListComp elt [⟨tg, iter, ifs, 0⟩] scope pos) (uComp own k ix wi g tcs te) := by
  obtain ⟨_, p1, s1⟩ := hi; obtain ⟨_, p2, s2, gk, _⟩ := hg; obtain ⟨_, p3, s3⟩ := hif; obtain ⟨_, p4, s4⟩ := he
  have hN' : ∀ (j : Nat) x, N[k + j]? = some x → ∃ i, ix[j]? = some i ∧ D.N[i]? = some x := fun j x e => by
    have e1 : ((N.drop k).map some)[j]? = some (some x) := by rw [List.getElem?_map, List.getElem?_drop, e]; rfl
    rw [← hN, List.getElem?_map] at e1
    cases q : ix[j]? with
    | none => rw [q] at e1; cases e1
    | some i => rw [q] at e1; exact ⟨i, rfl, Option.some.inj e1⟩
  have hcap' : ∀ (j : Nat) x, N[k + j]? = some x → scope.names.lookup x = some .free := fun j x e => hcap x (List.mem_of_getElem? (i := j) (by rw [List.getElem?_drop]; exact e))
  refine ⟨_, fun X h => pe_comp (N := N) (k := k) (ix := ix) h.calm (p1 X h) gk hk hcell hnames (fun y hy e => by show X.env.scope.names.lookup y.1 = _ ∨ X.env.scope.names.lookup y.1 = _; rw [h.sc]; exact hfree y hy e) hone (fun j x e => by rw [h.N]; exact hN' j x e) hcap' hlen
    (fun cl C s H fp => p2 _ (h.comp N scope cl C s H fp)) (fun cl C s H fp => p3 _ (h.comp N scope cl C s H fp)) (fun cl C s H fp => p4 _ (h.comp N scope cl C s H fp)) (hs _), sim_comp s1 s2 s3 s4⟩
theorem swaps_of {elt : Expr} {gens : List Comprehension} {scope : Scope} {pos py : Pos} {y : Str} {line : Nat} {env : Env} (h1 : env.scope.kind = .function) (h2 : env.scope.names.lookup y = some .local) (h3 : (py.line == pos.line && !(scope.names.any fun (n, k) => n == y && (k == .local || k == .cell))) = true) :
    swapsWith (.ListComp elt gens scope pos) (some (.Name y py)) line env = pure true := by
  have e1 : (env.blockKind == .function) = true := by first | (unfold Env.blockKind; rw [h1]; rfl) | (unfold Env.blockKind; simp [h1])
  have e2 : (env.kindOf y == some .local) = true := by unfold Env.kindOf; rw [h2]; rfl
  show pure (env.blockKind == .function && env.kindOf y == some .local && py.line == pos.line && !(scope.names.any fun (n, k) => n == y && (k == .local || k == .cell))) = pure true
  rw [e1, e2]
  simp only [Bool.and_eq_true] at h3
  rw [h3.1, h3.2]
  rfl
theorem us_setC (i : Nat) {y : Str} {spos py : Pos} (hNd : D.N.Nodup) (own : Bool) (N : List Str) (k : Nat) (ix : List Nat) {scope : Scope} {tg iter elt : Expr} {ifs : List Expr} {wi : UI} {g : UG} {tcs : UT} (hi : PIU D tg iter wi) (hg : PGU (compD D N scope) k tg g) (hif : PIfU (compD D N scope) ifs tcs) (he : PEU (compD D N scope) elt te)
    (hk : scope.kind = .function := by rfl) (hcell : ∀ y ∈ scope.names, y.2 ≠ .cell := by first | decide +kernel | (dsimp only; decide +kernel) | (dsimp only [compD, relabelSc]; decide +kernel)) (hnames : ∀ y ∈ scope.names, y.2 = .local → scope.names.lookup y.1 = some .local := by first | decide +kernel | (dsimp only; decide +kernel) | (dsimp only [compD, relabelSc]; decide +kernel))
    (hfree : ∀ y ∈ scope.names, y.2 = .free → D.sc.names.lookup y.1 = some .cell ∨ D.sc.names.lookup y.1 = some .free := by first | decide +kernel | (dsimp only; decide +kernel) | (dsimp only [compD, relabelSc]; decide +kernel)) (hone : ∀ y ∈ scope.names, y.2 = .free → scope.names.lookup y.1 = some .free := by first | decide +kernel | (dsimp only; decide +kernel) | (dsimp only [compD, relabelSc]; decide +kernel))
    (hN : ix.map (fun i => D.N[i]?) = (N.drop k).map some := by rfl) (hcap : ∀ x ∈ N.drop k, scope.names.lookup x = some .free := by first | decide +kernel | (dsimp only; decide +kernel) | (dsimp only [compD, relabelSc]; decide +kernel)) (hlen : N.length = k + ix.length := by rfl)
    (hs : ∀ env x, foldedSetIterable iter env x = pure x := by intro _ _; rfl) (hl1 : D.sc.kind = .function := by rfl) (hl2 : D.sc.names.lookup y = some .local := by rfl) (hl3 : (py.line == pos.line && !(scope.names.any fun (n, k) => n == y && (k == .local || k == .cell))) = true := by decide +kernel)
    (hiy : D.N[i]? = some y := by rfl) (hy : Loc D.sc y := by first | exact Or.inl rfl | exact Or.inr rfl) (hf : D.fn = true ∨ D.sc.names.lookup y = some .local := by first | exact .inl rfl | exact .inr rfl) : PSU D (.Assign [.Name y py] (.ListComp elt [⟨tg, iter, ifs, 0⟩] scope pos) spos) (uAsg (uComp own k ix wi g tcs te) (hName i)) := by
  obtain ⟨_, p1, s1⟩ := hi; obtain ⟨_, p2, s2, gk, _⟩ := hg; obtain ⟨_, p3, s3⟩ := hif; obtain ⟨_, p4, s4⟩ := he
  have hN' : ∀ (j : Nat) x, N[k + j]? = some x → ∃ i, ix[j]? = some i ∧ D.N[i]? = some x := fun j x e => by
    have e1 : ((N.drop k).map some)[j]? = some (some x) := by rw [List.getElem?_map, List.getElem?_drop, e]; rfl
    rw [← hN, List.getElem?_map] at e1
    cases q : ix[j]? with
    | none => rw [q] at e1; cases e1
    | some i => rw [q] at e1; exact ⟨i, rfl, Option.some.inj e1⟩
  have hcap' : ∀ (j : Nat) x, N[k + j]? = some x → scope.names.lookup x = some .free := fun j x e => hcap x (List.mem_of_getElem? (i := j) (by rw [List.getElem?_drop]; exact e))
  refine ⟨_, fun X h => ps_comp (i := i) (N := N) (k := k) (ix := ix) h.calm (p1 X h) gk hk hcell hnames (fun y hy e => by show X.env.scope.names.lookup y.1 = _ ∨ X.env.scope.names.lookup y.1 = _; rw [h.sc]; exact hfree y hy e) hone (fun j x e => by rw [h.N]; exact hN' j x e) hcap' hlen
    (fun cl C s H fp => p2 _ (h.comp N scope cl C s H fp)) (fun cl C s H fp => p3 _ (h.comp N scope cl C s H fp)) (fun cl C s H fp => p4 _ (h.comp N scope cl C s H fp)) (hs _) (swaps_of (by rw [h.sc]; exact hl1) (by rw [h.sc]; exact hl2) hl3) (by rw [h.N]; exact hNd) (by rw [h.N]; exact hiy) (by rw [h.sc]; exact hy) (by rcases hf with z | z; exact .inl (h.fn z y); exact .inr (by rw [h.sc]; exact z)), sim_asg (sim_comp s1 s2 s3 s4) (sim_gname i)⟩
end
section
variable {P : Program} {w : World} {K : PySem.W.Frag} {mg : Str → Option Value} {base : Heap}
theorem start_rel {H : Hp} {M : MHp} {N : List Str} {us : List U} {vs : List V} (r : RelUs K H M us vs) : RelS K H M (L2.start N vs) (startU N us) := by
  have hl := r.length
  refine ⟨by simp [L2.start, startU, hl], fun i u e => ?_⟩
  unfold startU at e
  unfold L2.start
  by_cases hi : i < us.length
  · rw [List.getElem?_append_left (by simpa using hi), List.getElem?_map] at e
    cases q : us[i]? with
    | none => rw [q] at e; cases e
    | some u' =>
      rw [q] at e
      cases e
      obtain ⟨v, h1, h2⟩ := r.get q
      exact ⟨v, by rw [List.getElem?_append_left (by rw [List.length_map]; omega), List.getElem?_map, h1]; rfl, h2⟩
  · rw [List.getElem?_append_right (by simpa using hi), List.getElem?_replicate] at e
    split at e <;> cases e
theorem fnok_of {x : Str} {st : Stmt} {f : Addr} {fd : FuncData} {N ps : List Str} {k : Nat} {sp : USp} {t : US} (F : Fun K x x st f fd) (S : FnScope N ps (defScope st))
    (len : ∀ us M Q, sp us M Q → us.length = ps.length)
    (h : PSsU ⟨P, w, K, mg, base, N, defScope st, k, true, .none, ""⟩ (defBody st) t)
    (q : ∀ us M Q, sp us M Q → t { nx := fun _ M' => rtU Q .non M', rt := rtU Q } (startU N us) M) : FnOk P w K mg base CX0 (k + 1) f fd ps (liftSp K sp) := by
  obtain ⟨t0, h1, h2⟩ := h
  refine F.ok S (fun vs H Q E ⟨us, M, Q', _, r, hs, _⟩ => by rw [← r.length]; exact len us M Q' hs) (fun cdv A outer s H vs Q E hr ⟨us, M, Q', rm, r, hs, c⟩ => ?_)
  refine ⟨t0, h1 _ ⟨rfl, rfl, rfl, rfl, rfl, rfl, rfl, hr, rfl, rfl, fun _ _ => rfl, fun h => absurd rfl h⟩, ?_⟩
  refine h2 _ (startU N us) H M _ (start_rel r) rm (q us M Q' hs) _ ⟨fun σ τ H1 M1 s1 rm1 rs1 q1 => ?_, fun u v H1 M1 s1 rm1 ru q1 => rtU.ok c s1 rm1 ru q1, fun _ _ _ _ _ _ _ z => z.elim, fun _ _ _ _ _ _ _ z => z.elim⟩
  exact rtU.ok c s1 rm1 relU_non q1
theorem callee_of {x : Str} {st : Stmt} {f : Addr} {fd : FuncData} {N ps : List Str} {k : Nat} {sp : USp} {t : US} (F : Fun K x x st f fd) (hm : mg x = some (.ref f)) (S : FnScope N ps (defScope st))
    (bind : ∀ (kV doc pm : Value) (an : Option Addr) (cdv ct : Value) (us : List Value), us.length = ps.length → bindArgs (PySem.W.fnOf x x (defArgs st) (defBody st) (defScope st) .none kV doc pm an cdv ct) ⟨us, []⟩ = pure (ps.zip us))
    (len : ∀ us M Q, sp us M Q → us.length = ps.length)
    (h : PSsU ⟨P, w, K, mg, base, N, defScope st, k, true, .none, ""⟩ (defBody st) t)
    (q : ∀ us M Q, sp us M Q → t { nx := fun _ M' => rtU Q .non M', rt := rtU Q } (startU N us) M) : Callee P w K mg base (k + 1) x sp [] := by
  obtain ⟨t0, h1, h2⟩ := h
  refine ⟨f, fd, ps, [], [], F.ok S (fun vs H Q E ⟨us, M, Q', _, r, hs, _⟩ => by rw [← r.length]; exact len us M Q' hs) (fun cdv A outer s H vs Q E hr ⟨us, M, Q', rm, r, hs, c⟩ => ?_), hm, F.kp, F.binds bind, .nil, fun H M => .nil⟩
  refine ⟨t0, h1 _ ⟨rfl, rfl, rfl, rfl, rfl, rfl, rfl, hr, rfl, rfl, fun _ _ => rfl, fun h => absurd rfl h⟩, ?_⟩
  refine h2 _ (startU N us) H M _ (start_rel r) rm (q us M Q' hs) _ ⟨fun σ τ H1 M1 s1 rm1 rs1 q1 => ?_, fun u v H1 M1 s1 rm1 ru q1 => rtU.ok c s1 rm1 ru q1, fun _ _ _ _ _ _ _ z => z.elim, fun _ _ _ _ _ _ _ z => z.elim⟩
  exact rtU.ok c s1 rm1 relU_non q1
end
end U2
namespace U2
open PySem L2
theorem isi_NoneType_bool : under2 "NoneType" "bool" = some false := by decide +kernel
theorem isi_NoneType_int : under2 "NoneType" "int" = some false := by decide +kernel
theorem isi_NoneType_str : under2 "NoneType" "str" = some false := by decide +kernel
theorem isi_NoneType_tuple : under2 "NoneType" "tuple" = some false := by decide +kernel
theorem isi_NoneType_list : under2 "NoneType" "list" = some false := by decide +kernel
theorem isi_NoneType_dict : under2 "NoneType" "dict" = some false := by decide +kernel
theorem isi_bool_bool : under2 "bool" "bool" = some true := by decide +kernel
theorem isi_bool_int : under2 "bool" "int" = some true := by decide +kernel
theorem isi_bool_str : under2 "bool" "str" = some false := by decide +kernel
theorem isi_bool_tuple : under2 "bool" "tuple" = some false := by decide +kernel
theorem isi_bool_list : under2 "bool" "list" = some false := by decide +kernel
theorem isi_bool_dict : under2 "bool" "dict" = some false := by decide +kernel
theorem isi_int_bool : under2 "int" "bool" = some false := by decide +kernel
theorem isi_int_int : under2 "int" "int" = some true := by decide +kernel
theorem isi_int_str : under2 "int" "str" = some false := by decide +kernel
theorem isi_int_tuple : under2 "int" "tuple" = some false := by decide +kernel
theorem isi_int_list : under2 "int" "list" = some false := by decide +kernel
theorem isi_int_dict : under2 "int" "dict" = some false := by decide +kernel
theorem isi_str_bool : under2 "str" "bool" = some false := by decide +kernel
theorem isi_str_int : under2 "str" "int" = some false := by decide +kernel
theorem isi_str_str : under2 "str" "str" = some true := by decide +kernel
theorem isi_str_tuple : under2 "str" "tuple" = some false := by decide +kernel
theorem isi_str_list : under2 "str" "list" = some false := by decide +kernel
theorem isi_str_dict : under2 "str" "dict" = some false := by decide +kernel
theorem isi_tuple_bool : under2 "tuple" "bool" = some false := by decide +kernel
theorem isi_tuple_int : under2 "tuple" "int" = some false := by decide +kernel
theorem isi_tuple_str : under2 "tuple" "str" = some false := by decide +kernel
theorem isi_tuple_tuple : under2 "tuple" "tuple" = some true := by decide +kernel
theorem isi_tuple_list : under2 "tuple" "list" = some false := by decide +kernel
theorem isi_tuple_dict : under2 "tuple" "dict" = some false := by decide +kernel
theorem isi_list_bool : under2 "list" "bool" = some false := by decide +kernel
theorem isi_list_int : under2 "list" "int" = some false := by decide +kernel
theorem isi_list_str : under2 "list" "str" = some false := by decide +kernel
theorem isi_list_tuple : under2 "list" "tuple" = some false := by decide +kernel
theorem isi_list_list : under2 "list" "list" = some true := by decide +kernel
theorem isi_list_dict : under2 "list" "dict" = some false := by decide +kernel
theorem isi_dict_bool : under2 "dict" "bool" = some false := by decide +kernel
theorem isi_dict_int : under2 "dict" "int" = some false := by decide +kernel
theorem isi_dict_str : under2 "dict" "str" = some false := by decide +kernel
theorem isi_dict_tuple : under2 "dict" "tuple" = some false := by decide +kernel
theorem isi_dict_list : under2 "dict" "list" = some false := by decide +kernel
theorem isi_dict_dict : under2 "dict" "dict" = some true := by decide +kernel
theorem rt_same {Q : UK} {u : U} {M : MHp} (q : Q u M) : rtU Q u M := ⟨u, M, Sub.refl M, .inl rfl, q⟩
theorem uComp_pure {o : Bool} {k : Nat} {ix : List Nat} {wi : UI} {g : UG} {tc : UT} {te : UE} {τ : SU} {M M1 : MHp} {Q : UK} {S : Src} (f : U → Option U) (hw : ∀ R : Src → MHp → Prop, R S M1 → wi τ M R) (hz : S.xs.length ≤ sizeLine) (hs : S.ok M1)
    (h : ∀ x ∈ S.xs, ∀ M, Sub M1 M → ∀ R : Option U → MHp → Prop, R (f x) M → g x (capt k ix τ) M fun τ2 M2 => tc τ2 M2 fun ok M3 => if ok = true then te τ2 M3 fun y M4 => R (some y) M4 else R none M3)
    (q : mkL o (S.xs.filterMap f) M1 Q) : uComp o k ix wi g tc te τ M Q := hw _ (comp_pure (wi := wi) f hz hs h q)
theorem for_by {wi : UI} {g : UG} {tb : US} {D : UEnds} {τ : SU} {M M1 : MHp} {S : Src} (hw : ∀ R : Src → MHp → Prop, R S M1 → wi τ M R) (P : Nat → SU → MHp → Prop) (h0 : P 0 τ M1) (hok : ∀ i τ M, P i τ M → S.ok M)
    (turn : ∀ i x τ M, S.xs[i]? = some x → P i τ M → g x τ M fun τ2 M2 => tb { D with nx := P (i + 1), ct := P (i + 1), bk := D.nx } τ2 M2) (fin : ∀ τ M, P S.xs.length τ M → D.nx τ M) : uFor wi g tb D τ M := hw _ ⟨P, h0, hok, turn, fin⟩
theorem while_by {c : UT} {tb : US} {D : UEnds} {τ : SU} {M : MHp} (P : SU → MHp → Prop) (μ : SU → MHp → Nat) (h0 : P τ M)
    (turn : ∀ τ M, P τ M → c τ M fun b M1 => if b = true then tb { D with nx := fun τ' M' => P τ' M' ∧ μ τ' M' < μ τ M, ct := fun τ' M' => P τ' M' ∧ μ τ' M' < μ τ M, bk := D.nx } τ M1 else D.nx τ M1) : uWhile c tb D τ M := ⟨P, μ, h0, turn⟩
end U2
namespace U2
open PySem PySem.Spec PyProof.Rows L2
inductive Fl where
  | int (i : Int) | str (x : Str)
def Fl.d : Fl → PyData
  | .int i => .int i
  | .str x => .str x
def Fl.u : Fl → U
  | .int i => .int i
  | .str x => .str x
def Fl.v : Fl → V
  | .int i => .int i
  | .str x => .str x
def tabD (T : List (Str × Fl)) : List (PyData × PyData) := T.map fun p => (PyData.str p.1, p.2.d)
def tabGet : List (Str × Fl) → Str → Option Fl
  | [], _ => none
  | (a, b) :: r, z => if a = z then some b else tabGet r z
structure IsTab (P : Program) (w : World) (K : PySem.W.Frag) (d : Addr) (T : List (Str × Fl)) : Prop where
  at_ : ∀ h : Heap, K.In h → StrTab P w h d (tabD T)
theorem sameS (a b : Str) : same (.str a) (.str b) = decide (a = b) := by
  by_cases h : a = b <;> simp [same, h]
theorem lookup_tab : ∀ (T : List (Str × Fl)) (z : Str), PySem.Spec.lookup (.str z) (tabD T) = (tabGet T z).map Fl.d
  | [], _ => rfl
  | (a, b) :: r, z => by
    have ih := lookup_tab r z
    show (if same (.str a) (.str z) = true then some b.d else PySem.Spec.lookup (.str z) (tabD r)) = ((if a = z then some b else tabGet r z).map Fl.d)
    rw [sameS]
    by_cases e : a = z
    · rw [if_pos (decide_eq_true e), if_pos e]; rfl
    · rw [if_neg (by simpa using e), if_neg e, ih]
def tabP (T : List (Str × Fl)) : List (Str × PyData) := T.map fun p => (p.1, p.2.d)
theorem tab_of {P : Program} {w : World} {K : PySem.W.Frag} {d : Addr} {T : List (Str × Fl)} (n : ((tabP T).map (·.1)).Nodup) (e : KTD.tabLook KTD.flatLooks (fun b => K.lookup b) d (tabP T) = true) (q : KTD.hashesOf (fun b => K.lookup b) d = (tabP T).map fun p => (PySem.strKind P w).hash p.1) : IsTab P w K d T := ⟨fun h hK => by
  have := PySem.W.kt_tab_in P w hK e n q
  unfold tabP at this
  rw [List.map_map] at this
  exact this⟩
section
variable {X : Cx} {d : Addr} {T : List (Str × Fl)}
theorem op_inTab (t : IsTab X.prog X.w X.K d T) : OpR X (compareOp .In) (fun x y H Q => ∃ z, x = .str z ∧ y = .ref d ∧ Q (.bl (tabGet T z).isSome) H) := by
  intro pins s σ H x y v u Q I rx ry h
  obtain ⟨z, rfl, rfl, q⟩ := h
  obtain ⟨tk, rfl⟩ := rx
  cases ry
  refine in_strTab (t.at_ _ I.kIn) ?_
  rw [lookup_tab, Option.isSome_map]
  exact ⟨.bl _, H, I.tok _, rfl, q⟩
theorem op_notInTab (t : IsTab X.prog X.w X.K d T) : OpR X (compareOp .NotIn) (fun x y H Q => ∃ z, x = .str z ∧ y = .ref d ∧ Q (.bl (!(tabGet T z).isSome)) H) := by
  intro pins s σ H x y v u Q I rx ry h
  obtain ⟨z, rfl, rfl, q⟩ := h
  obtain ⟨tk, rfl⟩ := rx
  cases ry
  refine notin_strTab (t.at_ _ I.kIn) ?_
  rw [lookup_tab, Option.isSome_map]
  exact ⟨.bl _, H, I.tok _, rfl, q⟩
theorem flat_fl {f : Fl} {v : Value} (h : PyProof.V.Flat v f.d) : RelV f.v v := by
  have := h default
  cases f with
  | int i => cases this; exact ⟨_, rfl⟩
  | str i => cases this; exact ⟨_, rfl⟩
theorem pe_dix {x : Str} {px pos : Pos} {b : Expr} {ta tb : TE} (t : IsTab X.prog X.w X.K d T) (ha : PE X (.Name x px) ta) (hb : PE X b tb) (hs : PlainIx b) :
    PE X (.Subscript (.Name x px) b pos) (tOp (fun x y H Q => ∃ z f, x = .ref d ∧ y = .str z ∧ tabGet T z = some f ∧ Q f.v H) ta tb) := by
  intro pins s σ H Q I h
  refine Subscript_ (binT ha hb I h fun v u s2 x' y H2 I2 rx ry q => ?_)
  obtain ⟨z, f, rfl, rfl, e, q⟩ := q
  cases rx
  obtain ⟨tk, rfl⟩ := ry
  exact item_strTab (t.at_ _ I2.kIn) (dv := f.d) (by rw [lookup_tab, e]; rfl) (fun v hv => ⟨f.v, H2, I2.tok _, flat_fl hv, q⟩) (hs _ _) (fun r => rfl)
end
section
variable {D : Dat} {d : Addr} {T : List (Str × Fl)}
abbrev Tab (D : Dat) := IsTab D.prog D.w D.K
def inTab (d : Addr) (T : List (Str × Fl)) (neg : Bool) : UR2 := fun x y M Q => match x with
  | .str z => y = .ref d ∧ Q (.bl (if neg then !(tabGet T z).isSome else (tabGet T z).isSome)) M
  | _ => False
theorem k_inTab (t : Tab D d T) : Cmp D .In (inTab d T false) := ⟨⟨_, fun X h => op_inTab (by rw [h.prog, h.w, h.K]; exact t), fun x y u w H M Q' rm ru rw h Q c => by
  cases u with
  | str z => obtain ⟨rfl, h⟩ := h; exact ⟨z, ru.str, rw.ref, c.here rm relU_bl h⟩
  | _ => exact h.elim⟩⟩
theorem k_notInTab (t : Tab D d T) : Cmp D .NotIn (inTab d T true) := ⟨⟨_, fun X h => op_notInTab (by rw [h.prog, h.w, h.K]; exact t), fun x y u w H M Q' rm ru rw h Q c => by
  cases u with
  | str z => obtain ⟨rfl, h⟩ := h; exact ⟨z, ru.str, rw.ref, c.here rm relU_bl h⟩
  | _ => exact h.elim⟩⟩
def ixTab (d : Addr) (T : List (Str × Fl)) : UR2 := fun x y M Q => match y with
  | .str z => x = .ref d ∧ match tabGet T z with
    | some f => Q f.u M
    | none => False
  | _ => False
theorem fl_rel {K : PySem.W.Frag} {H : Hp} {M : MHp} (f : Fl) : RelU K H M f.u f.v := by cases f; exact relU_int; exact relU_str
theorem ue_dix {x : Str} {px pos : Pos} {b : Expr} {ta tb : UE} (t : Tab D d T) (ha : PEU D (.Name x px) ta) (hb : PEU D b tb) (hs : PlainIx b := by intro _ _; rfl) : PEU D (.Subscript (.Name x px) b pos) (uOp (ixTab d T) ta tb) := by
  obtain ⟨_, p, s⟩ := ha; obtain ⟨_, q, r⟩ := hb
  refine ⟨_, fun X h => pe_dix (d := d) (T := T) (by rw [h.prog, h.w, h.K]; exact t) (p X h) (q X h) hs, sim_op (fun x y u w H M Q' rm ru rw h Q c => ?_) s r⟩
  cases w with
  | str z =>
    obtain ⟨rfl, h⟩ := h
    cases e : tabGet T z with
    | none => rw [e] at h; exact h.elim
    | some f => rw [e] at h; exact ⟨z, f, ru.ref, rw.str, e, c.here rm (fl_rel f) h⟩
  | _ => exact h.elim
def tCallV (i : Nat) (f : Addr) (sp : Sp) (t : TA) : TE := fun σ H Q => tVar i σ H fun v H1 => v = .ref f ∧ t σ H1 fun vs H2 => sp vs H2 Q E0
theorem pe_callv {X : Cx} {x : Str} {p pos : Pos} {e : Expr} {es : List Expr} {i k : Nat} {f : Addr} {fd : FuncData} {ps : List Str} {sp : Sp} {t : TA} (hN : X.N[i]? = some x) (hv : Vis X.env.scope x) (F : FnOk X.prog X.w X.K X.mg X.base CX0 k f fd ps sp) (hr : Room k X.A) (hk : PySem.W.keepIn X.K (.ref f) = true) (hb : Binds X.K fd ps [])
    (ha : PA X (e :: es) t) (hd : (x == ("__debug__" : Str)) = false) (hcd : (x == ("__classdict__" : Str)) = false) (he : starEach (e :: es) X.env = (false, eval e X.env) :: starEach es X.env) (hpl : (backTo pos (starEach es X.env)).any (·.1) = false) :
    PE X (.Call (.Name x p) (e :: es) [] pos) (tCallV i f sp t) := by
  intro pins s σ H Q I h
  refine wpAny_Call_Name_kw (thn (pe_var (i := i) hN hv hd hcd pins s σ H _ I h) fun v s1 ⟨x', H1, I1, r1, e1, q1⟩ => ?_)
  subst e1
  cases r1
  refine PySem.W.callWith_K (h₀ := X.base) I1.ok.mod.kin hk (thn (ha pos pins s1 σ H1 _ I1 q1) fun us s2 ⟨vs, H2, I2, r, q⟩ => ⟨I2.kIn, ?_⟩) he hpl
  exact run_fn (dvs := []) F hr hb .nil pass0 I2 r (by rw [List.append_nil]; exact q)
structure CalleeAt (P : Program) (w : World) (K : PySem.W.Frag) (mg : Str → Option Value) (base : Heap) (j : Nat) (f : Addr) (sp : USp) : Prop where
  ex : ∃ fd ps, FnOk P w K mg base CX0 j f fd ps (liftSp K sp) ∧ PySem.W.keepIn K (.ref f) = true ∧ Binds K fd ps []
def uCallV (i : Nat) (f : Addr) (sp : USp) (t : UA) : UE := fun τ M Q => uVar i τ M fun v M1 => v = .ref f ∧ t τ M1 fun us M2 => sp us M2 Q
theorem ue_callv (i : Nat) {x : Str} {p pos : Pos} {e : Expr} {es : List Expr} {j : Nat} {f : Addr} {sp : USp} {tas : UA} (F : CalleeAt D.prog D.w D.K D.mg D.base j f sp) (ha : PAU D (e :: es) tas) (hN : D.N[i]? = some x := by rfl) (hv : Vis D.sc x := by first | exact Or.inl rfl | exact Or.inr (Or.inl rfl) | exact Or.inr (Or.inr rfl))
    (hj : j ≤ D.k := by first | exact Nat.le_refl _ | (dsimp only; omega) | omega | (dsimp only [compD]; omega)) (hd : (x == ("__debug__" : Str)) = false := by decide) (hcd : (x == ("__classdict__" : Str)) = false := by decide)
    (he : ∀ env, starEach (e :: es) env = (false, eval e env) :: starEach es env := by intro _; rfl) (hpl : ∀ env, (backTo pos (starEach es env)).any (·.1) = false := by intro _; rfl) : PEU D (.Call (.Name x p) (e :: es) [] pos) (uCallV i f sp tas) := by
  obtain ⟨fd, ps, F, kp, hb⟩ := F.ex
  obtain ⟨t, q, s⟩ := ha
  refine ⟨tCallV i f (liftSp D.K sp) t, fun X h => ?_, fun σ τ H M Q' rs rm h Q c => ?_⟩
  · have F' : FnOk X.prog X.w X.K X.mg X.base CX0 j f fd ps (liftSp D.K sp) := by rw [h.prog, h.w, h.K, h.mg, h.base]; exact F
    exact pe_callv (by rw [h.N]; exact hN) (by rw [h.sc]; exact hv) F' (h.room.mono hj) (by rw [h.K]; exact kp) (by rw [h.K]; exact hb) (q X h) hd hcd (he _) (hpl _)
  · refine sim_var i σ τ H M _ rs rm h _ fun u v M1 H1 s1 rm1 ru h1 => ?_
    obtain ⟨rfl, h1⟩ := h1
    refine ⟨ru.ref, s σ τ H1 M1 _ (rs.stp s1) rm1 h1 _ fun us vs M2 H2 s2 rm2 rus h2 => ?_⟩
    exact ⟨us, M2, Q', rm2, rus, h2, Cont.stp c (s1.trans s2)⟩
end
end U2
namespace U2
open PySem PySem.Spec PyProof.Rows L2
abbrev envL (qual : Str) (scope : Scope) (L f c : Addr) (cl : List (Str × Addr)) : Env := PySem.W.envX qual scope L f (.ref c) cl
end U2
namespace U2
open PySem PySem.Spec PyProof.Rows L2
structure Lam where
  params : Arguments
  body : Expr
  scope : Scope
abbrev UAL := SU → MHp → (List U → List Addr → MHp → Prop) → Prop
def ulNil : UAL := fun _ M Q => Q [] [] M
def ulCons (te : UE) (t : UAL) : UAL := fun τ M Q => te τ M fun u M1 => t τ M1 fun us fs M2 => Q (u :: us) fs M2
def ulLam (P : Addr) (q : Str) (t : UAL) : UAL := fun τ M Q => M P = some (.tbl q) ∧ ∀ fl, t τ M fun us fs M2 => Q (.ref fl :: us) (fl :: fs) M2
end U2
namespace U2
open PySem PySem.Spec PyProof.Rows L2
structure CalleeF (P : Program) (w : World) (K : PySem.W.Frag) (mg : Str → Option Value) (base : Heap) (j : Nat) (f : Addr) (sp : USp) : Prop where
  ex : ∃ fd ps, FnOk P w K mg base CX0 j f fd ps (liftSp K sp) ∧ (PySem.W.keepIn K (.ref f) = true ∨ ∃ o fd', base.get? f = some o ∧ o.data = .func fd') ∧ Binds K fd ps []
theorem CalleeAt.f {P : Program} {w : World} {K : PySem.W.Frag} {mg : Str → Option Value} {base : Heap} {j : Nat} {f : Addr} {sp : USp} (c : CalleeAt P w K mg base j f sp) : CalleeF P w K mg base j f sp :=
  let ⟨fd, ps, a, b, d⟩ := c.ex; ⟨fd, ps, a, .inl b, d⟩
theorem pe_callvF {X : Cx} {x : Str} {p pos : Pos} {e : Expr} {es : List Expr} {i k : Nat} {f : Addr} {fd : FuncData} {ps : List Str} {sp : Sp} {t : TA} (hN : X.N[i]? = some x) (hv : Vis X.env.scope x) (F : FnOk X.prog X.w X.K X.mg X.base CX0 k f fd ps sp) (hr : Room k X.A) (hk : PySem.W.keepIn X.K (.ref f) = true ∨ ∃ o fd', X.base.get? f = some o ∧ o.data = .func fd') (hb : Binds X.K fd ps [])
    (ha : PA X (e :: es) t) (hd : (x == ("__debug__" : Str)) = false) (hcd : (x == ("__classdict__" : Str)) = false) (he : starEach (e :: es) X.env = (false, eval e X.env) :: starEach es X.env) (hpl : (backTo pos (starEach es X.env)).any (·.1) = false) :
    PE X (.Call (.Name x p) (e :: es) [] pos) (tCallV i f sp t) := by
  intro pins s σ H Q I h
  refine wpAny_Call_Name_kw (thn (pe_var (i := i) hN hv hd hcd pins s σ H _ I h) fun v s1 ⟨x', H1, I1, r1, e1, q1⟩ => ?_)
  subst e1
  cases r1
  rcases hk with hk | ⟨o, fd', ho, hof⟩
  · refine PySem.W.callWith_K (h₀ := X.base) I1.ok.mod.kin hk (thn (ha pos pins s1 σ H1 _ I1 q1) fun us s2 ⟨vs, H2, I2, r, q⟩ => ⟨I2.kIn, ?_⟩) he hpl
    exact run_fn (dvs := []) F hr hb .nil pass0 I2 r (by rw [List.append_nil]; exact q)
  · have ha' := ha pos pins s1 σ H1 _ I1 q1
    rw [he] at ha' ⊢
    refine PySem.W.callWith_of (P := fun h => h.get? f = some o) (by show ((false || (backTo pos (starEach es X.env)).any (·.1)) || false) = false; rw [hpl]; rfl) (fun h0 hh => ?_) (Calls.evalArgs_plain (thn ha' fun us s2 ⟨vs, H2, I2, r, q⟩ => ⟨I2.bk _ _ ho, ?_⟩))
    · refine ⟨.frame, .inl rfl, (PySem.W.Looks.ld (part := none) hh).andThen ?_⟩
      obtain ⟨oc, od, odt, osl⟩ := o
      have : odt = .func fd' := hof
      subst this
      exact .now
    · exact run_fn (dvs := []) F hr hb .nil pass0 I2 r (by rw [List.append_nil]; exact q)
section
variable {D : Dat}
theorem ue_callf (i : Nat) {x : Str} {p pos : Pos} {e : Expr} {es : List Expr} {j : Nat} {f : Addr} {sp : USp} {tas : UA} (F : CalleeF D.prog D.w D.K D.mg D.base j f sp) (ha : PAU D (e :: es) tas) (hN : D.N[i]? = some x := by rfl) (hv : Vis D.sc x := by first | exact Or.inl rfl | exact Or.inr (Or.inl rfl) | exact Or.inr (Or.inr rfl))
    (hj : j ≤ D.k := by first | exact Nat.le_refl _ | (dsimp only; omega) | omega | (dsimp only [compD]; omega)) (hd : (x == ("__debug__" : Str)) = false := by decide) (hcd : (x == ("__classdict__" : Str)) = false := by decide)
    (he : ∀ env, starEach (e :: es) env = (false, eval e env) :: starEach es env := by intro _; rfl) (hpl : ∀ env, (backTo pos (starEach es env)).any (·.1) = false := by intro _; rfl) : PEU D (.Call (.Name x p) (e :: es) [] pos) (uCallV i f sp tas) := by
  obtain ⟨fd, ps, F, kp, hb⟩ := F.ex
  obtain ⟨t, q, s⟩ := ha
  refine ⟨tCallV i f (liftSp D.K sp) t, fun X h => ?_, fun σ τ H M Q' rs rm h Q c => ?_⟩
  · have F' : FnOk X.prog X.w X.K X.mg X.base CX0 j f fd ps (liftSp D.K sp) := by rw [h.prog, h.w, h.K, h.mg, h.base]; exact F
    exact pe_callvF (by rw [h.N]; exact hN) (by rw [h.sc]; exact hv) F' (h.room.mono hj) (by rw [h.K, h.base]; exact kp) (by rw [h.K]; exact hb) (q X h) hd hcd (he _) (hpl _)
  · refine sim_var i σ τ H M _ rs rm h _ fun u v M1 H1 s1 rm1 ru h1 => ?_
    obtain ⟨rfl, h1⟩ := h1
    refine ⟨ru.ref, s σ τ H1 M1 _ (rs.stp s1) rm1 h1 _ fun us vs M2 H2 s2 rm2 rus h2 => ?_⟩
    exact ⟨us, M2, Q', rm2, rus, h2, Cont.stp c (s1.trans s2)⟩
end
def isCod (q : Str) (o : Option HO) : Prop := ∃ oc vs t, o = some (.frz oc (.own 0)) ∧ oc.data = .fields vs ∧ vs[1]? = some (.str q t)
open Classical in
noncomputable def hidC (q : Str) (H : Hp) : Hp := fun b => if isCod q (H b) then none else H b
open Classical in
noncomputable def resC (q : Str) (H H2 : Hp) : Hp := fun b => if isCod q (H b) then H b else H2 b
def mdel (M : MHp) (a : Addr) : MHp := fun b => if b = a then none else M b
theorem mdel_same {M : MHp} {a : Addr} : mdel M a a = none := by unfold mdel; rw [if_pos rfl]
theorem mdel_ne {M : MHp} {a b : Addr} (h : b ≠ a) : mdel M a b = M b := by unfold mdel; rw [if_neg h]
theorem hidC_code {q : Str} {H : Hp} {b : Addr} (h : isCod q (H b)) : hidC q H b = none := by unfold hidC; exact if_pos h
theorem hidC_not {q : Str} {H : Hp} {b : Addr} (h : ¬ isCod q (H b)) : hidC q H b = H b := by unfold hidC; exact if_neg h
theorem resC_code {q : Str} {H H2 : Hp} {b : Addr} (h : isCod q (H b)) : resC q H H2 b = H b := by unfold resC; exact if_pos h
theorem resC_not {q : Str} {H H2 : Hp} {b : Addr} (h : ¬ isCod q (H b)) : resC q H H2 b = H2 b := by unfold resC; exact if_neg h
end U2
namespace U2
open PySem PySem.Spec PyProof.Rows L2
def spLam (n : Nat) (te : UE) (caps : SU) : USp := fun us M Q => us.length = n ∧ te (us.map some ++ caps) M Q
structure LamD where
  lam : Lam
  N : List Str
  ps : List Str
  ix : List Nat
  te : UE
def flatR : U → Prop
  | .tup _ => False
  | .lst _ => False
  | .dic _ _ _ => False
  | _ => True
def capU (L : LamD) (τ : SU) : SU := L.ix.map fun i => (τ[i]?).getD none
def lamSp (L : LamD) (τ : SU) : USp := spLam L.ps.length L.te (capU L τ)
def uCallG (G : SU → List U → List Addr → MHp → UK → Prop) (t : UAL) : UE := fun τ M Q => t τ M fun us fs M1 => G τ us fs M1 Q
def gL1 (P : Addr) (q : Str) (L : LamD) (sp : Addr → USp → USp) : SU → List U → List Addr → MHp → UK → Prop := fun τ us fs M1 Q => match fs with
  | [fl] => M1 P = some (.tbl q) ∧ (∀ u, some u ∈ capU L τ → flatR u) ∧ ((∀ b, mdel M1 P b ≠ some (.tbl q)) → sp fl (lamSp L τ) us (mdel M1 P) fun u M2 => (∀ b, M2 b ≠ some (.tbl q)) ∧ Q u (mup M2 P (.tbl q)))
  | _ => False
def gL2 (P : Addr) (q : Str) (L L' : LamD) (sp : Addr → USp → Addr → USp → USp) : SU → List U → List Addr → MHp → UK → Prop := fun τ us fs M1 Q => match fs with
  | [fl, fl'] => M1 P = some (.tbl q) ∧ (∀ u, some u ∈ capU L τ → flatR u) ∧ (∀ u, some u ∈ capU L' τ → flatR u) ∧ ((∀ b, mdel M1 P b ≠ some (.tbl q)) → sp fl (lamSp L τ) fl' (lamSp L' τ) us (mdel M1 P) fun u M2 => (∀ b, M2 b ≠ some (.tbl q)) ∧ Q u (mup M2 P (.tbl q)))
  | _ => False
end U2
namespace U2
open PySem PySem.Spec PyProof.Rows L2
section
variable {P : Program} {w : World} {K : PySem.W.Frag} {mg : Str → Option Value} {base : Heap}
end
end U2
namespace U2
open PySem PySem.Spec PyProof.Rows L2
section
variable {D : Dat} {x : Str} {p pos : Pos} {e : Expr} {es : List Expr} {f P : Addr} {q : Str} {j : Nat}
end
end U2
namespace U2
open PySem PySem.Spec PyProof.Rows L2
end U2
namespace U2
open PySem PySem.Spec PyProof.Rows L2
def Itr2 (lo : Int) (n : Nat) : It := ⟨fun i _ => i < n, fun i H x H' => H' = H ∧ x = .int (lo + i * 2), fun i _ => n ≤ i⟩
theorem turn_range2 {P : Program} {w : World} {K : PySem.W.Frag} {tg : Expr} (it : Addr) (lo : Int) (n : Nat) : Turn P w K tg (Itr2 lo n) [it] it (fun i h => IsRangeIter h it (lo + (i : Nat) * 2) ((n : Int) - (i : Nat)) 2) where
  mem := by simp
  obj := fun i h st b hb => by
    have e : b = it := by simpa using hb
    subst e
    exact ⟨_, st, fun v z => by
      have z' : Data.fields _ = Data.cell v := z
      cases z'⟩
  keep := fun i h h' st k => k it (by simp) _ st
  item := by
    intro X hP hw hK hc i pins s σ H E I hf st hg
    subst hP hw hK
    obtain ⟨f0, f1, f2, f3, f4, f5⟩ := hf it (by simp)
    have W := Walks.range (prog := X.prog) (w := X.w) (I.ok.hd hc) it lo 2 n
    refine W.item i s _ _ hg st fun v h' tk hv st' kk => ?_
    obtain ⟨t, rfl⟩ := hv
    have I1 : L2.Inv X pins σ H { s with heap := h', toks := tk } := I.turned (fun b o hb e => kk b o (by simpa using hb) e) f0 f1 f3 f4 f5
    exact ⟨_, rfl, go_of (s := { s with heap := h', toks := tk }) (n := "range_iterator") st' rfl rfl (by decide) ⟨.int (lo + i * 2), H, I1, ⟨t, rfl⟩, ⟨rfl, rfl⟩, st', fun b hb => (hf b hb).1⟩⟩
  done := by
    intro X hP hw hK hc i pins s σ H E I hf st hg
    subst hP hw hK
    obtain ⟨f0, f1, f2, f3, f4, f5⟩ := hf it (by simp)
    exact wpAny_pyNext_range_end (I.ok.hd hc) st (by have : n ≤ i := hg; omega) fun h' eb => ⟨rfl, I.turned (t' := s.toks) (fun b o hb e => eb b o hb e) f0 f1 f3 f4 f5⟩
  self := fun _ _ _ _ _ st h => wpAny_pyIter_rangeiter st h
def half (j : Int) : Nat := ((j + 1) / 2).toNat
def iRng3 (ta : TA) : TI := fun σ H R => ta σ H fun vs H1 => ∃ j : Int, vs = [.int 0, .int j, .int 2] ∧ 0 ≤ j ∧ j < 2 ^ 61 ∧ R (Itr2 0 (half j)) H1
theorem size_two {j : Int} (h : 0 ≤ j) : Builtin.Range.rangeSize 0 j 2 = (half j : Nat) := by
  unfold Builtin.Range.rangeSize half
  simp only [show (2 : Int) > 0 by decide, if_true]
  split <;> omega
theorem small_two {j : Int} (h : 0 ≤ j) (h2 : j < 2 ^ 61) : Builtin.Range.small 0 j 2 = true := by
  unfold Builtin.Range.small
  rw [size_two h]
  unfold half
  simp only [Builtin.Range.rangeFitsLong, Bool.and_eq_true, Bool.or_eq_true, decide_eq_true_eq, beq_iff_eq, show (2 : Int) > 0 by decide, if_true]
  omega
theorem pi_range3 {X : Cx} {tg a b c : Expr} {ta : TA} {p pos : Pos} (hg : Gl X "range") (hm : X.mg "range" = none) (ha : PA X [a, b, c] ta) (hs : starEach [a, b, c] X.env = (false, eval a X.env) :: starEach [b, c] X.env) (hs2 : (backTo pos (starEach [b, c] X.env)).any (·.1) = false) :
    PI X tg (.Call (.Name "range" p) [a, b, c] [] pos) (iRng3 ta) := by
  intro pins s σ H R I h
  refine Call_ (ld_blt I hg hm boot_range (PyProof.Rows.callWith_type1 (thn (ha pos pins s σ H _ I h) fun us s1 ⟨vs, H1, I1, r1, q1⟩ => ?_) hs hs2))
  obtain ⟨j, e, q1, q2, q⟩ := q1
  subst e
  cases r1 with
  | cons r rr => cases rr with
    | cons r' rr => cases rr with
      | cons r'' rr =>
        cases rr
        obtain ⟨t, rfl⟩ := r
        obtain ⟨t', rfl⟩ := r'
        obtain ⟨t'', rfl⟩ := r''
        refine call_range_3 (by decide) ?_
        refine wpAny_pyIter_range (IsRange.new ..) (small_two q1 q2) ?_
        have I2 : L2.Inv X pins σ H1 { s1 with heap := s1.heap.push { cls := .type "range", data := .fields #[.int 0 t, .int j t', .int 2 t''] }, toks := s1.toks } := I1.kept fun b o e => Heap.get?_push_of_some _ e
        refine ⟨(s1.heap.push { cls := .type "range", data := .fields #[.int 0 t, .int j t', .int 2 t''] }).objs.size, [(s1.heap.push { cls := .type "range", data := .fields #[.int 0 t, .int j t', .int 2 t''] }).objs.size], _, _, H1, rfl,
          I2.kept (t' := s1.toks) fun b o e => Heap.get?_push_of_some _ e, turn_range2 _ 0 (half j), ?_, fun b hb => ?_, q⟩
        · have e1 : (0 : Int) + ((0 : Nat) : Int) * 2 = 0 := by simp
          have e2 : ((half j : Nat) : Int) - ((0 : Nat) : Int) = Builtin.Range.rangeSize 0 j 2 := by rw [size_two q1]; simp
          show IsRangeIter _ _ ((0 : Int) + ((0 : Nat) : Int) * 2) (((half j : Nat) : Int) - ((0 : Nat) : Int)) 2
          rw [e1, e2]
          exact Heap.get?_push_size _ rfl
        · have e : b = (s1.heap.push { cls := .type "range", data := .fields #[.int 0 t, .int j t', .int 2 t''] }).objs.size := by simpa using hb
          subst e
          exact I2.fpOk (Nat.le_refl _) (I2.hok.fresh (Nat.le_refl _))
def rangeU2 (n : Nat) : List U := (List.range n).map fun (k : Nat) => U.int ((k : Int) * 2)
theorem rangeU2_get {n i : Nat} {x : U} (h : (rangeU2 n)[i]? = some x) : x = .int ((i : Int) * 2) ∧ i < n := by
  have hi : i < n := by
    have := (List.getElem?_eq_some_iff.mp h).1
    simpa [rangeU2] using this
  simp only [rangeU2, List.getElem?_map, List.getElem?_range hi, Option.map_some] at h
  exact ⟨(Option.some.inj h).symm, hi⟩
theorem rangeU2_len (n : Nat) : (rangeU2 n).length = n := by simp [rangeU2]
theorem walk_range2 {K : PySem.W.Frag} {n : Nat} {H : Hp} {M : MHp} : Walk K (Itr2 0 n) ⟨none, rangeU2 n⟩ H M := by
  refine ⟨fun H1 M1 s rm _ i u e => ?_, fun H1 M1 s rm _ => ?_⟩
  · obtain ⟨rfl, hi⟩ := rangeU2_get e
    refine ⟨hi, fun x H2 y => ?_⟩
    obtain ⟨rfl, rfl⟩ := y
    exact ⟨Stp.refl _ _, rm, by rw [Int.zero_add]; exact relU_int⟩
  · show n ≤ (rangeU2 n).length
    rw [rangeU2_len]; exact Nat.le_refl _
def uRng3 (ta : UA) : UI := fun τ M R => ta τ M fun us M1 => match us with
  | [.int i, .int j, .int k] => i = 0 ∧ k = 2 ∧ 0 ≤ j ∧ j < 2 ^ 61 ∧ R ⟨none, rangeU2 (half j)⟩ M1
  | _ => False
theorem sim_rng3 {K : PySem.W.Frag} {ta : TA} {ta' : UA} (h : SimA K ta ta') : SimI K (iRng3 ta) (uRng3 ta') := fun σ τ H M R' rs rm q R c => h σ τ H M _ rs rm q _ fun us vs M1 H1 s1 rm1 ru h1 => by
  split at h1
  · rename_i i j k
    obtain ⟨rfl, rfl, h2, h3, h4⟩ := h1
    obtain ⟨v, vs', rfl, a, b⟩ := ru.inv_cons
    obtain ⟨v2, vs2, rfl, a2, b2⟩ := b.inv_cons
    obtain ⟨v3, rfl, a3⟩ := b2.one
    cases a.int
    cases a2.int
    cases a3.int
    exact ⟨j, rfl, h2, h3, c _ _ M1 H1 s1 rm1 walk_range2 h4⟩
  · exact h1.elim
theorem ui_rng3 {D : Dat} {tg a b c : Expr} {p pos : Pos} {ta : UA} (hm : D.mg "range" = none) (ha : PAU D [a, b, c] ta) (hg : D.sc.names.lookup ("range" : Str) = some .globalImplicit := by rfl) (hs : ∀ env, starEach [a, b, c] env = (false, eval a env) :: starEach [b, c] env := by intro _; rfl) (hs2 : ∀ env, (backTo pos (starEach [b, c] env)).any (·.1) = false := by intro _; rfl) : PIU D tg (.Call (.Name "range" p) [a, b, c] [] pos) (uRng3 ta) := by
  obtain ⟨_, q, s⟩ := ha
  exact ⟨_, fun X h => pi_range3 (by show X.env.scope.names.lookup _ = _; rw [h.sc]; exact hg) (by rw [h.mg]; exact hm) (q X h) (hs _) (hs2 _), sim_rng3 s⟩
end U2
namespace U2
open PySem PySem.Spec PyProof.Rows L2
def rIndex (K : PySem.W.Frag) : V → List V → Hp → VK → Prop := fun x vs H Q => ∃ p xs y j, x = .ref p ∧ vs = [y] ∧ SqL K H p xs ∧ flatV y = true ∧ xs.all flatV = true ∧ (∃ z, xs[j]? = some z ∧ eqV z y = true) ∧ (∀ m z, m < j → xs[m]? = some z → eqV z y = false) ∧ Q (.int (j : Nat)) H
theorem mt_index {X : Cx} : MtM X "list.index" (rIndex X.K) := by
  intro pins s σ H x vs v us Q I rx rv h
  obtain ⟨p, xs, y, j, rfl, rfl, hq, fy, fs, ⟨z, hz1, hz2⟩, hno, q⟩ := h
  cases rx
  obtain ⟨u, rfl, ru⟩ := rv.one
  obtain ⟨its, r, pl, hz⟩ := I.list hq
  obtain ⟨⟨cls, dd, data, sl⟩, n, ho, hc, _, hd⟩ := pl
  simp only at hc hd
  subst hc hd
  have hl := r.length
  have hj : j < xs.length := (List.getElem?_eq_some_iff.mp hz1).1
  have hji : j < its.toArray.size := by rw [List.size_toArray]; omega
  have at_ : ∀ (m : Nat) (hm : m < its.toArray.size) z, xs[m]? = some z → eqU y its.toArray[m] = eqV z y := fun m hm z e => by
    obtain ⟨w', h1, h2⟩ := r.get e
    have : its.toArray[m] = w' := by
      have h3 : its[m]? = some w' := h1
      have hm' : m < its.length := by simpa using hm
      rw [List.getElem?_eq_getElem hm'] at h3
      simpa using Option.some.inj h3
    rw [this]
    exact eqU_of h2 (by
      have := List.all_eq_true.mp fs z (List.mem_of_getElem? e)
      exact this)
  refine call_meets F.slot_list_index ⟨_, ho, rfl⟩ F.entry_list_index (F.args_list_index_2 _ _)
    (SeqAt.list_indexAt p its.toArray n dd sl u (eqU y) j hji (by have := line63; omega) (by rw [at_ j hji z hz1]; exact hz2) (fun m hm hmj => ?_)) ⟨ho, fun w' hw => mem_eqAt ru fy r fs w' (by simpa using hw), ?_⟩
  · have hx : xs[m]? = some xs[m] := by simp [show m < xs.length by omega]
    rw [at_ m hm _ hx]
    exact hno m _ hmj hx
  · exact ⟨.int j, H, I.tok _, ⟨_, rfl⟩, q⟩
def strsU : List U → Option (List Str)
  | [] => some []
  | .str b :: r => (strsU r).map (b :: ·)
  | _ => none
theorem strsU_rel {K : PySem.W.Frag} {H : Hp} {M : MHp} : ∀ {us : List U} {vs : List V} {bs : List Str}, RelUs K H M us vs → strsU us = some bs → vs = bs.map V.str
  | [], _, _, r, h => by cases h; exact r.inv_nil
  | u :: us, _, bs, r, h => by
    obtain ⟨v, vs', rfl, a, b⟩ := r.inv_cons
    cases u with
    | str y =>
      simp only [strsU] at h
      cases e : strsU us with
      | none => rw [e] at h; cases h
      | some cs =>
        rw [e] at h
        cases h
        rw [strsU_rel b e, a.str]; rfl
    | _ => cases h
def mIndex : U → List U → MHp → UK → Prop := fun x ws M Q => match view M x, ws with
  | .lst us, [.str w] => ∃ (ss : List Str) (j : Nat), strsU us = some ss ∧ ss[j]? = some w ∧ (∀ m z, m < j → ss[m]? = some z → z ≠ w) ∧ Q (.int (j : Nat)) M
  | _, _ => False
theorem sim_index {K : PySem.W.Frag} : SimMt K (rIndex K) mIndex := fun x xs u us H M Q' rm ru rus h Q c => by
  unfold mIndex at h
  split at h
  · rename_i ws w e
    obtain ⟨ss, j, h1, h2, h3, h4⟩ := h
    obtain ⟨a, vs, rfl, s2, r2⟩ := view_lst rm ru e
    rw [strsU_rel r2 h1] at s2
    obtain ⟨v, rfl, a1⟩ := rus.one
    cases a1.str
    refine ⟨a, _, _, j, rfl, rfl, s2, rfl, by simp [flatV], ⟨.str w, by rw [List.getElem?_map, h2]; rfl, by simp [eqV]⟩, fun m z hm hz => ?_, c.here rm relU_int h4⟩
    rw [List.getElem?_map] at hz
    cases e3 : ss[m]? with
    | none => rw [e3] at hz; cases hz
    | some y =>
      rw [e3] at hz
      cases hz
      have := h3 m y hm e3
      simp [eqV, this]
  · exact h.elim
theorem ue_index {D : Dat} {o e : Expr} {ta : UE} {tas : UA} {pos apos : Pos} (ho : PEU D o ta) (ha : PAU D [e] tas) (hbase : ∀ env, attributeBase o "index" env (eval o env) = eval o env := by intro _; rfl)
    (hfew : ∀ env, ((backTo pos (starEach [e] env)).all (fun x => !x.1) && (backToKw pos (keywordEach [] env)).all (fun x => x.1.isSome) && decide ([e].length + ([] : List Keyword).length + (if ([] : List Keyword).isEmpty then 0 else 1) < 30)) = true := by intro _; rfl)
    (hline : (apos.endLine == pos.line) = true := by rfl) (hs : ∀ env, starEach [e] env = [(false, eval e env)] := by intro _; rfl) : PEU D (.Call (.Attribute o "index" apos) [e] [] pos) (uBM mIndex ta tas) := by
  obtain ⟨_, p, s⟩ := ho; obtain ⟨_, q, r⟩ := ha
  refine ⟨_, fun X h => ?_, sim_bm sim_index s r⟩
  have := pe_bm (cpos := pos) (apos := apos) PySem.F.plainAttrs_list PySem.F.slot_list_index PySem.F.type_list_index mt_index (p X h) (q X h) (hbase _) (hfew _) hline (hs _) (by rfl)
  rw [h.K] at this
  exact this
end U2
namespace U2
open PySem L2
theorem at0 {α : Type} {a : α} {r : List α} : atI (a :: r) 0 = some a := atI_nat (j := 0) rfl
theorem at1 {α : Type} {a b : α} {r : List α} : atI (a :: b :: r) 1 = some b := atI_nat (j := 1) rfl
theorem at2 {α : Type} {a b c : α} {r : List α} : atI (a :: b :: c :: r) 2 = some c := atI_nat (j := 2) rfl
theorem at3 {α : Type} {a b c d : α} {r : List α} : atI (a :: b :: c :: d :: r) 3 = some d := atI_nat (j := 3) rfl
theorem atI_ex {α : Type} (l : List α) (i : Int) (h0 : 0 ≤ i) (h1 : i < l.length) : ∃ c, atI l i = some c := by
  have hl : i.toNat < l.length := by omega
  refine ⟨l[i.toNat], ?_⟩
  have e : ((i.toNat : Nat) : Int) = i := by omega
  have q := atI_nat (xs := l) (j := i.toNat) (v := l[i.toNat]) (by simp [hl])
  rw [e] at q
  exact q
theorem atI_m2 {α : Type} (l : List α) (a b : α) : atI (l ++ [a, b]) (-2) = some a := by
  have e : (l ++ [a, b]).length = l.length + 2 := by simp
  unfold atI ixN
  rw [e]
  rw [if_neg (by decide), if_pos (by omega)]
  have h : ((-2 : Int) + ((l.length + 2 : Nat) : Int)).toNat = l.length := by omega
  rw [h]
  simp
theorem atI_p1 {α : Type} (l : List α) (a b : α) : atI (l ++ [a, b]) (-1) = some b := by
  have := atI_last (l ++ [a]) b
  rw [List.append_assoc] at this
  exact this
theorem atI_s1 {α : Type} (a : α) : atI [a] (-1) = some a := atI_last [] a
theorem gl_p {α : Type} (l : List α) (a b : α) : (l ++ [a, b]).getLast? = some b := by simp
theorem dl_p {α : Type} (l : List α) (a b : α) : (l ++ [a, b]).dropLast = l ++ [a] := by
  rw [show l ++ [a, b] = (l ++ [a]) ++ [b] by simp]; exact List.dropLast_concat
theorem gl_1 {α : Type} (l : List α) (a : α) : (l ++ [a]).getLast? = some a := by simp
theorem dl_1 {α : Type} (l : List α) (a : α) : (l ++ [a]).dropLast = l := List.dropLast_concat
theorem gl_s {α : Type} (a : α) : [a].getLast? = some a := rfl
theorem dl_s {α : Type} (a : α) : [a].dropLast = [] := rfl
theorem cut1 {α : Type} (a : α) (r : List α) : cutU (a :: r) (some 1) none = r := by
  unfold cutU
  simp [HT.sIx]
  try omega
theorem vw_non {M : MHp} : view M .non = .non := rfl
theorem vw_bl {M : MHp} {x : Bool} : view M (.bl x) = .bl x := rfl
theorem vw_int {M : MHp} {x : Int} : view M (.int x) = .int x := rfl
theorem vw_str {M : MHp} {x : Str} : view M (.str x) = .str x := rfl
theorem vw_tup {M : MHp} {x : List U} : view M (.tup x) = .tup x := rfl
theorem vw_lst {M : MHp} {x : List U} : view M (.lst x) = .lst x := rfl
theorem vw_own {M : MHp} {p : Addr} {us : List U} : view (mup M p (.lst us)) (.ref p) = .lst us := view_ref mup_same
theorem isL_own {M : MHp} {p : Addr} {us : List U} : isL (mup M p (.lst us)) (.ref p) := ⟨us, vw_own⟩
theorem view_mup {M : MHp} {p : Addr} {o : MO} {u : U} {us : List U} (hp : M p = none) (h : view M u = .lst us) : view (mup M p o) u = .lst us := by
  cases u with
  | ref a =>
    simp only [view] at h ⊢
    by_cases e : a = p
    · subst e; rw [hp] at h; cases h
    · rw [mup_ne e]; exact h
  | _ => exact h
theorem Sub.none {M M' : MHp} {p : Addr} (h : Sub M M') (hp : M' p = none) : M p = none := by
  cases e : M p with
  | none => rfl
  | some o => rw [h p o e] at hp; cases hp
theorem cut2 {α : Type} (l : List α) (i : Nat) (h : 2 * i < l.length) : cutU l (some ((i : Int) * 2)) (some ((i : Int) * 2 + 2)) = (l.drop (2 * i)).take 2 := by
  unfold cutU
  have e1 : HT.sIx l.length 0 (some ((i : Int) * 2)) = 2 * i := by
    simp only [HT.sIx]
    rw [if_neg (by omega)]
    have : ((i : Int) * 2).toNat = 2 * i := by omega
    rw [this]; omega
  have e2 : HT.sIx l.length l.length (some ((i : Int) * 2 + 2)) = min (2 * i + 2) l.length := by
    simp only [HT.sIx]
    rw [if_neg (by omega)]
    have : ((i : Int) * 2 + 2).toNat = 2 * i + 2 := by omega
    rw [this]
  rw [e1, e2]
  by_cases hh : 2 * i + 2 ≤ l.length
  · rw [show min (2 * i + 2) l.length - 2 * i = 2 by omega]
  · rw [show min (2 * i + 2) l.length - 2 * i = 1 by omega]
    have hd : (l.drop (2 * i)).length = 1 := by rw [List.length_drop]; omega
    rw [List.take_of_length_le (by omega), List.take_of_length_le (by omega)]
theorem uComp_list {o : Bool} {k : Nat} {ix : List Nat} {wi : UI} {g : UG} {te : UE} {τ : SU} {M M1 : MHp} {Q : UK} {S : Src} (zs : List U) (hw : ∀ R : Src → MHp → Prop, R S M1 → wi τ M R) (hl : zs.length = S.xs.length) (hz : S.xs.length ≤ sizeLine) (hs : S.ok M1)
    (h : ∀ (i : Nat) x y, S.xs[i]? = some x → zs[i]? = some y → ∀ M, Sub M1 M → ∀ R : UK, R y M → g x (capt k ix τ) M fun τ2 M2 => te τ2 M2 R)
    (q : mkL o zs M1 Q) : uComp o k ix wi g (fun _ M Q => Q true M) te τ M Q := by
  refine hw _ ⟨hz, fun D hD => ⟨fun i ys M => ys = zs.take i ∧ M = mup M1 D (.lst ys) ∧ i ≤ S.xs.length, ⟨by simp, rfl, Nat.zero_le _⟩, ?_, ?_, ?_⟩⟩
  · rintro i ys M ⟨rfl, rfl, hi⟩
    refine ⟨fun a e => ?_, mup_same, ?_⟩
    · have := hs a e
      rw [mup_ne (fun z => by subst z; rw [hD] at this; cases this)]
      exact this
    · rw [List.length_take]; omega
  · rintro i x ys M e ⟨rfl, rfl, hi⟩
    have hlt : i < S.xs.length := (List.getElem?_eq_some_iff.mp e).1
    have hy : zs[i]? = some zs[i] := by simp [show i < zs.length by omega]
    have tk : zs.take (i + 1) = zs.take i ++ [zs[i]] := by rw [List.take_add_one, hy]; rfl
    refine h i x zs[i] e hy (mup M1 D (.lst (zs.take i))) ((Sub.refl M1).mup hD) (fun y M4 => M4 D = some (.lst (zs.take i)) ∧ (zs.take i ++ [y] = zs.take (i + 1) ∧ mup M4 D (.lst (zs.take i ++ [y])) = mup M1 D (.lst (zs.take i ++ [y])) ∧ i + 1 ≤ S.xs.length)) ?_
    exact ⟨mup_same, tk.symm, mup_mup, hlt⟩
  · rintro ys M ⟨rfl, rfl, hi⟩
    rw [show zs.take S.xs.length = zs by rw [← hl]; exact List.take_length]
    cases o with
    | true => exact q D hD
    | false => exact ⟨M1, (Sub.refl M1).mup hD, hD, q⟩
end U2
namespace U2
open PySem PySem.Spec PyProof.Rows L2
section
variable {prog : Program} {w : World} {A : Around} {E : Value → Shared → Prop} {s : Shared}
theorem nextOf_tuple_item {it t : Addr} {i : Nat} {items} {x : Value} {Q : Value → Shared → Prop} (hit : s.heap.IsTupleIter it t i)
    (ht : s.heap.IsTuple t items) (hx : items[i]? = some x)
    (hQ : ∀ h', h'.IsTupleIter it t (i + 1) → Heap.SameBut it s.heap h' → Q x { s with heap := h' }) :
    wpAny (model prog w) A (Builtin.SmallTypes.nextOf (.ref it)) Q E s := by
  obtain ⟨o, ho, hc, hd⟩ := id hit
  obtain ⟨ol, hol, _, nl, hdl⟩ := ht
  unfold Builtin.SmallTypes.nextOf
  refine wpAny_bind (wpAny_callSpecial?_slot (name := Str.ofString "__next__") hit.typeIs PySem.F.slot_tuple_iterator_next
    (wpAny_call_entry PySem.F.slot_tuple_iterator_next hit.typeIs PySem.F.entry_tuple_iterator_next ?_ (PySem.F.args_tuple_iterator_next_1 _)))
  show wpAny _ _ (field (.ref it) 0 >>= _) _ _ s
  refine wpAny_bind (wpAny_field ho hd (x := .ref t) rfl ?_)
  show wpAny _ _ (if (Value.ref t == Value.none) = true then _ else _) _ _ s
  rw [if_neg (show ¬ ((Value.ref t == Value.none) = true) from Bool.false_ne_true)]
  show wpAny _ _ (field (.ref it) 1 >>= _) _ _ s
  refine wpAny_bind (wpAny_field ho hd (x := .int i 0) rfl ?_)
  show wpAny _ _ (seqItems? (.ref t) >>= _) _ _ s
  refine wpAny_bind (wpAny_seqItems hol hdl ?_)
  simp only [Int.toNat_natCast, hx]
  refine wpAny_bind (wpAny_setField ho hd (by simp) (wpAny_pure ⟨x, rfl, wpAny_pure (hQ _ ?_ (Heap.SameBut.update ..))⟩))
  exact ⟨_, Heap.get?_update_self _ ho (Obj.isFreed_of_fields (Obj.data_mapFields hd _)), (Obj.cls_mapFields ..).trans hc, by
    rw [Obj.data_mapFields hd]; simp [rawInt]⟩
theorem nextOf_tuple_end {it t : Addr} {i : Nat} {items} {Q : Value → Shared → Prop} (hh : A.handled = none)
    (hit : s.heap.IsTupleIter it t i) (ht : s.heap.IsTuple t items) (hx : items[i]? = none)
    (hE : ∀ h' e, Heap.ExtBut it s.heap h' → (∃ o, h'.get? e = some o ∧ o.cls = .type "StopIteration") → E (.ref e) { s with heap := h' }) :
    wpAny (model prog w) A (Builtin.SmallTypes.nextOf (.ref it)) Q E s := by
  obtain ⟨o, ho, hc, hd⟩ := id hit
  obtain ⟨ol, hol, _, nl, hdl⟩ := ht
  unfold Builtin.SmallTypes.nextOf
  refine wpAny_bind (wpAny_callSpecial?_slot (name := Str.ofString "__next__") hit.typeIs PySem.F.slot_tuple_iterator_next
    (wpAny_call_entry PySem.F.slot_tuple_iterator_next hit.typeIs PySem.F.entry_tuple_iterator_next ?_ (PySem.F.args_tuple_iterator_next_1 _)))
  show wpAny _ _ (field (.ref it) 0 >>= _) _ _ s
  refine wpAny_bind (wpAny_field ho hd (x := .ref t) rfl ?_)
  show wpAny _ _ (if (Value.ref t == Value.none) = true then _ else _) _ _ s
  rw [if_neg (show ¬ ((Value.ref t == Value.none) = true) from Bool.false_ne_true)]
  show wpAny _ _ (field (.ref it) 1 >>= _) _ _ s
  refine wpAny_bind (wpAny_field ho hd (x := .int i 0) rfl ?_)
  show wpAny _ _ (seqItems? (.ref t) >>= _) _ _ s
  refine wpAny_bind (wpAny_seqItems hol hdl ?_)
  simp only [Int.toNat_natCast, hx]
  refine wpAny_bind (wpAny_rule (wpAny_bind (wpAny_setField ho hd (by simp) ?_)))
  show wpAny _ _ (newExc (.type "StopIteration") [] >>= _) _ _ _
  refine wpAny_bind ?_
  simp only [newExc, newTuple]
  refine wpAny_bind (wpAny_newObj_type ?_ (by size_fits))
  refine wpAny_bind (m := firstArgMember _ _) (wpAny_of_eq (a := Value.none) (by first | rfl | (simp only [firstArgMember]; rfl)) ?_)
  refine wpAny_newObj_type ?_ (by size_fits)
  simp only [raiseNew]
  refine wpAny_bind (wpAny_handled ?_)
  first | rw [show A.in1.handled = none from hh] | rw [hh]
  refine wpAny_bind (wpAny_pure (wpAny_throw ?_))
  exact hE _ _ (((Heap.SameBut.update ..).extBut.push _).push _) ⟨_, Heap.get?_push_size _ rfl, rfl⟩
theorem draws_tuple {prog : Program} {w : World} {A : Around} (hh : A.handled = none) (it l : Addr) (hne : l ≠ it) (items : Array Value) :
    Draws prog w A it [it, l] items.size (fun i v => items[i]? = some v) (fun i h => h.IsTupleIter it l i ∧ h.IsTuple l items) where
  live := fun _ _ st => let ⟨o, ho, _⟩ := st.1; ⟨o, ho⟩
  frame := fun _ _ _ st hk => ⟨st.1.at fun o e => hk it (by simp) o e, let ⟨o, ho, r⟩ := st.2; ⟨o, hk l (by simp) o ho, r⟩⟩
  item := fun i s Q E hi st hQ => by
    refine nextOf_tuple_item st.1 st.2 (x := items[i]) (by simp [hi]) fun h' hit' hs' => ?_
    exact hQ _ h' s.toks (by simp [hi]) ⟨hit', let ⟨o, ho, r⟩ := st.2; ⟨o, hs'.extBut l o hne ho, r⟩⟩ hs'
  done := fun s Q E st hE => nextOf_tuple_end hh st.1 st.2 (by simp) hE
end
theorem inv_turnedLaid {X : Cx} {pins : List (Addr × Obj)} {σ : L2.St} {H : Hp} {s : Shared} {h' : Heap} {ch : List Addr} {T : Addr} {o : HO} {tk : Nat} (I : L2.Inv X pins σ H s) (hf : ∀ b ∈ ch, FpOk X pins H b)
    (k : ∀ b o, b ∉ ch → s.heap.get? b = some o → h'.get? b = some o) (hT : s.heap.objs.size ≤ T) (new : ObjOk X.prog X.w (upd H T o) h' T o) : L2.Inv X pins σ (upd H T o) { s with heap := h', toks := tk } := by
  have hn : H T = none := I.hok.fresh hT
  refine I.call' (ch := ch) (H' := upd H T o) rfl ⟨fun b u q n hb hx => k b u hx q, fun b u q n hb hx => ⟨u.slots, k b u hx q⟩, fun b u q n hx => ?_, fun b u q hx => ⟨u, k b u hx q⟩, fun b xs q => by rw [upd_ne (ne_of_none q hn)]; exact q, fun b u xs q => by rw [upd_ne (ne_of_none q hn)]; exact q,
    fun b ps q => ⟨#[], by rw [upd_ne (ne_of_none q hn), q]; simp⟩⟩ (fun a u e => ?_) I.bare fun b hb => ⟨(hf b hb).2.2.2.1, (hf b hb).2.1, (hf b hb).2.2.2.2.1, (hf b hb).2.2.2.2.2⟩
  · rw [upd_ne (Nat.ne_of_lt (Nat.lt_of_lt_of_le (Heap.lt_size q) hT))]; exact n
  · by_cases ha : a = T
    · subst ha; rw [upd_same] at e; cases e; exact new
    · rw [upd_ne ha] at e
      refine (I.hok a u e).stay (fun b z hb q => k b z (fun hc => ?_) q) (fun c q => by rw [upd_ne (ne_of_none q hn)]; exact q) fun c xs q => by rw [upd_ne (ne_of_none q hn)]; exact q
      have hnone := (hf b hc).1
      rcases hb with rfl | hb
      · rw [hnone] at e; cases e
      · rw [hnone] at hb; cases hb
def numbered (us : List U) : List U := us.zipIdx.map fun p => .tup [.int (p.2 : Nat), p.1]
theorem numbered_len (us : List U) : (numbered us).length = us.length := by simp [numbered]
def uEnum (ta : UA) : UI := fun τ M R => ta τ M fun us M1 => match us with
  | [.tup us] => R ⟨none, numbered us⟩ M1
  | _ => False
end U2
namespace U2
open PySem PySem.Spec PyProof.Rows L2
mutual
def DatV (K : PySem.W.Frag) (H : Hp) : PyData → V → Prop
  | .none, v => v = .non
  | .bool b, v => v = .bl b
  | .int i, v => v = .int i
  | .str z, v => v = .str z
  | .list ds, v => ∃ a xs, v = .ref a ∧ SqL K H a xs ∧ DatVs K H ds xs
  | .tuple ds, v => ∃ a xs, v = .ref a ∧ SqT K H a xs ∧ DatVs K H ds xs
  | .dict _, _ => False
def DatVs (K : PySem.W.Frag) (H : Hp) : List PyData → List V → Prop
  | [], vs => vs = []
  | d :: ds, vs => ∃ v vs', vs = v :: vs' ∧ DatV K H d v ∧ DatVs K H ds vs'
end
mutual
theorem DatV.reads {X : Cx} {pins : List (Addr × Obj)} {σ : L2.St} {H : Hp} {s : Shared} (I : L2.Inv X pins σ H s) : ∀ {d : PyData} {v : V} {u : Value}, DatV X.K H d v → RelV v u → ∃ as, Reads s.heap u d as
  | .none, v, u, h, r => by simp only [DatV] at h; subst h; cases r; exact ⟨_, .none⟩
  | .bool b, v, u, h, r => by simp only [DatV] at h; subst h; cases r; exact ⟨_, .bool b⟩
  | .int i, v, u, h, r => by simp only [DatV] at h; subst h; obtain ⟨t, rfl⟩ := r; exact ⟨_, .int i t⟩
  | .str z, v, u, h, r => by simp only [DatV] at h; subst h; obtain ⟨t, rfl⟩ := r; exact ⟨_, .str z t⟩
  | .list ds, v, u, h, r => by
    simp only [DatV] at h
    obtain ⟨a, xs, rfl, q, hs⟩ := h
    cases r
    obtain ⟨its, rv, p, hz⟩ := I.list q
    obtain ⟨as, ra⟩ := DatVs.reads I hs rv
    obtain ⟨o, h1, h2, n, h3⟩ := p.isList
    exact ⟨_, .list h1 h2 h3 (by simpa using ra)⟩
  | .tuple ds, v, u, h, r => by
    simp only [DatV] at h
    obtain ⟨a, xs, rfl, q, hs⟩ := h
    cases r
    obtain ⟨its, rv, p, hz⟩ := I.tuple q
    obtain ⟨as, ra⟩ := DatVs.reads I hs rv
    obtain ⟨o, h1, h2, n, h3⟩ := (show s.heap.IsTuple a its.toArray from p)
    exact ⟨_, .tuple h1 h2 h3 (by simpa using ra)⟩
  | .dict _, v, u, h, r => by simp only [DatV] at h
theorem DatVs.reads {X : Cx} {pins : List (Addr × Obj)} {σ : L2.St} {H : Hp} {s : Shared} (I : L2.Inv X pins σ H s) : ∀ {ds : List PyData} {vs : List V} {us : List Value}, DatVs X.K H ds vs → Vals vs us → ∃ as, ReadsAll s.heap us ds as
  | [], vs, us, h, r => by simp only [DatVs] at h; subst h; cases r; exact ⟨_, .nil⟩
  | d :: ds, vs, us, h, r => by
    simp only [DatVs] at h
    obtain ⟨v, vs', rfl, h1, h2⟩ := h
    cases r with
    | cons r rr =>
      obtain ⟨as, ra⟩ := DatV.reads I h1 r
      obtain ⟨bs, rb⟩ := DatVs.reads I h2 rr
      exact ⟨_, .cons ra rb⟩
end
def rEqD (K : PySem.W.Frag) (neg : Bool) : R2 := fun x y H Q => ∃ d d', DatV K H d x ∧ DatV K H d' y ∧ d.canLay0 = true ∧ d'.canLay0 = true ∧ min d.depth d'.depth ≤ 64 ∧ Q (.bl (if neg then !PyData.eqv d d' else PyData.eqv d d')) H
theorem op_eqD {X : Cx} {k : Nat} (hr : Room k X.A) : OpR X (compareOp .Eq) (rEqD X.K false) := by
  intro pins s σ H x y v u Q I rx ry h
  obtain ⟨d, d', h1, h2, c1, c2, hd, q⟩ := h
  obtain ⟨as, ra⟩ := h1.reads I rx
  obtain ⟨bs, rb⟩ := h2.reads I ry
  exact SeqAt.compareEq_reads ra rb c1 c2 (by have := hr.units; omega) ⟨.bl _, H, I, rfl, q⟩
theorem op_neD {X : Cx} {k : Nat} (hr : Room k X.A) : OpR X (compareOp .NotEq) (rEqD X.K true) := by
  intro pins s σ H x y v u Q I rx ry h
  obtain ⟨d, d', h1, h2, c1, c2, hd, q⟩ := h
  obtain ⟨as, ra⟩ := h1.reads I rx
  obtain ⟨bs, rb⟩ := h2.reads I ry
  exact SeqAt.compareNe_reads ra rb c1 c2 (by have := hr.units; omega) ⟨.bl _, H, I, rfl, q⟩
mutual
def toD : U → Option PyData
  | .non => some .none
  | .bl b => some (.bool b)
  | .int i => some (.int i)
  | .str z => some (.str z)
  | .tup us => (toDs us).map .tuple
  | .lst us => (toDs us).map .list
  | .ty _ => none
  | .ref _ => none
  | .dic _ _ _ => none
def toDs : List U → Option (List PyData)
  | [] => some []
  | u :: us => match toD u, toDs us with
    | some d, some ds => some (d :: ds)
    | _, _ => none
end
def topD (M : MHp) (u : U) : Option PyData := match u with
  | .ref a => match M a with
    | some (.lst us) => (toDs us).map .list
    | _ => none
  | u => toD u
mutual
theorem toD_rel {K : PySem.W.Frag} {H : Hp} {M : MHp} : ∀ {u : U} {v : V} {d : PyData}, RelU K H M u v → toD u = some d → DatV K H d v
  | .non, v, d, r, e => by simp only [toD, Option.some.injEq] at e; subst e; simp only [DatV]; exact r.non
  | .bl b, v, d, r, e => by simp only [toD, Option.some.injEq] at e; subst e; simp only [DatV]; exact r.bl
  | .int i, v, d, r, e => by simp only [toD, Option.some.injEq] at e; subst e; simp only [DatV]; exact r.int
  | .str i, v, d, r, e => by simp only [toD, Option.some.injEq] at e; subst e; simp only [DatV]; exact r.str
  | .tup us, v, d, r, e => by
    simp only [toD] at e
    cases e2 : toDs us with
    | none => rw [e2] at e; simp at e
    | some ds =>
      rw [e2] at e; simp at e; subst e
      obtain ⟨a, vs, rfl, q, rs⟩ := r.tup
      simp only [DatV]
      exact ⟨a, vs, rfl, q, toDs_rel rs e2⟩
  | .lst us, v, d, r, e => by
    simp only [toD] at e
    cases e2 : toDs us with
    | none => rw [e2] at e; simp at e
    | some ds =>
      rw [e2] at e; simp at e; subst e
      obtain ⟨a, vs, rfl, q, rs⟩ := r.lst
      simp only [DatV]
      exact ⟨a, vs, rfl, q, toDs_rel rs e2⟩
  | .ty _, v, d, r, e => by simp [toD] at e
  | .ref _, v, d, r, e => by simp [toD] at e
  | .dic _ _ _, v, d, r, e => by simp [toD] at e
theorem toDs_rel {K : PySem.W.Frag} {H : Hp} {M : MHp} : ∀ {us : List U} {vs : List V} {ds : List PyData}, RelUs K H M us vs → toDs us = some ds → DatVs K H ds vs
  | [], vs, ds, r, e => by simp only [toDs, Option.some.injEq] at e; subst e; simp only [DatVs]; exact r.inv_nil
  | u :: us, vs, ds, r, e => by
    obtain ⟨v, vs', rfl, a, b⟩ := r.inv_cons
    simp only [toDs] at e
    cases e1 : toD u with
    | none => rw [e1] at e; simp at e
    | some d =>
      cases e2 : toDs us with
      | none => rw [e1, e2] at e; simp at e
      | some ds' =>
        rw [e1, e2] at e; simp at e; subst e
        simp only [DatVs]
        exact ⟨v, vs', rfl, toD_rel a e1, toDs_rel b e2⟩
end
theorem topD_rel {K : PySem.W.Frag} {H : Hp} {M : MHp} {u : U} {v : V} {d : PyData} (rm : RelM K H M) (r : RelU K H M u v) (e : topD M u = some d) : DatV K H d v := by
  cases u with
  | ref a =>
    simp only [topD] at e
    split at e
    · rename_i us hM
      cases e2 : toDs us with
      | none => rw [e2] at e; simp at e
      | some ds =>
        rw [e2] at e; simp at e; subst e
        obtain ⟨vs, h1, rs⟩ := rm a _ hM
        cases r.ref
        simp only [DatV]
        exact ⟨a, vs, rfl, .inl (.inl h1), toDs_rel rs e2⟩
    · cases e
  | _ => exact toD_rel r (by simpa only [topD] using e)
def uEqD (neg : Bool) : UR2 := fun x y M Q => ∃ d d', topD M x = some d ∧ topD M y = some d' ∧ d.canLay0 = true ∧ d'.canLay0 = true ∧ min d.depth d'.depth ≤ 64 ∧ Q (.bl (if neg then !PyData.eqv d d' else PyData.eqv d d')) M
theorem sim_eqD {K : PySem.W.Frag} {neg : Bool} : SimR2 K (rEqD K neg) (uEqD neg) := fun x y u w H M Q' rm ru rw h Q c => by
  obtain ⟨d, d', e1, e2, c1, c2, hd, q⟩ := h
  exact ⟨d, d', topD_rel rm ru e1, topD_rel rm rw e2, c1, c2, hd, c.here rm relU_bl q⟩
variable {D : Dat}
def flatU : U → Bool
  | .non => true
  | .bl _ => true
  | .int _ => true
  | .str _ => true
  | _ => false
def eqF : U → U → Bool
  | .non, .non => true
  | .bl a, .bl b => a == b
  | .bl a, .int j => (if a then 1 else 0) == j
  | .int i, .bl b => i == (if b then 1 else 0)
  | .int i, .int j => i == j
  | .str x, .str y => x == y
  | _, _ => false
def items (M : MHp) : U → Option (List U)
  | .tup us => some us
  | .lst us => some us
  | .ref a => match M a with
    | some (.lst us) => some us
    | _ => none
  | _ => none
def uIn (neg : Bool) : UR2 := fun x y M Q => match items M y with
  | some us => flatU x = true ∧ us.all flatU = true ∧ Q (.bl (if neg then !us.any (fun u => eqF u x) else us.any (fun u => eqF u x))) M
  | none => False
theorem eqF_rel {K : PySem.W.Frag} {H : Hp} {M : MHp} {u w : U} {v x : V} (r : RelU K H M u v) (r' : RelU K H M w x) (f : flatU u = true) (f' : flatU w = true) : eqV v x = eqF u w := by
  cases u <;> (first | (cases r.non) | (cases r.bl) | (cases r.int) | (cases r.str) | exact absurd (show false = true from f) Bool.false_ne_true) <;> cases w <;>
    (first | (cases r'.non) | (cases r'.bl) | (cases r'.int) | (cases r'.str) | exact absurd (show false = true from f') Bool.false_ne_true) <;> rfl
theorem inV_rel {K : PySem.W.Frag} {H : Hp} {M : MHp} {w : U} {x : V} (r' : RelU K H M w x) (f' : flatU w = true) : ∀ {us : List U} {vs : List V}, RelUs K H M us vs → us.all flatU = true → inV x vs = us.any fun u => eqF u w
  | [], vs, r, _ => by cases r.inv_nil; rfl
  | u :: us, vs, r, f => by
    obtain ⟨v, vs', rfl, a, b⟩ := r.inv_cons
    rw [List.all_cons, Bool.and_eq_true] at f
    have := inV_rel r' f' b f.2
    unfold inV at this ⊢
    rw [List.any_cons, List.any_cons, this, eqF_rel a r' f.1 f']
def uEqX (neg : Bool) : UR2 := fun x y M Q => match eqS x y with
  | some b => Q (.bl (if neg then !b else b)) M
  | none => uEqD neg x y M Q
theorem k_eqX : Cmp D .Eq (uEqX false) := ⟨⟨_, fun X h => h.K ▸ op_eq.or (op_eqD h.room), fun x y u w H M Q' rm ru rw h Q c => by
  unfold uEqX at h
  split at h
  · rename_i b e
    obtain ⟨h1, h2⟩ := eqS_rel ru rw e
    exact .inl ⟨h1, c.here rm (by rw [h2]; exact relU_bl) h⟩
  · exact .inr (sim_eqD x y u w H M Q' rm ru rw h Q c)⟩⟩
theorem k_neX : Cmp D .NotEq (uEqX true) := ⟨⟨_, fun X h => h.K ▸ op_ne.or (op_neD h.room), fun x y u w H M Q' rm ru rw h Q c => by
  unfold uEqX at h
  split at h
  · rename_i b e
    obtain ⟨h1, h2⟩ := eqS_rel ru rw e
    exact .inl ⟨h1, c.here rm (by rw [h2]; exact relU_bl) h⟩
  · exact .inr (sim_eqD x y u w H M Q' rm ru rw h Q c)⟩⟩
end U2
namespace U2
open PySem PySem.Spec PyProof.Rows L2
structure Zp (z TI TO i1 i2 : Addr) (f1 f2 : List Addr) : Prop where
  TIz : TI ≠ z
  TOz : TO ≠ z
  i1z : i1 ≠ z
  i2z : i2 ≠ z
  TITO : TI ≠ TO
  TIi1 : TI ≠ i1
  TIi2 : TI ≠ i2
  TOi1 : TO ≠ i1
  TOi2 : TO ≠ i2
  i12 : i1 ≠ i2
  zf1 : z ∉ f1
  zf2 : z ∉ f2
  Tf1 : TO ∉ f1
  Tf2 : TO ∉ f2
  if2 : i1 ∉ f2
  if1 : i2 ∉ f1
theorem Draws.same {prog : Program} {w : World} {A : Around} {it : Addr} {fp : List Addr} {n : Nat} {P : Nat → Value → Prop} {St : Nat → Heap → Prop} (D : Draws prog w A it fp n P St) {i : Nat} {h h' : Heap} {c : Addr} (st : St i h) (sb : Heap.ExtBut c h h') (hc : c ∉ fp) : St i h' :=
  D.frame _ _ _ st fun b hb o e => sb b o (fun q => hc (q ▸ hb)) e
section
variable {prog : Program} {w : World} {A : Around} {E : Value → Shared → Prop} {s : Shared} {z TI TO i1 i2 : Addr} {f1 f2 : List Addr} {n1 n2 : Nat} {P1 P2 : Nat → Value → Prop} {S1 S2 : Nat → Heap → Prop} {i : Nat} {a b : Value}
theorem zip_item (Z : Zp z TI TO i1 i2 f1 f2) (D1 : Draws prog w A i1 f1 n1 P1 S1) (D2 : Draws prog w A i2 f2 n2 P2 S2) {Q : Value → Shared → Prop}
    (hz : IsZip s.heap z TI TO .none) (hTI : IsPair s.heap TI (.ref i1) (.ref i2)) (hTO : IsPair s.heap TO a b) (h1 : S1 i s.heap) (h2 : S2 i s.heap) (l1 : i < n1) (l2 : i < n2)
    (hQ : ∀ x y h' tk, P1 i x → P2 i y → IsZip h' z TI TO (rawInt s.heap.objs.size) → IsPair h' TO x y → S1 (i + 1) h' → S2 (i + 1) h' → IsPair h' s.heap.objs.size x y →
      (∀ c o, c ≠ z → c ≠ TO → c ≠ i1 → c ≠ i2 → s.heap.get? c = some o → h'.get? c = some o) → Q (.ref s.heap.objs.size) { s with heap := h', toks := tk }) :
    wpAny (model prog w) A (Builtin.«zip.__next__» ⟨[.ref z], []⟩) (fun fin s' => ∃ v, fin = .done (.ret v) ∧ Q v s') E s := by
  show wpAny _ _ (field (.ref z) 2 >>= _) _ _ _
  refine wpAny_bind (wpAny_field hz rfl (x := .bool false) rfl ?_)
  show wpAny _ _ (field (.ref z) 3 >>= _) _ _ _
  refine wpAny_bind (wpAny_field hz rfl (x := .ref TI) rfl ?_)
  refine wpAny_bind (wpAny_seqItems hTI rfl ?_)
  show wpAny _ _ (Builtin.SmallTypes.ownedTupleIsFree (.ref z) >>= _) _ _ _
  refine wpAny_bind ?_
  unfold Builtin.SmallTypes.ownedTupleIsFree
  refine wpAny_bind (wpAny_field hz rfl (x := .none) rfl (wpAny_pure ?_))
  simp only [if_true]
  refine wpAny_bind (wpAny_rule ?_)
  refine wpAny_bind (wpAny_field hz rfl (x := .ref TO) rfl ?_)
  refine wpAny_bind (wpAny_setField_rec hz (by simp) fun g1 hz1 hs1 => ?_)
  replace hz1 : IsZip g1 z TI TO .ellipsis := hz1
  refine wpAny_bind ?_
  simp only [List.zipIdx_cons, List.zipIdx_nil, List.forIn_cons, List.forIn_nil]
  refine wpAny_bind (wpAny_bind (wpAny_onRaise ?_))
  show wpAny _ _ (Builtin.SmallTypes.nextOf (.ref i1) >>= _) _ _ _
  refine wpAny_bind (D1.item i _ _ _ l1 (Draws.same D1 h1 hs1.extBut Z.zf1) fun x g2 tk2 px st2 hs2 => wpAny_pure ?_)
  have hTO2 : IsPair g2 TO a b := hs2.extBut _ _ Z.TOi1 (hs1.extBut _ _ Z.TOz hTO)
  refine wpAny_bind (wpAny_seqItems hTO2 rfl ?_)
  refine wpAny_bind (wpAny_updateSeq_pair hTO2 fun g3 hTO3 hs3 => ?_)
  replace hTO3 : IsPair g3 TO x b := hTO3
  refine wpAny_bind (wpAny_letGo (wpAny_pure ?_))
  refine wpAny_bind (wpAny_bind (wpAny_onRaise ?_))
  show wpAny _ _ (Builtin.SmallTypes.nextOf (.ref i2) >>= _) _ _ _
  refine wpAny_bind (D2.item i _ _ _ l2 (Draws.same D2 (Draws.same D2 (Draws.same D2 h2 hs1.extBut Z.zf2) hs2.extBut Z.if2) hs3.extBut Z.Tf2) fun y g4 tk4 py st4 hs4 => wpAny_pure ?_)
  have hTO4 : IsPair g4 TO x b := hs4.extBut _ _ Z.TOi2 hTO3
  refine wpAny_bind (wpAny_seqItems hTO4 rfl ?_)
  refine wpAny_bind (wpAny_updateSeq_pair hTO4 fun g5 hTO5 hs5 => ?_)
  replace hTO5 : IsPair g5 TO x y := hTO5
  refine wpAny_bind (wpAny_letGo (wpAny_pure (wpAny_pure ?_)))
  refine wpAny_bind (wpAny_seqItems hTO5 rfl ?_)
  refine wpAny_bind (wpAny_newTuple ?_)
  have hsz : g5.objs.size = s.heap.objs.size := by rw [hs5.1, hs4.1, hs3.1, hs2.1, hs1.1]
  have hz5 : IsZip g5 z TI TO .ellipsis := hs5.extBut _ _ Z.TOz.symm (hs4.extBut _ _ Z.i2z.symm (hs3.extBut _ _ Z.TOz.symm (hs2.extBut _ _ Z.i1z.symm hz1)))
  have hk5 : ∀ c o, c ≠ z → c ≠ TO → c ≠ i1 → c ≠ i2 → s.heap.get? c = some o → g5.get? c = some o := fun c o c1 c2 c3 c4 e =>
    hs5.extBut _ _ c2 (hs4.extBut _ _ c4 (hs3.extBut _ _ c2 (hs2.extBut _ _ c3 (hs1.extBut _ _ c1 e))))
  have h15 : S1 (i + 1) g5 := Draws.same D1 (Draws.same D1 (Draws.same D1 st2 hs3.extBut Z.Tf1) hs4.extBut Z.if1) hs5.extBut Z.Tf1
  have h25 : S2 (i + 1) g5 := Draws.same D2 st4 hs5.extBut Z.Tf2
  have hzlt : z < g5.objs.size := Heap.lt_size hz5
  show wpAny _ _ (Builtin.SmallTypes.ownedTupleHandOut (.ref z) (.ref g5.objs.size) >>= _) _ _ _
  refine wpAny_bind ?_
  unfold Builtin.SmallTypes.ownedTupleHandOut
  have hz6 : IsZip (g5.push { cls := .type "tuple", data := .seq #[x, y] }) z TI TO .ellipsis := Heap.get?_push_of_some _ hz5
  refine wpAny_bind (wpAny_setField_rec hz6 (by simp) fun g7 hz7 hs7 => ?_)
  replace hz7 : IsZip g7 z TI TO (rawInt g5.objs.size) := hz7
  refine wpAny_setField_rec hz7 (by simp) fun g8 hz8 hs8 => ?_
  replace hz8 : IsZip g8 z TI TO (rawInt g5.objs.size) := hz8
  have up : ∀ c o, c ≠ z → g5.get? c = some o → g8.get? c = some o := fun c o c1 e => hs8.extBut _ _ c1 (hs7.extBut _ _ c1 (Heap.get?_push_of_some _ e))
  have hT8 : IsPair g8 g5.objs.size x y := hs8.extBut _ _ (Nat.ne_of_gt hzlt) (hs7.extBut _ _ (Nat.ne_of_gt hzlt) (Heap.get?_push_size _ rfl))
  rw [hsz] at hz8 hT8
  refine wpAny_pure ⟨_, rfl, ?_⟩
  show Q (.ref g5.objs.size) _
  rw [hsz]
  exact hQ x y g8 _ px py hz8 (up _ _ Z.TOz hTO5) (D1.frame _ _ _ h15 fun b hb o e => up b o (fun q => Z.zf1 (q ▸ hb)) e) (D2.frame _ _ _ h25 fun b hb o e => up b o (fun q => Z.zf2 (q ▸ hb)) e) hT8 fun c o c1 c2 c3 c4 e => up c o c1 (hk5 c o c1 c2 c3 c4 e)
theorem zip_end (Z : Zp z TI TO i1 i2 f1 f2) (D1 : Draws prog w A i1 f1 n1 P1 S1) (D2 : Draws prog w A i2 f2 n2 P2 S2) {Q : Fin → Shared → Prop}
    (hz : IsZip s.heap z TI TO .none) (hTI : IsPair s.heap TI (.ref i1) (.ref i2)) (hTO : IsPair s.heap TO a b) (h1 : S1 i s.heap) (h2 : S2 i s.heap) (l1 : i ≤ n1) (hi : i = min n1 n2)
    (hE : ∀ h' e tk, (∀ c o, c ≠ z → c ≠ TO → c ≠ i1 → c ≠ i2 → s.heap.get? c = some o → h'.get? c = some o) → (∃ o, h'.get? e = some o ∧ o.cls = .type "StopIteration") → E (.ref e) { s with heap := h', toks := tk }) :
    wpAny (model prog w) A (Builtin.«zip.__next__» ⟨[.ref z], []⟩) Q E s := by
  show wpAny _ _ (field (.ref z) 2 >>= _) _ _ _
  refine wpAny_bind (wpAny_field hz rfl (x := .bool false) rfl ?_)
  show wpAny _ _ (field (.ref z) 3 >>= _) _ _ _
  refine wpAny_bind (wpAny_field hz rfl (x := .ref TI) rfl ?_)
  refine wpAny_bind (wpAny_seqItems hTI rfl ?_)
  show wpAny _ _ (Builtin.SmallTypes.ownedTupleIsFree (.ref z) >>= _) _ _ _
  refine wpAny_bind ?_
  unfold Builtin.SmallTypes.ownedTupleIsFree
  refine wpAny_bind (wpAny_field hz rfl (x := .none) rfl (wpAny_pure ?_))
  simp only [if_true]
  refine wpAny_bind (wpAny_rule ?_)
  refine wpAny_bind (wpAny_field hz rfl (x := .ref TO) rfl ?_)
  refine wpAny_bind (wpAny_setField_rec hz (by simp) fun g1 hz1 hs1 => ?_)
  replace hz1 : IsZip g1 z TI TO .ellipsis := hz1
  refine wpAny_bind ?_
  simp only [List.zipIdx_cons, List.zipIdx_nil, List.forIn_cons, List.forIn_nil]
  refine wpAny_bind (wpAny_bind (wpAny_onRaise ?_))
  show wpAny _ _ (Builtin.SmallTypes.nextOf (.ref i1) >>= _) _ _ _
  have hA : S1 i g1 := Draws.same D1 h1 hs1.extBut Z.zf1
  by_cases hlt : i < n1
  · have hn2 : i = n2 := by omega
    refine wpAny_bind (D1.item i _ _ _ hlt hA fun x g2 tk2 px st2 hs2 => wpAny_pure ?_)
    have hTO2 : IsPair g2 TO a b := hs2.extBut _ _ Z.TOi1 (hs1.extBut _ _ Z.TOz hTO)
    refine wpAny_bind (wpAny_seqItems hTO2 rfl ?_)
    refine wpAny_bind (wpAny_updateSeq_pair hTO2 fun g3 hTO3 hs3 => ?_)
    refine wpAny_bind (wpAny_letGo (wpAny_pure ?_))
    refine wpAny_bind (wpAny_bind (wpAny_onRaise ?_))
    show wpAny _ _ (Builtin.SmallTypes.nextOf (.ref i2) >>= _) _ _ _
    refine wpAny_bind (D2.done _ _ _ (hn2 ▸ Draws.same D2 (Draws.same D2 (Draws.same D2 h2 hs1.extBut Z.zf2) hs2.extBut Z.if2) hs3.extBut Z.Tf2) fun g4 e hs4 he => ?_)
    obtain ⟨oe, hoe, hce⟩ := he
    have hz4 : IsZip g4 z TI TO .ellipsis := hs4 _ _ Z.i2z.symm (hs3.extBut _ _ Z.TOz.symm (hs2.extBut _ _ Z.i1z.symm hz1))
    have hez : e ≠ z := fun x => by subst x; rw [hz4] at hoe; cases hoe; simp at hce
    exact wpAny_setField_rec hz4 (by simp) fun g5 _ hs5 => hE g5 e _ (fun c o c1 c2 c3 c4 x => hs5.extBut _ _ c1 (hs4 _ _ c4 (hs3.extBut _ _ c2 (hs2.extBut _ _ c3 (hs1.extBut _ _ c1 x))))) ⟨oe, hs5.extBut _ _ hez hoe, hce⟩
  · have hn1 : i = n1 := by omega
    refine wpAny_bind (D1.done _ _ _ (hn1 ▸ hA) fun g2 e hs2 he => ?_)
    obtain ⟨oe, hoe, hce⟩ := he
    have hz2 : IsZip g2 z TI TO .ellipsis := hs2 _ _ Z.i1z.symm hz1
    have hez : e ≠ z := fun x => by subst x; rw [hz2] at hoe; cases hoe; simp at hce
    exact wpAny_setField_rec hz2 (by simp) fun g3 _ hs3 => hE g3 e _ (fun c o c1 _ c3 _ x => hs3.extBut _ _ c1 (hs2 _ _ c3 (hs1.extBut _ _ c1 x))) ⟨oe, hs3.extBut _ _ hez hoe, hce⟩
theorem next_zip_item (Z : Zp z TI TO i1 i2 f1 f2) (D1 : Draws prog w A.in1 i1 f1 n1 P1 S1) (D2 : Draws prog w A.in1 i2 f2 n2 P2 S2) {Q : Option Value → Shared → Prop}
    (hz : IsZip s.heap z TI TO .none) (hTI : IsPair s.heap TI (.ref i1) (.ref i2)) (hTO : IsPair s.heap TO a b) (h1 : S1 i s.heap) (h2 : S2 i s.heap) (l1 : i < n1) (l2 : i < n2)
    (hQ : ∀ x y h' tk, P1 i x → P2 i y → IsZip h' z TI TO (rawInt s.heap.objs.size) → IsPair h' TO x y → S1 (i + 1) h' → S2 (i + 1) h' → IsPair h' s.heap.objs.size x y →
      (∀ c o, c ≠ z → c ≠ TO → c ≠ i1 → c ≠ i2 → s.heap.get? c = some o → h'.get? c = some o) → Q (some (.ref s.heap.objs.size)) { s with heap := h', toks := tk }) :
    wpAny (model prog w) A (pyNext (.ref z)) Q E s := by
  have hT : s.TypeIs (.ref z) "zip" := ⟨_, hz, rfl⟩
  unfold pyNext
  exact wpAny_bind (wpAny_attempt (wpAny_callSpecial?_slot (name := Str.ofString "__next__") hT PySem.F.slot_zip_next
    (wpAny_call_entry PySem.F.slot_zip_next hT PySem.F.entry_zip_next
      (zip_item Z D1 D2 hz hTI hTO h1 h2 l1 l2 fun x y h' tk a1 a2 a3 a4 a5 a6 a7 a8 => wpAny_pure (hQ x y h' tk a1 a2 a3 a4 a5 a6 a7 a8)) (PySem.F.args_zip_next_1 _))))
theorem next_zip_end (Z : Zp z TI TO i1 i2 f1 f2) (D1 : Draws prog w A.in1 i1 f1 n1 P1 S1) (D2 : Draws prog w A.in1 i2 f2 n2 P2 S2) {Q : Option Value → Shared → Prop}
    (hz : IsZip s.heap z TI TO .none) (hTI : IsPair s.heap TI (.ref i1) (.ref i2)) (hTO : IsPair s.heap TO a b) (h1 : S1 i s.heap) (h2 : S2 i s.heap) (l1 : i ≤ n1) (hi : i = min n1 n2)
    (hQ : ∀ h' tk, (∀ c o, c ≠ z → c ≠ TO → c ≠ i1 → c ≠ i2 → s.heap.get? c = some o → h'.get? c = some o) → Q none { s with heap := h', toks := tk }) : wpAny (model prog w) A (pyNext (.ref z)) Q E s := by
  have hT : s.TypeIs (.ref z) "zip" := ⟨_, hz, rfl⟩
  unfold pyNext
  refine wpAny_bind (wpAny_attempt (wpAny_callSpecial?_slot (name := Str.ofString "__next__") hT PySem.F.slot_zip_next
    (wpAny_call_entry PySem.F.slot_zip_next hT PySem.F.entry_zip_next (zip_end Z D1 D2 hz hTI hTO h1 h2 l1 hi fun h' e tk hk he => ?_) (PySem.F.args_zip_next_1 _))))
  obtain ⟨o, ho, hc⟩ := he
  refine wpAny_bind (wpAny_isInstance (T := "StopIteration") (b := true) ⟨o, ho, hc⟩ isSubtype_stop ?_)
  exact wpAny_pure (hQ _ _ hk)
end
def Itz (K : PySem.W.Frag) (a c : Addr) : It :=
  ⟨fun i H => ∃ xs ys x y, SqT K H a xs ∧ SqT K H c ys ∧ xs[i]? = some x ∧ ys[i]? = some y,
   fun i H v H' => ∃ p x y, (∀ xs, SqT K H a xs → xs[i]? = some x) ∧ (∀ ys, SqT K H c ys → ys[i]? = some y) ∧ H p = none ∧ v = .ref p ∧ H' = upd H p (.tup [x, y]),
   fun i H => ∃ xs ys, SqT K H a xs ∧ SqT K H c ys ∧ i = min xs.length ys.length⟩
theorem zp_of {h : Heap} {z TI TO i1 i2 a c : Addr} {f0 u v : Value} {k1 k2 : Nat} {xs ys : Array Value} (hz : IsZip h z TI TO f0) (q : TI ≠ TO ∧ i1 ≠ i2 ∧ TO ≠ a ∧ TO ≠ c) (hTI : IsPair h TI (.ref i1) (.ref i2)) (hTO : IsPair h TO u v)
    (h1 : h.IsTupleIter i1 a k1) (h2 : h.IsTupleIter i2 c k2) (ha : h.IsTuple a xs) (hc : h.IsTuple c ys) : Zp z TI TO i1 i2 [i1, a] [i2, c] := by
  obtain ⟨o1, e1, c1, _⟩ := h1
  obtain ⟨o2, e2, c2, _⟩ := h2
  obtain ⟨o3, e3, c3, _⟩ := ha
  obtain ⟨o4, e4, c4, _⟩ := hc
  have cl : ∀ {b b' : Addr} {o o' : Obj} {n n' : String}, h.get? b = some o → h.get? b' = some o' → o.cls = .type n → o'.cls = .type n' → n ≠ n' → b ≠ b' := fun x y p q ne z => by
    subst z; rw [x] at y; cases y; rw [p] at q; exact ne (Value.type.inj q)
  have tz := fun {b o} (x : h.get? b = some o) (p : o.cls = .type "tuple") => cl x hz p rfl (by decide)
  have iz := fun {b o} (x : h.get? b = some o) (p : o.cls = .type "tuple_iterator") => cl x hz p rfl (by decide)
  have ti := fun {b o b' o'} (x : h.get? b = some o) (p : o.cls = .type "tuple") (y : h.get? b' = some o') (r : o'.cls = .type "tuple_iterator") => cl x y p r (by decide)
  refine ⟨tz hTI rfl, tz hTO rfl, iz e1 c1, iz e2 c2, q.1, ti hTI rfl e1 c1, ti hTI rfl e2 c2, ti hTO rfl e1 c1, ti hTO rfl e2 c2, q.2.1, ?_, ?_, ?_, ?_, ?_, ?_⟩
  · simp only [List.mem_cons, List.not_mem_nil, or_false, not_or]; exact ⟨(iz e1 c1).symm, (tz e3 c3).symm⟩
  · simp only [List.mem_cons, List.not_mem_nil, or_false, not_or]; exact ⟨(iz e2 c2).symm, (tz e4 c4).symm⟩
  · simp only [List.mem_cons, List.not_mem_nil, or_false, not_or]; exact ⟨ti hTO rfl e1 c1, q.2.2.1⟩
  · simp only [List.mem_cons, List.not_mem_nil, or_false, not_or]; exact ⟨ti hTO rfl e2 c2, q.2.2.2⟩
  · simp only [List.mem_cons, List.not_mem_nil, or_false, not_or]; exact ⟨q.2.1, (ti e4 c4 e1 c1).symm⟩
  · simp only [List.mem_cons, List.not_mem_nil, or_false, not_or]; exact ⟨q.2.1.symm, (ti e3 c3 e2 c2).symm⟩
theorem turn_zip {P : Program} {w : World} {K : PySem.W.Frag} {elts : List Expr} {kk : Nat} {pos : Pos} (a c z TI TO i1 i2 : Addr) (q : TI ≠ TO ∧ i1 ≠ i2 ∧ TO ≠ a ∧ TO ≠ c) :
    Turn P w K (.Tuple elts kk pos) (Itz K a c) [z, TI, TO, i1, i2] z (fun i h => IsZip h z TI TO .none ∧ IsPair h TI (.ref i1) (.ref i2) ∧ (∃ u v, IsPair h TO u v) ∧ h.IsTupleIter i1 a i ∧ h.IsTupleIter i2 c i) where
  mem := by simp
  obj := fun i h st b hb => by
    obtain ⟨hz, hTI, ⟨u, v, hTO⟩, ⟨o1, e1, c1, d1⟩, ⟨o2, e2, c2, d2⟩⟩ := st
    have : b = z ∨ b = TI ∨ b = TO ∨ b = i1 ∨ b = i2 := by simpa using hb
    rcases this with rfl | rfl | rfl | rfl | rfl
    · exact ⟨_, hz, fun v x => by
        have x' : Data.fields _ = Data.cell v := x
        cases x'⟩
    · exact ⟨_, hTI, fun v x => by
        have x' : Data.seq _ _ = Data.cell v := x
        cases x'⟩
    · exact ⟨_, hTO, fun v x => by
        have x' : Data.seq _ _ = Data.cell v := x
        cases x'⟩
    · exact ⟨_, e1, fun v x => by rw [d1] at x; cases x⟩
    · exact ⟨_, e2, fun v x => by rw [d2] at x; cases x⟩
  keep := fun i h h' st k => let ⟨hz, hTI, ⟨u, v, hTO⟩, h1, h2⟩ := st
    ⟨k z (by simp) _ hz, k TI (by simp) _ hTI, ⟨u, v, k TO (by simp) _ hTO⟩, h1.at fun o e => k i1 (by simp) o e, h2.at fun o e => k i2 (by simp) o e⟩
  item := by
    intro X hP hw hK hc i pins s σ H E I hf st hg
    subst hP hw hK
    obtain ⟨hz, hTI, ⟨u, v, hTO⟩, h1, h2⟩ := st
    obtain ⟨xs, ys, x, y, hqx, hqy, hx, hy⟩ := hg
    obtain ⟨its, rv, p, _⟩ := I.tuple hqx
    obtain ⟨its', rv', p', _⟩ := I.tuple hqy
    obtain ⟨x', hu, ru⟩ := rv.get hx
    obtain ⟨y', hu', ru'⟩ := rv'.get hy
    have pa : s.heap.IsTuple a its.toArray := p
    have pc : s.heap.IsTuple c its'.toArray := p'
    have Z := zp_of hz q hTI hTO h1 h2 pa pc
    have n1 : a ≠ i1 := by
      obtain ⟨o1, e1, c1, _⟩ := h1
      obtain ⟨o3, e3, c3, _⟩ := pa
      intro e; subst e; rw [e1] at e3; cases e3; rw [c1] at c3; exact absurd (Value.type.inj c3) (by decide)
    have n2 : c ≠ i2 := by
      obtain ⟨o1, e1, c1, _⟩ := h2
      obtain ⟨o3, e3, c3, _⟩ := pc
      intro e; subst e; rw [e1] at e3; cases e3; rw [c1] at c3; exact absurd (Value.type.inj c3) (by decide)
    have hd : X.A.in1.handled = none := I.ok.hd hc
    have lt1 : i < its.toArray.size := by
      have := (List.getElem?_eq_some_iff.mp hu).1
      simpa using this
    have lt2 : i < its'.toArray.size := by
      have := (List.getElem?_eq_some_iff.mp hu').1
      simpa using this
    refine next_zip_item Z (draws_tuple hd i1 a n1 its.toArray) (draws_tuple hd i2 c n2 its'.toArray) hz hTI hTO ⟨h1, pa⟩ ⟨h2, pc⟩ lt1 lt2 fun x1 y1 h' tk px py hz' hTO' s1 s2 hT hk => ?_
    refine ⟨_, rfl, wpAny_letOwnedTupleGo_zip (s := { s with heap := h', toks := tk }) hz' fun h'' hz'' hs'' => ?_⟩
    have ex : x1 = x' := by
      have h3 : its[i]? = some x1 := by simpa using px
      rw [hu] at h3; exact (Option.some.inj h3).symm
    have ey : y1 = y' := by
      have h3 : its'[i]? = some y1 := by simpa using py
      rw [hu'] at h3; exact (Option.some.inj h3).symm
    subst ex ey
    have lt : ∀ {b o}, s.heap.get? b = some o → s.heap.objs.size ≠ b := fun e => Nat.ne_of_gt (Heap.lt_size e)
    have hTT : h''.IsTuple s.heap.objs.size #[x1, y1] := ⟨_, hs''.extBut _ _ (lt hz) hT, rfl, _, rfl⟩
    refine ⟨.ref s.heap.objs.size, upd H s.heap.objs.size (.tup [x, y]), inv_turnedLaid (s := s) (h' := h'') (tk := tk) (ch := [z, TI, TO, i1, i2]) I hf (fun b o hb e => ?_) (Nat.le_refl _) ⟨by show 2 ≤ sizeLine; decide, [x1, y1], .cons ru (.cons ru' .nil), hTT⟩, rfl,
      ⟨s.heap.objs.size, x, y, fun zs hz => by rw [← I.tuple_inj hqx hz]; exact hx, fun zs hz => by rw [← I.tuple_inj hqy hz]; exact hy, I.hok.fresh (Nat.le_refl _), rfl, rfl⟩, ⟨hz'', ?_, ?_, ?_, ?_⟩, fun b hb => ?_⟩
    · have hb' : ¬ (b = z ∨ b = TI ∨ b = TO ∨ b = i1 ∨ b = i2) := by simpa using hb
      simp only [not_or] at hb'
      exact hs''.extBut _ _ hb'.1 (hk b o hb'.1 hb'.2.2.1 hb'.2.2.2.1 hb'.2.2.2.2 e)
    · exact hs''.extBut _ _ Z.TIz (hk _ _ Z.TIz Z.TITO Z.TIi1 Z.TIi2 hTI)
    · exact ⟨_, _, hs''.extBut _ _ Z.TOz hTO'⟩
    · exact s1.1.at fun o e => hs''.extBut _ _ Z.i1z e
    · exact s2.1.at fun o e => hs''.extBut _ _ Z.i2z e
    · rw [upd_ne (fun e => ?_)]
      · exact (hf b hb).1
      · have : b = z ∨ b = TI ∨ b = TO ∨ b = i1 ∨ b = i2 := by simpa using hb
        obtain ⟨o1, e1, _⟩ := h1
        obtain ⟨o2, e2, _⟩ := h2
        rcases this with rfl | rfl | rfl | rfl | rfl
        · exact lt hz e.symm
        · exact lt hTI e.symm
        · exact lt hTO e.symm
        · exact lt e1 e.symm
        · exact lt e2 e.symm
  done := by
    intro X hP hw hK hc i pins s σ H E I hf st hg
    subst hP hw hK
    obtain ⟨hz, hTI, ⟨u, v, hTO⟩, h1, h2⟩ := st
    obtain ⟨xs, ys, hqx, hqy, hi⟩ := hg
    obtain ⟨its, rv, p, _⟩ := I.tuple hqx
    obtain ⟨its', rv', p', _⟩ := I.tuple hqy
    have pa : s.heap.IsTuple a its.toArray := p
    have pc : s.heap.IsTuple c its'.toArray := p'
    have Z := zp_of hz q hTI hTO h1 h2 pa pc
    have n1 : a ≠ i1 := by
      obtain ⟨o1, e1, c1, _⟩ := h1
      obtain ⟨o3, e3, c3, _⟩ := pa
      intro e; subst e; rw [e1] at e3; cases e3; rw [c1] at c3; exact absurd (Value.type.inj c3) (by decide)
    have n2 : c ≠ i2 := by
      obtain ⟨o1, e1, c1, _⟩ := h2
      obtain ⟨o3, e3, c3, _⟩ := pc
      intro e; subst e; rw [e1] at e3; cases e3; rw [c1] at c3; exact absurd (Value.type.inj c3) (by decide)
    have hd : X.A.in1.handled = none := I.ok.hd hc
    have hi' : i = min its.toArray.size its'.toArray.size := by rw [List.size_toArray, List.size_toArray, ← rv.length, ← rv'.length]; exact hi
    refine next_zip_end Z (draws_tuple hd i1 a n1 its.toArray) (draws_tuple hd i2 c n2 its'.toArray) hz hTI hTO ⟨h1, pa⟩ ⟨h2, pc⟩ (by omega) hi' fun h' tk hk => ⟨rfl, ?_⟩
    have kk : ∀ b o, b ∉ [z, TI, TO, i1, i2] → s.heap.get? b = some o → h'.get? b = some o := fun b o hb e => by
      have hb' : ¬ (b = z ∨ b = TI ∨ b = TO ∨ b = i1 ∨ b = i2) := by simpa using hb
      simp only [not_or] at hb'
      exact hk b o hb'.1 hb'.2.2.1 hb'.2.2.2.1 hb'.2.2.2.2 e
    have := I.call' (ch := [z, TI, TO, i1, i2]) (H' := H) (s' := { s with heap := h', toks := tk }) rfl ⟨fun b u q n hb hx => kk b u hx q, fun b u q n hb hx => ⟨u.slots, kk b u hx q⟩, fun b u q n hx => n, fun b u q hx => ⟨u, kk b u hx q⟩, fun b xs q => q, fun b u xs q => q, fun b ps q => ⟨#[], by rw [q]; simp⟩⟩
      (fun a u e' => ?_) I.bare fun b hb => ⟨(hf b hb).2.2.2.1, (hf b hb).2.1, (hf b hb).2.2.2.2.1, (hf b hb).2.2.2.2.2⟩
    · exact this
    · refine (I.hok a u e').stay (fun b z hb q => kk b z (fun hc => ?_) q) (fun _ q => q) fun _ _ q => q
      have hnone := (hf b hc).1
      rcases hb with rfl | hb
      · rw [hnone] at e'; cases e'
      · rw [hnone] at hb; cases hb
  self := fun _ _ _ _ _ st h => wpAny_pyIter_zip st.1 h
abbrev zH1 (h : Heap) (a : Addr) : Heap := h.push { cls := .type "tuple_iterator", data := .fields #[.ref a, .int 0 0] }
abbrev zH2 (h : Heap) (a c : Addr) : Heap := (zH1 h a).push { cls := .type "tuple_iterator", data := .fields #[.ref c, .int 0 0] }
abbrev zH3 (h : Heap) (a c : Addr) : Heap := (zH2 h a c).push { cls := .type "tuple", data := .seq #[.ref h.objs.size, .ref (zH1 h a).objs.size] }
abbrev zH4 (h : Heap) (a c : Addr) : Heap := (zH3 h a c).push { cls := .type "tuple", data := .seq #[.none, .none] }
abbrev zH5 (h : Heap) (a c : Addr) : Heap := (zH4 h a c).push { cls := .type "zip", data := .fields #[.none, .bool false, .bool false, .ref (zH2 h a c).objs.size, .ref (zH3 h a c).objs.size] }
theorem meets_zip_tuples (a c : Addr) (xs ys : Array Value) :
    Meets (Builtin.«zip.__new__» ⟨[.type "zip", .ref a, .ref c], []⟩) (fun _ R s => s.heap.IsTuple a xs ∧ s.heap.IsTuple c ys ∧
      R (.ok (.ret (.ref (zH4 s.heap a c).objs.size))) { s with heap := zH5 s.heap a c }) :=
  .of_wp fun prog w A R s h => by
    obtain ⟨hp, g, d, tk, os⟩ := s; obtain ⟨h1, h2, h⟩ := h
    have hsub := sub_zip
    have hL1 : Heap.IsTuple (Shared.heap ⟨hp, g, d, tk, os⟩) a xs := h1
    have hL2 : Heap.IsTuple (Shared.heap ⟨hp.push { cls := .type "tuple_iterator", data := .fields #[.ref a, .int 0 0] }, g, d, tk, os⟩) c ys := Heap.IsTuple.push h2 _
    wp_walk using wpAny_pyIter_tuple hL1, wpAny_pyIter_tuple hL2
    exact ⟨_, rfl, h⟩
theorem call_zip_tuples {prog : Program} {w : World} {A : Around} {E : Value → Shared → Prop} {s : Shared} {a c : Addr} {xs ys : Array Value} {Q : Value → Shared → Prop} (h1 : s.heap.IsTuple a xs) (h2 : s.heap.IsTuple c ys)
    (h : ∀ h', IsZip h' (s.heap.objs.size + 4) (s.heap.objs.size + 2) (s.heap.objs.size + 3) .none → IsPair h' (s.heap.objs.size + 2) (.ref s.heap.objs.size) (.ref (s.heap.objs.size + 1)) →
      IsPair h' (s.heap.objs.size + 3) .none .none → h'.IsTupleIter s.heap.objs.size a 0 → h'.IsTupleIter (s.heap.objs.size + 1) c 0 →
      (∀ b o, s.heap.get? b = some o → h'.get? b = some o) → Q (.ref (s.heap.objs.size + 4)) { s with heap := h' }) :
    wpAny (model prog w) A (call (.type "zip") [.ref a, .ref c]) Q E s := by
  refine callType_new PySem.F.called_zip (by decide) (PySem.F.typeCall_zip_2 _ _) (PySem.F.newCall_zip_2 _ _) (fun obj => PySem.F.args_object_init_3 obj _ _) PySem.F.entry_zip_new
    (meets_zip_tuples a c xs ys) ⟨h1, h2, ?_⟩
  have z1 : (zH1 s.heap a).objs.size = s.heap.objs.size + 1 := Heap.size_push ..
  have z2 : (zH2 s.heap a c).objs.size = s.heap.objs.size + 2 := by rw [Heap.size_push, z1]
  have z3 : (zH3 s.heap a c).objs.size = s.heap.objs.size + 3 := by rw [Heap.size_push, z2]
  have z4 : (zH4 s.heap a c).objs.size = s.heap.objs.size + 4 := by rw [Heap.size_push, z3]
  have g5 : (zH5 s.heap a c).get? (zH4 s.heap a c).objs.size = some _ := Heap.get?_push_size _ rfl
  have g4 : (zH5 s.heap a c).get? (zH3 s.heap a c).objs.size = some _ := Heap.get?_push_of_some _ (Heap.get?_push_size _ rfl)
  have g3 : (zH5 s.heap a c).get? (zH2 s.heap a c).objs.size = some _ := Heap.get?_push_of_some _ (Heap.get?_push_of_some _ (Heap.get?_push_size _ rfl))
  have g2 : (zH5 s.heap a c).get? (zH1 s.heap a).objs.size = some _ := Heap.get?_push_of_some _ (Heap.get?_push_of_some _ (Heap.get?_push_of_some _ (Heap.get?_push_size _ rfl)))
  have g1 : (zH5 s.heap a c).get? s.heap.objs.size = some _ := Heap.get?_push_of_some _ (Heap.get?_push_of_some _ (Heap.get?_push_of_some _ (Heap.get?_push_of_some _ (Heap.get?_push_size _ rfl))))
  show _ ∧ _
  rw [z2, z3, z4] at g5
  rw [z1, z2] at g3
  rw [z3] at g4
  rw [z1] at g2
  rw [z4]
  exact ⟨⟨_, g5, rfl⟩, h _ g5 g3 g4 ⟨_, g1, rfl, rfl⟩ ⟨_, g2, rfl, rfl⟩ fun b o x =>
    Heap.get?_push_of_some _ (Heap.get?_push_of_some _ (Heap.get?_push_of_some _ (Heap.get?_push_of_some _ (Heap.get?_push_of_some _ x))))⟩
def iZip (K : PySem.W.Frag) (ta : TA) : TI := fun σ H R => ta σ H fun vs H1 => ∃ a c, vs = [.ref a, .ref c] ∧ (∃ xs, SqT K H1 a xs) ∧ (∃ ys, SqT K H1 c ys) ∧ R (Itz K a c) H1
theorem pi_zip {X : Cx} {elts : List Expr} {kk : Nat} {tpos : Pos} {a b : Expr} {ta : TA} {p pos : Pos} (hg : Gl X "zip") (hm : X.mg "zip" = none) (ha : PA X [a, b] ta) (hs : starEach [a, b] X.env = [(false, eval a X.env), (false, eval b X.env)]) (hs2 : starEach [b] X.env = [(false, eval b X.env)]) :
    PI X (.Tuple elts kk tpos) (.Call (.Name "zip" p) [a, b] [] pos) (iZip X.K ta) := by
  intro pins s σ H R I h
  refine Call_ (ld_blt I hg hm boot_zip (PyProof.Rows.callWith_type1 (thn (ha pos pins s σ H _ I h) fun us s1 ⟨vs, H1, I1, r1, q1⟩ => ?_) (by rw [hs, hs2]) (by rw [hs2]; rfl)))
  obtain ⟨a, c, e, ⟨xs, hq⟩, ⟨ys, hq'⟩, q⟩ := q1
  subst e
  cases r1 with
  | cons r rr =>
    cases rr with
    | cons r' rr =>
      cases rr
      cases r
      cases r'
      obtain ⟨its, rv, p, hz⟩ := I1.tuple hq
      obtain ⟨its', rv', p', hz'⟩ := I1.tuple hq'
      have pa : s1.heap.IsTuple a its.toArray := p
      have pc : s1.heap.IsTuple c its'.toArray := p'
      have la : a < s1.heap.objs.size := by obtain ⟨_, e, _⟩ := pa; exact Heap.lt_size e
      have lc : c < s1.heap.objs.size := by obtain ⟨_, e, _⟩ := pc; exact Heap.lt_size e
      refine call_zip_tuples pa pc fun h' hz hTI hTO h1 h2 hk => ?_
      refine wpAny_pyIter_zip (s := { s1 with heap := h' }) hz ?_
      have I2 : L2.Inv X pins σ H1 { s1 with heap := h', toks := s1.toks } := I1.kept hk
      refine ⟨_, _, _, _, H1, rfl, I2, turn_zip a c (s1.heap.objs.size + 4) (s1.heap.objs.size + 2) (s1.heap.objs.size + 3) s1.heap.objs.size (s1.heap.objs.size + 1) ⟨Nat.ne_of_lt (Nat.lt_succ_self _), Nat.ne_of_lt (Nat.lt_succ_self _), Nat.ne_of_gt (Nat.lt_of_lt_of_le la (Nat.le_add_right _ _)), Nat.ne_of_gt (Nat.lt_of_lt_of_le lc (Nat.le_add_right _ _))⟩, ⟨hz, hTI, ⟨_, _, hTO⟩, h1, h2⟩, fun b hb => ?_, q⟩
      have le : s1.heap.objs.size ≤ b := by
        have : b = s1.heap.objs.size + 4 ∨ b = s1.heap.objs.size + 2 ∨ b = s1.heap.objs.size + 3 ∨ b = s1.heap.objs.size ∨ b = s1.heap.objs.size + 1 := by simpa using hb
        rcases this with e | e | e | e | e <;> rw [e]
        · exact Nat.le_add_right _ _
        · exact Nat.le_add_right _ _
        · exact Nat.le_add_right _ _
        · exact Nat.le_refl _
        · exact Nat.le_add_right _ _
      exact I1.fpOk le (I1.hok.fresh le)
def zipped : List U → List U → List U
  | u :: us, w :: ws => .tup [u, w] :: zipped us ws
  | _, _ => []
theorem zipped_len : ∀ us ws : List U, (zipped us ws).length = min us.length ws.length
  | [], ws => by simp [zipped]
  | _ :: _, [] => by simp [zipped]
  | u :: us, w :: ws => by simp only [zipped, List.length_cons, zipped_len us ws]; omega
theorem zipped_get : ∀ {us ws : List U} {i : Nat} {x : U}, (zipped us ws)[i]? = some x → ∃ u w, us[i]? = some u ∧ ws[i]? = some w ∧ x = .tup [u, w]
  | [], ws, i, x, h => by simp [zipped] at h
  | _ :: _, [], i, x, h => by simp [zipped] at h
  | u :: us, w :: ws, 0, x, h => by simp [zipped] at h; exact ⟨u, w, rfl, rfl, h.symm⟩
  | u :: us, w :: ws, i + 1, x, h => by
    simp only [zipped, List.getElem?_cons_succ] at h ⊢
    exact zipped_get h
theorem sqT_of {K : PySem.W.Frag} {H H1 : Hp} {M M1 : MHp} {a : Addr} {vs : List V} (s : Stp H M H1 M1) (m : M a = none ∧ H a = some (.tup vs)) : SqT K H1 a vs := by
  exact .inl (.inl (s a _ m.2 m.1).1)
theorem walk_zip {K : PySem.W.Frag} {a c : Addr} {us ws : List U} {vs xs : List V} {H : Hp} {M : MHp} (m : M a = none ∧ H a = some (.tup vs)) (m' : M c = none ∧ H c = some (.tup xs)) (r : RelUs K H M us vs) (r' : RelUs K H M ws xs) : Walk K (Itz K a c) ⟨none, zipped us ws⟩ H M := by
  refine ⟨fun H1 M1 s rm _ i u e => ?_, fun H1 M1 s rm _ => ⟨vs, xs, sqT_of s m, sqT_of s m', by show (zipped us ws).length = _; rw [zipped_len, r.length, r'.length]⟩⟩
  obtain ⟨u, w, e1, e1', rfl⟩ := zipped_get e
  obtain ⟨v, e2, ru⟩ := r.get e1
  obtain ⟨x, e2', ru'⟩ := r'.get e1'
  refine ⟨⟨vs, xs, v, x, sqT_of s m, sqT_of s m', e2, e2'⟩, fun y H2 y' => ?_⟩
  obtain ⟨p, v', x', y1, y2, hp, rfl, rfl⟩ := y'
  have := y1 vs (sqT_of s m)
  rw [e2] at this; cases this
  have := y2 xs (sqT_of s m')
  rw [e2'] at this; cases this
  have st := Stp.laid (o := .tup [v, x]) rm hp
  have rr : RelUs K H1 M1 [u, w] [v, x] := by
    simp only [RelUs]
    exact ⟨_, _, rfl, ru.stp s, _, _, rfl, ru'.stp s, rfl⟩
  exact ⟨st, rm.laid hp, relU_tup (rm.no hp) upd_same (rr.stp st)⟩
def uZip (ta : UA) : UI := fun τ M R => ta τ M fun us M1 => match us with
  | [.tup us, .tup ws] => R ⟨none, zipped us ws⟩ M1
  | _ => False
theorem sim_zip {K : PySem.W.Frag} {ta : TA} {ta' : UA} (h : SimA K ta ta') : SimI K (iZip K ta) (uZip ta') := fun σ τ H M R' rs rm q R c => h σ τ H M _ rs rm q _ fun us vs M1 H1 s1 rm1 ru h1 => by
  split at h1
  · obtain ⟨v, vs', rfl, a, b⟩ := ru.inv_cons
    obtain ⟨v2, rfl, a2⟩ := b.one
    simp only [RelU] at a a2
    obtain ⟨a, vs, rfl, m, r⟩ := a
    obtain ⟨a', vs', rfl, m', r'⟩ := a2
    exact ⟨a, a', rfl, ⟨vs, sqT_of (Stp.refl _ _) m⟩, ⟨vs', sqT_of (Stp.refl _ _) m'⟩, c _ _ M1 H1 s1 rm1 (walk_zip m m' r r') h1⟩
  · exact h1.elim
theorem ui_zip {D : Dat} {elts : List Expr} {kk : Nat} {tpos : Pos} {a b : Expr} {p pos : Pos} {ta : UA} (hm : D.mg "zip" = none) (ha : PAU D [a, b] ta) (hg : D.sc.names.lookup ("zip" : Str) = some .globalImplicit := by rfl) (hs : ∀ env, starEach [a, b] env = [(false, eval a env), (false, eval b env)] := by intro _; rfl) (hs2 : ∀ env, starEach [b] env = [(false, eval b env)] := by intro _; rfl) : PIU D (.Tuple elts kk tpos) (.Call (.Name "zip" p) [a, b] [] pos) (uZip ta) := by
  obtain ⟨_, q, s⟩ := ha
  exact ⟨_, fun X h => h.K ▸ pi_zip (by show X.env.scope.names.lookup _ = _; rw [h.sc]; exact hg) (by rw [h.mg]; exact hm) (q X h) (hs _) (hs2 _), sim_zip s⟩
end U2
namespace U2
open PySem PySem.Spec PyProof.Rows L2
theorem meets_extendL (l : Addr) (items : Array Value) (n : Nat) (b : Addr) (items2 : Array Value) (n2 : Nat) (dd : Option Addr) (sl : Array (Option Value)) (hc0 : ¬(!items.isEmpty && Builtin.List.listTooLong (items.size + items2.size)) = true) (hc1 : items.size ≤ sizeLine) (hs2 : items.size + items2.size ≤ sizeLine + 1) :
    Meets (Builtin.«list.extend» ⟨[.ref l, .ref b], []⟩) (fun _ R s => s.heap.get? l = some { cls := .type "list", dict := none, data := .seq items n, slots := #[] } ∧ s.heap.get? b = some { cls := .type "list", dict := dd, data := .seq items2 n2, slots := sl } ∧ R (.ok (.ret Value.none)) { s with heap := s.heap.update l (Obj.mapSeq fun x => x ++ items2), toks := s.toks }) :=
  .of_wp fun prog w A R s h => by
    obtain ⟨hp, g, d, tk, os⟩ := s; obtain ⟨hl, hb, h⟩ := h
    have f1 := PySem.AutoSeq1.idx_int; have f2 := PySem.AutoSeq1.sub_tuple_tuple; have f3 := PySem.AutoSeq1.sub_list_list; have f4 := PySem.AutoSeq1.sub_tuple_list; have f5 := PySem.AutoSeq1.sub_list_tuple
    have hz' : (items ++ items2).size ≤ sizeLine + 1 := by rw [Array.size_append]; exact hs2
    wp_walk using (wpAny_updateSeq hl rfl (hz := hc1) (_hz' := hz')), wpAny_loadPart' hl, wpAny_loadPart' hb
    exact ⟨_, rfl, h⟩
theorem mt_extendL {X : Cx} : MtM X "list.extend" (rExtendL X.K) := by
  intro pins s σ H x vs v us Q I rx rv h
  obtain ⟨l, b, xs, zs, rfl, rfl, hH, hB, hz, q⟩ := h
  cases rx
  obtain ⟨u, rfl, ru⟩ := rv.one
  cases ru
  obtain ⟨z, its, n, r, hl, e⟩ := I.lstM hH
  obtain ⟨its2, r2, ⟨⟨oc, od, odt, osl⟩, n2, e2, hc, hd, hdt⟩, hl2⟩ := I.list hB
  have hc' : oc = .type "list" := hc
  have hdt' : odt = .seq its2.toArray n2 := hdt
  subst hc' hdt'
  have l2 := r2.length
  have hsz : its.toArray.size + its2.toArray.size ≤ sizeLine := by rw [List.size_toArray, List.size_toArray]; omega
  have hlong : ¬ (!its.toArray.isEmpty && Builtin.List.listTooLong (its.toArray.size + its2.toArray.size)) = true := by
    rw [notLongL hsz, Bool.and_false]
    exact Bool.false_ne_true
  refine call_meets PySem.F.slot_list_extend ⟨_, e, rfl⟩ PySem.F.entry_list_extend (PySem.F.args_list_extend_2 _ _)
    (meets_extendL l its.toArray n b its2.toArray n2 od osl hlong (by rw [List.size_toArray]; omega) (by omega)) ⟨e, e2, ?_⟩
  refine ⟨.non, _, I.lset (its' := its ++ its2) hH e (by simp) (r.append r2) ?_, rfl, q⟩
  rw [List.length_append]
  omega
variable {D : Dat} {o e : Expr} {ta : UE} {tas : UA} {pos : Pos}
theorem ue_extend {apos : Pos} (ho : PEU D o ta) (ha : PAU D [e] tas) (hbase : ∀ env, attributeBase o "extend" env (eval o env) = eval o env := by intro _; rfl)
    (hfew : ∀ env, ((backTo pos (starEach [e] env)).all (fun x => !x.1) && (backToKw pos (keywordEach [] env)).all (fun x => x.1.isSome) && decide ([e].length + ([] : List Keyword).length + (if ([] : List Keyword).isEmpty then 0 else 1) < 30)) = true := by intro _; rfl)
    (hline : (apos.endLine == pos.line) = true := by rfl) (hs : ∀ env, starEach [e] env = [(false, eval e env)] := by intro _; rfl) : PEU D (.Call (.Attribute o "extend" apos) [e] [] pos) (uBM mExtend ta tas) := by
  obtain ⟨_, p, s⟩ := ho; obtain ⟨_, q, r⟩ := ha
  refine ⟨_, fun X h => ?_, sim_bm sim_extend s r⟩
  have := pe_bm (cpos := pos) (apos := apos) PySem.F.plainAttrs_list PySem.F.slot_list_extend PySem.F.type_list_extend mt_extendL (p X h) (q X h) (hbase _) (hfew _) hline (hs _) (by rfl)
  rw [h.K] at this
  exact this
end U2
namespace U2
open PySem PySem.Spec PyProof.Rows L2
def intsOf : List U → Option (List Int)
  | [] => some []
  | .int i :: us => (intsOf us).map (i :: ·)
  | _ :: _ => none
theorem intsOf_rel {K : PySem.W.Frag} {H : Hp} {M : MHp} : ∀ {us : List U} {vs : List V} {xs : List Int}, RelUs K H M us vs → intsOf us = some xs → vs = xs.map V.int
  | [], vs, xs, r, e => by cases e; exact r.inv_nil
  | u :: us, vs, xs, r, e => by
    obtain ⟨v, vs', rfl, a, b⟩ := r.inv_cons
    cases u with
    | int i =>
      simp only [intsOf] at e
      cases e2 : intsOf us with
      | none => rw [e2] at e; cases e
      | some ys => rw [e2] at e; cases e; rw [a.int, intsOf_rel b e2]; rfl
    | _ => cases e
def uLtX : UR2 := fun x y M Q => match x, y with
  | .int i, .int j => Q (.bl (decide (i < j))) M
  | .tup us, .tup ws => ∃ xs ys, intsOf us = some xs ∧ intsOf ws = some ys ∧ Q (.bl (HT.lexLt xs ys)) M
  | _, _ => False
variable {D : Dat}
theorem k_ltX : Cmp D .Lt uLtX := ⟨⟨_, fun X h => h.K ▸ op_lt.or (op_ltT h.room.units0), fun x y u w H M Q' rm ru rw h Q c => by
  unfold uLtX at h
  split at h
  · rename_i i j
    exact .inl (sim_bool2 (f := fun i j => decide (i < j)) x y (.int i) (.int j) H M Q' rm ru rw h Q c)
  · rename_i us ws
    obtain ⟨xs, ys, e1, e2, q⟩ := h
    obtain ⟨a, vs, rfl, s1, r1⟩ := ru.tup
    obtain ⟨a', vs', rfl, s2, r2⟩ := rw.tup
    cases intsOf_rel r1 e1
    cases intsOf_rel r2 e2
    exact .inr ⟨a, a', xs, ys, rfl, rfl, s1, s2, c.here rm relU_bl q⟩
  · exact h.elim⟩⟩
end U2
namespace U2
open PySem PySem.Spec PyProof.Rows L2
def maxI : Int → List Int → Int
  | m, [] => m
  | m, n :: ns => maxI (if n > m then n else m) ns
section
variable {X : Cx}
def bSum : List U → MHp → UK → Prop := fun us M Q => match us with
  | [x] => match view M x with
    | .lst ws => ∃ ns, intsOf ws = some ns ∧ PySem.SumFits ns ∧ Q (.int ns.sum) M
    | _ => False
  | _ => False
def bMax : List U → MHp → UK → Prop := fun us M Q => match us with
  | [.int i, .int j] => Q (.int (if j > i then j else i)) M
  | [x] => match view M x with
    | .lst ws => ∃ m ns, intsOf ws = some (m :: ns) ∧ Q (.int (maxI m ns)) M
    | _ => False
  | _ => False
end
end U2
namespace U2
open PySem PySem.Spec PyProof.Rows L2
section
variable {D : Dat} {a b c e o i : Expr} {ta tb tc te to ti : UE} {pos p : Pos} {es : List Expr} {tas : UA} {x : Str}
def uSetI (te to ti : UE) : US := fun D τ M => te τ M fun v M1 => to τ M1 fun x M2 => ti τ M2 fun y M3 => match x, y with
  | .ref a, .int k => match M3 a with
    | some (.lst us) => ∃ j, ixN us.length k = some j ∧ D.nx τ (mup M3 a (.lst (us.set j v)))
    | _ => False
  | _, _ => False
def mPopAt : U → List U → MHp → UK → Prop := fun x ws M Q => match x, ws with
  | .ref a, [.int i] => match M a with
    | some (.lst us) => -(2 ^ 63) ≤ i ∧ i < 2 ^ 63 ∧ ∃ k y, seqIndex? i us.length = some k ∧ us[k]? = some y ∧ Q y (mup M a (.lst (us.eraseIdx k)))
    | _ => False
  | _, _ => False
def bInt : List U → MHp → UK → Prop := fun us M Q => match us with
  | [.int i] => Q (.int i) M
  | [.bl k] => Q (.int (if k then 1 else 0)) M
  | _ => False
def CMulB (i j : Int) : Prop := CMul i j ∨ (Builtin.Int.intBits i ≤ 60000000 ∧ Builtin.Int.intBits j ≤ 60000000)
theorem CMulB.ok {i j : Int} (h : CMulB i j) : IntMulOk i j := by
  rcases h with h | ⟨h1, h2⟩
  · exact h.ok
  · exact IntMulOk.of_le h1 h2 (by decide)
theorem op_mulB {X : Cx} : OpR X (binaryOp .Mult) (rI CMulB fun i j => .int (i * j)) := opI fun _ _ _ _ _ _ _ hc q => mul_int q hc.ok
def repS (z : Str) (n : Int) : Str := if n < 1 then Str.empty else if (n == 1 || z.length == 0) = true then z else ⟨(List.replicate n.toNat z.cps).foldl (· ++ ·) #[]⟩
theorem op_repS {X : Cx} : OpR X (binaryOp .Mult) (fun x y H Q => ∃ z n, x = .str z ∧ y = .int n ∧ -(2 ^ 63) ≤ n ∧ n < 2 ^ 20 ∧ z.length ≤ 2 ^ 20 ∧ z.length * n.toNat ≤ 100000 ∧ Q (.str (repS z n)) H) := by
  intro pins s σ H x y v u Q I rx ry h
  obtain ⟨z, n, rfl, rfl, h1, h2, h3, h4, q⟩ := h
  obtain ⟨t, rfl⟩ := rx
  obtain ⟨t', rfl⟩ := ry
  have e1 : (decide (n < -(2 ^ 63 : Int)) || decide (n ≥ 2 ^ 63)) = false := by
    rw [decide_eq_false (by omega), decide_eq_false (by omega)]; rfl
  refine PySem.P.mul_str e1 (fun g1 g2 => ?_) (fun g1 g2 => ?_) ?_
  · intro hh
    have hn : (1 : Int) ≤ n := by omega
    have e3 : (z.length : Int) * n = ((z.length * n.toNat : Nat) : Int) := by
      rw [Int.natCast_mul, Int.toNat_of_nonneg (by omega)]
    have := Int.le_ediv_of_mul_le (show (0 : Int) < n by omega) (show (z.length : Int) * n ≤ 2 ^ 63 - 1 by rw [e3]; omega)
    omega
  · unfold Builtin.Str.tooLong sizeLine
    exact decide_eq_false (by omega)
  · have hq : ∀ (t2 : Tok) k, EP X pins σ Q (.str (repS z n) t2) { s with toks := k } := fun t2 k => ⟨.str (repS z n), H, I.tok k, ⟨t2, rfl⟩, q⟩
    unfold repS at hq
    by_cases g1 : n < 1
    · rw [if_pos g1]
      simp only [if_pos g1] at hq
      exact ⟨by decide, hq _ _⟩
    · rw [if_neg g1]
      simp only [if_neg g1] at hq
      by_cases g2 : (n == 1 || z.length == 0) = true
      · rw [if_pos g2]
        simp only [if_pos g2] at hq
        exact hq t s.toks
      · rw [if_neg g2]
        simp only [if_neg g2] at hq
        refine ⟨?_, hq _ _⟩
        have hsz : ∀ (k : Nat) (acc : Array Nat), ((List.replicate k z.cps).foldl (· ++ ·) acc).size = acc.size + k * z.cps.size := by
          intro k
          induction k with
          | zero => intro acc; simp
          | succ k ih => intro acc; rw [List.replicate_succ, List.foldl_cons, ih, Array.size_append, Nat.succ_mul]; omega
        show ((List.replicate n.toNat z.cps).foldl (· ++ ·) #[]).size ≤ sizeLine
        rw [hsz]
        have h5 : n.toNat * z.cps.size ≤ 100000 := by rw [Nat.mul_comm]; exact h4
        have : (100000 : Nat) ≤ sizeLine := by decide
        simp only [Array.size_empty, Nat.zero_add]
        omega
def uMul (o : Bool) : UR2 := fun x y M Q => match x, y with
  | .int i, .int j => CMulB i j ∧ Q (.int (i * j)) M
  | .str z, .int n => -(2 ^ 63) ≤ n ∧ n < 2 ^ 20 ∧ z.length ≤ 2 ^ 20 ∧ z.length * n.toNat ≤ 100000 ∧ Q (.str (repS z n)) M
  | .ref a, .int k => match M a with
    | some (.lst us) => -(2 ^ 63) ≤ k ∧ k < 2 ^ 63 ∧ us.length * k.toNat ≤ sizeLine ∧ mkL o (List.replicate k.toNat us).flatten M Q
    | _ => False
  | _, _ => False
theorem RelUs.rep {K : PySem.W.Frag} {H : Hp} {M : MHp} {us : List U} {vs : List V} (r : RelUs K H M us vs) : ∀ k : Nat, RelUs K H M (List.replicate k us).flatten (List.replicate k vs).flatten
  | 0 => by simp only [List.replicate_zero, List.flatten_nil]; exact .nil
  | k + 1 => by simp only [List.replicate_succ, List.flatten_cons]; exact r.append (RelUs.rep r k)
theorem sim_mul {K : PySem.W.Frag} {o : Bool} : SimR2 K (fun x y H Q => rI CMulB (fun i j => .int (i * j)) x y H Q ∨ ((∃ z n, x = .str z ∧ y = .int n ∧ -(2 ^ 63) ≤ n ∧ n < 2 ^ 20 ∧ z.length ≤ 2 ^ 20 ∧ z.length * n.toNat ≤ 100000 ∧ Q (.str (repS z n)) H) ∨ rRep x y H Q)) (uMul o) := fun x y u w H M Q' rm ru rw h Q c => by
  unfold uMul at h
  split at h
  · rename_i i j
    exact .inl (sim_int2c (C := CMulB) (f := fun i j => i * j) x y (.int i) (.int j) H M Q' rm ru rw h Q c)
  · rename_i z n
    cases ru.str; cases rw.int
    exact .inr (.inl ⟨z, n, rfl, rfl, h.1, h.2.1, h.2.2.1, h.2.2.2.1, c.here rm relU_str h.2.2.2.2⟩)
  · rename_i a k
    split at h
    · rename_i us e
      obtain ⟨vs, hv, r⟩ := rm a _ e
      cases ru.ref; cases rw.int
      exact .inr (.inr ⟨a, k, vs, rfl, rfl, hv, h.1, h.2.1, by rw [← r.length]; exact h.2.2.1, fun p hp => c.lst rm (r.rep k.toNat) hp h.2.2.2⟩)
    · exact h.elim
  · exact h.elim
theorem ue_mulX (own : Bool := false) (ha : PEU D a ta) (hb : PEU D b tb) : PEU D (.BinOp a .Mult b pos) (uOp (uMul own) ta tb) := ue_op (fun _ _ => op_mulB.or (op_repS.or op_rep)) sim_mul ha hb
end
end U2
namespace HT
open PySem PySem.Spec PyProof.Rows L2
variable {prog : Program} {w : World} {A : Around} {E : Value → Shared → Prop} {s : Shared}
theorem getItem_tuple_whole {t sl : Addr} {items : Array Value} {vl vu : Value} {lo hi : Option Int} {Q : Value → Shared → Prop} (ht : IsTup s.heap t items) (hs : s.heap.IsSliceOf sl vl vu .none) (pl : IsPart vl lo) (pu : IsPart vu hi)
    (hw : sIx items.size 0 lo = 0 ∧ sIx items.size items.size hi = items.size)
    (h : Q (.ref t) s) : wpAny (model prog w) A (getItem (.ref t) (.ref sl)) Q E s := by
  obtain ⟨os, hos, hcs, hds⟩ := id hs
  have hTs : s.TypeIs (.ref sl) "slice" := ⟨os, hos, hcs⟩
  unfold getItem
  try with_reducible refine wpAny_holding ?_
  first | refine wpAny_bind (wpAny_pure ?_) | skip
  refine wpAny_bind (wpAny_sequenceKey ht.typeIs (by decide) ?_)
  refine wpAny_bind (wpAny_callSpecial?_slot (name := Str.ofString "__getitem__") ht.typeIs PyProof.Rows.slot_tuple_getitem
    (wpAny_call_entry PyProof.Rows.slot_tuple_getitem ht.typeIs entry_tuple_getitem ?_ (args_tuple_getitem _ _)))
  show wpAny _ _ (Builtin.Tuple.tupleItemsOf (.ref t) >>= _) _ _ s
  refine wpAny_bind (tupleItemsOf_ ht ?_)
  refine wpAny_bind (wpAny_typeOf hTs ?_)
  rw [if_pos (by decide)]
  refine wpAny_bind (sliceApplied_gen hs pl pu ?_)
  have hyes : ((((sIx items.size 0 lo : Nat) : Int) == 0 && (1 : Int) == 1 && (sIx items.size items.size hi - sIx items.size 0 lo) == items.size) = true) := by
    rw [hw.1, hw.2]; simp
  show wpAny _ _ (if (((sIx items.size 0 lo : Nat) : Int) == 0 && (1 : Int) == 1 && (sIx items.size items.size hi - sIx items.size 0 lo) == items.size) = true then _ else _) _ _ s
  rw [if_pos hyes]
  unfold Builtin.Tuple.tupleIsExact
  refine wpAny_bind (wpAny_bind (wpAny_typeOf ht.typeIs (wpAny_pure ?_)))
  rw [if_pos (by decide)]
  refine wpAny_bind (wpAny_rule ?_)
  exact wpAny_pure ⟨_, rfl, wpAny_pure h⟩
end HT
namespace U2
open PySem PySem.Spec PyProof.Rows L2
def rSlW (K : PySem.W.Frag) : V → Option Int → Option Int → Hp → VK → Prop := fun x lo hi H Q => ∃ a xs, x = .ref a ∧ SqT K H a xs ∧ (HT.sIx xs.length 0 lo = 0 ∧ HT.sIx xs.length xs.length hi = xs.length) ∧ Q (.ref a) H
theorem sl_tupW {X : Cx} : SlR X (rSlW X.K) := by
  intro pins s σ H x v vl vu lo hi sl Q I rx hs pl pu h
  obtain ⟨a, xs, rfl, hx, hw, q⟩ := h
  cases rx
  obtain ⟨its, r, ht, hz⟩ := I.tuple hx
  have hlen : its.toArray.size = xs.length := by rw [List.size_toArray]; exact r.length.symm
  refine ⟨"tuple", _, PyProof.Rows.slot_tuple_getitem.lookup, ht.typeIs, ?_⟩
  refine HT.getItem_tuple_whole ht hs pl pu (by rw [hlen]; exact hw) ⟨.ref a, H, I, rfl, q⟩
def uSlX (o : Bool) (te : UE) (tl th : UO) : UE := fun τ M Q => te τ M fun x M1 => tl τ M1 fun l M2 => th τ M2 fun h M3 => match view M3 x with
  | .lst us => mkL o (cutU us l h) M3 Q
  | .tup us => Q (.tup (cutU us l h)) M3
  | .str z => z.length ≤ sizeLine ∧ Q (.str (Txt.slice z l h)) M3
  | _ => False
theorem sim_slX {K : PySem.W.Frag} {o : Bool} {te : TE} {te' : UE} {tl th : TO} {tl' th' : UO} (h0 : SimE K te te') (h1 : SimO K tl tl') (h2 : SimO K th th') : SimE K (tSl (fun x lo hi H Q => rSlA K x lo hi H Q ∨ rSlW K x lo hi H Q) te tl th) (uSlX o te' tl' th') := fun σ τ H M Q' rs rm q Q c =>
  h0 σ τ H M _ rs rm q _ fun u v M1 H1 s1 rm1 ru q1 => h1 σ τ H1 M1 _ (rs.stp s1) rm1 q1 _ fun lo M2 H2 s2 rm2 q2 => h2 σ τ H2 M2 _ ((rs.stp s1).stp s2) rm2 q2 _ fun hi M3 H3 s3 rm3 q3 => by
    have c3 := Cont.stp c ((s1.trans s2).trans s3)
    have ru3 := ru.stp (s2.trans s3)
    split at q3
    · rename_i us e
      obtain ⟨a, xs, rfl, r1, r2⟩ := view_lst rm3 ru3 e
      exact .inl (.inl ⟨a, xs, rfl, r1, fun p hp => c3.lst rm3 (cut_rel r2 lo hi) hp q3⟩)
    · rename_i us e
      have e' := view_tup e
      subst e'
      obtain ⟨a, xs, rfl, r1, r2⟩ := ru3.tup
      by_cases hw : HT.sIx xs.length 0 lo = 0 ∧ HT.sIx xs.length xs.length hi = xs.length
      · refine .inr ⟨a, xs, rfl, r1, hw, c3 _ _ M3 H3 (Stp.refl _ _) rm3 ?_ q3⟩
        have e4 : cutU us lo hi = us := by
          unfold cutU
          rw [r2.length, hw.1, hw.2, List.drop_zero, Nat.sub_zero, ← r2.length, List.take_length]
        rw [e4]
        exact ru3
      · exact .inl (.inr (.inl ⟨a, xs, rfl, r1, hw, fun p hp => c3.tup rm3 (cut_rel r2 lo hi) hp q3⟩))
    · rename_i z e
      have e' := view_str e
      subst e'
      exact .inl (.inr (.inr ⟨z, ru3.str, q3.1, c3 _ _ M3 H3 (Stp.refl _ _) rm3 relU_str q3.2⟩))
    · exact q3.elim
theorem ue_slX {D : Dat} {a : Expr} {ta : UE} {pos : Pos} (own : Bool := false) {lo hi : Option Expr} {tl th : UO} {p2 : Pos} (ha : PEU D a ta) (hl : POU D lo tl) (hh : POU D hi th) : PEU D (.Subscript a (.Slice lo hi none p2) pos) (uSlX own ta tl th) := by
  obtain ⟨_, p, s⟩ := ha; obtain ⟨_, q, r⟩ := hl; obtain ⟨_, u, v⟩ := hh
  refine ⟨_, fun X h => ?_, sim_slX s r v⟩
  have := pe_slice (pos := pos) (p2 := p2) (sl_any.or sl_tupW) (p X h) (q X h) (u X h)
  rw [h.K] at this
  exact this
end U2
namespace U2
open PySem PySem.Spec PyProof.Rows L2
section
variable {prog : Program} {w : World} {A : Around} {E : Value → Shared → Prop} {s : Shared}
end
def uEnumL (ta : UA) : UI := fun τ M R => ta τ M fun us M1 => match us with
  | [.lst us] => R ⟨none, numbered us⟩ M1
  | _ => False
end U2
namespace U2
open PySem PySem.Spec PyProof.Rows L2
abbrev yH1 (h : Heap) (a : Addr) : Heap := h.push { cls := .type "tuple_iterator", data := .fields #[.ref a, .int 0 0] }
abbrev yH2 (h : Heap) (a c : Addr) : Heap := (yH1 h a).push { cls := .type "list_iterator", data := .fields #[.ref c, .int 0 0] }
abbrev yH3 (h : Heap) (a c : Addr) : Heap := (yH2 h a c).push { cls := .type "tuple", data := .seq #[.ref h.objs.size, .ref (yH1 h a).objs.size] }
abbrev yH4 (h : Heap) (a c : Addr) : Heap := (yH3 h a c).push { cls := .type "tuple", data := .seq #[.none, .none] }
abbrev yH5 (h : Heap) (a c : Addr) : Heap := (yH4 h a c).push { cls := .type "zip", data := .fields #[.none, .bool false, .bool false, .ref (yH2 h a c).objs.size, .ref (yH3 h a c).objs.size] }
end U2
namespace Att
open PySem PySem.Spec PyProof.Rows PySem.W Calls
end Att
namespace L2
open PySem PySem.Spec PyProof.Rows
end L2
namespace U2
open PySem PySem.Spec PyProof.Rows L2
def uRev (ta : UA) : UI := fun τ M R => ta τ M fun us M1 => match us with
  | [.lst us] => R ⟨none, us.reverse⟩ M1
  | _ => False
end U2
namespace U2
open PySem PySem.Spec PyProof.Rows L2
section
variable {prog : Program} {w : World} {A : Around} {E : Value → Shared → Prop} {s : Shared}
end
def uListRev (o : Bool) (ta : UA) : UE := fun τ M Q => ta τ M fun us M1 => match us with
  | [x] => match view M1 x with
    | .lst us => mkL o us.reverse M1 Q
    | _ => False
  | _ => False
end U2
namespace U2
open PySem PySem.Spec PyProof.Rows L2
section
variable {prog : Program} {w : World} {A : Around} {E : Value → Shared → Prop} {s : Shared}
end
end U2
namespace U2
open PySem PySem.Spec PyProof.Rows L2
end U2
namespace U2
open PySem PySem.Spec PyProof.Rows L2
abbrev zlH1 (h : Heap) (a : Addr) : Heap := h.push { cls := .type "list_iterator", data := .fields #[.ref a, .int 0 0] }
abbrev zlH2 (h : Heap) (a c : Addr) : Heap := (zlH1 h a).push { cls := .type "list_iterator", data := .fields #[.ref c, .int 0 0] }
abbrev zlH3 (h : Heap) (a c : Addr) : Heap := (zlH2 h a c).push { cls := .type "tuple", data := .seq #[.ref h.objs.size, .ref (zlH1 h a).objs.size] }
abbrev zlH4 (h : Heap) (a c : Addr) : Heap := (zlH3 h a c).push { cls := .type "tuple", data := .seq #[.none, .none] }
abbrev zlH5 (h : Heap) (a c : Addr) : Heap := (zlH4 h a c).push { cls := .type "zip", data := .fields #[.none, .bool false, .bool false, .ref (zlH2 h a c).objs.size, .ref (zlH3 h a c).objs.size] }
end U2
namespace U2
open PySem PySem.Spec PyProof.Rows L2
theorem DatVs.len {K : PySem.W.Frag} {H : Hp} : ∀ {ds : List PyData} {vs : List V}, DatVs K H ds vs → ds.length = vs.length
  | [], vs, h => by simp only [DatVs] at h; subst h; rfl
  | d :: ds, vs, h => by
    simp only [DatVs] at h
    obtain ⟨v, vs', rfl, _, h2⟩ := h
    simp only [List.length_cons, DatVs.len h2]
end U2
namespace U2
open PySem PySem.Spec PyProof.Rows L2
def keyU : U → Option Key
  | .int i => some (.inl i)
  | .str x => some (.inr x)
  | _ => none
def keysU : List U → Option (List Key)
  | [] => some []
  | u :: us => match keyU u, keysU us with
    | some k, some ks => some (k :: ks)
    | _, _ => none
def kU : Key → U
  | .inl i => .int i
  | .inr x => .str x
theorem keyU_kU (k : Key) : keyU (kU k) = some k := by cases k <;> rfl
theorem keysU_kU : ∀ ks : List Key, keysU (ks.map kU) = some ks
  | [] => rfl
  | k :: ks => by simp only [List.map_cons, keysU, keyU_kU, keysU_kU ks]
theorem keyU_rel {K : PySem.W.Frag} {H : Hp} {M : MHp} {u : U} {v : V} {k : Key} (r : RelU K H M u v) (e : keyU u = some k) : v = kV k := by
  cases u with
  | int i => cases e; exact r.int
  | str x => cases e; exact r.str
  | _ => cases e
theorem keysU_rel {K : PySem.W.Frag} {H : Hp} {M : MHp} : ∀ {us : List U} {vs : List V} {ks : List Key}, RelUs K H M us vs → keysU us = some ks → vs = ks.map kV
  | [], _, _, r, e => by cases e; exact r.inv_nil
  | u :: us, _, ks, r, e => by
    obtain ⟨v, vs', rfl, a, b⟩ := r.inv_cons
    simp only [keysU] at e
    cases e1 : keyU u with
    | none => rw [e1] at e; cases e
    | some k =>
      cases e2 : keysU us with
      | none => rw [e1, e2] at e; cases e
      | some ks' =>
        rw [e1, e2] at e; cases e
        rw [keyU_rel a e1, keysU_rel b e2]; rfl
section
variable {κ : Type} [DecidableEq κ]
def valU (kvs : List (κ × U)) (k : κ) : Option U := (kvs.find? fun kv => decide (kv.1 = k)).map (·.2)
theorem valU_pos {p : κ × U} {r : List (κ × U)} {k : κ} (e : p.1 = k) : valU (p :: r) k = some p.2 := by simp [valU, List.find?_cons, e]
theorem valU_neg {p : κ × U} {r : List (κ × U)} {k : κ} (e : ¬ p.1 = k) : valU (p :: r) k = valU r k := by simp [valU, List.find?_cons, e]
theorem valU_any (k : κ) : ∀ kvs : List (κ × U), (kvs.any fun kv => decide (kv.1 = k)) = (valU kvs k).isSome
  | [] => rfl
  | p :: r => by
    rw [List.any_cons]
    by_cases e : p.1 = k
    · simp only [valU_pos e, decide_eq_true e, Bool.true_or, Option.isSome_some]
    · rw [valU_neg e, decide_eq_false e, Bool.false_or]; exact valU_any k r
variable {K : PySem.W.Frag} {H : Hp} {M : MHp}
end
def hd1 : List Key → Key
  | [k] => k
  | _ => .inl 0
def dvw (M : MHp) : U → Option MO
  | .ref a => M a
  | .dic ks true us => some (.dT (ks.zip us))
  | .dic ks false us => some (.dK ((ks.map hd1).zip us))
  | _ => none
section
variable {K : PySem.W.Frag} {H : Hp} {M : MHp} {x y : U} {v u : V}
def dLook (tk : Bool) (M : MHp) (x y : U) : Option (Option U) := match tk with
  | false => match dvw M x, keyU y with
    | some (.dK kvs), some k => some (valU kvs k)
    | _, _ => none
  | true => match dvw M x, y with
    | some (.dT kvs), .tup ys => (keysU ys).map (valU kvs)
    | _, _ => none
end
section
variable {D : Dat} {a b c e o i : Expr} {ta tb tc te to ti : UE} {pos p : Pos} {es : List Expr} {tas : UA} {x : Str}
end
end U2
namespace U2
open PySem PySem.Spec PyProof.Rows L2
end U2
namespace U2
open PySem PySem.Spec PyProof.Rows L2
section
variable {prog : Program} {w : World} {A : Around} {E : Value → Shared → Prop} {s : Shared}
end
section
variable {prog : Program} {w : World} {A : Around} {E : Value → Shared → Prop} {s : Shared}
end
theorem countP_get {α β : Type} (f : α → Bool) (g : β → Bool) : ∀ (l : List α) (m : List β), l.length = m.length → (∀ (i : Nat) a b, l[i]? = some a → m[i]? = some b → f a = g b) → l.countP f = m.countP g
  | [], [], _, _ => rfl
  | [], _ :: _, h, _ => by cases h
  | _ :: _, [], h, _ => by cases h
  | a :: l, b :: m, h, k => by
    rw [List.countP_cons, List.countP_cons, k 0 a b rfl rfl, countP_get f g l m (by simpa using h) fun i a b h1 h2 => k (i + 1) a b h1 h2]
def intsU : List U → Option (List Int)
  | [] => some []
  | .int b :: r => (intsU r).map (b :: ·)
  | _ => none
theorem intsU_rel {K : PySem.W.Frag} {H : Hp} {M : MHp} : ∀ {us : List U} {vs : List V} {bs : List Int}, RelUs K H M us vs → intsU us = some bs → vs = bs.map V.int
  | [], _, _, r, h => by cases h; exact r.inv_nil
  | u :: us, _, bs, r, h => by
    obtain ⟨v, vs', rfl, a, b⟩ := r.inv_cons
    cases u with
    | int y =>
      simp only [intsU] at h
      cases e : intsU us with
      | none => rw [e] at h; cases h
      | some cs =>
        rw [e] at h
        cases h
        rw [intsU_rel b e, a.int]; rfl
    | _ => cases h
theorem intsU_map : ∀ l : List Int, intsU (l.map U.int) = some l
  | [] => rfl
  | a :: l => by simp only [List.map_cons, intsU, intsU_map l, Option.map_some]
end U2
namespace U2
open PySem PySem.Spec PyProof.Rows L2
def findF (z y : Str) : Int := match Builtin.Str.occurrences z y 0 z.length 1 with | i :: _ => (i : Int) | [] => -1
def rFind : V → List V → Hp → VK → Prop := fun x vs H Q => ∃ z y, x = .str z ∧ vs = [.str y] ∧ Q (.int (findF z y)) H
theorem mt_find {X : Cx} : MtM X "str.find" rFind := by
  intro pins s σ H x vs v us Q I rx rv h
  obtain ⟨z, y, rfl, rfl, q⟩ := h
  obtain ⟨t, rfl⟩ := rx
  obtain ⟨u, rfl, ru⟩ := rv.one
  obtain ⟨t2, rfl⟩ := ru
  refine call_gives PySem.F.slot_str_find (typeIs_str _ _ _) PySem.F.entry_str_find (PySem.F.args_str_find_2 _ _) (PySem.gives_str_find z y t t2) ?_
  exact ⟨.int (findF z y), H, I.tok _, ⟨_, rfl⟩, q⟩
def mFind : U → List U → MHp → UK → Prop := fun x ws M Q => match x, ws with
  | .str z, [.str y] => Q (.int (findF z y)) M
  | _, _ => False
theorem sim_find {K : PySem.W.Frag} : SimMt K rFind mFind := fun x xs u us H M Q' rm ru rus h Q c => by
  unfold mFind at h
  split at h
  · obtain ⟨v, rfl, a1⟩ := rus.one
    cases a1.str
    cases ru.str
    exact ⟨_, _, rfl, rfl, c.here rm relU_int h⟩
  · exact h.elim
def isTx (x : U) : Prop := ∃ z, x = .str z
def uBMT (r : U → List U → MHp → UK → Prop) (to : UE) (t : UA) : UE := fun τ M Q => to τ M fun x M1 => isTx x ∧ t τ M1 fun xs M2 => r x xs M2 Q
theorem sim_bmT {K : PySem.W.Frag} {r : V → List V → Hp → VK → Prop} {r' : U → List U → MHp → UK → Prop} {to : TE} {to' : UE} {t : TA} {t' : UA} (hr : SimMt K r r') (ho : SimE K to to') (h : SimA K t t') :
    SimE K (tBM K "str" r to t) (uBMT r' to' t') := fun σ τ H M Q' rs rm q Q c =>
  ho σ τ H M _ rs rm q _ fun u v M1 H1 s1 rm1 ru h1 => by
    obtain ⟨⟨z, rfl⟩, h1⟩ := h1
    cases ru.str
    exact ⟨rfl, h σ τ H1 M1 _ (rs.stp s1) rm1 h1 _ fun us' vs' M2 H2 s2 rm2 rus h2 => hr _ vs' _ us' H2 M2 Q' rm2 (ru.stp s2) rus h2 Q (Cont.stp c (s1.trans s2))⟩
theorem ue_find {D : Dat} {o e : Expr} {ta : UE} {tas : UA} {pos apos : Pos} (ho : PEU D o ta) (ha : PAU D [e] tas) (hbase : ∀ env, attributeBase o "find" env (eval o env) = eval o env := by intro _; rfl)
    (hfew : ∀ env, ((backTo pos (starEach [e] env)).all (fun x => !x.1) && (backToKw pos (keywordEach [] env)).all (fun x => x.1.isSome) && decide ([e].length + ([] : List Keyword).length + (if ([] : List Keyword).isEmpty then 0 else 1) < 30)) = true := by intro _; rfl)
    (hline : (apos.endLine == pos.line) = true := by rfl) (hs : ∀ env, starEach [e] env = [(false, eval e env)] := by intro _; rfl) : PEU D (.Call (.Attribute o "find" apos) [e] [] pos) (uBMT mFind ta tas) := by
  obtain ⟨_, p, s⟩ := ho; obtain ⟨_, q, r⟩ := ha
  refine ⟨_, fun X h => ?_, sim_bmT sim_find s r⟩
  have := pe_bm (cpos := pos) (apos := apos) PySem.F.plainAttrs_str PySem.F.slot_str_find PySem.F.type_str_find mt_find (p X h) (q X h) (hbase _) (hfew _) hline (hs _) (by rfl)
  rw [h.K] at this
  exact this
end U2
namespace U2
open PySem PySem.Spec PyProof.Rows L2
abbrev IsZ2 (h : Heap) (z TI TO T : Addr) (f : Bool) : Prop :=
  h.get? z = some { cls := .type "zip", dict := none, data := .fields #[rawInt T, .bool f, .bool false, .ref TI, .ref TO], slots := #[] }
section
variable {prog : Program} {w : World} {A : Around} {E : Value → Shared → Prop} {s : Shared} {z TI TO i1 i2 : Addr} {f1 f2 : List Addr} {n1 n2 : Nat} {P1 P2 : Nat → Value → Prop} {S1 S2 : Nat → Heap → Prop} {i : Nat} {a b : Value} {T : Addr} {f : Bool}
end
theorem zipped_zip : ∀ us ws : List U, zipped us ws = (us.zip ws).map fun z => .tup [z.1, z.2]
  | [], ws => by cases ws <;> rfl
  | _ :: _, [] => rfl
  | u :: us, w :: ws => by simp only [zipped, List.zip_cons_cons, List.map_cons, zipped_zip us ws]
def uListZip (o : Bool) (ta : UA) : UE := fun τ M Q => ta τ M fun us M1 => match us with
  | [.tup us, y] => match view M1 y with
    | .lst ws => mkL o (zipped us ws) M1 Q
    | _ => False
  | _ => False
end U2
namespace U2
open PySem PySem.Spec PyProof.Rows L2
end U2
namespace U2
open PySem L2
def uNever : US := fun _ _ _ => False
theorem us_raise {D : Dat} {st : Stmt} : PSU D st uNever := ⟨fun _ _ _ => False, fun X _ => fun _ _ _ _ _ _ h => h.elim, fun _ _ _ _ _ _ _ h => h.elim⟩
end U2
namespace U2
open PySem PySem.Spec PyProof.Rows L2
section
variable {prog : Program} {w : World} {κ : Type} [DecidableEq κ] {knd : KeyKind prog w κ} {A : Around} {E : Value → Shared → Prop} {s : Shared}
end
end U2
namespace U2
open PySem PySem.Spec PyProof.Rows L2
theorem flat_strs : ∀ ws : List Str, (ws.map U.str).all flatU = true
  | [] => rfl
  | w :: ws => by rw [List.map_cons, List.all_cons, flat_strs ws]; rfl
def keyed : List (U × U) → Option (List (Key × U))
  | [] => some []
  | (x, y) :: r => match keyU x, keyed r with
    | some k, some ks => some ((k, y) :: ks)
    | _, _ => none
end U2
namespace U2
open PySem PySem.Spec PyProof.Rows L2
def strsOf : List U → Option (List Str)
  | [] => some []
  | .str x :: r => (strsOf r).map (x :: ·)
  | _ => none
theorem strsOf_map : ∀ ss : List Str, strsOf (ss.map U.str) = some ss
  | [] => rfl
  | s :: ss => by simp only [List.map_cons, strsOf, strsOf_map ss]; rfl
theorem strsOf_rel {K : PySem.W.Frag} {H : Hp} {M : MHp} : ∀ {us : List U} {vs : List V} {ss : List Str}, RelUs K H M us vs → strsOf us = some ss → vs = ss.map V.str
  | [], vs, ss, r, e => by cases e; exact r.inv_nil
  | u :: us, vs, ss, r, e => by
    obtain ⟨v, vs', rfl, a, b⟩ := r.inv_cons
    cases u with
    | str x =>
      simp only [strsOf] at e
      cases e2 : strsOf us with
      | none => rw [e2] at e; cases e
      | some ss' =>
        rw [e2] at e; cases e
        rw [a.str, strsOf_rel b e2]; rfl
    | _ => cases e
end U2
namespace U2
open PySem PySem.Spec PyProof.Rows L2
end U2
namespace K08
open PySem L2 U2
def top (i : Nat) : Stmt := PySem.Challenge.pw_rowsmith_k08_read_again.main.body.getD i (.Pass ⟨0, 0, 0, 0⟩)
abbrev s_is_whole : Stmt := top 13
theorem sc_is_whole : FnScope ["thing"] ["thing"] (defScope s_is_whole) := ⟨rfl, rfl, rfl, by decide +kernel, rfl, by decide +kernel, by decide +kernel⟩
abbrev s_is_number : Stmt := top 14
theorem sc_is_number : FnScope ["thing"] ["thing"] (defScope s_is_number) := ⟨rfl, rfl, rfl, by decide +kernel, rfl, by decide +kernel, by decide +kernel⟩
abbrev s_is_sign : Stmt := top 15
theorem sc_is_sign : FnScope ["thing"] ["thing"] (defScope s_is_sign) := ⟨rfl, rfl, rfl, by decide +kernel, rfl, by decide +kernel, by decide +kernel⟩
abbrev s_is_shape : Stmt := top 16
theorem sc_is_shape : FnScope ["thing", "is_leaf", "most_pieces", "most_within", "count", "waiting", "entry", "piece", "depth"] ["thing", "is_leaf", "most_pieces", "most_within"] (defScope s_is_shape) := ⟨rfl, rfl, rfl, by decide +kernel, rfl, by decide +kernel, by decide +kernel⟩
abbrev s_parts_of : Stmt := top 17
theorem sc_parts_of : FnScope ["shape"] ["shape"] (defScope s_parts_of) := ⟨rfl, rfl, rfl, by decide +kernel, rfl, by decide +kernel, by decide +kernel⟩
abbrev s_show_shape : Stmt := top 18
theorem sc_show_shape : FnScope ["shape", "show_leaf", "texts"] ["shape", "show_leaf"] (defScope s_show_shape) := ⟨rfl, rfl, rfl, by decide +kernel, rfl, by decide +kernel, by decide +kernel⟩
abbrev s_end_of_name : Stmt := top 19
theorem sc_end_of_name : FnScope ["text", "at", "end"] ["text", "at"] (defScope s_end_of_name) := ⟨rfl, rfl, rfl, by decide +kernel, rfl, by decide +kernel, by decide +kernel⟩
abbrev s_read_number : Stmt := top 20
theorem sc_read_number : FnScope ["text", "at", "number", "end", "longer"] ["text", "at"] (defScope s_read_number) := ⟨rfl, rfl, rfl, by decide +kernel, rfl, by decide +kernel, by decide +kernel⟩
abbrev s_read_shape : Stmt := top 21
theorem sc_read_shape : FnScope ["text", "read_leaf", "brackets", "shape", "at", "found"] ["text", "read_leaf"] (defScope s_read_shape) := ⟨rfl, rfl, rfl, by decide +kernel, rfl, by decide +kernel, by decide +kernel⟩
abbrev s_read_openings : Stmt := top 22
theorem sc_read_openings : FnScope ["text", "at", "brackets", "here"] ["text", "at", "brackets"] (defScope s_read_openings) := ⟨rfl, rfl, rfl, by decide +kernel, rfl, by decide +kernel, by decide +kernel⟩
abbrev s_read_behind : Stmt := top 23
theorem sc_read_behind : FnScope ["text", "shape", "at", "brackets", "whole", "here", "bracket"] ["text", "shape", "at", "brackets"] (defScope s_read_behind) := ⟨rfl, rfl, rfl, by decide +kernel, rfl, by decide +kernel, by decide +kernel⟩
abbrev s_read_middle : Stmt := top 24
theorem sc_read_middle : FnScope ["text", "at", "sign"] ["text", "at"] (defScope s_read_middle) := ⟨rfl, rfl, rfl, by decide +kernel, rfl, by decide +kernel, by decide +kernel⟩
abbrev s_need_sign : Stmt := top 25
theorem sc_need_sign : FnScope ["text", "at", "sign"] ["text", "at", "sign"] (defScope s_need_sign) := ⟨rfl, rfl, rfl, by decide +kernel, rfl, by decide +kernel, by decide +kernel⟩
abbrev s_is_name : Stmt := top 27
theorem sc_is_name : FnScope ["thing"] ["thing"] (defScope s_is_name) := ⟨rfl, rfl, rfl, by decide +kernel, rfl, by decide +kernel, by decide +kernel⟩
abbrev s_is_tree_leaf : Stmt := top 28
theorem sc_is_tree_leaf : FnScope ["thing"] ["thing"] (defScope s_is_tree_leaf) := ⟨rfl, rfl, rfl, by decide +kernel, rfl, by decide +kernel, by decide +kernel⟩
abbrev s_is_tree : Stmt := top 29
theorem sc_is_tree : FnScope ["thing"] ["thing"] (defScope s_is_tree) := ⟨rfl, rfl, rfl, by decide +kernel, rfl, by decide +kernel, by decide +kernel⟩
abbrev s_show_leaf : Stmt := top 31
theorem sc_show_leaf : FnScope ["leaf"] ["leaf"] (defScope s_show_leaf) := ⟨rfl, rfl, rfl, by decide +kernel, rfl, by decide +kernel, by decide +kernel⟩
abbrev s_shown : Stmt := top 32
theorem sc_shown : FnScope ["tree"] ["tree"] (defScope s_shown) := ⟨rfl, rfl, rfl, by decide +kernel, rfl, by decide +kernel, by decide +kernel⟩
abbrev s_read_leaf : Stmt := top 33
theorem sc_read_leaf : FnScope ["text", "at", "end", "found"] ["text", "at"] (defScope s_read_leaf) := ⟨rfl, rfl, rfl, by decide +kernel, rfl, by decide +kernel, by decide +kernel⟩
abbrev s_read : Stmt := top 34
theorem sc_read : FnScope ["text", "tree"] ["text"] (defScope s_read) := ⟨rfl, rfl, rfl, by decide +kernel, rfl, by decide +kernel, by decide +kernel⟩
abbrev s_law_whole : Stmt := top 36
theorem sc_law_whole : FnScope ["found"] ["found"] (defScope s_law_whole) := ⟨rfl, rfl, rfl, by decide +kernel, rfl, by decide +kernel, by decide +kernel⟩
abbrev s_law_cell_at : Stmt := top 37
theorem sc_law_cell_at : FnScope ["script", "k"] ["script", "k"] (defScope s_law_cell_at) := ⟨rfl, rfl, rfl, by decide +kernel, rfl, by decide +kernel, by decide +kernel⟩
abbrev s_law_alike : Stmt := top 38
theorem sc_law_alike : FnScope ["found", "due", "one", "other"] ["found", "due"] (defScope s_law_alike) := ⟨rfl, rfl, rfl, by decide +kernel, rfl, by decide +kernel, by decide +kernel⟩
abbrev s_law_name_of : Stmt := top 39
theorem sc_law_name_of : FnScope ["number", "name"] ["number"] (defScope s_law_name_of) := ⟨rfl, rfl, rfl, by decide +kernel, rfl, by decide +kernel, by decide +kernel⟩
abbrev s_law_leaf : Stmt := top 40
theorem sc_law_leaf : FnScope ["kind", "rest", "number", "name"] ["kind", "rest"] (defScope s_law_leaf) := ⟨rfl, rfl, rfl, by decide +kernel, rfl, by decide +kernel, by decide +kernel⟩
abbrev s_law_joined : Stmt := top 41
theorem sc_law_joined : FnScope ["left", "right", "word", "text"] ["left", "right", "word"] (defScope s_law_joined) := ⟨rfl, rfl, rfl, by decide +kernel, rfl, by decide +kernel, by decide +kernel⟩
abbrev s_law_turned : Stmt := top 42
theorem sc_law_turned : FnScope ["item"] ["item"] (defScope s_law_turned) := ⟨rfl, rfl, rfl, by decide +kernel, rfl, by decide +kernel, by decide +kernel⟩
abbrev s_law_all : Stmt := top 43
theorem sc_law_all : FnScope ["some", "fewer", "k", "pair"] ["some"] (defScope s_law_all) := ⟨rfl, rfl, rfl, by decide +kernel, rfl, by decide +kernel, by decide +kernel⟩
abbrev s_law_built : Stmt := top 44
theorem sc_law_built : FnScope ["cells", "some", "cell", "kind", "here", "right", "left"] ["cells"] (defScope s_law_built) := ⟨rfl, rfl, rfl, by decide +kernel, rfl, by decide +kernel, by decide +kernel⟩
abbrev s_law_grown : Stmt := top 45
theorem sc_law_grown : FnScope ["item", "draw"] ["item", "draw"] (defScope s_law_grown) := ⟨rfl, rfl, rfl, by decide +kernel, rfl, by decide +kernel, by decide +kernel⟩
abbrev s_law : Stmt := top 46
theorem sc_law : FnScope ["script", "item", "found", "again"] ["script"] (defScope s_law) := ⟨rfl, rfl, rfl, by decide +kernel, rfl, by decide +kernel, by decide +kernel⟩
inductive Op where
  | sum | less | by_
def Op.word : Op → Str
  | .sum => "sum" | .less => "less" | .by_ => "by"
def Op.mid : Op → Str
  | .sum => " + " | .less => " - " | .by_ => " * "
inductive Tr where
  | num (n : Int) | name (x : Str) | turn (a : Tr) | two (o : Op) (a b : Tr)
namespace Tr
def toU : Tr → U
  | num n => .tup [.str "num", .int n]
  | name x => .tup [.str "name", .str x]
  | turn a => .tup [.str "turn", a.toU]
  | two o a b => .tup [.str o.word, a.toU, b.toU]
def sh : Tr → Str
  | num n => Str.ofString (toString n)
  | name x => x
  | turn a => Str.ofString "(- " ++ a.sh ++ Str.ofString ")"
  | two o a b => Str.ofString "(" ++ a.sh ++ o.mid ++ b.sh ++ Str.ofString ")"
def ok : Tr → Prop
  | num n => 0 ≤ n ∧ n ≤ 10 ^ 18
  | name x => x.length ≤ 8 ∧ 1 ≤ x.length ∧ ∀ c ∈ x.cps.toList, 97 ≤ c ∧ c ≤ 122
  | turn a => a.ok
  | two _ a b => a.ok ∧ b.ok
def size : Tr → Nat
  | num _ => 1
  | name _ => 1
  | turn a => a.size + 1
  | two _ a b => a.size + b.size + 1
def dep : Tr → Nat
  | num _ => 1
  | name _ => 1
  | turn a => a.dep + 1
  | two _ a b => max a.dep b.dep + 1
def parts : Tr → List Tr
  | num _ => []
  | name _ => []
  | turn a => [a]
  | two _ a b => [a, b]
end Tr
open Tr
theorem len_app (x y : Str) : (x ++ y).length = x.length + y.length := by
  show (x.cps ++ y.cps).size = x.cps.size + y.cps.size
  simp
theorem num_len {n : Int} (h0 : 0 ≤ n) (h1 : n ≤ 10 ^ 18) : (Str.ofString (toString n)).length ≤ 20 := by
  have h2 : n.natAbs < 10 ^ 19 := by
    have : (10 : Nat) ^ 19 = 10000000000000000000 := by decide
    rw [this]; omega
  have h := PySem.int_text_length_le10 (a := n) (k := 19) (by decide) h2
  rw [PySem.ofString_length]; exact h
theorem sh_len : ∀ {t : Tr}, t.ok → t.sh.length ≤ 25 * t.size
  | num n, h => by have := num_len h.1 h.2; simp only [sh, size]; omega
  | name x, h => by
    have h' : x.length ≤ 8 := h.1
    simp only [sh, size]; omega
  | turn a, h => by
    have := sh_len (t := a) h
    simp only [sh, size, len_app, show (Str.ofString "(- ").length = 3 from by decide +kernel, show (Str.ofString ")").length = 1 from by decide +kernel]
    omega
  | two o a b, h => by
    have h1 := sh_len h.1
    have h2 := sh_len h.2
    have e : o.mid.length = 3 := by cases o <;> decide +kernel
    simp only [sh, size, len_app, e, show (Str.ofString "(").length = 1 from by decide +kernel, show (Str.ofString ")").length = 1 from by decide +kernel]
    omega
def item (t : Tr) : U := .tup [t.toU, .int t.size, .int t.dep, .str t.sh]
def SIGNS : List (Str × Fl) := [("turn", .int 1), ("sum", .int 2), ("less", .int 2), ("by", .int 2)]
def MIDS : List (Str × Fl) := [("sum", .str " + "), ("less", .str " - "), ("by", .str " * ")]
def head : Tr → Str
  | num _ => "num" | name _ => "name" | turn _ => "turn" | two o _ _ => o.word
def leafy : Tr → Bool
  | num _ => true | name _ => true | _ => false
theorem signs_of (t : Tr) : (tabGet SIGNS (head t)).isSome = !leafy t := by
  have s1 : (tabGet SIGNS (Str.ofString "num")).isSome = false := by decide +kernel
  have s2 : (tabGet SIGNS (Str.ofString "name")).isSome = false := by decide +kernel
  have s3 : (tabGet SIGNS (Str.ofString "turn")).isSome = true := by decide +kernel
  have s4 : ∀ o : Op, (tabGet SIGNS o.word).isSome = true := fun o => by cases o <;> decide +kernel
  cases t with
  | two o a b => exact s4 o
  | num n => exact s1
  | name x => exact s2
  | turn a => exact s3
theorem toU_head (t : Tr) : ∃ r, t.toU = .tup (.str (head t) :: r) ∧ (leafy t = false → r = t.parts.map toU) := by
  cases t with
  | num n => exact ⟨[.int n], by simp only [toU, head], fun h => by cases h⟩
  | name x => exact ⟨[.str x], by simp only [toU, head], fun h => by cases h⟩
  | turn a => exact ⟨[a.toU], by simp only [toU, head], fun _ => rfl⟩
  | two o a b => exact ⟨[a.toU, b.toU], by simp only [toU, head], fun _ => rfl⟩
theorem small {n : Nat} (h : n ≤ 100000) : n ≤ sizeLine := Nat.le_trans h (by decide)
section
variable {P : Program} {w : World} {K : PySem.W.Frag} {mg : Str → Option Value} {base : Heap} {f d d2 fl : Addr} {fd : FuncData}
theorem call_str_str {X : Cx} : CallR X (.type "str") (fun xs H Q => ∃ z, xs = [.str z] ∧ Q (.str z) H) := by
  intro pins s σ H xs us Q I r h
  obtain ⟨z, rfl, q⟩ := h
  obtain ⟨u, rfl, t, rfl⟩ := vals1 r
  exact PySem.P.str_of_str ⟨.str z, H, I, ⟨_, rfl⟩, q⟩
def spParts : USp := fun us M Q => ∃ t : Tr, us = [t.toU] ∧ Q (.tup (t.parts.map toU)) M
local macro_rules | `(tactic| dsimp! only [$xs,*] $[$l]?) => `(tactic| simp only [$xs,*, Bool.false_eq_true, Bool.not_false, Bool.not_true, List.append_nil, List.cons_append, List.getElem?_cons_succ, List.getElem?_cons_zero, List.length_cons, List.length_nil, List.map_cons, List.map_nil, List.nil_append, List.replicate, List.set_cons_succ, List.set_cons_zero, Nat.add_sub_cancel, Nat.reduceAdd, Nat.reduceSub, Nat.sub_self, Option.some.injEq, and_true, at0, at1, at2, at3, bAll, bInt1, bInt2, bIsi2, bLen, bList, bTuple, cGe, cGt, cLe, cLt, decide_false, decide_true, eqS, exists_eq_left', hName, if_false, if_true, inSt, inTab, isNon, isi_NoneType_bool, isi_NoneType_dict, isi_NoneType_int, isi_NoneType_list, isi_NoneType_str, isi_NoneType_tuple, isi_bool_bool, isi_bool_dict, isi_bool_int, isi_bool_list, isi_bool_str, isi_bool_tuple, isi_dict_bool, isi_dict_dict, isi_dict_int, isi_dict_list, isi_dict_str, isi_dict_tuple, isi_int_bool, isi_int_dict, isi_int_int, isi_int_list, isi_int_str, isi_int_tuple, isi_list_bool, isi_list_dict, isi_list_int, isi_list_list, isi_list_str, isi_list_tuple, isi_str_bool, isi_str_dict, isi_str_int, isi_str_list, isi_str_str, isi_str_tuple, isi_tuple_bool, isi_tuple_dict, isi_tuple_int, isi_tuple_list, isi_tuple_str, isi_tuple_tuple, ixTab, mAppend, mPop, mkL, reduceCtorEq, startU, true_and, typU, uAdd, uAddL, uAnd, uAndV, uAsg, uBM, uBM0, uBreak, uC, uCB, uCall, uCallV, uChain, uCons, uCont, uDrop, uEqS, uI, uI0, uIf, uIfS, uIsN, uIter, uIx, uLst, uNeS, uNext, uNil, uNoPart, uNot, uNotN, uNotV, uOp, uOr, uOrV, uPart, uRet, uRetN, uRng1, uRng2, uSeq, uTest, uTru, uTup, uUn, uVar] $[$l]?)
theorem ok_parts_of (F : Fun K "parts_of" "parts_of" s_parts_of f fd) (hm : mg "parts_of" = some (.ref f)) (T_SIGNS : IsTab P w K d SIGNS) (g_SIGNS : mg "SIGNS" = some (.ref d)) : Callee P w K mg base 1 "parts_of" spParts [] := by
  refine callee_of F hm sc_parts_of (fun _ _ _ _ _ _ us hl => match us, hl with | [_], _ => rfl) (fun us M Q h => by obtain ⟨x, rfl, _⟩ := h; rfl) (uss_one (us_ret (ue_if (ut_c (k_inTab T_SIGNS) (ue_ix (uv 0) un_) (ug_ref g_SIGNS)) (ue_sl (own := false) (uv 0) (uo_some un_) uo_none) (ue_tup ua_nil)))) ?_
  rintro us M Q ⟨t, rfl, q⟩
  obtain ⟨r, e, hr⟩ := toU_head t
  rw [e]
  dsimp! only [view, uSl]
  rw [signs_of]
  cases h : leafy t with
  | true =>
    have : t.parts = [] := by cases t <;> first | rfl | cases h
    rw [this] at q
    exact ⟨by decide, rt_same q⟩
  | false =>
    rw [hr h]
    refine ⟨?_, rt_same ?_⟩
    · simp [HT.sIx]
    · rw [cut1]; exact q
def spLeafS : USp := fun us M Q => ∃ t : Tr, us = [t.toU] ∧ leafy t = true ∧ t.ok ∧ Q (.str t.sh) M
def strA : List U → MHp → UK → Prop := fun us M Q => match us with
  | [.int i] => i.natAbs.log2 < 1920 ∧ Q (.str (toString i)) M
  | [.str z] => Q (.str z) M
  | _ => False
theorem b_strA {D : Dat} : Blt D (.type "str") strA := ⟨⟨_, fun X h => (call_str_int (X := X)).or call_str_str, fun xs us H M Q' rm rus h Q c => by
  unfold strA at h
  split at h
  · rename_i i
    obtain ⟨v, rfl, a⟩ := rus.one
    cases a.int
    exact .inl ⟨i, rfl, h.1, c.here rm relU_str h.2⟩
  · rename_i z
    obtain ⟨v, rfl, a⟩ := rus.one
    cases a.str
    exact .inr ⟨z, rfl, c.here rm relU_str h⟩
  · exact h.elim⟩⟩
theorem log_ok {n : Int} (h0 : 0 ≤ n) (h1 : n ≤ 10 ^ 18) : n.natAbs.log2 < 1920 := by
  have h2 : n.natAbs < 2 ^ 64 := by
    have : (2 : Nat) ^ 64 = 18446744073709551616 := by decide
    rw [this]; omega
  by_cases h : n.natAbs = 0
  · rw [h]; decide
  · have := (Nat.log2_lt h).mpr h2
    omega
theorem ok_show_leaf (F : Fun K "show_leaf" "show_leaf" s_show_leaf f fd) (m_str : mg "str" = none) : CalleeAt P w K mg base 1 f spLeafS := by
  have h : FnOk P w K mg base CX0 1 f fd ["leaf"] (liftSp K spLeafS) := by
    refine fnok_of F sc_show_leaf (fun us M Q h => by obtain ⟨x, rfl, _⟩ := h; rfl) (uss_one (us_ret (ue_t b_strA m_str (ua_cons (ue_ix (uv 0) un_) ua_nil)))) ?_
    rintro us M Q ⟨t, rfl, hl, ho, q⟩
    cases t with
    | num n =>
      dsimp! only [toU, strA, view, uSl]
      exact ⟨log_ok ho.1 ho.2, rt_same q⟩
    | name x =>
      dsimp! only [toU, strA, view, uSl]
      exact rt_same q
    | turn a => cases hl
    | two o a b => cases hl
  exact ⟨fd, _, h, F.kp, F.binds (fun _ _ _ _ _ _ us hl => match us, hl with | [_], _ => rfl)⟩
def spShow (fl : Addr) (n : Nat) : USp := fun us M Q => ∃ t : Tr, us = [t.toU, .ref fl] ∧ t.ok ∧ t.dep ≤ n ∧ t.size ≤ 1000 ∧ Q (.str t.sh) M
theorem ok_show_shape {n : Nat} (F : Fun K "show_shape" "show_shape" s_show_shape f fd) (hm : mg "show_shape" = some (.ref f)) (T_SIGNS : IsTab P w K d SIGNS) (g_SIGNS : mg "SIGNS" = some (.ref d)) (T_MIDDLE_TEXTS : IsTab P w K d2 MIDS) (g_MIDDLE_TEXTS : mg "MIDDLE_TEXTS" = some (.ref d2))
    (C_parts_of : Callee P w K mg base 1 "parts_of" spParts []) (A_show_leaf : CalleeAt P w K mg base 1 fl spLeafS) (C_show_shape : Callee P w K mg base (n + 1) "show_shape" (spShow fl n) []) : Callee P w K mg base (n + 2) "show_shape" (spShow fl (n + 1)) [] := by
  refine callee_of F hm sc_show_shape (fun _ _ _ _ _ _ us hl => match us, hl with | [_, _], _ => rfl) (fun us M Q h => by obtain ⟨x, rfl, _⟩ := h; rfl) (uss_cons (us_if (ut_c (k_notInTab T_SIGNS) (ue_ix (uv 0) un_) (ug_ref g_SIGNS))
  (uss_one (us_ret (ue_callv 1 A_show_leaf (ua_cons (uv 0) ua_nil))))
  uss_nil)
  (uss_cons (us_setC 2 sc_show_shape.nd false ["part", "show_leaf"] 1 [1] (ui_seq (ue_call C_parts_of (ua_cons (uv 0) ua_nil))) (ug_name (k := 1) 0 (by dsimp only [compD]; decide +kernel)) uif_nil (ue_call C_show_shape (ua_cons (uv 0) (ua_cons (uv 1) ua_nil))))
  (uss_cons (us_if (ut_c k_eqS (ue_ix (uv 0) un_) us_)
  (uss_one (us_ret (ue_add (own := false) (ue_add (own := false) us_ (ue_ix (uv 2) un_)) us_)))
  uss_nil)
  (uss_one (us_ret (ue_add (own := false) (ue_add (own := false) (ue_add (own := false) (ue_add (own := false) us_ (ue_ix (uv 2) un_)) (ue_dix T_MIDDLE_TEXTS (ug_ref g_MIDDLE_TEXTS) (ue_ix (uv 0) un_))) (ue_ix (uv 2) un_)) us_)))))) ?_
  rintro us M Q ⟨t, rfl, ho, hd, hz, q⟩
  obtain ⟨r, e, hr⟩ := toU_head t
  have e' := e
  rw [e]
  dsimp! only [view, uSl]
  rw [signs_of]
  cases h : leafy t with
  | true =>
    dsimp! only [view, uSl]
    exact ⟨t, by rw [e], h, ho, rt_same q⟩
  | false =>
    dsimp! only [view, uSl]
    refine uComp_list (S := ⟨none, t.parts.map toU⟩) (M1 := M) (t.parts.map fun p => .str p.sh) (fun R r' => ⟨t, by rw [e]; rfl, r'⟩) (by simp) ?_ (fun a e => by cases e) ?_ ?_
    · cases t <;> simp [parts] <;> exact small (by decide)
    · intro i x y hx hy M' _ R r'
      have hx' : (t.parts.map toU)[i]? = some x := hx
      rw [List.getElem?_map] at hx' hy
      cases hp : t.parts[i]? with
      | none => rw [hp] at hx'; cases hx'
      | some p =>
        rw [hp] at hx' hy
        cases hx'
        cases hy
        have hpm := List.mem_of_getElem? hp
        have ih : p.ok ∧ p.dep ≤ n ∧ p.size ≤ 1000 := by
          cases t with
          | num n => cases hpm
          | name n => cases hpm
          | turn a =>
            have : p = a := by simpa [parts] using hpm
            subst this
            simp only [dep, size] at hd hz
            exact ⟨ho, by omega, by omega⟩
          | two o a b =>
            simp only [dep, size] at hd hz
            have : p = a ∨ p = b := by simpa [parts] using hpm
            rcases this with rfl | rfl
            · exact ⟨ho.1, by omega, by omega⟩
            · exact ⟨ho.2, by omega, by omega⟩
        exact ⟨p, rfl, ih.1, ih.2.1, ih.2.2, r'⟩
    · have hl := sh_len ho
      cases t with
      | num n => cases h
      | name n => cases h
      | turn a =>
        have ha := sh_len (t := a) ho
        simp only [dep, size] at hd hz hl ha
        simp only [parts, head, sh, List.map_cons, List.map_nil] at q ⊢
        dsimp! only [view, uSl]
        simp only [show (Str.ofString "(- ").length = 3 from by decide +kernel, show (Str.ofString ")").length = 1 from by decide +kernel, len_app]
        exact ⟨small (by omega), small (by omega), rt_same q⟩
      | two o a b =>
        have ha := sh_len ho.1
        have hb := sh_len ho.2
        have hm3 : o.mid.length = 3 := by cases o <;> decide +kernel
        have hne : ¬ o.word = Str.ofString "turn" := by cases o <;> decide +kernel
        have htab : tabGet MIDS o.word = some (.str o.mid) := by cases o <;> rfl
        simp only [dep, size] at hd hz hl
        simp only [parts, head, sh, List.map_cons, List.map_nil] at q ⊢
        dsimp! only [view, uSl]
        refine ite2 (fun hh => absurd (of_decide_eq_true hh) hne) (fun _ => ?_)
        simp only [htab, Fl.u]
        dsimp! only [show (Str.ofString "(").length = 1 from by decide +kernel, show (Str.ofString ")").length = 1 from by decide +kernel, len_app, hm3, view, uSl]
        exact ⟨small (by omega), small (by omega), small (by omega), small (by omega), rt_same q⟩
theorem dep_pos : ∀ t : Tr, 1 ≤ t.dep
  | num _ => Nat.le_refl _
  | name _ => Nat.le_refl _
  | turn a => by simp only [dep]; omega
  | two o a b => by simp only [dep]; omega
theorem show_all (F : Fun K "show_shape" "show_shape" s_show_shape f fd) (hm : mg "show_shape" = some (.ref f)) (T_SIGNS : IsTab P w K d SIGNS) (g_SIGNS : mg "SIGNS" = some (.ref d)) (T_MIDDLE_TEXTS : IsTab P w K d2 MIDS) (g_MIDDLE_TEXTS : mg "MIDDLE_TEXTS" = some (.ref d2))
    (C_parts_of : Callee P w K mg base 1 "parts_of" spParts []) (A_show_leaf : CalleeAt P w K mg base 1 fl spLeafS) : ∀ n, Callee P w K mg base (n + 1) "show_shape" (spShow fl n) []
  | 0 => by
    have no : ∀ us M Q, ¬ spShow fl 0 us M Q := fun us M Q h => by
      obtain ⟨t, _, _, h, _⟩ := h
      have := dep_pos t
      omega
    refine ⟨f, fd, ["shape", "show_leaf"], [], [], ⟨fun vs H Q E h => ?_, fun A outer s H args us vs Q E _ _ _ _ h => ?_⟩, hm, F.kp, F.binds (fun _ _ _ _ _ _ us hl => match us, hl with | [_, _], _ => rfl), .nil, fun H M => .nil⟩
    · obtain ⟨us, M, Q', _, _, h, _⟩ := h; exact absurd h (no us M Q')
    · obtain ⟨us, M, Q', _, _, h, _⟩ := h; exact absurd h (no us M Q')
  | n + 1 => ok_show_shape F hm T_SIGNS g_SIGNS T_MIDDLE_TEXTS g_MIDDLE_TEXTS C_parts_of A_show_leaf (show_all F hm T_SIGNS g_SIGNS T_MIDDLE_TEXTS g_MIDDLE_TEXTS C_parts_of A_show_leaf n)
def spShown : USp := fun us M Q => ∃ t : Tr, us = [t.toU] ∧ t.ok ∧ t.dep ≤ 50 ∧ t.size ≤ 1000 ∧ Q (.str t.sh) M
theorem ok_shown (F : Fun K "shown" "shown" s_shown f fd) (hm : mg "shown" = some (.ref f)) (v_show_leaf : mg "show_leaf" = some (.ref fl)) (C_show_shape : Callee P w K mg base 51 "show_shape" (spShow fl 50) []) : Callee P w K mg base 52 "shown" spShown [] := by
  refine callee_of F hm sc_shown (fun _ _ _ _ _ _ us hl => match us, hl with | [_], _ => rfl) (fun us M Q h => by obtain ⟨x, rfl, _⟩ := h; rfl) (uss_one (us_ret (ue_call C_show_shape (ua_cons (uv 0) (ua_cons (ug_ref v_show_leaf) ua_nil))))) ?_
  rintro us M Q ⟨t, rfl, ho, hd, hz, q⟩
  dsimp! only [view, uSl]
  exact ⟨t, rfl, ho, hd, hz, rt_same q⟩
def spCell : USp := fun us M Q => ∃ (ns : List Int) (k : Int), us = [.lst (ns.map .int), .int k] ∧ 0 ≤ k ∧ ∀ c : Int, Q (.int c) M
theorem ok_cell_at (F : Fun K "_law_cell_at" "_law_cell_at" s_law_cell_at f fd) (hm : mg "_law_cell_at" = some (.ref f)) (m_len : mg "len" = none) : Callee P w K mg base 1 "_law_cell_at" spCell [] := by
  refine callee_of F hm sc_law_cell_at (fun _ _ _ _ _ _ us hl => match us, hl with | [_, _], _ => rfl) (fun us M Q h => by obtain ⟨x, k, rfl, _⟩ := h; rfl) (uss_cons (us_if (ut_c k_lt (uv 1) (ue_b b_len m_len (ua_cons (uv 0) ua_nil)))
  (uss_one (us_ret (ue_ix (uv 0) (uv 1))))
  uss_nil)
  (uss_one (us_ret un_))) ?_
  rintro us M Q ⟨ns, k, rfl, hk, q⟩
  dsimp! only [view, uSl]
  by_cases h : k < ((ns.map U.int).length : Int)
  · rw [if_pos (by simpa using h)]
    obtain ⟨u, hu⟩ := atI_ex (ns.map U.int) k hk h
    obtain ⟨j, _, hj, _⟩ := atI_get hu
    obtain ⟨c, _, hc⟩ := List.mem_map.mp (List.mem_of_getElem? hj)
    subst hc
    exact ⟨_, hu, rt_same (q c)⟩
  · rw [if_neg (by simpa using h)]
    exact rt_same (q 0)
theorem app_toList (x y : Str) : (x ++ y).cps.toList = x.cps.toList ++ y.cps.toList := by
  show (x.cps ++ y.cps).toList = _
  simp
theorem atI_mem {α : Type} {l : List α} {i : Int} {c : α} (h : atI l i = some c) : c ∈ l := by
  unfold atI at h
  cases e : ixN l.length i with
  | none => rw [e] at h; cases h
  | some j => rw [e] at h; exact List.mem_of_getElem? h
theorem pos_len {y : Str} (h : y ≠ Str.ofString "") : 1 ≤ y.length := by
  rcases Nat.eq_zero_or_pos y.length with e | e
  · refine absurd ?_ h
    cases y with
    | mk a =>
      have : a = #[] := Array.eq_empty_of_size_eq_zero e
      subst this; rfl
  · exact e
def ABC : Str := Str.ofString "abcdefghijklmnopqrstuvwxyz"
def letterF (m : Int) : Str := ⟨#[(atI ABC.cps.toList (m % 26)).getD 0]⟩
def nameGo : Nat → Int → Str → Str
  | 0, _, y => y
  | k + 1, n, y => if y.length < 8 ∧ (y = Str.ofString "" ∨ 0 < n) then
      nameGo k ((if y = Str.ofString "" then n else n - 1) / 26) (y ++ letterF (if y = Str.ofString "" then n else n - 1)) else y
theorem letter_len (m : Int) : (letterF m).length = 1 := rfl
theorem nameGo_len : ∀ (k : Nat) (n : Int) (y : Str), y.length ≤ 8 → (nameGo k n y).length ≤ 8
  | 0, _, _, h => h
  | k + 1, n, y, h => by
    simp only [nameGo]
    split
    · rename_i hh
      exact nameGo_len k _ _ (by rw [len_app, letter_len]; omega)
    · exact h
theorem letter_ok (m : Int) : ∀ c ∈ (letterF m).cps.toList, 97 ≤ c ∧ c ≤ 122 := by
  have hL : ABC.cps.toList.length = 26 := by decide +kernel
  have hA : ∀ c ∈ ABC.cps.toList, 97 ≤ c ∧ c ≤ 122 := by decide +kernel
  obtain ⟨c, hc⟩ := atI_ex ABC.cps.toList (m % 26) (Int.emod_nonneg _ (by decide)) (by rw [hL]; exact Int.emod_lt_of_pos _ (by decide))
  intro x hx
  simp only [letterF, hc, Option.getD_some, List.mem_cons, List.not_mem_nil, or_false] at hx
  subst hx
  exact hA _ (atI_mem hc)
theorem nameGo_ok : ∀ (k : Nat) (n : Int) (y : Str), (∀ c ∈ y.cps.toList, 97 ≤ c ∧ c ≤ 122) → (y ≠ Str.ofString "" ∨ 0 < k) → 1 ≤ (nameGo k n y).length ∧ ∀ c ∈ (nameGo k n y).cps.toList, 97 ≤ c ∧ c ≤ 122
  | 0, n, y, h, z => ⟨by
      simp only [nameGo]
      rcases z with z | z
      · exact pos_len z
      · omega, by simpa only [nameGo] using h⟩
  | k + 1, n, y, h, z => by
    simp only [nameGo]
    split
    · refine nameGo_ok k _ _ (fun c hc => ?_) (.inl fun e => ?_)
      · rw [app_toList] at hc
        rcases List.mem_append.mp hc with hc | hc
        · exact h c hc
        · exact letter_ok _ c hc
      · have := congrArg Str.length e
        rw [len_app, letter_len] at this
        exact absurd this (Nat.succ_ne_zero _)
    · rename_i hh
      refine ⟨?_, h⟩
      by_cases e : y = Str.ofString ""
      · subst e; exact absurd ⟨by decide, .inl rfl⟩ hh
      · exact pos_len e
def nameF (n : Int) : Str := nameGo 8 n (Str.ofString "")
def spNameOf : USp := fun us M Q => ∃ n : Int, us = [.int n] ∧ Q (.str (nameF n)) M
theorem ok_name_of (F : Fun K "_law_name_of" "_law_name_of" s_law_name_of f fd) (hm : mg "_law_name_of" = some (.ref f)) (m_len : mg "len" = none) : Callee P w K mg base 1 "_law_name_of" spNameOf [] := by
  refine callee_of F hm sc_law_name_of (fun _ _ _ _ _ _ us hl => match us, hl with | [_], _ => rfl) (fun us M Q h => by obtain ⟨x, rfl, _⟩ := h; rfl) (uss_cons (us_set 1 sc_law_name_of.nd us_)
  (uss_cons (us_while (PWU.pt (uw_and (ut_c k_ltX (ue_b b_len m_len (ua_cons (uv 1) ua_nil)) un_) (uw_and1 (PWU.pt (uw_or (ut_c k_eqX (uv 1) us_) (uw_or1 (ut_c k_gt (uv 0) un_)))))))
  (uss_cons (us_if (ut_c k_neX (uv 1) us_)
  (uss_one (us_set 0 sc_law_name_of.nd (ue_sub (uv 0) un_)))
  uss_nil)
  (uss_cons (us_set 1 sc_law_name_of.nd (ue_add (own := false) (uv 1) (ue_ix us_ (ue_mod (uv 0) un_))))
  (uss_one (us_set 0 sc_law_name_of.nd (ue_div (uv 0) un_))))))
  (uss_one (us_ret (uv 1))))) ?_
  rintro us M Q ⟨n0, rfl, q⟩
  dsimp! only [capt, hTup, hCons, hNil, uEqX, uEqD, uLtX, uIn, items, uEnum, uZip, mExtend, mClear, bMax, bSum, view, uSl]
  have hL : ABC.cps.toList.length = 26 := by decide +kernel
  have hL2 : ABC.length ≤ sizeLine := by decide +kernel
  refine while_by (fun τ M' => ∃ (n : Int) (y : Str), τ = [some (.int n), some (.str y)] ∧ M' = M ∧ y.length ≤ 8 ∧ nameGo (8 - y.length) n y = nameF n0) (fun τ _ => match τ with | [_, some (.str y)] => 8 - y.length | _ => 0) ⟨_, _, rfl, rfl, by decide, rfl⟩ ?_
  rintro τ M' ⟨n, y, rfl, rfl, hy, hg⟩
  have hys : y.length ≤ sizeLine := small (by omega)
  have lt : ∀ m : Int, ∃ c, atI ABC.cps.toList (m % 26) = some c ∧ letterF m = ⟨#[c]⟩ := fun m => by
    obtain ⟨c, hc⟩ := atI_ex ABC.cps.toList (m % 26) (Int.emod_nonneg _ (by decide)) (by rw [hL]; exact Int.emod_lt_of_pos _ (by decide))
    exact ⟨c, hc, by unfold letterF; rw [hc]; rfl⟩
  dsimp! only [capt, hTup, hCons, hNil, uEqX, uEqD, uLtX, uIn, items, uEnum, uZip, mExtend, mClear, bMax, bSum, view, uSl]
  refine ⟨hys, ?_⟩
  by_cases h8 : y.length < 8
  · rw [if_pos (decide_eq_true (by omega))]
    have go : ∀ m : Int, (if y = Str.ofString "" then n else n - 1) = m → (y = Str.ofString "" ∨ 0 < n) → (0 : Int) < 26 ∧ (Str.ofString "abcdefghijklmnopqrstuvwxyz").length ≤ sizeLine ∧
        ∃ c, atI (Str.ofString "abcdefghijklmnopqrstuvwxyz").cps.toList (m % 26) = some c ∧ y.length + (⟨#[c]⟩ : Str).length ≤ sizeLine ∧ CDiv m 26 ∧
          (∃ (n1 : Int) (y1 : Str), [some (U.int (m / 26)), some (U.str (y ++ ⟨#[c]⟩))] = [some (U.int n1), some (U.str y1)] ∧ y1.length ≤ 8 ∧ nameGo (8 - y1.length) n1 y1 = nameF n0) ∧ 8 - (y ++ (⟨#[c]⟩ : Str)).length < 8 - y.length := by
      intro m hm hc
      obtain ⟨c, e1, e2⟩ := lt m
      have l1 : (⟨#[c]⟩ : Str).length = 1 := rfl
      refine ⟨by decide, hL2, c, e1, small (by rw [l1]; omega), ⟨by decide, by decide⟩, ⟨_, _, rfl, by rw [len_app, l1]; omega, ?_⟩, by rw [len_app, l1]; omega⟩
      rw [← hg, len_app, l1, show 8 - y.length = (8 - (y.length + 1)) + 1 by omega, nameGo, if_pos ⟨h8, hc⟩, hm, e2]
    by_cases he : y = Str.ofString ""
    · have := go n (if_pos he) (.inl he)
      simpa only [he, decide_true, Bool.not_true, if_true, Bool.false_eq_true, if_false] using this
    · by_cases hn : 0 < n
      · have := go (n - 1) (if_neg he) (.inr hn)
        simpa only [he, hn, decide_true, decide_false, Bool.not_false, if_true, Bool.false_eq_true, if_false] using this
      · rw [if_neg (by simpa using he), if_neg (by simpa using hn)]
        have : nameF n0 = y := by rw [← hg, show 8 - y.length = (8 - (y.length + 1)) + 1 by omega, nameGo, if_neg (fun z => z.2.elim he hn)]
        rw [this] at q
        exact rt_same q
  · rw [if_neg (fun z => h8 (by have := of_decide_eq_true z; omega))]
    have : nameF n0 = y := by rw [← hg, show 8 - y.length = 0 by omega, nameGo]
    rw [this] at q
    exact rt_same q
theorem nameF_ok (n : Int) : (nameF n).length ≤ 8 ∧ 1 ≤ (nameF n).length ∧ ∀ c ∈ (nameF n).cps.toList, 97 ≤ c ∧ c ≤ 122 := by
  have h1 := nameGo_len 8 n (Str.ofString "") (by decide)
  have h2 := nameGo_ok 8 n (Str.ofString "") (by intro c hc; cases hc) (.inr (by decide))
  exact ⟨h1, h2.1, h2.2⟩
def spLeaf : USp := fun us M Q => ∃ k r : Int, us = [.int k, .int r] ∧ ∀ t : Tr, t.ok → t.size = 1 → t.dep = 1 → Q (item t) M
theorem ok_leaf (F : Fun K "_law_leaf" "_law_leaf" s_law_leaf f fd) (hm : mg "_law_leaf" = some (.ref f)) (m_str : mg "str" = none) (C_law_name_of : Callee P w K mg base 1 "_law_name_of" spNameOf []) : Callee P w K mg base 2 "_law_leaf" spLeaf [] := by
  refine callee_of F hm sc_law_leaf (fun _ _ _ _ _ _ us hl => match us, hl with | [_, _], _ => rfl) (fun us M Q h => by obtain ⟨x, k, rfl, _⟩ := h; rfl) (uss_cons (us_if (ut_c k_eqS (uv 0) un_)
  (uss_cons (us_set 2 sc_law_leaf.nd (ue_mod (uv 1) (ue_add (own := false) (ue_pow un_ un_) un_)))
  (uss_one (us_ret (ue_tup (ua_cons (ue_tup (ua_cons us_ (ua_cons (uv 2) ua_nil))) (ua_cons un_ (ua_cons un_ (ua_cons (ue_t b_str m_str (ua_cons (uv 2) ua_nil)) ua_nil))))))))
  uss_nil)
  (uss_cons (us_set 3 sc_law_leaf.nd (ue_call C_law_name_of (ua_cons (ue_mod (uv 1) (ue_pow un_ un_)) ua_nil)))
  (uss_one (us_ret (ue_tup (ua_cons (ue_tup (ua_cons us_ (ua_cons (uv 3) ua_nil))) (ua_cons un_ (ua_cons un_ (ua_cons (uv 3) ua_nil))))))))) ?_
  rintro us M Q ⟨k, r, rfl, q⟩
  dsimp! only [view, uSl]
  by_cases h : k = 0
  · rw [if_pos (by simpa using h)]
    have h0 : 0 ≤ r % (10 ^ (18 : Int).toNat + 1) ∧ r % (10 ^ (18 : Int).toNat + 1) < 10 ^ (18 : Int).toNat + 1 := ⟨Int.emod_nonneg _ (by decide), Int.emod_lt_of_pos _ (by decide)⟩
    have e : (10 : Int) ^ (18 : Int).toNat = 10 ^ 18 := by decide
    have h1 : 0 ≤ r % (10 ^ (18 : Int).toNat + 1) ∧ r % (10 ^ (18 : Int).toNat + 1) ≤ 10 ^ 18 := ⟨h0.1, by rw [e] at h0 ⊢; omega⟩
    refine ⟨⟨by decide, by decide, by decide⟩, by decide, by decide, log_ok h1.1 h1.2, by decide, rt_same ?_⟩
    have := q (num (r % (10 ^ (18 : Int).toNat + 1))) h1 rfl rfl
    simp only [item, toU, size, dep, sh] at this
    exact this
  · rw [if_neg (by simpa using h)]
    refine ⟨⟨by decide, by decide, by decide⟩, by decide, _, rfl, ?_⟩
    dsimp! only [view, uSl]
    refine ⟨by decide, by decide, rt_same ?_⟩
    have := q (name (nameF (r % 10 ^ (12 : Int).toNat))) (nameF_ok _) rfl rfl
    simp only [item, toU, size, dep, sh] at this
    exact this
def spJoined : USp := fun us M Q => ∃ (a b : Tr) (o : Op), us = [item a, item b, .str o.word] ∧ a.ok ∧ b.ok ∧ a.size + b.size ≤ 900 ∧ Q (item (two o a b)) M
theorem max_cast (a b : Nat) : (if (b : Int) > (a : Int) then (b : Int) else (a : Int)) = ((max a b : Nat) : Int) := by
  split <;> omega
theorem ok_joined (F : Fun K "_law_joined" "_law_joined" s_law_joined f fd) (hm : mg "_law_joined" = some (.ref f)) (m_max : mg "max" = none) : Callee P w K mg base 1 "_law_joined" spJoined [] := by
  refine callee_of F hm sc_law_joined (fun _ _ _ _ _ _ us hl => match us, hl with | [_, _, _], _ => rfl) (fun us M Q h => by obtain ⟨x, k, o, rfl, _⟩ := h; rfl) (uss_cons (us_set 3 sc_law_joined.nd (ue_add (own := false) (ue_add (own := false) (ue_add (own := false) (ue_add (own := false) us_ (ue_ix (uv 0) un_)) (ue_ix (ue_lst (own := false) (ua_cons us_ (ua_cons us_ (ua_cons us_ ua_nil)))) (ue_index (ue_lst (own := false) (ua_cons us_ (ua_cons us_ (ua_cons us_ ua_nil)))) (ua_cons (uv 2) ua_nil)))) (ue_ix (uv 1) un_)) us_))
  (uss_one (us_ret (ue_tup (ua_cons (ue_tup (ua_cons (uv 2) (ua_cons (ue_ix (uv 0) un_) (ua_cons (ue_ix (uv 1) un_) ua_nil)))) (ua_cons (ue_add (own := false) (ue_add (own := false) (ue_ix (uv 0) un_) (ue_ix (uv 1) un_)) un_) (ua_cons (ue_add (own := false) (ue_b b_max m_max (ua_cons (ue_ix (uv 0) un_) (ua_cons (ue_ix (uv 1) un_) ua_nil))) un_) (ua_cons (uv 3) ua_nil)))))))) ?_
  rintro us M Q ⟨a, b, o, rfl, ha, hb, hz, q⟩
  have la := sh_len ha
  have lb := sh_len hb
  dsimp! only [item, isL, mIndex, view, uSl]
  have key : ∃ (j : Nat), ([Str.ofString "sum", Str.ofString "less", Str.ofString "by"] : List Str)[j]? = some o.word ∧ (∀ (m : Nat) z, m < j → ([Str.ofString "sum", Str.ofString "less", Str.ofString "by"] : List Str)[m]? = some z → z ≠ o.word) ∧ atI [U.str (Str.ofString " + "), U.str (Str.ofString " - "), U.str (Str.ofString " * ")] (j : Int) = some (.str o.mid) := by
    cases o with
    | sum => exact ⟨0, rfl, fun m z h => by omega, at0⟩
    | less => exact ⟨1, rfl, fun m z h e => by
        have : m = 0 := by omega
        subst this; cases e; decide +kernel, at1⟩
    | by_ => exact ⟨2, rfl, fun m z h e => by
        have : m = 0 ∨ m = 1 := by omega
        rcases this with rfl | rfl <;> cases e <;> decide +kernel, at2⟩
  obtain ⟨j, k1, k2, k3⟩ := key
  have hm3 : o.mid.length = 3 := by cases o <;> decide +kernel
  have p1 : (Str.ofString "(").length = 1 := by decide +kernel
  have p2 : (Str.ofString ")").length = 1 := by decide +kernel
  refine ⟨small (by rw [p1]; omega), by decide, by decide, ⟨_, rfl⟩, _, j, rfl, k1, k2, _, k3, ?_⟩
  refine ⟨small (by rw [len_app, p1]; omega), small (by rw [len_app, len_app, p1]; omega), small (by rw [len_app, len_app, len_app, p1, p2]; omega), by decide, by decide, rt_same ?_⟩
  rw [max_cast]
  simp only [item, toU, size, dep, sh] at q
  exact q
def spTurned : USp := fun us M Q => ∃ (a : Tr), us = [item a] ∧ a.ok ∧ a.size ≤ 900 ∧ Q (item (turn a)) M
theorem ok_turned (F : Fun K "_law_turned" "_law_turned" s_law_turned f fd) (hm : mg "_law_turned" = some (.ref f)) : Callee P w K mg base 1 "_law_turned" spTurned [] := by
  refine callee_of F hm sc_law_turned (fun _ _ _ _ _ _ us hl => match us, hl with | [_], _ => rfl) (fun us M Q h => by obtain ⟨x, rfl, _⟩ := h; rfl) (uss_one (us_ret (ue_tup (ua_cons (ue_tup (ua_cons us_ (ua_cons (ue_ix (uv 0) un_) ua_nil))) (ua_cons (ue_add (own := false) (ue_ix (uv 0) un_) un_) (ua_cons (ue_add (own := false) (ue_ix (uv 0) un_) un_) (ua_cons (ue_add (own := false) (ue_add (own := false) us_ (ue_ix (uv 0) un_)) us_) ua_nil))))))) ?_
  rintro us M Q ⟨a, rfl, ha, hz, q⟩
  have la := sh_len ha
  dsimp! only [item, view, uSl]
  have p1 : (Str.ofString "(- ").length = 3 := by decide +kernel
  have p2 : (Str.ofString ")").length = 1 := by decide +kernel
  refine ⟨by decide, small (by rw [p1]; omega), small (by rw [len_app, p1, p2]; omega), by decide, rt_same ?_⟩
  simp only [item, toU, size, dep, sh] at q
  exact q
def good (t : Tr) : Prop := t.ok ∧ t.dep ≤ 40
def wt : List Tr → Nat
  | [] => 0
  | t :: r => t.size + 1 + wt r
theorem wt_app : ∀ l r : List Tr, wt (l ++ r) = wt l + wt r
  | [], _ => by simp [wt]
  | t :: l, r => by simp [wt, wt_app l r]; omega
def spAll : USp := fun us M Q => ∃ (u : U) (l : List Tr), us = [u] ∧ view M u = .lst (l.map item) ∧ l ≠ [] ∧ l.length ≤ 70 ∧ (∀ t ∈ l, good t) ∧ wt l ≤ 140 ∧ ∀ t, good t → t.size ≤ 140 → Q (item t) M
theorem ok_all (F : Fun K "_law_all" "_law_all" s_law_all f fd) (hm : mg "_law_all" = some (.ref f)) (m_len : mg "len" = none) (m_range : mg "range" = none) (m_max : mg "max" = none) (C_law_joined : Callee P w K mg base 1 "_law_joined" spJoined []) : Callee P w K mg base 2 "_law_all" spAll [] := by
  refine callee_of F hm sc_law_all (fun _ _ _ _ _ _ us hl => match us, hl with | [_], _ => rfl) (fun us M Q h => by obtain ⟨x, l, rfl, _⟩ := h; rfl) (uss_cons (us_while (ut_c k_gt (ue_b b_len m_len (ua_cons (uv 0) ua_nil)) un_)
  (uss_cons (us_set 1 sc_law_all.nd (ue_lst (own := true) ua_nil))
  (uss_cons (us_for (ui_rng3 m_range (ua_cons un_ (ua_cons (ue_b b_len m_len (ua_cons (uv 0) ua_nil)) (ua_cons un_ ua_nil)))) (ug_name (k := 1000) 2 sc_law_all.nd)
  (uss_cons (us_set 3 sc_law_all.nd (ue_sl (own := false) (uv 0) (uo_some (uv 2)) (uo_some (ue_add (own := false) (uv 2) un_))))
  (uss_one (us_if (PWU.pt (uw_and (ut_c k_eqS (ue_b b_len m_len (ua_cons (uv 3) ua_nil)) un_) (uw_and1 (ut_c k_lt (ue_b b_max m_max (ua_cons (ue_ix (ue_ix (uv 3) un_) un_) (ua_cons (ue_ix (ue_ix (uv 3) un_) un_) ua_nil))) un_))))
  (uss_one (us_expr (ue_append (uv 1) (ua_cons (ue_call C_law_joined (ua_cons (ue_ix (uv 3) un_) (ua_cons (ue_ix (uv 3) un_) (ua_cons (ue_ix (ue_lst (own := false) (ua_cons us_ (ua_cons us_ (ua_cons us_ ua_nil)))) (ue_mod (ue_ix (ue_ix (uv 3) un_) un_) un_)) ua_nil)))) ua_nil))))
  (uss_one (us_expr (ue_append (uv 1) (ua_cons (ue_ix (uv 3) un_) ua_nil))))))))
  (uss_one (us_set 0 sc_law_all.nd (uv 1))))))
  (uss_one (us_ret (ue_ix (uv 0) un_)))) ?_
  rintro us M Q ⟨u, l, rfl, hv, hne, hlen, hg, hw, q⟩
  simp only [uSeq, startU, List.map_cons, List.map_nil, List.length_cons, List.length_nil, List.cons_append, List.nil_append, List.replicate, Nat.reduceAdd, Nat.reduceSub]
  refine while_by (fun τ M' => ∃ (u : U) (l : List Tr) (b c e : Option U), τ = [some u, b, c, e] ∧ Sub M M' ∧ view M' u = .lst (l.map item) ∧ l ≠ [] ∧ l.length ≤ 70 ∧ (∀ t ∈ l, good t) ∧ wt l ≤ 140) (fun τ M' => match τ with | [some u, _, _, _] => (match view M' u with | .lst us => us.length | _ => 0) | _ => 0) ⟨u, l, none, none, none, rfl, Sub.refl M, hv, hne, hlen, hg, hw⟩ ?_
  rintro τ M' ⟨u, l, b, c, e, rfl, hS, hv, hne, hlen, hg, hw⟩
  simp only [uTest, uOp, uCB, uCons, uNil, uVar, uC, bLen, cGt, uI0, List.getElem?_cons_zero, List.getElem?_cons_succ, hv, List.length_map]
  by_cases h1 : (1 : Int) < (l.length : Int)
  · rw [if_pos (by simpa using h1)]
    simp only [uSeq, uAsg, hName, uLst, uNil, mkL, List.length_nil, List.set_cons_zero, List.set_cons_succ]
    refine ⟨by decide, fun p hp => ?_⟩
    have hMp : M p = none := hS.none hp
    have hpair : ∀ s : Nat, ∃ o : Op, atI [U.str (Str.ofString "sum"), U.str (Str.ofString "less"), U.str (Str.ofString "by")] ((s : Int) % 3) = some (.str o.word) := fun s => by
      have e : (s : Int) % 3 = 0 ∨ (s : Int) % 3 = 1 ∨ (s : Int) % 3 = 2 := by omega
      rcases e with e | e | e <;> rw [e]
      · exact ⟨.sum, at0⟩
      · exact ⟨.less, at1⟩
      · exact ⟨.by_, at2⟩
    refine for_by (S := ⟨none, rangeU2 (half (l.length : Int))⟩) (M1 := mup M' p (.lst [])) (fun R r => ?_)
      (fun i τ Mi => ∃ (m : List Tr) (c e : Option U), τ = [some u, some (.ref p), c, e] ∧ Mi = mup M' p (.lst (m.map item)) ∧ m.length = i ∧ (∀ t ∈ m, good t) ∧ wt m ≤ wt (l.take (2 * i))) ⟨[], c, e, rfl, rfl, rfl, (fun t h => by cases h), by simp [wt]⟩ (fun i τ M' _ a e => by cases e) ?_ ?_
    · simp only [uRng3, uCons, uC, uNil, uCB, uVar, bLen, List.getElem?_cons_zero, view_mup hp hv, List.length_map]
      exact ⟨trivial, trivial, by omega, by omega, r⟩
    · rintro i x τ Mi e ⟨m, c, e', rfl, rfl, hm, hmg, hmw⟩
      obtain ⟨rfl, hi⟩ := rangeU2_get e
      have h2i : 2 * i < l.length := by unfold half at hi; omega
      have hv2 := view_mup (o := .lst (m.map item)) hp hv
      have hms : (m.map item).length < sizeLine := Nat.lt_of_lt_of_le (show (m.map item).length < 100000 by rw [List.length_map]; omega) (by decide)
      have hcut : cutU (l.map item) (some ((i : Int) * 2)) (some ((i : Int) * 2 + 2)) = ((l.drop (2 * i)).take 2).map item := by
        rw [cut2 _ _ (by rw [List.length_map]; exact h2i), ← List.map_drop, ← List.map_take]
      have htk : l.take (2 * (i + 1)) = l.take (2 * i) ++ (l.drop (2 * i)).take 2 := by
        rw [show 2 * (i + 1) = 2 * i + 2 by omega, List.take_add]
      dsimp! only [hv2, hcut, vw_non, vw_bl, vw_int, vw_str, vw_tup, vw_lst, vw_own, mup_same, mup_mup, uSl]
      have hdr : (∃ x y r, l.drop (2 * i) = x :: y :: r) ∨ ∃ x, l.drop (2 * i) = [x] := by
        cases hd : l.drop (2 * i) with
        | nil => have := congrArg List.length hd; rw [List.length_drop] at this; simp at this; omega
        | cons x r => cases r with
          | nil => exact .inr ⟨x, rfl⟩
          | cons y r => exact .inl ⟨x, y, r, rfl⟩
      rcases hdr with ⟨x, y, r, hd⟩ | ⟨x, hd⟩
      · have gx : good x := hg x (List.mem_of_mem_drop (by rw [hd]; exact List.mem_cons_self))
        have gy : good y := hg y (List.mem_of_mem_drop (by rw [hd]; exact List.mem_cons_of_mem _ List.mem_cons_self))
        have wxy : wt (l.take (2 * (i + 1))) = wt (l.take (2 * i)) + (x.size + 1 + (y.size + 1)) := by rw [htk, hd, wt_app]; simp [wt]
        have wl : wt (l.take (2 * (i + 1))) ≤ wt l := by
          have := wt_app (l.take (2 * (i + 1))) (l.drop (2 * (i + 1)))
          rw [List.take_append_drop] at this
          omega
        dsimp! only [hd, List.take_succ_cons, List.take_zero, item, vw_non, vw_bl, vw_int, vw_str, vw_tup, vw_lst, vw_own, mup_same, mup_mup, uSl]
        refine ite2 (fun _ => ?_) (fun hh => absurd (by decide) hh)
        refine ite2 (fun hlt => ?_) (fun _ => ?_)
        · have hlt' : ((max x.dep y.dep : Nat) : Int) < 40 := by
            have := of_decide_eq_true hlt
            rw [max_cast] at this
            exact this
          obtain ⟨o, ho⟩ := hpair x.size
          refine ⟨isL_own, by decide, by decide, _, ho, x, y, o, rfl, gx.1, gy.1, by omega, ?_⟩
          simp only [mup_same, mup_mup]
          refine ⟨hms, m ++ [two o x y], _, _, rfl, ?_, by simp [hm], fun t ht => ?_, ?_⟩
          · rw [List.map_append]; rfl
          · rcases List.mem_append.mp ht with h | h
            · exact hmg t h
            · cases List.mem_singleton.mp h
              exact ⟨⟨gx.1, gy.1⟩, by simp only [dep]; omega⟩
          · rw [wt_app, wxy]
            simp only [wt, size]
            omega
        · refine ⟨isL_own, hms, m ++ [x], _, _, rfl, ?_, by simp [hm], fun t ht => ?_, ?_⟩
          · rw [List.map_append]; rfl
          · rcases List.mem_append.mp ht with h | h
            · exact hmg t h
            · cases List.mem_singleton.mp h
              exact gx
          · rw [wt_app, wxy]
            simp only [wt]
            omega
      · have gx : good x := hg x (List.mem_of_mem_drop (by rw [hd]; exact List.mem_cons_self))
        have wx : wt (l.take (2 * (i + 1))) = wt (l.take (2 * i)) + (x.size + 1) := by rw [htk, hd, wt_app]; simp [wt]
        dsimp! only [hd, List.take_succ_cons, List.take_nil, item, vw_non, vw_bl, vw_int, vw_str, vw_tup, vw_lst, vw_own, mup_same, mup_mup, uSl]
        refine ite2 (fun hh => absurd hh (by decide)) (fun _ => ?_)
        refine ⟨isL_own, hms, m ++ [x], _, _, rfl, ?_, by simp [hm], fun t ht => ?_, ?_⟩
        · rw [List.map_append]; rfl
        · rcases List.mem_append.mp ht with h | h
          · exact hmg t h
          · cases List.mem_singleton.mp h
            exact gx
        · rw [wt_app, wx]
          simp only [wt]
          omega
    · rintro τ Mi ⟨m, c, e', rfl, rfl, hm, hmg, hmw⟩
      rw [rangeU2_len] at hm hmw
      dsimp! only [view, uSl]
      have hh : half (l.length : Int) < l.length ∧ 1 ≤ half (l.length : Int) ∧ l.length ≤ 2 * half (l.length : Int) := by unfold half; omega
      rw [List.take_of_length_le hh.2.2] at hmw
      refine ⟨⟨.ref p, m, _, _, _, rfl, hS.mup hMp, view_ref mup_same, ?_, by omega, hmg, by omega⟩, ?_⟩
      · intro z; subst z; simp at hm; omega
      · simp only [mup_same, List.length_map]
        omega
  · rw [if_neg (by simpa using h1)]
    cases l with
    | nil => exact absurd rfl hne
    | cons t r =>
      cases r with
      | cons y r => simp at h1; omega
      | nil =>
        have gt := hg t List.mem_cons_self
        simp only [uRet, uOp, uVar, uC, uIx, hv, List.map_cons, List.map_nil, List.getElem?_cons_zero]
        refine ⟨_, at0, item t, M, hS, .inl rfl, q t gt ?_⟩
        simp only [wt] at hw; omega
def spBuilt : USp := fun us M Q => ∃ ns : List Int, us = [.lst (ns.map .int)] ∧ ns.length ≤ 62 ∧ ∀ t, good t → t.size ≤ 140 → Q (item t) M
theorem three (m : List Tr) : m = [] ∨ (∃ t, m = [t]) ∨ ∃ r s t, m = r ++ [s, t] := by
  have key : ∀ l : List Tr, l.reverse = [] ∨ (∃ t, l.reverse = [t]) ∨ ∃ r s t, l.reverse = r ++ [s, t] := by
    intro l
    cases l with
    | nil => exact .inl rfl
    | cons a l => cases l with
      | nil => exact .inr (.inl ⟨a, rfl⟩)
      | cons b l => exact .inr (.inr ⟨l.reverse, b, a, by simp⟩)
  have := key m.reverse
  rw [List.reverse_reverse] at this
  exact this
theorem ok_built (F : Fun K "_law_built" "_law_built" s_law_built f fd) (hm : mg "_law_built" = some (.ref f)) (m_len : mg "len" = none) (m_max : mg "max" = none) (C_law_joined : Callee P w K mg base 1 "_law_joined" spJoined []) (C_law_turned : Callee P w K mg base 1 "_law_turned" spTurned []) (C_law_leaf : Callee P w K mg base 2 "_law_leaf" spLeaf []) (C_law_all : Callee P w K mg base 2 "_law_all" spAll []) : Callee P w K mg base 3 "_law_built" spBuilt [] := by
  refine callee_of F hm sc_law_built (fun _ _ _ _ _ _ us hl => match us, hl with | [_], _ => rfl) (fun us M Q h => by obtain ⟨l, rfl, _⟩ := h; rfl) (uss_cons (us_set 1 sc_law_built.nd (ue_lst (own := true) ua_nil))
  (uss_cons (us_for (ui_seq (uv 0)) (ug_name (k := 1000) 2 sc_law_built.nd)
  (uss_cons (us_set 3 sc_law_built.nd (ue_mod (uv 2) un_))
  (uss_one (us_if (PWU.pt (uw_and (ut_c k_eqS (uv 3) un_) (uw_and (ut_c k_gt (ue_b b_len m_len (ua_cons (uv 1) ua_nil)) un_) (uw_and1 (ut_c k_lt (ue_ix (ue_ix (uv 1) (ue_neg un_)) un_) un_)))))
  (uss_cons (us_set 4 sc_law_built.nd (ue_pop (uv 1)))
  (uss_one (us_expr (ue_append (uv 1) (ua_cons (ue_call C_law_turned (ua_cons (uv 4) ua_nil)) ua_nil)))))
  (uss_one (us_if (PWU.pt (uw_and (ut_ch k_le k_le un_ (uv 3) un_) (uw_and (ut_c k_gt (ue_b b_len m_len (ua_cons (uv 1) ua_nil)) un_) (uw_and1 (ut_c k_lt (ue_b b_max m_max (ua_cons (ue_ix (ue_ix (uv 1) (ue_neg un_)) un_) (ua_cons (ue_ix (ue_ix (uv 1) (ue_neg un_)) un_) ua_nil))) un_)))))
  (uss_cons (us_set 5 sc_law_built.nd (ue_pop (uv 1)))
  (uss_cons (us_set 6 sc_law_built.nd (ue_pop (uv 1)))
  (uss_one (us_expr (ue_append (uv 1) (ua_cons (ue_call C_law_joined (ua_cons (uv 6) (ua_cons (uv 5) (ua_cons (ue_ix (ue_lst (own := false) (ua_cons us_ (ua_cons us_ (ua_cons us_ ua_nil)))) (ue_sub (uv 3) un_)) ua_nil)))) ua_nil))))))
  (uss_one (us_expr (ue_append (uv 1) (ua_cons (ue_call C_law_leaf (ua_cons (ue_mod (uv 3) un_) (ua_cons (ue_div (uv 2) un_) ua_nil))) ua_nil))))))))))
  (uss_cons (us_if (ut_c k_eqS (ue_b b_len m_len (ua_cons (uv 1) ua_nil)) un_)
  (uss_one (us_ret (ue_call C_law_leaf (ua_cons un_ (ua_cons un_ ua_nil)))))
  uss_nil)
  (uss_one (us_ret (ue_call C_law_all (ua_cons (uv 1) ua_nil))))))) ?_
  rintro us M Q ⟨ns, rfl, hlen, q⟩
  simp only [uSeq, uAsg, hName, uLst, uNil, mkL, startU, List.map_cons, List.map_nil, List.length_cons, List.length_nil, List.cons_append, List.nil_append, List.replicate, Nat.reduceAdd, Nat.reduceSub, List.set_cons_zero, List.set_cons_succ]
  refine ⟨by decide, fun p hp => ?_⟩
  refine for_by (S := ⟨none, ns.map U.int⟩) (M1 := mup M p (.lst [])) (fun R r => r)
    (fun i τ Mi => ∃ (m : List Tr) (b c e g h : Option U), τ = [some (.lst (ns.map .int)), some (.ref p), b, c, e, g, h] ∧ Mi = mup M p (.lst (m.map item)) ∧ m.length ≤ i ∧ (∀ t ∈ m, good t) ∧ wt m ≤ 2 * i) ⟨[], _, _, _, _, _, rfl, rfl, Nat.le_refl _, (fun t h => by cases h), by simp [wt]⟩ (fun i τ M' _ a e => by cases e) ?_ ?_
  · rintro i x τ Mi e ⟨m, b, c, e', g, h, rfl, rfl, hml, hmg, hmw⟩
    have hi : i < 62 := by
      have := (List.getElem?_eq_some_iff.mp e).1
      simp at this; omega
    obtain ⟨n, rfl⟩ : ∃ n, x = U.int n := by
      obtain ⟨c, _, e⟩ := List.mem_map.mp (List.mem_of_getElem? e)
      exact ⟨c, e.symm⟩
    have hms : (m.map item).length < sizeLine := Nat.lt_of_lt_of_le (show (m.map item).length < 100000 by rw [List.length_map]; omega) (by decide)
    have addl : ∀ t, good t → t.size ≤ 1 → (m.map item).length < sizeLine ∧ ∃ (m' : List Tr) (b' c' e1 g1 h1 : Option U), [some (U.lst (ns.map .int)), some (U.ref p), some (U.int n), some (U.int (n % 8)), e', g, h] = [some (U.lst (ns.map .int)), some (U.ref p), b', c', e1, g1, h1] ∧ mup M p (MO.lst (m.map item ++ [item t])) = mup M p (MO.lst (m'.map item)) ∧ m'.length ≤ i + 1 ∧ (∀ t ∈ m', good t) ∧ wt m' ≤ 2 * (i + 1) := fun t gt ht => by
      refine ⟨hms, m ++ [t], _, _, _, _, _, rfl, by rw [List.map_append]; rfl, by simp; omega, fun t' h' => ?_, ?_⟩
      · rcases List.mem_append.mp h' with h | h
        · exact hmg t' h
        · cases List.mem_singleton.mp h; exact gt
      · rw [wt_app]; simp only [wt]; omega
    rcases three m with rfl | ⟨t, rfl⟩ | ⟨r, s, t, rfl⟩
    · dsimp! only [vw_non, vw_bl, vw_int, vw_str, vw_tup, vw_lst, vw_own, mup_same, mup_mup, uSl] at addl ⊢
      refine ⟨by decide, ?_⟩
      repeat' (refine ite2 (fun _ => ?_) (fun _ => ?_))
      all_goals first
        | (refine ⟨isL_own, by decide, ⟨by decide, by decide⟩, _, _, rfl, fun t' o1 o2 o3 => ?_⟩; simp only [mup_same, mup_mup, List.nil_append, List.cons_append, List.length_nil, List.length_cons]; exact addl t' ⟨o1, by omega⟩ (by omega))
        | exact absurd ‹decide ((0 : Int) < ((0 : Nat) : Int)) = true› (by decide)
        | exact absurd ‹decide ((1 : Int) < ((0 : Nat) : Int)) = true› (by decide)
    · have gt : good t := hmg t List.mem_cons_self
      have st : t.size ≤ 130 := by simp only [wt] at hmw; omega
      dsimp! only [item, atI_s1, gl_s, dl_s, vw_non, vw_bl, vw_int, vw_str, vw_tup, vw_lst, vw_own, mup_same, mup_mup, uSl] at addl ⊢
      refine ⟨by decide, ?_⟩
      repeat' (refine ite2 (fun _ => ?_) (fun _ => ?_))
      all_goals first
        | (refine ⟨isL_own, by decide, ⟨by decide, by decide⟩, _, _, rfl, fun t' o1 o2 o3 => ?_⟩; simp only [mup_same, mup_mup, List.nil_append, List.cons_append, List.length_nil, List.length_cons]; exact addl t' ⟨o1, by omega⟩ (by omega))
        | exact absurd ‹decide ((1 : Int) < ((1 : Nat) : Int)) = true› (by decide)
        | (have hdt := of_decide_eq_true ‹decide ((t.dep : Int) < 40) = true›
           refine ⟨isL_own, isL_own, t, rfl, gt.1, by omega, ?_⟩
           simp only [mup_same, mup_mup, List.nil_append, List.length_nil]
           refine ⟨by decide, [turn t], _, _, _, _, _, rfl, rfl, by simp, fun t' h' => ?_, by simp only [wt, size] at hmw ⊢; omega⟩
           cases List.mem_singleton.mp h'
           exact ⟨gt.1, by simp only [dep]; omega⟩)
    · have gt : good t := hmg t (by simp)
      have gs : good s := hmg s (by simp)
      have hmw2 := hmw
      rw [wt_app] at hmw2
      simp only [wt] at hmw2
      have hml2 : r.length + 2 ≤ i := by simpa using hml
      have hgr : ∀ t ∈ r, good t := fun t ht => hmg t (by simp [ht])
      have big : ∀ k : Nat, k < 100000 → k < sizeLine := fun k hk => Nat.lt_of_lt_of_le hk (by decide)
      dsimp! only [List.map_append, item, atI_p1, atI_m2, gl_p, dl_p, gl_1, dl_1, vw_non, vw_bl, vw_int, vw_str, vw_tup, vw_lst, vw_own, mup_same, mup_mup, uSl] at addl ⊢
      refine ⟨by decide, ?_⟩
      repeat' (refine ite2 (fun _ => ?_) (fun _ => ?_))
      all_goals first
        | (refine ⟨isL_own, by decide, ⟨by decide, by decide⟩, _, _, rfl, fun t' o1 o2 o3 => ?_⟩; simp only [mup_same, mup_mup, List.nil_append, List.cons_append, List.length_nil, List.length_cons]; exact addl t' ⟨o1, by omega⟩ (by omega))
        | (have hdt := of_decide_eq_true ‹decide ((t.dep : Int) < 40) = true›
           refine ⟨isL_own, isL_own, t, rfl, gt.1, by omega, ?_⟩
           simp only [mup_same, mup_mup]
           refine ⟨big _ (by simp; omega), r ++ [s, turn t], _, _, _, _, _, rfl, ?_, by simp; omega, fun t' h' => ?_, by rw [wt_app]; simp only [wt, size]; omega⟩
           · rw [List.map_append, List.append_assoc]; rfl
           · rcases List.mem_append.mp h' with h | h
             · exact hgr t' h
             · simp at h
               rcases h with rfl | rfl
               · exact gs
               · exact ⟨gt.1, by simp only [dep]; omega⟩)
        | (have k3 := of_decide_eq_true ‹decide ((3 : Int) ≤ n % 8) = true›
           have k5 := of_decide_eq_true ‹decide (n % 8 ≤ (5 : Int)) = true›
           have hdd : ((max t.dep s.dep : Nat) : Int) < 40 := by
             have := of_decide_eq_true ‹decide ((if (s.dep : Int) > (t.dep : Int) then (s.dep : Int) else (t.dep : Int)) < 40) = true›
             rw [max_cast] at this
             exact this
           have ho : ∃ o : Op, atI [U.str (Str.ofString "sum"), U.str (Str.ofString "less"), U.str (Str.ofString "by")] (n % 8 - 3) = some (.str o.word) := by
             have e : n % 8 - 3 = 0 ∨ n % 8 - 3 = 1 ∨ n % 8 - 3 = 2 := by omega
             rcases e with e | e | e <;> rw [e]
             · exact ⟨.sum, at0⟩
             · exact ⟨.less, at1⟩
             · exact ⟨.by_, at2⟩
           obtain ⟨o, ho⟩ := ho
           refine ⟨isL_own, isL_own, isL_own, by decide, _, ho, s, t, o, rfl, gs.1, gt.1, by omega, ?_⟩
           simp only [mup_same, mup_mup]
           refine ⟨big _ (by simp; omega), r ++ [two o s t], _, _, _, _, _, rfl, ?_, by simp; omega, fun t' h' => ?_, by rw [wt_app]; simp only [wt, size]; omega⟩
           · rw [List.map_append]; rfl
           · rcases List.mem_append.mp h' with h | h
             · exact hgr t' h
             · cases List.mem_singleton.mp h
               exact ⟨⟨gs.1, gt.1⟩, by simp only [dep]; omega⟩)
  · rintro τ Mi ⟨m, b, c, e', g, h, rfl, rfl, hml, hmg, hmw⟩
    have hml' : m.length ≤ 62 := by
      have : (Src.mk none (ns.map U.int)).xs.length = ns.length := by simp
      rw [this] at hml; omega
    have hmw' : wt m ≤ 124 := by
      have : (Src.mk none (ns.map U.int)).xs.length = ns.length := by simp
      rw [this] at hmw; omega
    dsimp! only [vw_non, vw_bl, vw_int, vw_str, vw_tup, vw_lst, vw_own, mup_same, mup_mup, uSl]
    have sub : Sub M (mup M p (.lst (m.map item))) := (Sub.refl M).mup hp
    refine ite2 (fun _ => ?_) (fun hz => ?_)
    · exact ⟨0, 0, rfl, fun t o1 o2 o3 => ⟨_, M, sub, .inl rfl, q t ⟨o1, by omega⟩ (by omega)⟩⟩
    · refine ⟨.ref p, m, rfl, vw_own, fun z => ?_, by omega, hmg, by omega, fun t gt ht => ⟨_, M, sub, .inl rfl, q t gt ht⟩⟩
      subst z
      exact hz (by simp)
def spGrown : USp := fun us M Q => ∃ (t : Tr) (d : Int), us = [item t, .int d] ∧ good t ∧ t.size ≤ 200 ∧ ∀ t, good t → t.size ≤ 200 → Q (item t) M
theorem ok_grown (F : Fun K "_law_grown" "_law_grown" s_law_grown f fd) (hm : mg "_law_grown" = some (.ref f)) (C_law_joined : Callee P w K mg base 1 "_law_joined" spJoined []) (C_law_turned : Callee P w K mg base 1 "_law_turned" spTurned []) : Callee P w K mg base 2 "_law_grown" spGrown [] := by
  refine callee_of F hm sc_law_grown (fun _ _ _ _ _ _ us hl => match us, hl with | [_, _], _ => rfl) (fun us M Q h => by obtain ⟨t, d, rfl, _⟩ := h; rfl) (uss_cons (us_while (PWU.pt (uw_and (ut_c k_eqS (ue_mod (uv 1) un_) un_) (uw_and (ut_c k_lt (ue_ix (uv 0) un_) un_) (uw_and1 (ut_c k_lt (ue_ix (uv 0) un_) un_)))))
  (uss_cons (us_set 0 sc_law_grown.nd (ue_call C_law_joined (ua_cons (uv 0) (ua_cons (uv 0) (ua_cons (ue_ix (ue_lst (own := false) (ua_cons us_ (ua_cons us_ (ua_cons us_ ua_nil)))) (ue_mod (ue_mod (uv 1) un_) un_)) ua_nil)))))
  (uss_one (us_set 1 sc_law_grown.nd (ue_div (uv 1) un_)))))
  (uss_cons (us_if (ut_c k_eqS (ue_mod (uv 1) un_) un_)
  (uss_one (us_while (PWU.pt (uw_and (ut_c k_lt (ue_ix (uv 0) un_) un_) (uw_and1 (ut_c k_lt (ue_ix (uv 0) un_) un_))))
  (uss_one (us_set 0 sc_law_grown.nd (ue_call C_law_turned (ua_cons (uv 0) ua_nil))))))
  uss_nil)
  (uss_one (us_ret (uv 0))))) ?_
  rintro us M Q ⟨t, d, rfl, gt, st, q⟩
  simp only [uSeq, startU, List.map_cons, List.map_nil, List.length_cons, List.length_nil, List.cons_append, List.nil_append, List.replicate, Nat.reduceAdd, Nat.reduceSub]
  refine while_by (fun τ M' => ∃ (t : Tr) (d : Int), τ = [some (item t), some (.int d)] ∧ M' = M ∧ good t ∧ t.size ≤ 200) (fun τ M' => match τ with | [some (.tup [_, .int s, _, _]), _] => (300 - s).toNat | _ => 0) ⟨t, d, rfl, rfl, gt, st⟩ ?_
  rintro τ M' ⟨t, d, rfl, rfl, gt, st⟩
  have ho : ∃ o : Op, atI [U.str (Str.ofString "sum"), U.str (Str.ofString "less"), U.str (Str.ofString "by")] (d % 7 % 3) = some (.str o.word) := by
    have e : d % 7 % 3 = 0 ∨ d % 7 % 3 = 1 ∨ d % 7 % 3 = 2 := by omega
    rcases e with e | e | e <;> rw [e]
    · exact ⟨.sum, at0⟩
    · exact ⟨.less, at1⟩
    · exact ⟨.by_, at2⟩
  obtain ⟨o, ho⟩ := ho
  have tail : uIfS (uTest (uOp uEqS (uOp (uI (fun x j => 0 < j) fun i j => U.int (i % j)) (uVar 1) (uC (U.int 4))) (uC (U.int 3)))) (uWhile (uAnd (uTest (uOp cLt (uOp uIx (uVar 0) (uC (U.int 1))) (uC (U.int 200)))) (uTest (uOp cLt (uOp uIx (uVar 0) (uC (U.int 2))) (uC (U.int 40))))) (uAsg (uCall spTurned [] (uCons (uVar 0) uNil)) (hName 0))) uNext
      { nx := uRet (uVar 0) { nx := fun x M' => rtU Q U.non M', rt := rtU Q }, rt := rtU Q } [some (item t), some (.int d)] M' := by
    dsimp! only [item, vw_non, vw_bl, vw_int, vw_str, vw_tup, vw_lst, vw_own, mup_same, mup_mup, uSl]
    refine ⟨by decide, ite2 (fun _ => ?_) (fun _ => rt_same (q t gt st))⟩
    refine while_by (fun τ M'' => ∃ (t : Tr), τ = [some (item t), some (.int d)] ∧ M'' = M' ∧ good t ∧ t.size ≤ 200) (fun τ M' => match τ with | [some (.tup [_, .int s, _, _]), _] => (300 - s).toNat | _ => 0) ⟨t, rfl, rfl, gt, st⟩ ?_
    rintro τ M'' ⟨t, rfl, rfl, gt, st⟩
    dsimp! only [item, vw_non, vw_bl, vw_int, vw_str, vw_tup, vw_lst, vw_own, mup_same, mup_mup, uSl]
    refine ite2 (fun h1 => ite2 (fun h2 => ?_) (fun _ => rt_same (q t gt st))) (fun _ => rt_same (q t gt st))
    have h1' := of_decide_eq_true h1
    have h2' := of_decide_eq_true h2
    refine ⟨t, rfl, gt.1, by omega, ⟨turn t, rfl, rfl, ⟨gt.1, by simp only [dep]; omega⟩, by simp only [size]; omega⟩, ?_⟩
    simp only [item, size]
    omega
  dsimp! only [item, vw_non, vw_bl, vw_int, vw_str, vw_tup, vw_lst, vw_own, mup_same, mup_mup, uSl] at tail ⊢
  refine ⟨by decide, ite2 (fun _ => ite2 (fun h1 => ite2 (fun h2 => ?_) (fun _ => tail)) (fun _ => tail)) (fun _ => tail)⟩
  have h1' := of_decide_eq_true h1
  have h2' := of_decide_eq_true h2
  refine ⟨by decide, by decide, by decide, _, ho, t, t, o, rfl, gt.1, gt.1, by omega, ⟨by decide, by decide⟩, ⟨two o t t, _, rfl, rfl, ⟨⟨gt.1, gt.1⟩, by simp only [dep]; omega⟩, by simp only [size]; omega⟩, ?_⟩
  simp only [item, size]
  omega
end
end K08
namespace K08
open PySem L2 U2
open Tr
def tx (s : List Nat) : Str := ⟨s.toArray⟩
theorem tx_ch (s : List Nat) : (tx s).cps.toList = s := by simp [tx]
theorem tx_of (z : Str) : tx z.cps.toList = z := by cases z; simp [tx]
theorem tx_inj {a b : List Nat} : (tx a = tx b) = (a = b) := by
  refine propext ⟨fun h => ?_, fun h => by rw [h]⟩
  have := congrArg (fun z : Str => z.cps.toList) h
  simpa [tx_ch] using this
theorem slc {z : Str} {i : Nat} {s r : List Nat} {a b : Int} (h : z.cps.toList.drop i = s ++ r) (ha : a = i) (hb : b = (i + s.length : Nat)) (hs : 0 < s.length := by simp) : Txt.slice z (some a) (some b) = tx s := by
  subst ha hb
  have hl : z.length = z.cps.toList.length := by simp [Str.length]
  have hi : i + s.length ≤ z.length := by
    have := congrArg List.length h
    rw [List.length_drop, List.length_append] at this
    rw [hl]; omega
  have e := PySem.StrLaws.sliced_plain z (a := i) (b := i + s.length) (by omega) hi
  unfold Txt.slice
  split
  · rename_i hc
    have hc' : (PySem.Builtin.Str.strSliceIndices (some ((i : Nat) : Int)) (some (((i + s.length) : Nat) : Int)) 1 z.length).length = z.length := by simpa using hc
    rw [PySem.StrLaws.strSliceIndices_plain (by omega) hi] at hc'
    simp only [List.length_map, List.length_range] at hc'
    have hi0 : i = 0 := by omega
    subst hi0
    rw [← tx_of z]
    congr 1
    rw [List.drop_zero] at h
    have : r = [] := by
      have h2 := congrArg List.length h
      rw [List.length_append, ← hl] at h2
      exact List.length_eq_zero_iff.mp (by omega)
    rw [h, this, List.append_nil]
  · rw [e, h]
    unfold tx
    congr 2
    rw [Nat.add_sub_cancel_left, List.take_left']
    rfl
theorem drop_at {L : List Nat} {i : Nat} {c : Nat} {r : List Nat} (h : L.drop i = c :: r) : L[i]? = some c ∧ i < L.length ∧ L.drop (i + 1) = r := by
  have hl : i < L.length := by
    have := congrArg List.length h
    rw [List.length_drop] at this
    simp at this
    omega
  rw [List.drop_eq_getElem_cons hl] at h
  injection h with h1 h2
  exact ⟨by rw [List.getElem?_eq_getElem hl, h1], hl, h2⟩
theorem drop_more {L : List Nat} {i : Nat} {s r : List Nat} (h : L.drop i = s ++ r) : L.drop (i + s.length) = r := by
  rw [← List.drop_drop, h, List.drop_left']; rfl
def dig (n : Nat) : List Nat := if h : n < 10 then [48 + n] else dig (n / 10) ++ [48 + n % 10]
termination_by n
decreasing_by omega
def val (l : List Nat) : Nat := l.foldl (fun a c => a * 10 + (c - 48)) 0
theorem val_snoc (l : List Nat) (c : Nat) : val (l ++ [c]) = val l * 10 + (c - 48) := by simp [val, List.foldl_append]
theorem dig_pos (n : Nat) : 1 ≤ (dig n).length := by
  rw [dig]; split
  · simp
  · simp
theorem dig_val : ∀ (n k : Nat), k ≤ (dig n).length → val ((dig n).take k) = n / 10 ^ ((dig n).length - k) := by
  intro n
  induction n using Nat.strongRecOn with
  | _ n ih =>
    intro k hk
    by_cases h : n < 10
    · have e : dig n = [48 + n] := by rw [dig, dif_pos h]
      rw [e] at hk ⊢
      simp only [List.length_cons, List.length_nil] at hk ⊢
      have : k = 0 ∨ k = 1 := by omega
      rcases this with rfl | rfl
      · simp [val]; omega
      · simp [val]
    · have e : dig n = dig (n / 10) ++ [48 + n % 10] := by rw [dig, dif_neg h]
      rw [e] at hk ⊢
      simp only [List.length_append, List.length_cons, List.length_nil] at hk ⊢
      by_cases hk2 : k ≤ (dig (n / 10)).length
      · rw [List.take_append_of_le_length hk2, ih (n / 10) (by omega) k hk2, Nat.div_div_eq_div_mul]
        congr 1
        rw [show (dig (n / 10)).length + (0 + 1) - k = ((dig (n / 10)).length - k) + 1 by omega, Nat.pow_succ, Nat.mul_comm]
      · have : k = (dig (n / 10)).length + 1 := by omega
        subst this
        rw [List.take_of_length_le (by simp), val_snoc]
        have := ih (n / 10) (by omega) _ (Nat.le_refl _)
        rw [List.take_length, Nat.sub_self] at this
        rw [this]
        simp
        omega
theorem dig_ge : ∀ n : Nat, 1 ≤ n → 10 ^ ((dig n).length - 1) ≤ n := by
  intro n
  induction n using Nat.strongRecOn with
  | _ n ih =>
    intro h1
    by_cases h : n < 10
    · have e : dig n = [48 + n] := by rw [dig, dif_pos h]
      rw [e]; simpa using h1
    · have e : dig n = dig (n / 10) ++ [48 + n % 10] := by rw [dig, dif_neg h]
      rw [e]
      simp only [List.length_append, List.length_cons, List.length_nil]
      have := ih (n / 10) (by omega) (by omega)
      have hp := dig_pos (n / 10)
      rw [show (dig (n / 10)).length + (0 + 1) - 1 = ((dig (n / 10)).length - 1) + 1 by omega, Nat.pow_succ]
      omega
theorem dig_fig : ∀ n : Nat, ∀ c ∈ dig n, 48 ≤ c ∧ c ≤ 57 := by
  intro n
  induction n using Nat.strongRecOn with
  | _ n ih =>
    intro c hc
    by_cases h : n < 10
    · have e : dig n = [48 + n] := by rw [dig, dif_pos h]
      rw [e] at hc
      cases List.mem_singleton.mp hc
      omega
    · have e : dig n = dig (n / 10) ++ [48 + n % 10] := by rw [dig, dif_neg h]
      rw [e] at hc
      rcases List.mem_append.mp hc with hc | hc
      · exact ih (n / 10) (by omega) c hc
      · cases List.mem_singleton.mp hc
        omega
theorem digits_dig : ∀ n : Nat, (Nat.toDigits 10 n).map Char.toNat = dig n := by
  intro n
  have hd : ∀ k : Fin 10, (Nat.digitChar k.val).toNat = 48 + k.val := by decide
  induction n using Nat.strongRecOn with
  | _ n ih =>
    by_cases h : n < 10
    · rw [Nat.toDigits_of_lt_base h, dig, dif_pos h]
      have := hd ⟨n, h⟩
      simp only [List.map_cons, List.map_nil]
      rw [this]
    · rw [Nat.toDigits_of_base_le (by decide) (by omega), dig, dif_neg h, List.map_append, ih (n / 10) (by omega)]
      have := hd ⟨n % 10, by omega⟩
      simp only [List.map_cons, List.map_nil]
      rw [this]
theorem num_ch {n : Int} (h : 0 ≤ n) : (Str.ofString (toString n)).cps.toList = dig n.toNat := by
  obtain ⟨k, rfl⟩ : ∃ k : Nat, n = k := ⟨n.toNat, by omega⟩
  rw [Str.ofString_eq_toList]
  have e : (toString (k : Int)).toList = Nat.toDigits 10 k := by
    show (toString k).toList = _
    rw [show toString k = k.repr from rfl, Nat.toList_repr]
  rw [e]
  simp only [Int.toNat_natCast]
  rw [← digits_dig]
end K08
namespace K08
open PySem L2 U2
open Tr
section
variable {P : Program} {w : World} {K : PySem.W.Frag} {mg : Str → Option Value} {base : Heap} {f d d2 fl : Addr} {fd : FuncData}
theorem eqX_int {neg : Bool} {i j : Int} {M : MHp} {Q : UK} : uEqX neg (.int i) (.int j) M Q = Q (.bl (if neg then !decide (i = j) else decide (i = j))) M := rfl
theorem eqX_str {neg : Bool} {i j : Str} {M : MHp} {Q : UK} : uEqX neg (.str i) (.str j) M Q = Q (.bl (if neg then !decide (i = j) else decide (i = j))) M := rfl
theorem big {k : Nat} (h : k < 100000) : k < sizeLine := Nat.lt_of_lt_of_le h (by decide)
theorem szl {n : Nat} (h : n ≤ 100000) : (n ≤ sizeLine) = True := eq_true (small h)
theorem seq_gen {u v : US} {D : UEnds} {τ : SU} {M : MHp} (h : ∀ V : SU → MHp → Prop, V = v D → u { D with nx := V } τ M) : uSeq u v D τ M := h _ rfl
theorem if_gen {c : UT} {t u : US} {D : UEnds} {τ : SU} {M : MHp} (h : ∀ A B : MHp → Prop, A = t D τ → B = u D τ → c τ M fun b M1 => if b = true then A M1 else B M1) : uIfS c t u D τ M := h _ _ rfl rfl
theorem mup_id {M : MHp} {a : Addr} {o : MO} (h : M a = some o) : mup M a o = M := by
  funext b
  unfold mup
  split
  · rename_i e; subst e; exact h.symm
  · rfl
theorem rt_own {Q : UK} {v : U} {M : MHp} {p : Addr} {o o' : MO} (h : M p = some o) (q : Q v (mup M p o')) : rtU Q v (mup M p o') := rt_same q
def oc : Op → Nat
  | .sum => 43 | .less => 45 | .by_ => 42
def cT (t : Tr) : List Nat := t.sh.cps.toList
theorem app_l (x y : Str) : (x ++ y).cps.toList = x.cps.toList ++ y.cps.toList := app_toList x y
theorem cT_turn (a : Tr) : cT (turn a) = 40 :: 45 :: 32 :: (cT a ++ [41]) := by
  unfold cT
  simp only [sh, app_l]
  rw [show (Str.ofString "(- ").cps.toList = [40, 45, 32] by decide +kernel, show (Str.ofString ")").cps.toList = [41] by decide +kernel]
  simp
theorem cT_two (o : Op) (a b : Tr) : cT (two o a b) = 40 :: (cT a ++ 32 :: oc o :: 32 :: (cT b ++ [41])) := by
  unfold cT
  simp only [sh, app_l]
  rw [show (Str.ofString "(").cps.toList = [40] by decide +kernel, show (Str.ofString ")").cps.toList = [41] by decide +kernel]
  have : o.mid.cps.toList = [32, oc o, 32] := by cases o <;> decide +kernel
  rw [this]
  simp
theorem cT_first : ∀ t : Tr, t.ok → ∃ c r, cT t = c :: r ∧ c ≠ 45 ∧ (leafy t = true → c ≠ 40)
  | num n, h => by
    have e : cT (num n) = dig n.toNat := num_ch h.1
    have hp := dig_pos n.toNat
    cases hd : dig n.toNat with
    | nil => rw [hd] at hp; simp at hp
    | cons c r =>
      have := dig_fig n.toNat c (by rw [hd]; exact List.mem_cons_self)
      exact ⟨c, r, by rw [e, hd], by omega, fun _ => by omega⟩
  | name x, h => by
    have hl : x.cps.toList.length = x.length := by simp [Str.length]
    cases hd : x.cps.toList with
    | nil => have := h.2.1; rw [hd] at hl; simp at hl; omega
    | cons c r =>
      have := h.2.2 c (by rw [hd]; exact List.mem_cons_self)
      exact ⟨c, r, hd, by omega, fun _ => by omega⟩
  | turn a, h => ⟨40, _, cT_turn a, by decide, fun z => by cases z⟩
  | two o a b, h => ⟨40, _, cT_two o a b, by decide, fun z => by cases z⟩
inductive Fm where
  | t | l (o : Op) (b : Tr) | r (o : Op) (a : Tr)
def frU : Fm → U
  | .t => .lst [.str (Str.ofString "turn")]
  | .l _ _ => .lst [.str (Str.ofString "")]
  | .r o a => .lst [.str o.word, a.toU]
def after : List Fm → List Nat
  | [] => []
  | .t :: c => 41 :: after c
  | .l o b :: c => 32 :: oc o :: 32 :: (cT b ++ 41 :: after c)
  | .r _ _ :: c => 41 :: after c
def reb : Tr → List Fm → Tr
  | t, [] => t
  | t, .t :: c => reb (turn t) c
  | t, .l o b :: c => reb (two o t b) c
  | t, .r o a :: c => reb (two o a t) c
def okF : List Fm → Prop
  | [] => True
  | .t :: c => okF c
  | .l _ b :: c => b.ok ∧ c.length + 1 + b.dep ≤ 60 ∧ okF c
  | .r _ _ :: c => okF c
def stU (c : List Fm) : List U := (c.map frU).reverse
theorem stU_cons (f : Fm) (c : List Fm) : stU (f :: c) = stU c ++ [frU f] := by simp [stU]
theorem stU_len (c : List Fm) : (stU c).length = c.length := by simp [stU]
def endR (R : List Nat) : Prop := ∀ c r, R = c :: r → c = 32 ∨ c = 41
theorem after_end (c : List Fm) : endR (after c) := fun x r h => by
  cases c with
  | nil => cases h
  | cons f c => cases f <;> (simp only [after, List.cons.injEq] at h; omega)
def spNeed : USp := fun us M Q => ∃ (z y : Str) (i : Nat) (r : List Nat) (c : Nat), us = [.str z, .int (i : Int), .str y] ∧ z.length ≤ 100000 ∧ z.cps.toList.drop i = c :: r ∧ y = tx [c] ∧ Q .non M
theorem slc1 {z : Str} {i : Nat} {c : Nat} {r : List Nat} (h : z.cps.toList.drop i = c :: r) : Txt.slice z (some (i : Int)) (some ((i : Int) + 1)) = tx [c] := slc (s := [c]) (r := r) h rfl (by simp)
local macro_rules | `(tactic| simp! only [$xs,*] $[$l]?) => `(tactic| simp only [$xs,*, Bool.false_eq_true, Bool.not_false, Bool.not_true, List.append_nil, List.cons_append, List.getElem?_cons_succ, List.getElem?_cons_zero, List.length_cons, List.length_nil, List.map_cons, List.map_nil, List.nil_append, List.replicate, List.set_cons_succ, List.set_cons_zero, Nat.add_sub_cancel, Nat.reduceAdd, Nat.reduceLeDiff, Nat.reduceSub, Nat.sub_self, Option.getD_some, Option.some.injEq, and_true, at0, at1, at2, at3, bAll, bInt, bInt1, bInt2, bIsi2, bLen, bList, bMax, bSum, bTuple, cGe, cGt, cLe, cLt, capt, decide_false, decide_true, eqX_int, eqX_str, exists_eq_left', if_false, if_true, inSt, inTab, isNon, isi_NoneType_bool, isi_NoneType_dict, isi_NoneType_int, isi_NoneType_list, isi_NoneType_str, isi_NoneType_tuple, isi_bool_bool, isi_bool_dict, isi_bool_int, isi_bool_list, isi_bool_str, isi_bool_tuple, isi_dict_bool, isi_dict_dict, isi_dict_int, isi_dict_list, isi_dict_str, isi_dict_tuple, isi_int_bool, isi_int_dict, isi_int_int, isi_int_list, isi_int_str, isi_int_tuple, isi_list_bool, isi_list_dict, isi_list_int, isi_list_list, isi_list_str, isi_list_tuple, isi_str_bool, isi_str_dict, isi_str_int, isi_str_list, isi_str_str, isi_str_tuple, isi_tuple_bool, isi_tuple_dict, isi_tuple_int, isi_tuple_list, isi_tuple_str, isi_tuple_tuple, items, ixTab, mAppend, mClear, mExtend, mPop, mPopAt, mkL, mup_mup, mup_same, reduceCtorEq, startU, szl, true_and, typU, uAdd, uAddL, uAnd, uAndV, uBM, uBM0, uC, uCB, uCall, uCallV, uChain, uCons, uEnum, uEnumL, uEqS, uI, uI0, uIf, uIn, uIsN, uIter, uIx, uLst, uLtX, uMul, uNeS, uNil, uNoPart, uNot, uNotN, uNotV, uOp, uOr, uOrV, uPart, uRng1, uRng2, uSlX, uTest, uTru, uTup, uUn, uVar, uZip, vw_bl, vw_int, vw_lst, vw_non, vw_own, vw_str, vw_tup] $[$l]?)
theorem ok_need (F : Fun K "need_sign" "need_sign" s_need_sign f fd) (hm : mg "need_sign" = some (.ref f)) : Callee P w K mg base 1 "need_sign" spNeed [] := by
  refine callee_of F hm sc_need_sign (fun _ _ _ _ _ _ us hl => match us, hl with | [_, _, _], _ => rfl) (fun us M Q h => by obtain ⟨_, _, _, _, _, rfl, _⟩ := h; rfl) (uss_one (us_if (ut_c k_neX (ue_slX (own := false) (uv 0) (uo_some (uv 1)) (uo_some (ue_add (own := false) (uv 1) un_))) (uv 2))
  (uss_one us_raise)
  uss_nil)) ?_
  rintro us M Q ⟨z, y, i, r, c, rfl, hz, hd, rfl, q⟩
  refine if_gen fun A B hA hB => ?_
  simp! only [slc1 hd]
  refine ⟨small hz, ?_⟩
  subst hB
  simp! only [uNext]
  exact rt_same q
def MIDW : List (Str × Fl) := [("+", .str "sum"), ("-", .str "less"), ("*", .str "by")]
theorem midw (o : Op) : tabGet MIDW (tx [oc o]) = some (.str o.word) := by cases o <;> kernel_rfl
def spMid : USp := fun us M Q => ∃ (z : Str) (i : Nat) (r : List Nat) (o : Op), us = [.str z, .int (i : Int)] ∧ z.length ≤ 100000 ∧ z.cps.toList.drop i = 32 :: oc o :: 32 :: r ∧ Q (.str o.word) M
theorem sp_tx : Str.ofString " " = tx [32] := by decide +kernel
theorem ok_mid (F : Fun K "read_middle" "read_middle" s_read_middle f fd) (hm : mg "read_middle" = some (.ref f)) (T_MIDDLE_WORDS : IsTab P w K d MIDW) (g_MIDDLE_WORDS : mg "MIDDLE_WORDS" = some (.ref d)) (C_need_sign : Callee P w K mg base 1 "need_sign" spNeed []) : Callee P w K mg base 2 "read_middle" spMid [] := by
  refine callee_of F hm sc_read_middle (fun _ _ _ _ _ _ us hl => match us, hl with | [_, _], _ => rfl) (fun us M Q h => by obtain ⟨_, _, _, _, rfl, _⟩ := h; rfl) (uss_cons (us_expr (ue_call C_need_sign (ua_cons (uv 0) (ua_cons (uv 1) (ua_cons us_ ua_nil)))))
  (uss_cons (us_set 2 sc_read_middle.nd (ue_slX (own := false) (uv 0) (uo_some (ue_add (own := false) (uv 1) un_)) (uo_some (ue_add (own := false) (uv 1) un_))))
  (uss_cons (us_if (ut_c (k_notInTab T_MIDDLE_WORDS) (uv 2) (ug_ref g_MIDDLE_WORDS))
  (uss_one us_raise)
  uss_nil)
  (uss_cons (us_expr (ue_call C_need_sign (ua_cons (uv 0) (ua_cons (ue_add (own := false) (uv 1) un_) (ua_cons us_ ua_nil)))))
  (uss_one (us_ret (ue_dix T_MIDDLE_WORDS (ug_ref g_MIDDLE_WORDS) (uv 2)))))))) ?_
  rintro us M Q ⟨z, i, r, o, rfl, hz, hd, q⟩
  obtain ⟨_, _, hd1⟩ := drop_at hd
  obtain ⟨_, _, hd2⟩ := drop_at hd1
  refine seq_gen fun V1 hV1 => ?_
  simp! only [uDrop]
  refine ⟨z, _, i, _, 32, rfl, hz, hd, sp_tx, ?_⟩
  subst hV1
  refine seq_gen fun V2 hV2 => ?_
  have e1 : (i : Int) + 1 = ((i + 1 : Nat) : Int) := by omega
  have e2 : (i : Int) + 2 = ((i + 2 : Nat) : Int) := by omega
  have hs : Txt.slice z (some ((i : Int) + 1)) (some ((i : Int) + 2)) = tx [oc o] := slc (s := [oc o]) hd1 e1 (by simp; omega)
  simp! only [uAsg, hName, hs]
  refine ⟨small hz, ?_⟩
  subst hV2
  refine seq_gen fun V3 hV3 => ?_
  refine if_gen fun A B hA hB => ?_
  simp! only [midw]
  rw [if_neg (by simp)]
  subst hB
  simp only [uNext]
  subst hV3
  refine seq_gen fun V4 hV4 => ?_
  simp! only [uDrop, e2]
  refine ⟨z, _, i + 2, _, 32, rfl, hz, hd2, sp_tx, ?_⟩
  subst hV4
  simp! only [uRet, midw]
  exact rt_same q
theorem lp_tx : Str.ofString "(" = tx [40] := by decide +kernel
theorem rp_tx : Str.ofString ")" = tx [41] := by decide +kernel
theorem mn_tx : Str.ofString "-" = tx [45] := by decide +kernel
def OpnI (z : Str) (i0 : Nat) (t0 : Tr) (c0 : List Fm) (i : Nat) (t : Tr) (c : List Fm) : Prop := t.ok ∧ z.cps.toList.drop i = cT t ++ after c ∧ reb t c = reb t0 c0 ∧ c.length + t.dep ≤ 60 ∧ okF c ∧ i0 ≤ i
def spOpen : USp := fun us M Q => ∃ (z : Str) (i0 : Nat) (p : Addr) (t0 : Tr) (c0 : List Fm), us = [.str z, .int (i0 : Int), .ref p] ∧ z.length ≤ 100000 ∧ M p = some (.lst (stU c0)) ∧ t0.ok ∧ z.cps.toList.drop i0 = cT t0 ++ after c0 ∧ c0.length + t0.dep ≤ 60 ∧ okF c0 ∧ ∀ i t c, leafy t = true → OpnI z i0 t0 c0 i t c → Q (.int (i : Int)) (mup M p (.lst (stU c)))
set_option maxHeartbeats 2000000 in
theorem ok_open (F : Fun K "read_openings" "read_openings" s_read_openings f fd) (hm : mg "read_openings" = some (.ref f)) (C_need_sign : Callee P w K mg base 1 "need_sign" spNeed []) : Callee P w K mg base 2 "read_openings" spOpen [] := by
  refine callee_of F hm sc_read_openings (fun _ _ _ _ _ _ us hl => match us, hl with | [_, _, _], _ => rfl) (fun us M Q h => by obtain ⟨_, _, _, _, _, rfl, _⟩ := h; rfl) (uss_cons (us_set 3 sc_read_openings.nd (uv 1))
  (uss_cons (us_while (ut_c k_eqX (ue_slX (own := false) (uv 0) (uo_some (uv 3)) (uo_some (ue_add (own := false) (uv 3) un_))) us_)
  (uss_one (us_if (ut_c k_eqX (ue_slX (own := false) (uv 0) (uo_some (ue_add (own := false) (uv 3) un_)) (uo_some (ue_add (own := false) (uv 3) un_))) us_)
  (uss_cons (us_expr (ue_call C_need_sign (ua_cons (uv 0) (ua_cons (ue_add (own := false) (uv 3) un_) (ua_cons us_ ua_nil)))))
  (uss_cons (us_expr (ue_append (uv 2) (ua_cons (ue_lst (own := false) (ua_cons us_ ua_nil)) ua_nil)))
  (uss_one (us_set 3 sc_read_openings.nd (ue_add (own := false) (uv 3) un_)))))
  (uss_cons (us_expr (ue_append (uv 2) (ua_cons (ue_lst (own := false) (ua_cons us_ ua_nil)) ua_nil)))
  (uss_one (us_set 3 sc_read_openings.nd (ue_add (own := false) (uv 3) un_)))))))
  (uss_one (us_ret (uv 3))))) ?_
  rintro us M Q ⟨z, i0, p, t0, c0, rfl, hz, hM, ht0, hd0, hb0, hf0, q⟩
  have hL : z.cps.toList.length = z.length := by simp [Str.length]
  refine seq_gen fun V1 hV1 => ?_
  simp! only [uAsg, hName]
  subst hV1
  refine seq_gen fun V2 hV2 => ?_
  refine while_by (fun τ M' => ∃ (i : Nat) (t : Tr) (c : List Fm), τ = [some (.str z), some (.int (i0 : Int)), some (.ref p), some (.int (i : Int))] ∧ M' = mup M p (.lst (stU c)) ∧ OpnI z i0 t0 c0 i t c) (fun τ _ => match τ with | [_, _, _, some (.int i)] => z.length - i.toNat | _ => 0) ⟨i0, t0, c0, rfl, by rw [mup_id hM], ht0, hd0, rfl, hb0, hf0, Nat.le_refl _⟩ ?_
  rintro τ M' ⟨i, t, c, rfl, rfl, ht, hd, hr, hb, hf, hi⟩
  have e1 : (i : Int) + 1 = ((i + 1 : Nat) : Int) := by omega
  have e2 : (i : Int) + 2 = ((i + 2 : Nat) : Int) := by omega
  have e3 : (i : Int) + 3 = ((i + 3 : Nat) : Int) := by omega
  have hcl : c.length ≤ 60 := by omega
  obtain ⟨a, r, hcr, ha1, ha2⟩ := cT_first t ht
  rw [hcr] at hd
  obtain ⟨_, hil, hdr⟩ := drop_at (show z.cps.toList.drop i = a :: (r ++ after c) from hd)
  simp! only [slc1 (show z.cps.toList.drop i = a :: (r ++ after c) from hd), lp_tx, tx_inj, List.cons.injEq]
  refine ⟨small hz, ?_⟩
  cases t with
  | num n =>
    rw [if_neg (by simpa using ha2 rfl)]
    subst hV2
    simp! only [uRet]
    exact rt_own hM (q i _ c rfl ⟨ht, by rw [hcr]; exact hd, hr, hb, hf, hi⟩)
  | name x =>
    rw [if_neg (by simpa using ha2 rfl)]
    subst hV2
    simp! only [uRet]
    exact rt_own hM (q i _ c rfl ⟨ht, by rw [hcr]; exact hd, hr, hb, hf, hi⟩)
  | turn b =>
    rw [cT_turn] at hcr
    cases hcr
    rw [if_pos (by simp)]
    have g1 : z.cps.toList.drop (i + 1) = [45] ++ (32 :: (cT b ++ [41]) ++ after c) := hdr
    obtain ⟨_, hil1, g2⟩ := drop_at (show z.cps.toList.drop (i + 1) = 45 :: (32 :: (cT b ++ [41]) ++ after c) from g1)
    obtain ⟨_, hil2, g3⟩ := drop_at (show z.cps.toList.drop (i + 2) = 32 :: ((cT b ++ [41]) ++ after c) from g2)
    have hs : Txt.slice z (some ((i : Int) + 1)) (some ((i : Int) + 2)) = tx [45] := slc g1 e1 (by simp; omega)
    refine if_gen fun A B hA hB => ?_
    simp! only [hs, mn_tx]
    refine ⟨small hz, ?_⟩
    subst hA
    refine seq_gen fun V3 hV3 => ?_
    simp! only [uDrop, e2]
    refine ⟨z, _, i + 2, _, 32, rfl, hz, g2, sp_tx, ?_⟩
    subst hV3
    simp! only [uSeq, uDrop, uAsg, hName, e3, stU_len]
    simp only [dep] at hb
    have hb2 : c.length + b.dep + 1 ≤ 60 := by omega
    refine ⟨isL_own, big (by omega), ⟨i + 3, b, .t :: c, rfl, by rw [stU_cons]; rfl, ht, ?_, ?_, by simp only [List.length_cons]; omega, hf, by omega⟩, by rw [hL] at hil; omega⟩
    · rw [g3]; simp [after]
    · simp only [reb]; exact hr
  | two o b d =>
    rw [cT_two] at hcr
    cases hcr
    rw [if_pos (by simp)]
    obtain ⟨a', r', hcr', ha1', _⟩ := cT_first b ht.1
    have g1 : z.cps.toList.drop (i + 1) = cT b ++ (32 :: oc o :: 32 :: (cT d ++ 41 :: after c)) := by rw [hdr]; simp
    have hs : Txt.slice z (some ((i : Int) + 1)) (some ((i : Int) + 2)) = tx [a'] := slc (s := [a']) (by rw [g1, hcr']; rfl) e1 (by simp; omega)
    refine if_gen fun A B hA hB => ?_
    simp! only [hs, mn_tx, tx_inj, List.cons.injEq]
    refine ⟨small hz, ?_⟩
    rw [if_neg (by simpa using ha1')]
    subst hB
    simp! only [uSeq, uDrop, uAsg, hName, e1, stU_len]
    simp only [dep] at hb
    refine ⟨isL_own, big (by omega), ⟨i + 1, b, .l o d :: c, rfl, by rw [stU_cons]; rfl, ht.1, ?_, ?_, by simp only [List.length_cons]; omega, ⟨ht.2, by omega, hf⟩, by omega⟩, by rw [hL] at hil; omega⟩
    · rw [g1]; simp [after]
    · simp only [reb]; exact hr
def spBeh : USp := fun us M Q => ∃ (z : Str) (w0 : Tr) (i0 : Nat) (p : Addr) (c0 : List Fm), us = [.str z, w0.toU, .int (i0 : Int), .ref p] ∧ z.length ≤ 100000 ∧ M p = some (.lst (stU c0)) ∧ z.cps.toList.drop i0 = after c0 ∧ c0.length ≤ 60 ∧ okF c0 ∧ i0 ≤ z.length ∧
  Q (.tup [(reb w0 c0).toU, .int (z.length : Int)]) (mup M p (.lst [])) ∧
  ∀ (i : Nat) (b : Tr) (o : Op) (a : Tr) (c : List Fm), b.ok → z.cps.toList.drop i = cT b ++ after (.r o a :: c) → reb b (.r o a :: c) = reb w0 c0 → c.length + 1 + b.dep ≤ 60 → okF c → i0 < i → Q (.tup [.non, .int (i : Int)]) (mup M p (.lst (stU (.r o a :: c))))
theorem glast {α : Type} {l : List α} {a : α} : (l ++ [a]).getLast? = some a := by simp
theorem dlast {α : Type} {l : List α} {a : α} : (l ++ [a]).dropLast = l := by simp
set_option maxHeartbeats 2000000 in
theorem ok_beh (F : Fun K "read_behind" "read_behind" s_read_behind f fd) (hm : mg "read_behind" = some (.ref f)) (m_tuple : mg "tuple" = none) (C_need_sign : Callee P w K mg base 1 "need_sign" spNeed []) (C_read_middle : Callee P w K mg base 2 "read_middle" spMid []) : Callee P w K mg base 3 "read_behind" spBeh [] := by
  refine callee_of F hm sc_read_behind (fun _ _ _ _ _ _ us hl => match us, hl with | [_, _, _, _], _ => rfl) (fun us M Q h => by obtain ⟨_, _, _, _, _, rfl, _⟩ := h; rfl) (uss_cons (us_set 4 sc_read_behind.nd (uv 1))
  (uss_cons (us_set 5 sc_read_behind.nd (uv 2))
  (uss_cons (us_while (ut_val (uv 3))
  (uss_cons (us_set 6 sc_read_behind.nd (ue_pop (uv 3)))
  (uss_cons (us_if (ut_c k_eqX (ue_ix (uv 6) un_) us_)
  (uss_cons (us_expr (ue_append (uv 3) (ua_cons (ue_lst (own := false) (ua_cons (ue_call C_read_middle (ua_cons (uv 0) (ua_cons (uv 5) ua_nil))) (ua_cons (uv 4) ua_nil))) ua_nil)))
  (uss_one (us_ret (ue_tup (ua_cons uo_ (ua_cons (ue_add (own := false) (uv 5) un_) ua_nil))))))
  uss_nil)
  (uss_cons (us_expr (ue_call C_need_sign (ua_cons (uv 0) (ua_cons (uv 5) (ua_cons us_ ua_nil)))))
  (uss_cons (us_set 4 sc_read_behind.nd (ue_t b_tuple m_tuple (ua_cons (ue_add (own := false) (uv 6) (ue_lst (own := false) (ua_cons (uv 4) ua_nil))) ua_nil)))
  (uss_one (us_set 5 sc_read_behind.nd (ue_add (own := false) (uv 5) un_))))))))
  (uss_one (us_ret (ue_tup (ua_cons (uv 4) (ua_cons (uv 5) ua_nil)))))))) ?_
  rintro us M Q ⟨z, w0, i0, p, c0, rfl, hz, hM, hd0, hb0, hf0, hi0, q1, q2⟩
  have hL : z.cps.toList.length = z.length := by simp [Str.length]
  refine seq_gen fun V1 hV1 => ?_
  simp! only [uAsg, hName]
  subst hV1
  refine seq_gen fun V2 hV2 => ?_
  simp! only [uAsg, hName]
  subst hV2
  refine seq_gen fun V3 hV3 => ?_
  refine while_by (fun τ M' => ∃ (i : Nat) (t : Tr) (c : List Fm) (e : Option U), τ = [some (.str z), some w0.toU, some (.int (i0 : Int)), some (.ref p), some t.toU, some (.int (i : Int)), e] ∧ M' = mup M p (.lst (stU c)) ∧ z.cps.toList.drop i = after c ∧ reb t c = reb w0 c0 ∧ c.length ≤ 60 ∧ okF c ∧ i0 ≤ i ∧ i ≤ z.length) (fun _ M' => match M' p with | some (.lst us) => us.length | _ => 0) ⟨i0, w0, c0, none, rfl, by rw [mup_id hM], hd0, rfl, hb0, hf0, Nat.le_refl _, hi0⟩ ?_
  rintro τ M' ⟨i, t, c, e, rfl, rfl, hd, hr, hb, hf, hi, hil⟩
  have e1 : (i : Int) + 1 = ((i + 1 : Nat) : Int) := by omega
  have e3 : (i : Int) + 3 = ((i + 3 : Nat) : Int) := by omega
  cases c with
  | nil =>
    have hi2 : i = z.length := by
      have := congrArg List.length hd
      rw [List.length_drop, hL] at this
      simp [after] at this
      omega
    simp! only [stU, List.reverse_nil, List.isEmpty_nil]
    subst hV3
    simp! only [uRet]
    subst hi2
    simp only [reb] at hr
    rw [← hr] at q1
    exact rt_same q1
  | cons fm c =>
    have hne : (stU (fm :: c)).isEmpty = false := by rw [stU_cons]; simp
    simp! only [hne]
    refine seq_gen fun V4 hV4 => ?_
    simp! only [uAsg, hName, stU_cons, glast, dlast]
    refine ⟨isL_own, ?_⟩
    subst hV4
    refine seq_gen fun V5 hV5 => ?_
    refine if_gen fun A B hA hB => ?_
    cases fm with
    | l o b =>
      obtain ⟨k1, k2, k3⟩ := hf
      simp! only [frU]
      subst hA
      have hmid : z.cps.toList.drop i = 32 :: oc o :: 32 :: (cT b ++ 41 :: after c) := hd
      obtain ⟨_, m1, d1⟩ := drop_at hmid
      obtain ⟨_, m2, d2⟩ := drop_at d1
      obtain ⟨_, m3, d3⟩ := drop_at d2
      simp! only [uSeq, uDrop]
      refine ⟨isL_own, z, i, _, o, rfl, hz, hmid, ?_⟩
      simp! only [uRet, e3, stU_len]
      have q3 := q2 (i + 3) b o t c k1 (by rw [d3]; rfl) (by rw [← hr]; rfl) k2 k3 (by omega)
      rw [stU_cons] at q3
      exact ⟨big (by simp only [List.length_cons] at hb; omega), rt_same q3⟩
    | t =>
      simp! only [frU, show decide (Str.ofString "turn" = Str.ofString "") = false by decide +kernel]
      subst hB
      simp only [uNext]
      subst hV5
      refine seq_gen fun V6 hV6 => ?_
      simp! only [uDrop]
      refine ⟨z, _, i, after c, 41, rfl, hz, hd, rp_tx, ?_⟩
      obtain ⟨_, hil2, hd2⟩ := drop_at hd
      subst hV6
      simp! only [uSeq, uAsg, hName, e1, frU]
      simp only [List.length_cons] at hb
      refine ⟨⟨i + 1, turn t, c, _, rfl, rfl, hd2, hr, by omega, hf, by omega, by rw [hL] at hil2; omega⟩, by rw [stU_len, stU_len]; simp⟩
    | r o a =>
      have hw : decide (o.word = Str.ofString "") = false := by cases o <;> decide +kernel
      simp! only [frU, hw]
      subst hB
      simp only [uNext]
      subst hV5
      refine seq_gen fun V6 hV6 => ?_
      simp! only [uDrop]
      refine ⟨z, _, i, after c, 41, rfl, hz, hd, rp_tx, ?_⟩
      obtain ⟨_, hil2, hd2⟩ := drop_at hd
      subst hV6
      simp! only [uSeq, uAsg, hName, e1, frU]
      simp only [List.length_cons] at hb
      refine ⟨⟨i + 1, two o a t, c, _, rfl, rfl, hd2, hr, by omega, hf, by omega, by rw [hL] at hil2; omega⟩, by rw [stU_len, stU_len]; simp⟩
end
end K08
namespace K08
open PySem L2 U2
open Tr
section
variable {P : Program} {w : World} {K : PySem.W.Frag} {mg : Str → Option Value} {base : Heap} {f d d2 fl : Addr} {fd : FuncData}
def LET : Str := "abcdefghijklmnopqrstuvwxyz"
def FIG : Str := "0123456789"
theorem mem_let (c : Nat) : decide (c ∈ LET.cps.toList) = decide (97 ≤ c ∧ c ≤ 122) := by
  have : LET.cps.toList = [97, 98, 99, 100, 101, 102, 103, 104, 105, 106, 107, 108, 109, 110, 111, 112, 113, 114, 115, 116, 117, 118, 119, 120, 121, 122] := by decide +kernel
  rw [this]
  refine decide_eq_decide.mpr ?_
  simp only [List.mem_cons, List.not_mem_nil, or_false]
  omega
theorem mem_fig (c : Nat) : decide (c ∈ FIG.cps.toList) = decide (48 ≤ c ∧ c ≤ 57) := by
  have : FIG.cps.toList = [48, 49, 50, 51, 52, 53, 54, 55, 56, 57] := by decide +kernel
  rw [this]
  refine decide_eq_decide.mpr ?_
  simp only [List.mem_cons, List.not_mem_nil, or_false]
  omega
theorem in_let (c : Nat) : (!(Builtin.Str.occurrences LET ⟨#[c]⟩ 0 LET.length 1).isEmpty) = decide (97 ≤ c ∧ c ≤ 122) := by rw [PySem.StrLaws.found_one, mem_let]
theorem in_fig (c : Nat) : (!(Builtin.Str.occurrences FIG ⟨#[c]⟩ 0 FIG.length 1).isEmpty) = decide (48 ≤ c ∧ c ≤ 57) := by rw [PySem.StrLaws.found_one, mem_fig]
theorem find_fig {c : Nat} (h : 48 ≤ c ∧ c ≤ 57) : findF FIG ⟨#[c]⟩ = ((c - 48 : Nat) : Int) := by
  have : ∀ k : Fin 10, findF FIG ⟨#[48 + k.val]⟩ = (k.val : Int) := by decide +kernel
  have := this ⟨c - 48, by omega⟩
  simp only at this
  rw [show 48 + (c - 48) = c by omega] at this
  exact this
def spEnd : USp := fun us M Q => ∃ (z : Str) (i : Nat) (w R : List Nat), us = [.str z, .int (i : Int)] ∧ z.length ≤ 100000 ∧ z.cps.toList.drop i = w ++ R ∧ (∀ c ∈ w, 97 ≤ c ∧ c ≤ 122) ∧ w.length ≤ 8 ∧ (∀ c r, R = c :: r → ¬ (97 ≤ c ∧ c ≤ 122)) ∧ Q (.int ((i + w.length : Nat) : Int)) M
theorem atI_of {L : List Nat} {i c : Nat} (h : L[i]? = some c) : atI L (i : Int) = some c := by
  have hl := (List.getElem?_eq_some_iff.mp h).1
  unfold atI ixN
  rw [if_pos (by omega), if_pos (by omega)]
  simpa using h
local macro_rules | `(tactic| simp! only [$xs,*] $[$l]?) => `(tactic| simp only [$xs,*, Bool.false_eq_true, Bool.not_false, Bool.not_true, List.append_nil, List.cons_append, List.getElem?_cons_succ, List.getElem?_cons_zero, List.length_cons, List.length_nil, List.map_cons, List.map_nil, List.nil_append, List.replicate, List.set_cons_succ, List.set_cons_zero, Nat.add_sub_cancel, Nat.reduceAdd, Nat.reduceLeDiff, Nat.reduceSub, Nat.sub_self, Option.getD_some, Option.some.injEq, and_true, at0, at1, at2, at3, bAll, bInt, bInt1, bInt2, bIsi2, bLen, bList, bMax, bSum, bTuple, cGe, cGt, cLe, cLt, capt, decide_false, decide_true, eqX_int, eqX_str, exists_eq_left', if_false, if_true, inSt, inTab, isNon, isi_NoneType_bool, isi_NoneType_dict, isi_NoneType_int, isi_NoneType_list, isi_NoneType_str, isi_NoneType_tuple, isi_bool_bool, isi_bool_dict, isi_bool_int, isi_bool_list, isi_bool_str, isi_bool_tuple, isi_dict_bool, isi_dict_dict, isi_dict_int, isi_dict_list, isi_dict_str, isi_dict_tuple, isi_int_bool, isi_int_dict, isi_int_int, isi_int_list, isi_int_str, isi_int_tuple, isi_list_bool, isi_list_dict, isi_list_int, isi_list_list, isi_list_str, isi_list_tuple, isi_str_bool, isi_str_dict, isi_str_int, isi_str_list, isi_str_str, isi_str_tuple, isi_tuple_bool, isi_tuple_dict, isi_tuple_int, isi_tuple_list, isi_tuple_str, isi_tuple_tuple, items, ixTab, mAppend, mClear, mExtend, mPop, mPopAt, mkL, mup_mup, mup_same, reduceCtorEq, startU, szl, true_and, typU, uAdd, uAddL, uAnd, uAndV, uBM, uBM0, uC, uCB, uCall, uCallV, uChain, uCons, uEnum, uEnumL, uEqS, uI, uI0, uIf, uIn, uIsN, uIter, uIx, uLst, uLtX, uMul, uNeS, uNil, uNoPart, uNot, uNotN, uNotV, uOp, uOr, uOrV, uPart, uRng1, uRng2, uSlX, uTest, uTru, uTup, uUn, uVar, uZip, vw_bl, vw_int, vw_lst, vw_non, vw_own, vw_str, vw_tup] $[$l]?)
set_option maxHeartbeats 2000000 in
theorem ok_end {t1 t2 : Tok} (F : Fun K "end_of_name" "end_of_name" s_end_of_name f fd) (hm : mg "end_of_name" = some (.ref f)) (m_len : mg "len" = none) (g_LONGEST_NAME : mg "LONGEST_NAME" = some (.int 8 t1)) (g_LETTERS : mg "LETTERS" = some (.str LET t2)) : Callee P w K mg base 1 "end_of_name" spEnd [] := by
  refine callee_of F hm sc_end_of_name (fun _ _ _ _ _ _ us hl => match us, hl with | [_, _], _ => rfl) (fun us M Q h => by obtain ⟨_, _, _, _, rfl, _⟩ := h; rfl) (uss_cons (us_set 2 sc_end_of_name.nd (uv 1))
  (uss_cons (us_while (PWU.pt (uw_and (ut_c k_ltX (uv 2) (ue_b b_len m_len (ua_cons (uv 0) ua_nil))) (uw_and (ut_c k_ltX (uv 2) (ue_add (own := false) (uv 1) (ug_int g_LONGEST_NAME))) (uw_and1 (ut_c k_inS (ue_ix (uv 0) (uv 2)) (ug_str g_LETTERS))))))
  (uss_one (us_set 2 sc_end_of_name.nd (ue_add (own := false) (uv 2) un_))))
  (uss_one (us_ret (uv 2))))) ?_
  rintro us M Q ⟨z, i, w, R, rfl, hz, hd, hw, hw8, hR, q⟩
  have hL : z.cps.toList.length = z.length := by simp [Str.length]
  refine seq_gen fun V1 hV1 => ?_
  simp! only [uAsg, hName]
  subst hV1
  refine seq_gen fun V2 hV2 => ?_
  refine while_by (fun τ M' => ∃ k : Nat, τ = [some (.str z), some (.int (i : Int)), some (.int ((i + k : Nat) : Int))] ∧ M' = M ∧ k ≤ w.length) (fun τ _ => match τ with | [_, _, some (.int e)] => i + w.length - e.toNat | _ => 0) ⟨0, rfl, rfl, Nat.zero_le _⟩ ?_
  rintro τ M' ⟨k, rfl, rfl, hk⟩
  have hdk : z.cps.toList.drop (i + k) = w.drop k ++ R := by rw [← List.drop_drop, hd, List.drop_append_of_le_length hk]
  by_cases hk2 : k < w.length
  · have hwk : w.drop k = w[k] :: w.drop (k + 1) := List.drop_eq_getElem_cons hk2
    rw [hwk] at hdk
    obtain ⟨a1, a2, a3⟩ := drop_at (show z.cps.toList.drop (i + k) = w[k] :: (w.drop (k + 1) ++ R) from hdk)
    have hc := hw w[k] (List.getElem_mem hk2)
    simp! only [true_and]
    refine ⟨small hz, ?_⟩
    rw [if_pos (decide_eq_true (by rw [hL] at a2; omega)), if_pos (decide_eq_true (by omega))]
    refine ⟨small hz, _, atI_of a1, ?_⟩
    rw [in_let, if_pos (decide_eq_true hc)]
    simp! only [uAsg, hName]
    exact ⟨⟨k + 1, by rw [show (((i + k : Nat) : Int) + 1) = ((i + (k + 1) : Nat) : Int) by omega], hk2⟩, by omega⟩
  · have hk3 : k = w.length := by omega
    subst hk3
    rw [List.drop_length, List.nil_append] at hdk
    simp! only [true_and]
    refine ⟨small hz, ?_⟩
    have fin : V2 [some (U.str z), some (U.int (i : Int)), some (U.int ((i + w.length : Nat) : Int))] M' := by
      subst hV2
      simp! only [uRet]
      exact rt_same q
    refine ite2 (fun b1 => ite2 (fun b2 => ?_) (fun _ => fin)) (fun _ => fin)
    refine ⟨small hz, ?_⟩
    cases R with
    | nil =>
      have := congrArg List.length hdk
      rw [List.length_drop, hL] at this
      have b1' := of_decide_eq_true b1
      simp at this
      omega
    | cons c r =>
      obtain ⟨a1, a2, a3⟩ := drop_at hdk
      refine ⟨c, atI_of a1, ?_⟩
      rw [in_let, if_neg (fun z => hR c r rfl (of_decide_eq_true z))]
      exact fin
theorem bits60 {v : Int} (h1 : -1000000000000000000 ≤ v) (h2 : v ≤ 1000000000000000000) : Builtin.Int.intBits v ≤ 60 := PySem.intBits_le_iff.mpr (by omega)
theorem mulB {i j : Int} (h1 : -1000000000000000000 ≤ i) (h2 : i ≤ 1000000000000000000) (h3 : -1000000000000000000 ≤ j) (h4 : j ≤ 1000000000000000000) : CMulB i j := .inr ⟨Nat.le_trans (bits60 h1 h2) (by decide), Nat.le_trans (bits60 h3 h4) (by decide)⟩
def spNum : USp := fun us M Q => ∃ (z : Str) (i n : Nat) (R : List Nat), us = [.str z, .int (i : Int)] ∧ z.length ≤ 100000 ∧ z.cps.toList.drop i = dig n ++ R ∧ n ≤ 1000000000000000000 ∧ (∀ c r, R = c :: r → ¬ (48 ≤ c ∧ c ≤ 57)) ∧ Q (.tup [.int (n : Int), .int ((i + (dig n).length : Nat) : Int)]) M
set_option maxHeartbeats 2000000 in
theorem ok_num {t1 t2 : Tok} (F : Fun K "read_number" "read_number" s_read_number f fd) (hm : mg "read_number" = some (.ref f)) (m_len : mg "len" = none) (g_GREATEST : mg "GREATEST" = some (.int 1000000000000000000 t1)) (g_FIGURES : mg "FIGURES" = some (.str FIG t2)) : Callee P w K mg base 1 "read_number" spNum [] := by
  refine callee_of F hm sc_read_number (fun _ _ _ _ _ _ us hl => match us, hl with | [_, _], _ => rfl) (fun us M Q h => by obtain ⟨_, _, _, _, rfl, _⟩ := h; rfl) (uss_cons (us_set 2 sc_read_number.nd un_)
  (uss_cons (us_set 3 sc_read_number.nd (uv 1))
  (uss_cons (us_while (PWU.pt (uw_and (ut_c k_ltX (uv 3) (ue_b b_len m_len (ua_cons (uv 0) ua_nil))) (uw_and1 (ut_c k_inS (ue_ix (uv 0) (uv 3)) (ug_str g_FIGURES)))))
  (uss_cons (us_set 4 sc_read_number.nd (ue_add (own := false) (ue_mulX (own := false) (uv 2) un_) (ue_find (ug_str g_FIGURES) (ua_cons (ue_ix (uv 0) (uv 3)) ua_nil))))
  (uss_cons (us_if (PWU.pt (uw_or (ut_c k_gt (uv 4) (ug_int g_GREATEST)) (uw_or1 (PWU.pt (uw_and (ut_c k_eqX (uv 2) un_) (uw_and1 (ut_c k_gt (uv 3) (uv 1))))))))
  (uss_one us_break)
  uss_nil)
  (uss_cons (us_set 2 sc_read_number.nd (uv 4))
  (uss_one (us_set 3 sc_read_number.nd (ue_add (own := false) (uv 3) un_)))))))
  (uss_cons (us_if (ut_c k_eqX (uv 3) (uv 1))
  (uss_one us_raise)
  uss_nil)
  (uss_one (us_ret (ue_tup (ua_cons (uv 2) (ua_cons (uv 3) ua_nil))))))))) ?_
  rintro us M Q ⟨z, i, n, R, rfl, hz, hd, hn, hR, q⟩
  have hL : z.cps.toList.length = z.length := by simp [Str.length]
  have hp := dig_pos n
  refine seq_gen fun V1 hV1 => ?_
  simp! only [uAsg, hName]
  subst hV1
  refine seq_gen fun V2 hV2 => ?_
  simp! only [uAsg, hName]
  subst hV2
  refine seq_gen fun V3 hV3 => ?_
  refine while_by (fun τ M' => ∃ (k : Nat) (e : Option U), τ = [some (.str z), some (.int (i : Int)), some (.int ((val ((dig n).take k) : Nat) : Int)), some (.int ((i + k : Nat) : Int)), e] ∧ M' = M ∧ k ≤ (dig n).length) (fun τ _ => match τ with | [_, _, _, some (.int e), _] => i + (dig n).length - e.toNat | _ => 0) ⟨0, none, rfl, rfl, Nat.zero_le _⟩ ?_
  rintro τ M' ⟨k, e, rfl, rfl, hk⟩
  have hdk : z.cps.toList.drop (i + k) = (dig n).drop k ++ R := by rw [← List.drop_drop, hd, List.drop_append_of_le_length hk]
  by_cases hk2 : k < (dig n).length
  · have hwk : (dig n).drop k = (dig n)[k] :: (dig n).drop (k + 1) := List.drop_eq_getElem_cons hk2
    rw [hwk] at hdk
    obtain ⟨a1, a2, a3⟩ := drop_at (show z.cps.toList.drop (i + k) = (dig n)[k] :: ((dig n).drop (k + 1) ++ R) from hdk)
    have hc := dig_fig n (dig n)[k] (List.getElem_mem hk2)
    have htk : (dig n).take (k + 1) = (dig n).take k ++ [(dig n)[k]] := by rw [List.take_add_one, List.getElem?_eq_getElem hk2]; rfl
    have hv1 := dig_val n (k + 1) hk2
    have hv0 := dig_val n k hk
    have hvk := hv1
    rw [htk, val_snoc] at hv1
    have hle : n / 10 ^ ((dig n).length - (k + 1)) ≤ n := Nat.div_le_self _ _
    have hbig : k = 0 ∨ 1 ≤ val ((dig n).take k) := by
      by_cases k0 : k = 0
      · exact .inl k0
      · right
        have h1 : 1 ≤ n := by
          rcases Nat.eq_zero_or_pos n with z0 | z0
          · subst z0
            have : (dig 0).length = 1 := by rw [dig]; simp
            omega
          · exact z0
        have h2 := dig_ge n h1
        rw [hv0]
        refine (Nat.le_div_iff_mul_le (Nat.pow_pos (by decide))).mpr ?_
        rw [Nat.one_mul]
        exact Nat.le_trans (Nat.pow_le_pow_right (by decide) (by omega)) h2
    simp! only [true_and]
    refine ⟨small hz, ?_⟩
    rw [if_pos (decide_eq_true (by rw [hL] at a2; omega))]
    refine ⟨small hz, _, atI_of a1, ?_⟩
    rw [in_fig, if_pos (decide_eq_true hc)]
    generalize val ((dig n).take k) = v at hv1 hv0 hbig
    refine seq_gen fun V4 hV4 => ?_
    simp! only [uAsg, hName, uBMT, mFind, isTx]
    have hvn : v ≤ n := by rw [hv0]; exact Nat.div_le_self _ _
    refine ⟨mulB (by omega) (by omega) (by decide) (by decide), ⟨_, rfl⟩, small hz, _, atI_of a1, ?_⟩
    rw [find_fig hc]
    have ev : ((v : Int) * 10 + (((dig n)[k] - 48 : Nat) : Int)) = ((v * 10 + ((dig n)[k] - 48) : Nat) : Int) := by omega
    rw [ev, hv1]
    subst hV4
    refine seq_gen fun V5 hV5 => ?_
    refine if_gen fun A B hA hB => ?_
    simp! only [true_and]
    have hB' : B M' := by
      subst hB
      simp only [uNext]
      subst hV5
      simp! only [uSeq, uAsg, hName]
      exact ⟨⟨k + 1, some (.int ((n / 10 ^ ((dig n).length - (k + 1)) : Nat) : Int)), by rw [hvk, show (((i + k : Nat) : Int) + 1) = ((i + (k + 1) : Nat) : Int) by omega], hk2⟩, by omega⟩
    refine ite2 (fun b1 => ?_) (fun b1 => ite2 (fun b2 => ite2 (fun b3 => ?_) (fun _ => hB')) (fun _ => hB'))
    · have := of_decide_eq_true b1
      omega
    · have h2 := of_decide_eq_true b2
      have h3 := of_decide_eq_true b3
      rcases hbig with h | h <;> omega
  · have hk3 : k = (dig n).length := by omega
    subst hk3
    rw [List.drop_length, List.nil_append] at hdk
    have hvn := dig_val n (dig n).length (Nat.le_refl _)
    rw [Nat.sub_self, Nat.pow_zero, Nat.div_one] at hvn
    rw [hvn]
    simp! only [true_and]
    refine ⟨small hz, ?_⟩
    have fin : V3 [some (U.str z), some (U.int (i : Int)), some (U.int (n : Int)), some (U.int ((i + (dig n).length : Nat) : Int)), e] M' := by
      subst hV3
      refine seq_gen fun V6 hV6 => ?_
      refine if_gen fun A B hA hB => ?_
      simp! only [true_and]
      rw [if_neg (fun z => by have := of_decide_eq_true z; omega)]
      subst hB
      simp only [uNext]
      subst hV6
      simp! only [uRet]
      exact rt_same q
    refine ite2 (fun b1 => ?_) (fun _ => fin)
    refine ⟨small hz, ?_⟩
    cases R with
    | nil =>
      have := congrArg List.length hdk
      rw [List.length_drop, hL] at this
      have b1' := of_decide_eq_true b1
      simp at this
      omega
    | cons c r =>
      obtain ⟨a1, a2, a3⟩ := drop_at hdk
      refine ⟨c, atI_of a1, ?_⟩
      rw [in_fig, if_neg (fun z => hR c r rfl (of_decide_eq_true z))]
      exact fin
def spRLeaf : USp := fun us M Q => ∃ (z : Str) (i : Nat) (t : Tr) (R : List Nat), us = [.str z, .int (i : Int)] ∧ z.length ≤ 100000 ∧ t.ok ∧ leafy t = true ∧ z.cps.toList.drop i = cT t ++ R ∧ endR R ∧ Q (.tup [t.toU, .int ((i + (cT t).length : Nat) : Int)]) M
theorem ok_rleaf (F : Fun K "read_leaf" "read_leaf" s_read_leaf f fd) (C_end_of_name : Callee P w K mg base 1 "end_of_name" spEnd []) (C_read_number : Callee P w K mg base 1 "read_number" spNum []) : CalleeAt P w K mg base 2 f spRLeaf := by
  refine ⟨fd, ["text", "at"], ?_, F.kp, F.binds (fun _ _ _ _ _ _ us hl => match us, hl with | [_, _], _ => rfl)⟩
  refine fnok_of F sc_read_leaf (fun us M Q h => by obtain ⟨_, _, _, _, rfl, _⟩ := h; rfl) (uss_cons (us_set 2 sc_read_leaf.nd (ue_call C_end_of_name (ua_cons (uv 0) (ua_cons (uv 1) ua_nil))))
  (uss_cons (us_if (ut_c k_gt (uv 2) (uv 1))
  (uss_one (us_ret (ue_tup (ua_cons (ue_tup (ua_cons us_ (ua_cons (ue_slX (own := false) (uv 0) (uo_some (uv 1)) (uo_some (uv 2))) ua_nil))) (ua_cons (uv 2) ua_nil)))))
  uss_nil)
  (uss_cons (us_set 3 sc_read_leaf.nd (ue_call C_read_number (ua_cons (uv 0) (ua_cons (uv 1) ua_nil))))
  (uss_one (us_ret (ue_tup (ua_cons (ue_tup (ua_cons us_ (ua_cons (ue_ix (uv 3) un_) ua_nil))) (ua_cons (ue_ix (uv 3) un_) ua_nil)))))))) ?_
  rintro us M Q ⟨z, i, t, R, rfl, hz, hok, hlf, hd, hR, q⟩
  refine seq_gen fun V1 hV1 => ?_
  simp! only [uAsg, hName]
  cases t with
  | turn a => cases hlf
  | two o a b => cases hlf
  | name x =>
    have hcx : cT (name x) = x.cps.toList := rfl
    have hl : x.cps.toList.length = x.length := by simp [Str.length]
    rw [hcx] at hd q
    refine ⟨z, i, x.cps.toList, R, rfl, hz, hd, hok.2.2, by rw [hl]; exact hok.1, fun c r e => ?_, ?_⟩
    · have := hR c r e; omega
    subst hV1
    refine seq_gen fun V2 hV2 => ?_
    refine if_gen fun A B hA hB => ?_
    simp! only [true_and]
    have := hok.2.1
    rw [if_pos (decide_eq_true (by omega))]
    subst hA
    have hs : Txt.slice z (some (i : Int)) (some ((i + x.cps.toList.length : Nat) : Int)) = x := by
      rw [slc hd rfl rfl (by omega), tx_of]
    simp! only [uRet, hs]
    exact ⟨small hz, rt_same q⟩
  | num n =>
    have hcx : cT (num n) = dig n.toNat := num_ch hok.1
    rw [hcx] at hd q
    have hok2 := hok.2
    have hok1 := hok.1
    have h18 : (10 : Int) ^ 18 = 1000000000000000000 := by decide
    have hfirst : ∀ c r, dig n.toNat ++ R = c :: r → ¬ (97 ≤ c ∧ c ≤ 122) := fun c r e => by
      cases hdg : dig n.toNat with
      | nil => have := dig_pos n.toNat; rw [hdg] at this; simp at this
      | cons c' r' =>
        rw [hdg] at e
        cases e
        have := dig_fig n.toNat c (by rw [hdg]; exact List.mem_cons_self)
        omega
    refine ⟨z, i, [], dig n.toNat ++ R, rfl, hz, hd, (fun c hc => by cases hc), by decide, hfirst, ?_⟩
    subst hV1
    refine seq_gen fun V2 hV2 => ?_
    refine if_gen fun A B hA hB => ?_
    simp! only [Nat.add_zero]
    rw [if_neg (fun z => by have := of_decide_eq_true z; omega)]
    subst hB
    simp only [uNext]
    subst hV2
    refine seq_gen fun V3 hV3 => ?_
    simp! only [uAsg, hName]
    refine ⟨z, i, n.toNat, R, rfl, hz, hd, by omega, fun c r e => ?_, ?_⟩
    · have := hR c r e; omega
    subst hV3
    simp! only [uRet]
    have hn : ((n.toNat : Nat) : Int) = n := by omega
    rw [hn]
    exact rt_same q
end
end K08
namespace K08
open PySem L2 U2
open Tr
section
variable {P : Program} {w : World} {K : PySem.W.Frag} {mg : Str → Option Value} {base : Heap} {f d d2 fl : Addr} {fd : FuncData}
theorem cT_pos {t : Tr} (h : t.ok) : 1 ≤ (cT t).length := by
  obtain ⟨c, r, e, _⟩ := cT_first t h
  rw [e]; simp
def spRShape (fl : Addr) : USp := fun us M Q => ∃ T : Tr, us = [.str T.sh, .ref fl] ∧ T.ok ∧ T.size ≤ 1000 ∧ T.dep ≤ 60 ∧ Q T.toU M
local macro_rules | `(tactic| simp! only [$xs,*] $[$l]?) => `(tactic| simp only [$xs,*, Bool.false_eq_true, Bool.not_false, Bool.not_true, List.append_nil, List.cons_append, List.getElem?_cons_succ, List.getElem?_cons_zero, List.length_cons, List.length_nil, List.map_cons, List.map_nil, List.nil_append, List.replicate, List.set_cons_succ, List.set_cons_zero, Nat.add_sub_cancel, Nat.reduceAdd, Nat.reduceLeDiff, Nat.reduceSub, Nat.sub_self, Option.getD_some, Option.some.injEq, and_true, at0, at1, at2, at3, bAll, bInt, bInt1, bInt2, bIsi2, bLen, bList, bMax, bSum, bTuple, cGe, cGt, cLe, cLt, capt, decide_false, decide_true, eqX_int, eqX_str, exists_eq_left', if_false, if_true, inSt, inTab, isNon, isi_NoneType_bool, isi_NoneType_dict, isi_NoneType_int, isi_NoneType_list, isi_NoneType_str, isi_NoneType_tuple, isi_bool_bool, isi_bool_dict, isi_bool_int, isi_bool_list, isi_bool_str, isi_bool_tuple, isi_dict_bool, isi_dict_dict, isi_dict_int, isi_dict_list, isi_dict_str, isi_dict_tuple, isi_int_bool, isi_int_dict, isi_int_int, isi_int_list, isi_int_str, isi_int_tuple, isi_list_bool, isi_list_dict, isi_list_int, isi_list_list, isi_list_str, isi_list_tuple, isi_str_bool, isi_str_dict, isi_str_int, isi_str_list, isi_str_str, isi_str_tuple, isi_tuple_bool, isi_tuple_dict, isi_tuple_int, isi_tuple_list, isi_tuple_str, isi_tuple_tuple, items, ixTab, mAppend, mClear, mExtend, mPop, mPopAt, mkL, mup_mup, mup_same, reduceCtorEq, startU, szl, true_and, typU, uAdd, uAddL, uAnd, uAndV, uBM, uBM0, uC, uCB, uCall, uCallV, uChain, uCons, uEnum, uEnumL, uEqS, uI, uI0, uIf, uIn, uIsN, uIter, uIx, uLst, uLtX, uMul, uNeS, uNil, uNoPart, uNot, uNotN, uNotV, uOp, uOr, uOrV, uPart, uRng1, uRng2, uSlX, uTest, uTru, uTup, uUn, uVar, uZip, vw_bl, vw_int, vw_lst, vw_non, vw_own, vw_str, vw_tup] $[$l]?)
local macro_rules | `(tactic| simp_all! only [$xs,*]) => `(tactic| simp only [$xs,*, Bool.false_eq_true, Bool.not_false, Bool.not_true, List.append_nil, List.cons_append, List.getElem?_cons_succ, List.getElem?_cons_zero, List.length_cons, List.length_nil, List.map_cons, List.map_nil, List.nil_append, List.replicate, List.set_cons_succ, List.set_cons_zero, Nat.add_sub_cancel, Nat.reduceAdd, Nat.reduceSub, Nat.sub_self, Option.some.injEq, and_true, at0, at1, at2, at3, bAll, bInt1, bInt2, bIsi2, bLen, bList, bMax, bSum, bTuple, cGe, cGt, cLe, cLt, capt, decide_false, decide_true, exists_eq_left', if_false, if_true, inSt, isi_NoneType_bool, isi_NoneType_dict, isi_NoneType_int, isi_NoneType_list, isi_NoneType_str, isi_NoneType_tuple, isi_bool_bool, isi_bool_dict, isi_bool_int, isi_bool_list, isi_bool_str, isi_bool_tuple, isi_dict_bool, isi_dict_dict, isi_dict_int, isi_dict_list, isi_dict_str, isi_dict_tuple, isi_int_bool, isi_int_dict, isi_int_int, isi_int_list, isi_int_str, isi_int_tuple, isi_list_bool, isi_list_dict, isi_list_int, isi_list_list, isi_list_str, isi_list_tuple, isi_str_bool, isi_str_dict, isi_str_int, isi_str_list, isi_str_str, isi_str_tuple, isi_tuple_bool, isi_tuple_dict, isi_tuple_int, isi_tuple_list, isi_tuple_str, isi_tuple_tuple, items, mAppend, mClear, mExtend, mPop, mkL, mup_mup, mup_same, reduceCtorEq, startU, true_and, typU, uAdd, uAddL, uAnd, uBM, uBM0, uC, uCB, uCall, uCallV, uChain, uCons, uEnum, uEqS, uI, uI0, uIf, uIn, uIsN, uIter, uIx, uLst, uLtX, uNeS, uNil, uNoPart, uNot, uNotN, uNotV, uOp, uOr, uOrV, uPart, uRng1, uRng2, uSlX, uTest, uTru, uTup, uUn, uVar, uZip, vw_bl, vw_int, vw_lst, vw_non, vw_own, vw_str, vw_tup])
set_option maxHeartbeats 2000000 in
theorem ok_rshape (F : Fun K "read_shape" "read_shape" s_read_shape f fd) (hm : mg "read_shape" = some (.ref f)) (m_len : mg "len" = none) (A_read_leaf : CalleeAt P w K mg base 2 fl spRLeaf) (C_read_openings : Callee P w K mg base 2 "read_openings" spOpen []) (C_read_behind : Callee P w K mg base 3 "read_behind" spBeh []) : Callee P w K mg base 4 "read_shape" (spRShape fl) [] := by
  refine callee_of F hm sc_read_shape (fun _ _ _ _ _ _ us hl => match us, hl with | [_, _], _ => rfl) (fun us M Q h => by obtain ⟨_, rfl, _⟩ := h; rfl) (uss_cons (us_set 2 sc_read_shape.nd (ue_lst (own := true) ua_nil))
  (uss_cons (us_set 3 sc_read_shape.nd uo_)
  (uss_cons (us_set 4 sc_read_shape.nd un_)
  (uss_cons (us_while (ut_c k_isN (uv 3) uo_)
  (uss_cons (us_set 4 sc_read_shape.nd (ue_call C_read_openings (ua_cons (uv 0) (ua_cons (uv 4) (ua_cons (uv 2) ua_nil)))))
  (uss_cons (us_set 5 sc_read_shape.nd (ue_callv 1 A_read_leaf (ua_cons (uv 0) (ua_cons (uv 4) ua_nil))))
  (uss_cons (us_set 5 sc_read_shape.nd (ue_call C_read_behind (ua_cons (uv 0) (ua_cons (ue_ix (uv 5) un_) (ua_cons (ue_ix (uv 5) un_) (ua_cons (uv 2) ua_nil))))))
  (uss_cons (us_set 3 sc_read_shape.nd (ue_ix (uv 5) un_))
  (uss_one (us_set 4 sc_read_shape.nd (ue_ix (uv 5) un_))))))))
  (uss_cons (us_if (ut_c k_ltX (uv 4) (ue_b b_len m_len (ua_cons (uv 0) ua_nil)))
  (uss_one us_raise)
  uss_nil)
  (uss_one (us_ret (uv 3)))))))) ?_
  rintro us M Q ⟨T, rfl, hT, hsz, hdp, q⟩
  have hzl := sh_len hT
  have hz : T.sh.length ≤ 100000 := by omega
  have hL : T.sh.cps.toList.length = T.sh.length := by simp [Str.length]
  have hTd : T.sh.cps.toList.drop 0 = cT T ++ after [] := by simp [cT, after]
  generalize hzz : T.sh = z at hz hL hTd
  refine seq_gen fun V1 hV1 => ?_
  simp! only [uAsg, hName]
  intro p hp
  subst hV1
  refine seq_gen fun V2 hV2 => ?_
  simp! only [uAsg, hName]
  subst hV2
  refine seq_gen fun V3 hV3 => ?_
  simp! only [uAsg, hName]
  subst hV3
  refine seq_gen fun V4 hV4 => ?_
  refine while_by (fun τ M' => ∃ (s : U) (i : Nat) (e : Option U) (c : List Fm), τ = [some (.str z), some (.ref fl), some (.ref p), some s, some (.int (i : Int)), e] ∧ M' = mup M p (.lst (stU c)) ∧ ((s = T.toU ∧ i = z.length) ∨ ∃ t, s = .non ∧ t.ok ∧ z.cps.toList.drop i = cT t ++ after c ∧ reb t c = T ∧ c.length + t.dep ≤ 60 ∧ okF c)) (fun τ _ => match τ with | [_, _, _, _, some (.int i), _] => z.length - i.toNat | _ => 0) ⟨.non, 0, none, [], rfl, rfl, .inr ⟨T, rfl, hT, hTd, rfl, by simpa using hdp, trivial⟩⟩ ?_
  rintro τ M' ⟨s, i, e, c, rfl, rfl, (⟨rfl, rfl⟩ | ⟨t, rfl, ht, hd, hr, hb, hf⟩)⟩
  · have hnn : isNon T.toU = false := by cases T <;> rfl
    simp_all! only [hnn, eqX_int, eqX_str, inTab, ixTab, uAndV, uMul, bInt, mPopAt, uEnumL, szl, Nat.reduceLeDiff, Option.getD_some]
    subst hV4
    refine seq_gen fun V5 hV5 => ?_
    refine if_gen fun A B hA hB => ?_
    simp! only [true_and]
    refine ⟨small hz, ?_⟩
    rw [if_neg (fun z => by have := of_decide_eq_true z; omega)]
    subst hB
    simp only [uNext]
    subst hV5
    simp! only [uRet]
    exact ⟨_, M, (Sub.refl M).mup hp, .inl rfl, q⟩
  · have hil : i < z.length := by
      have := congrArg List.length hd
      have h2 := cT_pos ht
      rw [List.length_drop, List.length_append, hL] at this
      omega
    simp! only [true_and]
    refine seq_gen fun V5 hV5 => ?_
    simp! only [uAsg, hName]
    refine ⟨z, i, p, t, c, rfl, hz, mup_same, ht, hd, hb, hf, fun i1 t1 c1 hl1 ⟨o1, o2, o3, o4, o5, o6⟩ => ?_⟩
    rw [mup_mup]
    subst hV5
    refine seq_gen fun V6 hV6 => ?_
    simp! only [uAsg, hName]
    refine ⟨z, i1, t1, after c1, rfl, hz, o1, hl1, o2, after_end c1, ?_⟩
    have hd1 := drop_more o2
    have hi1 : i1 + (cT t1).length ≤ z.length := by
      have := congrArg List.length o2
      have h2 := cT_pos o1
      rw [List.length_drop, List.length_append, hL] at this
      omega
    have hp1 := cT_pos o1
    subst hV6
    refine seq_gen fun V7 hV7 => ?_
    simp! only [uAsg, hName]
    refine ⟨z, t1, _, p, c1, rfl, hz, mup_same, hd1, by omega, o5, hi1, ?_, fun i2 b o a c2 k1 k2 k3 k4 k5 k6 => ?_⟩
    · rw [mup_mup]
      subst hV7
      simp! only [uSeq, uAsg, hName]
      exact ⟨⟨_, z.length, _, [], rfl, rfl, .inl ⟨by rw [o3, hr], rfl⟩⟩, by omega⟩
    · rw [mup_mup]
      subst hV7
      simp! only [uSeq, uAsg, hName]
      exact ⟨⟨_, i2, _, .r o a :: c2, rfl, rfl, .inr ⟨b, rfl, k1, k2, by rw [k3, o3, hr], by simp only [List.length_cons]; omega, k5⟩⟩, by omega⟩
def spRead : USp := fun us M Q => ∃ T : Tr, us = [.str T.sh] ∧ T.ok ∧ T.size ≤ 200 ∧ T.dep ≤ 40 ∧ Q T.toU M
theorem w_num_name : (Str.ofString "num" = Str.ofString "name") = False := eq_false (by decide +kernel)
theorem v_num_name : (Str.ofString "num" == Str.ofString "name") = false := by decide +kernel
theorem w_num_turn : (Str.ofString "num" = Str.ofString "turn") = False := eq_false (by decide +kernel)
theorem v_num_turn : (Str.ofString "num" == Str.ofString "turn") = false := by decide +kernel
theorem w_num_sum : (Str.ofString "num" = Str.ofString "sum") = False := eq_false (by decide +kernel)
theorem v_num_sum : (Str.ofString "num" == Str.ofString "sum") = false := by decide +kernel
theorem w_num_less : (Str.ofString "num" = Str.ofString "less") = False := eq_false (by decide +kernel)
theorem v_num_less : (Str.ofString "num" == Str.ofString "less") = false := by decide +kernel
theorem w_num_by : (Str.ofString "num" = Str.ofString "by") = False := eq_false (by decide +kernel)
theorem v_num_by : (Str.ofString "num" == Str.ofString "by") = false := by decide +kernel
theorem w_num_swap : (Str.ofString "num" = Str.ofString "swap") = False := eq_false (by decide +kernel)
theorem v_num_swap : (Str.ofString "num" == Str.ofString "swap") = false := by decide +kernel
theorem w_num_right : (Str.ofString "num" = Str.ofString "right") = False := eq_false (by decide +kernel)
theorem v_num_right : (Str.ofString "num" == Str.ofString "right") = false := by decide +kernel
theorem w_num_left : (Str.ofString "num" = Str.ofString "left") = False := eq_false (by decide +kernel)
theorem v_num_left : (Str.ofString "num" == Str.ofString "left") = false := by decide +kernel
theorem w_num_open : (Str.ofString "num" = Str.ofString "open") = False := eq_false (by decide +kernel)
theorem v_num_open : (Str.ofString "num" == Str.ofString "open") = false := by decide +kernel
theorem w_num_shut : (Str.ofString "num" = Str.ofString "shut") = False := eq_false (by decide +kernel)
theorem v_num_shut : (Str.ofString "num" == Str.ofString "shut") = false := by decide +kernel
theorem w_num_off : (Str.ofString "num" = Str.ofString "off") = False := eq_false (by decide +kernel)
theorem v_num_off : (Str.ofString "num" == Str.ofString "off") = false := by decide +kernel
theorem w_num_piece : (Str.ofString "num" = Str.ofString "piece") = False := eq_false (by decide +kernel)
theorem v_num_piece : (Str.ofString "num" == Str.ofString "piece") = false := by decide +kernel
theorem w_name_num : (Str.ofString "name" = Str.ofString "num") = False := eq_false (by decide +kernel)
theorem v_name_num : (Str.ofString "name" == Str.ofString "num") = false := by decide +kernel
theorem w_name_turn : (Str.ofString "name" = Str.ofString "turn") = False := eq_false (by decide +kernel)
theorem v_name_turn : (Str.ofString "name" == Str.ofString "turn") = false := by decide +kernel
theorem w_name_sum : (Str.ofString "name" = Str.ofString "sum") = False := eq_false (by decide +kernel)
theorem v_name_sum : (Str.ofString "name" == Str.ofString "sum") = false := by decide +kernel
theorem w_name_less : (Str.ofString "name" = Str.ofString "less") = False := eq_false (by decide +kernel)
theorem v_name_less : (Str.ofString "name" == Str.ofString "less") = false := by decide +kernel
theorem w_name_by : (Str.ofString "name" = Str.ofString "by") = False := eq_false (by decide +kernel)
theorem v_name_by : (Str.ofString "name" == Str.ofString "by") = false := by decide +kernel
theorem w_name_swap : (Str.ofString "name" = Str.ofString "swap") = False := eq_false (by decide +kernel)
theorem v_name_swap : (Str.ofString "name" == Str.ofString "swap") = false := by decide +kernel
theorem w_name_right : (Str.ofString "name" = Str.ofString "right") = False := eq_false (by decide +kernel)
theorem v_name_right : (Str.ofString "name" == Str.ofString "right") = false := by decide +kernel
theorem w_name_left : (Str.ofString "name" = Str.ofString "left") = False := eq_false (by decide +kernel)
theorem v_name_left : (Str.ofString "name" == Str.ofString "left") = false := by decide +kernel
theorem w_name_open : (Str.ofString "name" = Str.ofString "open") = False := eq_false (by decide +kernel)
theorem v_name_open : (Str.ofString "name" == Str.ofString "open") = false := by decide +kernel
theorem w_name_shut : (Str.ofString "name" = Str.ofString "shut") = False := eq_false (by decide +kernel)
theorem v_name_shut : (Str.ofString "name" == Str.ofString "shut") = false := by decide +kernel
theorem w_name_off : (Str.ofString "name" = Str.ofString "off") = False := eq_false (by decide +kernel)
theorem v_name_off : (Str.ofString "name" == Str.ofString "off") = false := by decide +kernel
theorem w_name_piece : (Str.ofString "name" = Str.ofString "piece") = False := eq_false (by decide +kernel)
theorem v_name_piece : (Str.ofString "name" == Str.ofString "piece") = false := by decide +kernel
theorem w_turn_num : (Str.ofString "turn" = Str.ofString "num") = False := eq_false (by decide +kernel)
theorem v_turn_num : (Str.ofString "turn" == Str.ofString "num") = false := by decide +kernel
theorem w_turn_name : (Str.ofString "turn" = Str.ofString "name") = False := eq_false (by decide +kernel)
theorem v_turn_name : (Str.ofString "turn" == Str.ofString "name") = false := by decide +kernel
theorem w_turn_sum : (Str.ofString "turn" = Str.ofString "sum") = False := eq_false (by decide +kernel)
theorem v_turn_sum : (Str.ofString "turn" == Str.ofString "sum") = false := by decide +kernel
theorem w_turn_less : (Str.ofString "turn" = Str.ofString "less") = False := eq_false (by decide +kernel)
theorem v_turn_less : (Str.ofString "turn" == Str.ofString "less") = false := by decide +kernel
theorem w_turn_by : (Str.ofString "turn" = Str.ofString "by") = False := eq_false (by decide +kernel)
theorem v_turn_by : (Str.ofString "turn" == Str.ofString "by") = false := by decide +kernel
theorem w_turn_swap : (Str.ofString "turn" = Str.ofString "swap") = False := eq_false (by decide +kernel)
theorem v_turn_swap : (Str.ofString "turn" == Str.ofString "swap") = false := by decide +kernel
theorem w_turn_right : (Str.ofString "turn" = Str.ofString "right") = False := eq_false (by decide +kernel)
theorem v_turn_right : (Str.ofString "turn" == Str.ofString "right") = false := by decide +kernel
theorem w_turn_left : (Str.ofString "turn" = Str.ofString "left") = False := eq_false (by decide +kernel)
theorem v_turn_left : (Str.ofString "turn" == Str.ofString "left") = false := by decide +kernel
theorem w_turn_open : (Str.ofString "turn" = Str.ofString "open") = False := eq_false (by decide +kernel)
theorem v_turn_open : (Str.ofString "turn" == Str.ofString "open") = false := by decide +kernel
theorem w_turn_shut : (Str.ofString "turn" = Str.ofString "shut") = False := eq_false (by decide +kernel)
theorem v_turn_shut : (Str.ofString "turn" == Str.ofString "shut") = false := by decide +kernel
theorem w_turn_off : (Str.ofString "turn" = Str.ofString "off") = False := eq_false (by decide +kernel)
theorem v_turn_off : (Str.ofString "turn" == Str.ofString "off") = false := by decide +kernel
theorem w_turn_piece : (Str.ofString "turn" = Str.ofString "piece") = False := eq_false (by decide +kernel)
theorem v_turn_piece : (Str.ofString "turn" == Str.ofString "piece") = false := by decide +kernel
theorem w_sum_num : (Str.ofString "sum" = Str.ofString "num") = False := eq_false (by decide +kernel)
theorem v_sum_num : (Str.ofString "sum" == Str.ofString "num") = false := by decide +kernel
theorem w_sum_name : (Str.ofString "sum" = Str.ofString "name") = False := eq_false (by decide +kernel)
theorem v_sum_name : (Str.ofString "sum" == Str.ofString "name") = false := by decide +kernel
theorem w_sum_turn : (Str.ofString "sum" = Str.ofString "turn") = False := eq_false (by decide +kernel)
theorem v_sum_turn : (Str.ofString "sum" == Str.ofString "turn") = false := by decide +kernel
theorem w_sum_less : (Str.ofString "sum" = Str.ofString "less") = False := eq_false (by decide +kernel)
theorem v_sum_less : (Str.ofString "sum" == Str.ofString "less") = false := by decide +kernel
theorem w_sum_by : (Str.ofString "sum" = Str.ofString "by") = False := eq_false (by decide +kernel)
theorem v_sum_by : (Str.ofString "sum" == Str.ofString "by") = false := by decide +kernel
theorem w_sum_swap : (Str.ofString "sum" = Str.ofString "swap") = False := eq_false (by decide +kernel)
theorem v_sum_swap : (Str.ofString "sum" == Str.ofString "swap") = false := by decide +kernel
theorem w_sum_right : (Str.ofString "sum" = Str.ofString "right") = False := eq_false (by decide +kernel)
theorem v_sum_right : (Str.ofString "sum" == Str.ofString "right") = false := by decide +kernel
theorem w_sum_left : (Str.ofString "sum" = Str.ofString "left") = False := eq_false (by decide +kernel)
theorem v_sum_left : (Str.ofString "sum" == Str.ofString "left") = false := by decide +kernel
theorem w_sum_open : (Str.ofString "sum" = Str.ofString "open") = False := eq_false (by decide +kernel)
theorem v_sum_open : (Str.ofString "sum" == Str.ofString "open") = false := by decide +kernel
theorem w_sum_shut : (Str.ofString "sum" = Str.ofString "shut") = False := eq_false (by decide +kernel)
theorem v_sum_shut : (Str.ofString "sum" == Str.ofString "shut") = false := by decide +kernel
theorem w_sum_off : (Str.ofString "sum" = Str.ofString "off") = False := eq_false (by decide +kernel)
theorem v_sum_off : (Str.ofString "sum" == Str.ofString "off") = false := by decide +kernel
theorem w_sum_piece : (Str.ofString "sum" = Str.ofString "piece") = False := eq_false (by decide +kernel)
theorem v_sum_piece : (Str.ofString "sum" == Str.ofString "piece") = false := by decide +kernel
theorem w_less_num : (Str.ofString "less" = Str.ofString "num") = False := eq_false (by decide +kernel)
theorem v_less_num : (Str.ofString "less" == Str.ofString "num") = false := by decide +kernel
theorem w_less_name : (Str.ofString "less" = Str.ofString "name") = False := eq_false (by decide +kernel)
theorem v_less_name : (Str.ofString "less" == Str.ofString "name") = false := by decide +kernel
theorem w_less_turn : (Str.ofString "less" = Str.ofString "turn") = False := eq_false (by decide +kernel)
theorem v_less_turn : (Str.ofString "less" == Str.ofString "turn") = false := by decide +kernel
theorem w_less_sum : (Str.ofString "less" = Str.ofString "sum") = False := eq_false (by decide +kernel)
theorem v_less_sum : (Str.ofString "less" == Str.ofString "sum") = false := by decide +kernel
theorem w_less_by : (Str.ofString "less" = Str.ofString "by") = False := eq_false (by decide +kernel)
theorem v_less_by : (Str.ofString "less" == Str.ofString "by") = false := by decide +kernel
theorem w_less_swap : (Str.ofString "less" = Str.ofString "swap") = False := eq_false (by decide +kernel)
theorem v_less_swap : (Str.ofString "less" == Str.ofString "swap") = false := by decide +kernel
theorem w_less_right : (Str.ofString "less" = Str.ofString "right") = False := eq_false (by decide +kernel)
theorem v_less_right : (Str.ofString "less" == Str.ofString "right") = false := by decide +kernel
theorem w_less_left : (Str.ofString "less" = Str.ofString "left") = False := eq_false (by decide +kernel)
theorem v_less_left : (Str.ofString "less" == Str.ofString "left") = false := by decide +kernel
theorem w_less_open : (Str.ofString "less" = Str.ofString "open") = False := eq_false (by decide +kernel)
theorem v_less_open : (Str.ofString "less" == Str.ofString "open") = false := by decide +kernel
theorem w_less_shut : (Str.ofString "less" = Str.ofString "shut") = False := eq_false (by decide +kernel)
theorem v_less_shut : (Str.ofString "less" == Str.ofString "shut") = false := by decide +kernel
theorem w_less_off : (Str.ofString "less" = Str.ofString "off") = False := eq_false (by decide +kernel)
theorem v_less_off : (Str.ofString "less" == Str.ofString "off") = false := by decide +kernel
theorem w_less_piece : (Str.ofString "less" = Str.ofString "piece") = False := eq_false (by decide +kernel)
theorem v_less_piece : (Str.ofString "less" == Str.ofString "piece") = false := by decide +kernel
theorem w_by_num : (Str.ofString "by" = Str.ofString "num") = False := eq_false (by decide +kernel)
theorem v_by_num : (Str.ofString "by" == Str.ofString "num") = false := by decide +kernel
theorem w_by_name : (Str.ofString "by" = Str.ofString "name") = False := eq_false (by decide +kernel)
theorem v_by_name : (Str.ofString "by" == Str.ofString "name") = false := by decide +kernel
theorem w_by_turn : (Str.ofString "by" = Str.ofString "turn") = False := eq_false (by decide +kernel)
theorem v_by_turn : (Str.ofString "by" == Str.ofString "turn") = false := by decide +kernel
theorem w_by_sum : (Str.ofString "by" = Str.ofString "sum") = False := eq_false (by decide +kernel)
theorem v_by_sum : (Str.ofString "by" == Str.ofString "sum") = false := by decide +kernel
theorem w_by_less : (Str.ofString "by" = Str.ofString "less") = False := eq_false (by decide +kernel)
theorem v_by_less : (Str.ofString "by" == Str.ofString "less") = false := by decide +kernel
theorem w_by_swap : (Str.ofString "by" = Str.ofString "swap") = False := eq_false (by decide +kernel)
theorem v_by_swap : (Str.ofString "by" == Str.ofString "swap") = false := by decide +kernel
theorem w_by_right : (Str.ofString "by" = Str.ofString "right") = False := eq_false (by decide +kernel)
theorem v_by_right : (Str.ofString "by" == Str.ofString "right") = false := by decide +kernel
theorem w_by_left : (Str.ofString "by" = Str.ofString "left") = False := eq_false (by decide +kernel)
theorem v_by_left : (Str.ofString "by" == Str.ofString "left") = false := by decide +kernel
theorem w_by_open : (Str.ofString "by" = Str.ofString "open") = False := eq_false (by decide +kernel)
theorem v_by_open : (Str.ofString "by" == Str.ofString "open") = false := by decide +kernel
theorem w_by_shut : (Str.ofString "by" = Str.ofString "shut") = False := eq_false (by decide +kernel)
theorem v_by_shut : (Str.ofString "by" == Str.ofString "shut") = false := by decide +kernel
theorem w_by_off : (Str.ofString "by" = Str.ofString "off") = False := eq_false (by decide +kernel)
theorem v_by_off : (Str.ofString "by" == Str.ofString "off") = false := by decide +kernel
theorem w_by_piece : (Str.ofString "by" = Str.ofString "piece") = False := eq_false (by decide +kernel)
theorem v_by_piece : (Str.ofString "by" == Str.ofString "piece") = false := by decide +kernel
theorem w_swap_num : (Str.ofString "swap" = Str.ofString "num") = False := eq_false (by decide +kernel)
theorem v_swap_num : (Str.ofString "swap" == Str.ofString "num") = false := by decide +kernel
theorem w_swap_name : (Str.ofString "swap" = Str.ofString "name") = False := eq_false (by decide +kernel)
theorem v_swap_name : (Str.ofString "swap" == Str.ofString "name") = false := by decide +kernel
theorem w_swap_turn : (Str.ofString "swap" = Str.ofString "turn") = False := eq_false (by decide +kernel)
theorem v_swap_turn : (Str.ofString "swap" == Str.ofString "turn") = false := by decide +kernel
theorem w_swap_sum : (Str.ofString "swap" = Str.ofString "sum") = False := eq_false (by decide +kernel)
theorem v_swap_sum : (Str.ofString "swap" == Str.ofString "sum") = false := by decide +kernel
theorem w_swap_less : (Str.ofString "swap" = Str.ofString "less") = False := eq_false (by decide +kernel)
theorem v_swap_less : (Str.ofString "swap" == Str.ofString "less") = false := by decide +kernel
theorem w_swap_by : (Str.ofString "swap" = Str.ofString "by") = False := eq_false (by decide +kernel)
theorem v_swap_by : (Str.ofString "swap" == Str.ofString "by") = false := by decide +kernel
theorem w_swap_right : (Str.ofString "swap" = Str.ofString "right") = False := eq_false (by decide +kernel)
theorem v_swap_right : (Str.ofString "swap" == Str.ofString "right") = false := by decide +kernel
theorem w_swap_left : (Str.ofString "swap" = Str.ofString "left") = False := eq_false (by decide +kernel)
theorem v_swap_left : (Str.ofString "swap" == Str.ofString "left") = false := by decide +kernel
theorem w_swap_open : (Str.ofString "swap" = Str.ofString "open") = False := eq_false (by decide +kernel)
theorem v_swap_open : (Str.ofString "swap" == Str.ofString "open") = false := by decide +kernel
theorem w_swap_shut : (Str.ofString "swap" = Str.ofString "shut") = False := eq_false (by decide +kernel)
theorem v_swap_shut : (Str.ofString "swap" == Str.ofString "shut") = false := by decide +kernel
theorem w_swap_off : (Str.ofString "swap" = Str.ofString "off") = False := eq_false (by decide +kernel)
theorem v_swap_off : (Str.ofString "swap" == Str.ofString "off") = false := by decide +kernel
theorem w_swap_piece : (Str.ofString "swap" = Str.ofString "piece") = False := eq_false (by decide +kernel)
theorem v_swap_piece : (Str.ofString "swap" == Str.ofString "piece") = false := by decide +kernel
theorem w_right_num : (Str.ofString "right" = Str.ofString "num") = False := eq_false (by decide +kernel)
theorem v_right_num : (Str.ofString "right" == Str.ofString "num") = false := by decide +kernel
theorem w_right_name : (Str.ofString "right" = Str.ofString "name") = False := eq_false (by decide +kernel)
theorem v_right_name : (Str.ofString "right" == Str.ofString "name") = false := by decide +kernel
theorem w_right_turn : (Str.ofString "right" = Str.ofString "turn") = False := eq_false (by decide +kernel)
theorem v_right_turn : (Str.ofString "right" == Str.ofString "turn") = false := by decide +kernel
theorem w_right_sum : (Str.ofString "right" = Str.ofString "sum") = False := eq_false (by decide +kernel)
theorem v_right_sum : (Str.ofString "right" == Str.ofString "sum") = false := by decide +kernel
theorem w_right_less : (Str.ofString "right" = Str.ofString "less") = False := eq_false (by decide +kernel)
theorem v_right_less : (Str.ofString "right" == Str.ofString "less") = false := by decide +kernel
theorem w_right_by : (Str.ofString "right" = Str.ofString "by") = False := eq_false (by decide +kernel)
theorem v_right_by : (Str.ofString "right" == Str.ofString "by") = false := by decide +kernel
theorem w_right_swap : (Str.ofString "right" = Str.ofString "swap") = False := eq_false (by decide +kernel)
theorem v_right_swap : (Str.ofString "right" == Str.ofString "swap") = false := by decide +kernel
theorem w_right_left : (Str.ofString "right" = Str.ofString "left") = False := eq_false (by decide +kernel)
theorem v_right_left : (Str.ofString "right" == Str.ofString "left") = false := by decide +kernel
theorem w_right_open : (Str.ofString "right" = Str.ofString "open") = False := eq_false (by decide +kernel)
theorem v_right_open : (Str.ofString "right" == Str.ofString "open") = false := by decide +kernel
theorem w_right_shut : (Str.ofString "right" = Str.ofString "shut") = False := eq_false (by decide +kernel)
theorem v_right_shut : (Str.ofString "right" == Str.ofString "shut") = false := by decide +kernel
theorem w_right_off : (Str.ofString "right" = Str.ofString "off") = False := eq_false (by decide +kernel)
theorem v_right_off : (Str.ofString "right" == Str.ofString "off") = false := by decide +kernel
theorem w_right_piece : (Str.ofString "right" = Str.ofString "piece") = False := eq_false (by decide +kernel)
theorem v_right_piece : (Str.ofString "right" == Str.ofString "piece") = false := by decide +kernel
theorem w_left_num : (Str.ofString "left" = Str.ofString "num") = False := eq_false (by decide +kernel)
theorem v_left_num : (Str.ofString "left" == Str.ofString "num") = false := by decide +kernel
theorem w_left_name : (Str.ofString "left" = Str.ofString "name") = False := eq_false (by decide +kernel)
theorem v_left_name : (Str.ofString "left" == Str.ofString "name") = false := by decide +kernel
theorem w_left_turn : (Str.ofString "left" = Str.ofString "turn") = False := eq_false (by decide +kernel)
theorem v_left_turn : (Str.ofString "left" == Str.ofString "turn") = false := by decide +kernel
theorem w_left_sum : (Str.ofString "left" = Str.ofString "sum") = False := eq_false (by decide +kernel)
theorem v_left_sum : (Str.ofString "left" == Str.ofString "sum") = false := by decide +kernel
theorem w_left_less : (Str.ofString "left" = Str.ofString "less") = False := eq_false (by decide +kernel)
theorem v_left_less : (Str.ofString "left" == Str.ofString "less") = false := by decide +kernel
theorem w_left_by : (Str.ofString "left" = Str.ofString "by") = False := eq_false (by decide +kernel)
theorem v_left_by : (Str.ofString "left" == Str.ofString "by") = false := by decide +kernel
theorem w_left_swap : (Str.ofString "left" = Str.ofString "swap") = False := eq_false (by decide +kernel)
theorem v_left_swap : (Str.ofString "left" == Str.ofString "swap") = false := by decide +kernel
theorem w_left_right : (Str.ofString "left" = Str.ofString "right") = False := eq_false (by decide +kernel)
theorem v_left_right : (Str.ofString "left" == Str.ofString "right") = false := by decide +kernel
theorem w_left_open : (Str.ofString "left" = Str.ofString "open") = False := eq_false (by decide +kernel)
theorem v_left_open : (Str.ofString "left" == Str.ofString "open") = false := by decide +kernel
theorem w_left_shut : (Str.ofString "left" = Str.ofString "shut") = False := eq_false (by decide +kernel)
theorem v_left_shut : (Str.ofString "left" == Str.ofString "shut") = false := by decide +kernel
theorem w_left_off : (Str.ofString "left" = Str.ofString "off") = False := eq_false (by decide +kernel)
theorem v_left_off : (Str.ofString "left" == Str.ofString "off") = false := by decide +kernel
theorem w_left_piece : (Str.ofString "left" = Str.ofString "piece") = False := eq_false (by decide +kernel)
theorem v_left_piece : (Str.ofString "left" == Str.ofString "piece") = false := by decide +kernel
theorem w_open_num : (Str.ofString "open" = Str.ofString "num") = False := eq_false (by decide +kernel)
theorem v_open_num : (Str.ofString "open" == Str.ofString "num") = false := by decide +kernel
theorem w_open_name : (Str.ofString "open" = Str.ofString "name") = False := eq_false (by decide +kernel)
theorem v_open_name : (Str.ofString "open" == Str.ofString "name") = false := by decide +kernel
theorem w_open_turn : (Str.ofString "open" = Str.ofString "turn") = False := eq_false (by decide +kernel)
theorem v_open_turn : (Str.ofString "open" == Str.ofString "turn") = false := by decide +kernel
theorem w_open_sum : (Str.ofString "open" = Str.ofString "sum") = False := eq_false (by decide +kernel)
theorem v_open_sum : (Str.ofString "open" == Str.ofString "sum") = false := by decide +kernel
theorem w_open_less : (Str.ofString "open" = Str.ofString "less") = False := eq_false (by decide +kernel)
theorem v_open_less : (Str.ofString "open" == Str.ofString "less") = false := by decide +kernel
theorem w_open_by : (Str.ofString "open" = Str.ofString "by") = False := eq_false (by decide +kernel)
theorem v_open_by : (Str.ofString "open" == Str.ofString "by") = false := by decide +kernel
theorem w_open_swap : (Str.ofString "open" = Str.ofString "swap") = False := eq_false (by decide +kernel)
theorem v_open_swap : (Str.ofString "open" == Str.ofString "swap") = false := by decide +kernel
theorem w_open_right : (Str.ofString "open" = Str.ofString "right") = False := eq_false (by decide +kernel)
theorem v_open_right : (Str.ofString "open" == Str.ofString "right") = false := by decide +kernel
theorem w_open_left : (Str.ofString "open" = Str.ofString "left") = False := eq_false (by decide +kernel)
theorem v_open_left : (Str.ofString "open" == Str.ofString "left") = false := by decide +kernel
theorem w_open_shut : (Str.ofString "open" = Str.ofString "shut") = False := eq_false (by decide +kernel)
theorem v_open_shut : (Str.ofString "open" == Str.ofString "shut") = false := by decide +kernel
theorem w_open_off : (Str.ofString "open" = Str.ofString "off") = False := eq_false (by decide +kernel)
theorem v_open_off : (Str.ofString "open" == Str.ofString "off") = false := by decide +kernel
theorem w_open_piece : (Str.ofString "open" = Str.ofString "piece") = False := eq_false (by decide +kernel)
theorem v_open_piece : (Str.ofString "open" == Str.ofString "piece") = false := by decide +kernel
theorem w_shut_num : (Str.ofString "shut" = Str.ofString "num") = False := eq_false (by decide +kernel)
theorem v_shut_num : (Str.ofString "shut" == Str.ofString "num") = false := by decide +kernel
theorem w_shut_name : (Str.ofString "shut" = Str.ofString "name") = False := eq_false (by decide +kernel)
theorem v_shut_name : (Str.ofString "shut" == Str.ofString "name") = false := by decide +kernel
theorem w_shut_turn : (Str.ofString "shut" = Str.ofString "turn") = False := eq_false (by decide +kernel)
theorem v_shut_turn : (Str.ofString "shut" == Str.ofString "turn") = false := by decide +kernel
theorem w_shut_sum : (Str.ofString "shut" = Str.ofString "sum") = False := eq_false (by decide +kernel)
theorem v_shut_sum : (Str.ofString "shut" == Str.ofString "sum") = false := by decide +kernel
theorem w_shut_less : (Str.ofString "shut" = Str.ofString "less") = False := eq_false (by decide +kernel)
theorem v_shut_less : (Str.ofString "shut" == Str.ofString "less") = false := by decide +kernel
theorem w_shut_by : (Str.ofString "shut" = Str.ofString "by") = False := eq_false (by decide +kernel)
theorem v_shut_by : (Str.ofString "shut" == Str.ofString "by") = false := by decide +kernel
theorem w_shut_swap : (Str.ofString "shut" = Str.ofString "swap") = False := eq_false (by decide +kernel)
theorem v_shut_swap : (Str.ofString "shut" == Str.ofString "swap") = false := by decide +kernel
theorem w_shut_right : (Str.ofString "shut" = Str.ofString "right") = False := eq_false (by decide +kernel)
theorem v_shut_right : (Str.ofString "shut" == Str.ofString "right") = false := by decide +kernel
theorem w_shut_left : (Str.ofString "shut" = Str.ofString "left") = False := eq_false (by decide +kernel)
theorem v_shut_left : (Str.ofString "shut" == Str.ofString "left") = false := by decide +kernel
theorem w_shut_open : (Str.ofString "shut" = Str.ofString "open") = False := eq_false (by decide +kernel)
theorem v_shut_open : (Str.ofString "shut" == Str.ofString "open") = false := by decide +kernel
theorem w_shut_off : (Str.ofString "shut" = Str.ofString "off") = False := eq_false (by decide +kernel)
theorem v_shut_off : (Str.ofString "shut" == Str.ofString "off") = false := by decide +kernel
theorem w_shut_piece : (Str.ofString "shut" = Str.ofString "piece") = False := eq_false (by decide +kernel)
theorem v_shut_piece : (Str.ofString "shut" == Str.ofString "piece") = false := by decide +kernel
theorem w_off_num : (Str.ofString "off" = Str.ofString "num") = False := eq_false (by decide +kernel)
theorem v_off_num : (Str.ofString "off" == Str.ofString "num") = false := by decide +kernel
theorem w_off_name : (Str.ofString "off" = Str.ofString "name") = False := eq_false (by decide +kernel)
theorem v_off_name : (Str.ofString "off" == Str.ofString "name") = false := by decide +kernel
theorem w_off_turn : (Str.ofString "off" = Str.ofString "turn") = False := eq_false (by decide +kernel)
theorem v_off_turn : (Str.ofString "off" == Str.ofString "turn") = false := by decide +kernel
theorem w_off_sum : (Str.ofString "off" = Str.ofString "sum") = False := eq_false (by decide +kernel)
theorem v_off_sum : (Str.ofString "off" == Str.ofString "sum") = false := by decide +kernel
theorem w_off_less : (Str.ofString "off" = Str.ofString "less") = False := eq_false (by decide +kernel)
theorem v_off_less : (Str.ofString "off" == Str.ofString "less") = false := by decide +kernel
theorem w_off_by : (Str.ofString "off" = Str.ofString "by") = False := eq_false (by decide +kernel)
theorem v_off_by : (Str.ofString "off" == Str.ofString "by") = false := by decide +kernel
theorem w_off_swap : (Str.ofString "off" = Str.ofString "swap") = False := eq_false (by decide +kernel)
theorem v_off_swap : (Str.ofString "off" == Str.ofString "swap") = false := by decide +kernel
theorem w_off_right : (Str.ofString "off" = Str.ofString "right") = False := eq_false (by decide +kernel)
theorem v_off_right : (Str.ofString "off" == Str.ofString "right") = false := by decide +kernel
theorem w_off_left : (Str.ofString "off" = Str.ofString "left") = False := eq_false (by decide +kernel)
theorem v_off_left : (Str.ofString "off" == Str.ofString "left") = false := by decide +kernel
theorem w_off_open : (Str.ofString "off" = Str.ofString "open") = False := eq_false (by decide +kernel)
theorem v_off_open : (Str.ofString "off" == Str.ofString "open") = false := by decide +kernel
theorem w_off_shut : (Str.ofString "off" = Str.ofString "shut") = False := eq_false (by decide +kernel)
theorem v_off_shut : (Str.ofString "off" == Str.ofString "shut") = false := by decide +kernel
theorem w_off_piece : (Str.ofString "off" = Str.ofString "piece") = False := eq_false (by decide +kernel)
theorem v_off_piece : (Str.ofString "off" == Str.ofString "piece") = false := by decide +kernel
theorem w_piece_num : (Str.ofString "piece" = Str.ofString "num") = False := eq_false (by decide +kernel)
theorem v_piece_num : (Str.ofString "piece" == Str.ofString "num") = false := by decide +kernel
theorem w_piece_name : (Str.ofString "piece" = Str.ofString "name") = False := eq_false (by decide +kernel)
theorem v_piece_name : (Str.ofString "piece" == Str.ofString "name") = false := by decide +kernel
theorem w_piece_turn : (Str.ofString "piece" = Str.ofString "turn") = False := eq_false (by decide +kernel)
theorem v_piece_turn : (Str.ofString "piece" == Str.ofString "turn") = false := by decide +kernel
theorem w_piece_sum : (Str.ofString "piece" = Str.ofString "sum") = False := eq_false (by decide +kernel)
theorem v_piece_sum : (Str.ofString "piece" == Str.ofString "sum") = false := by decide +kernel
theorem w_piece_less : (Str.ofString "piece" = Str.ofString "less") = False := eq_false (by decide +kernel)
theorem v_piece_less : (Str.ofString "piece" == Str.ofString "less") = false := by decide +kernel
theorem w_piece_by : (Str.ofString "piece" = Str.ofString "by") = False := eq_false (by decide +kernel)
theorem v_piece_by : (Str.ofString "piece" == Str.ofString "by") = false := by decide +kernel
theorem w_piece_swap : (Str.ofString "piece" = Str.ofString "swap") = False := eq_false (by decide +kernel)
theorem v_piece_swap : (Str.ofString "piece" == Str.ofString "swap") = false := by decide +kernel
theorem w_piece_right : (Str.ofString "piece" = Str.ofString "right") = False := eq_false (by decide +kernel)
theorem v_piece_right : (Str.ofString "piece" == Str.ofString "right") = false := by decide +kernel
theorem w_piece_left : (Str.ofString "piece" = Str.ofString "left") = False := eq_false (by decide +kernel)
theorem v_piece_left : (Str.ofString "piece" == Str.ofString "left") = false := by decide +kernel
theorem w_piece_open : (Str.ofString "piece" = Str.ofString "open") = False := eq_false (by decide +kernel)
theorem v_piece_open : (Str.ofString "piece" == Str.ofString "open") = false := by decide +kernel
theorem w_piece_shut : (Str.ofString "piece" = Str.ofString "shut") = False := eq_false (by decide +kernel)
theorem v_piece_shut : (Str.ofString "piece" == Str.ofString "shut") = false := by decide +kernel
theorem w_piece_off : (Str.ofString "piece" = Str.ofString "off") = False := eq_false (by decide +kernel)
theorem v_piece_off : (Str.ofString "piece" == Str.ofString "off") = false := by decide +kernel
theorem wx : (Str.ofString "num" = Str.ofString "name") = False ∧ (Str.ofString "num" == Str.ofString "name") = false ∧ (Str.ofString "num" = Str.ofString "turn") = False ∧ (Str.ofString "num" == Str.ofString "turn") = false ∧ (Str.ofString "num" = Str.ofString "sum") = False ∧ (Str.ofString "num" == Str.ofString "sum") = false ∧ (Str.ofString "num" = Str.ofString "less") = False ∧ (Str.ofString "num" == Str.ofString "less") = false ∧ (Str.ofString "num" = Str.ofString "by") = False ∧ (Str.ofString "num" == Str.ofString "by") = false ∧ (Str.ofString "num" = Str.ofString "swap") = False ∧ (Str.ofString "num" == Str.ofString "swap") = false ∧ (Str.ofString "num" = Str.ofString "right") = False ∧ (Str.ofString "num" == Str.ofString "right") = false ∧ (Str.ofString "num" = Str.ofString "left") = False ∧ (Str.ofString "num" == Str.ofString "left") = false ∧ (Str.ofString "num" = Str.ofString "open") = False ∧ (Str.ofString "num" == Str.ofString "open") = false ∧ (Str.ofString "num" = Str.ofString "shut") = False ∧ (Str.ofString "num" == Str.ofString "shut") = false ∧ (Str.ofString "num" = Str.ofString "off") = False ∧ (Str.ofString "num" == Str.ofString "off") = false ∧ (Str.ofString "num" = Str.ofString "piece") = False ∧ (Str.ofString "num" == Str.ofString "piece") = false ∧ (Str.ofString "name" = Str.ofString "num") = False ∧ (Str.ofString "name" == Str.ofString "num") = false ∧ (Str.ofString "name" = Str.ofString "turn") = False ∧ (Str.ofString "name" == Str.ofString "turn") = false ∧ (Str.ofString "name" = Str.ofString "sum") = False ∧ (Str.ofString "name" == Str.ofString "sum") = false ∧ (Str.ofString "name" = Str.ofString "less") = False ∧ (Str.ofString "name" == Str.ofString "less") = false ∧ (Str.ofString "name" = Str.ofString "by") = False ∧ (Str.ofString "name" == Str.ofString "by") = false ∧ (Str.ofString "name" = Str.ofString "swap") = False ∧ (Str.ofString "name" == Str.ofString "swap") = false ∧ (Str.ofString "name" = Str.ofString "right") = False ∧ (Str.ofString "name" == Str.ofString "right") = false ∧ (Str.ofString "name" = Str.ofString "left") = False ∧ (Str.ofString "name" == Str.ofString "left") = false ∧ (Str.ofString "name" = Str.ofString "open") = False ∧ (Str.ofString "name" == Str.ofString "open") = false ∧ (Str.ofString "name" = Str.ofString "shut") = False ∧ (Str.ofString "name" == Str.ofString "shut") = false ∧ (Str.ofString "name" = Str.ofString "off") = False ∧ (Str.ofString "name" == Str.ofString "off") = false ∧ (Str.ofString "name" = Str.ofString "piece") = False ∧ (Str.ofString "name" == Str.ofString "piece") = false ∧ (Str.ofString "turn" = Str.ofString "num") = False ∧ (Str.ofString "turn" == Str.ofString "num") = false ∧ (Str.ofString "turn" = Str.ofString "name") = False ∧ (Str.ofString "turn" == Str.ofString "name") = false ∧ (Str.ofString "turn" = Str.ofString "sum") = False ∧ (Str.ofString "turn" == Str.ofString "sum") = false ∧ (Str.ofString "turn" = Str.ofString "less") = False ∧ (Str.ofString "turn" == Str.ofString "less") = false ∧ (Str.ofString "turn" = Str.ofString "by") = False ∧ (Str.ofString "turn" == Str.ofString "by") = false ∧ (Str.ofString "turn" = Str.ofString "swap") = False ∧ (Str.ofString "turn" == Str.ofString "swap") = false ∧ (Str.ofString "turn" = Str.ofString "right") = False ∧ (Str.ofString "turn" == Str.ofString "right") = false ∧ (Str.ofString "turn" = Str.ofString "left") = False ∧ (Str.ofString "turn" == Str.ofString "left") = false ∧ (Str.ofString "turn" = Str.ofString "open") = False ∧ (Str.ofString "turn" == Str.ofString "open") = false ∧ (Str.ofString "turn" = Str.ofString "shut") = False ∧ (Str.ofString "turn" == Str.ofString "shut") = false ∧ (Str.ofString "turn" = Str.ofString "off") = False ∧ (Str.ofString "turn" == Str.ofString "off") = false ∧ (Str.ofString "turn" = Str.ofString "piece") = False ∧ (Str.ofString "turn" == Str.ofString "piece") = false ∧ (Str.ofString "sum" = Str.ofString "num") = False ∧ (Str.ofString "sum" == Str.ofString "num") = false ∧ (Str.ofString "sum" = Str.ofString "name") = False ∧ (Str.ofString "sum" == Str.ofString "name") = false ∧ (Str.ofString "sum" = Str.ofString "turn") = False ∧ (Str.ofString "sum" == Str.ofString "turn") = false ∧ (Str.ofString "sum" = Str.ofString "less") = False ∧ (Str.ofString "sum" == Str.ofString "less") = false ∧ (Str.ofString "sum" = Str.ofString "by") = False ∧ (Str.ofString "sum" == Str.ofString "by") = false ∧ (Str.ofString "sum" = Str.ofString "swap") = False ∧ (Str.ofString "sum" == Str.ofString "swap") = false ∧ (Str.ofString "sum" = Str.ofString "right") = False ∧ (Str.ofString "sum" == Str.ofString "right") = false ∧ (Str.ofString "sum" = Str.ofString "left") = False ∧ (Str.ofString "sum" == Str.ofString "left") = false ∧ (Str.ofString "sum" = Str.ofString "open") = False ∧ (Str.ofString "sum" == Str.ofString "open") = false ∧ (Str.ofString "sum" = Str.ofString "shut") = False ∧ (Str.ofString "sum" == Str.ofString "shut") = false ∧ (Str.ofString "sum" = Str.ofString "off") = False ∧ (Str.ofString "sum" == Str.ofString "off") = false ∧ (Str.ofString "sum" = Str.ofString "piece") = False ∧ (Str.ofString "sum" == Str.ofString "piece") = false ∧ (Str.ofString "less" = Str.ofString "num") = False ∧ (Str.ofString "less" == Str.ofString "num") = false ∧ (Str.ofString "less" = Str.ofString "name") = False ∧ (Str.ofString "less" == Str.ofString "name") = false ∧ (Str.ofString "less" = Str.ofString "turn") = False ∧ (Str.ofString "less" == Str.ofString "turn") = false ∧ (Str.ofString "less" = Str.ofString "sum") = False ∧ (Str.ofString "less" == Str.ofString "sum") = false ∧ (Str.ofString "less" = Str.ofString "by") = False ∧ (Str.ofString "less" == Str.ofString "by") = false ∧ (Str.ofString "less" = Str.ofString "swap") = False ∧ (Str.ofString "less" == Str.ofString "swap") = false ∧ (Str.ofString "less" = Str.ofString "right") = False ∧ (Str.ofString "less" == Str.ofString "right") = false ∧ (Str.ofString "less" = Str.ofString "left") = False ∧ (Str.ofString "less" == Str.ofString "left") = false ∧ (Str.ofString "less" = Str.ofString "open") = False ∧ (Str.ofString "less" == Str.ofString "open") = false ∧ (Str.ofString "less" = Str.ofString "shut") = False ∧ (Str.ofString "less" == Str.ofString "shut") = false ∧ (Str.ofString "less" = Str.ofString "off") = False ∧ (Str.ofString "less" == Str.ofString "off") = false ∧ (Str.ofString "less" = Str.ofString "piece") = False ∧ (Str.ofString "less" == Str.ofString "piece") = false ∧ (Str.ofString "by" = Str.ofString "num") = False ∧ (Str.ofString "by" == Str.ofString "num") = false ∧ (Str.ofString "by" = Str.ofString "name") = False ∧ (Str.ofString "by" == Str.ofString "name") = false ∧ (Str.ofString "by" = Str.ofString "turn") = False ∧ (Str.ofString "by" == Str.ofString "turn") = false ∧ (Str.ofString "by" = Str.ofString "sum") = False ∧ (Str.ofString "by" == Str.ofString "sum") = false ∧ (Str.ofString "by" = Str.ofString "less") = False ∧ (Str.ofString "by" == Str.ofString "less") = false ∧ (Str.ofString "by" = Str.ofString "swap") = False ∧ (Str.ofString "by" == Str.ofString "swap") = false ∧ (Str.ofString "by" = Str.ofString "right") = False ∧ (Str.ofString "by" == Str.ofString "right") = false ∧ (Str.ofString "by" = Str.ofString "left") = False ∧ (Str.ofString "by" == Str.ofString "left") = false ∧ (Str.ofString "by" = Str.ofString "open") = False ∧ (Str.ofString "by" == Str.ofString "open") = false ∧ (Str.ofString "by" = Str.ofString "shut") = False ∧ (Str.ofString "by" == Str.ofString "shut") = false ∧ (Str.ofString "by" = Str.ofString "off") = False ∧ (Str.ofString "by" == Str.ofString "off") = false ∧ (Str.ofString "by" = Str.ofString "piece") = False ∧ (Str.ofString "by" == Str.ofString "piece") = false ∧ (Str.ofString "swap" = Str.ofString "num") = False ∧ (Str.ofString "swap" == Str.ofString "num") = false ∧ (Str.ofString "swap" = Str.ofString "name") = False ∧ (Str.ofString "swap" == Str.ofString "name") = false ∧ (Str.ofString "swap" = Str.ofString "turn") = False ∧ (Str.ofString "swap" == Str.ofString "turn") = false ∧ (Str.ofString "swap" = Str.ofString "sum") = False ∧ (Str.ofString "swap" == Str.ofString "sum") = false ∧ (Str.ofString "swap" = Str.ofString "less") = False ∧ (Str.ofString "swap" == Str.ofString "less") = false ∧ (Str.ofString "swap" = Str.ofString "by") = False ∧ (Str.ofString "swap" == Str.ofString "by") = false ∧ (Str.ofString "swap" = Str.ofString "right") = False ∧ (Str.ofString "swap" == Str.ofString "right") = false ∧ (Str.ofString "swap" = Str.ofString "left") = False ∧ (Str.ofString "swap" == Str.ofString "left") = false ∧ (Str.ofString "swap" = Str.ofString "open") = False ∧ (Str.ofString "swap" == Str.ofString "open") = false ∧ (Str.ofString "swap" = Str.ofString "shut") = False ∧ (Str.ofString "swap" == Str.ofString "shut") = false ∧ (Str.ofString "swap" = Str.ofString "off") = False ∧ (Str.ofString "swap" == Str.ofString "off") = false ∧ (Str.ofString "swap" = Str.ofString "piece") = False ∧ (Str.ofString "swap" == Str.ofString "piece") = false ∧ (Str.ofString "right" = Str.ofString "num") = False ∧ (Str.ofString "right" == Str.ofString "num") = false ∧ (Str.ofString "right" = Str.ofString "name") = False ∧ (Str.ofString "right" == Str.ofString "name") = false ∧ (Str.ofString "right" = Str.ofString "turn") = False ∧ (Str.ofString "right" == Str.ofString "turn") = false ∧ (Str.ofString "right" = Str.ofString "sum") = False ∧ (Str.ofString "right" == Str.ofString "sum") = false ∧ (Str.ofString "right" = Str.ofString "less") = False ∧ (Str.ofString "right" == Str.ofString "less") = false ∧ (Str.ofString "right" = Str.ofString "by") = False ∧ (Str.ofString "right" == Str.ofString "by") = false ∧ (Str.ofString "right" = Str.ofString "swap") = False ∧ (Str.ofString "right" == Str.ofString "swap") = false ∧ (Str.ofString "right" = Str.ofString "left") = False ∧ (Str.ofString "right" == Str.ofString "left") = false ∧ (Str.ofString "right" = Str.ofString "open") = False ∧ (Str.ofString "right" == Str.ofString "open") = false ∧ (Str.ofString "right" = Str.ofString "shut") = False ∧ (Str.ofString "right" == Str.ofString "shut") = false ∧ (Str.ofString "right" = Str.ofString "off") = False ∧ (Str.ofString "right" == Str.ofString "off") = false ∧ (Str.ofString "right" = Str.ofString "piece") = False ∧ (Str.ofString "right" == Str.ofString "piece") = false ∧ (Str.ofString "left" = Str.ofString "num") = False ∧ (Str.ofString "left" == Str.ofString "num") = false ∧ (Str.ofString "left" = Str.ofString "name") = False ∧ (Str.ofString "left" == Str.ofString "name") = false ∧ (Str.ofString "left" = Str.ofString "turn") = False ∧ (Str.ofString "left" == Str.ofString "turn") = false ∧ (Str.ofString "left" = Str.ofString "sum") = False ∧ (Str.ofString "left" == Str.ofString "sum") = false ∧ (Str.ofString "left" = Str.ofString "less") = False ∧ (Str.ofString "left" == Str.ofString "less") = false ∧ (Str.ofString "left" = Str.ofString "by") = False ∧ (Str.ofString "left" == Str.ofString "by") = false ∧ (Str.ofString "left" = Str.ofString "swap") = False ∧ (Str.ofString "left" == Str.ofString "swap") = false ∧ (Str.ofString "left" = Str.ofString "right") = False ∧ (Str.ofString "left" == Str.ofString "right") = false ∧ (Str.ofString "left" = Str.ofString "open") = False ∧ (Str.ofString "left" == Str.ofString "open") = false ∧ (Str.ofString "left" = Str.ofString "shut") = False ∧ (Str.ofString "left" == Str.ofString "shut") = false ∧ (Str.ofString "left" = Str.ofString "off") = False ∧ (Str.ofString "left" == Str.ofString "off") = false ∧ (Str.ofString "left" = Str.ofString "piece") = False ∧ (Str.ofString "left" == Str.ofString "piece") = false ∧ (Str.ofString "open" = Str.ofString "num") = False ∧ (Str.ofString "open" == Str.ofString "num") = false ∧ (Str.ofString "open" = Str.ofString "name") = False ∧ (Str.ofString "open" == Str.ofString "name") = false ∧ (Str.ofString "open" = Str.ofString "turn") = False ∧ (Str.ofString "open" == Str.ofString "turn") = false ∧ (Str.ofString "open" = Str.ofString "sum") = False ∧ (Str.ofString "open" == Str.ofString "sum") = false ∧ (Str.ofString "open" = Str.ofString "less") = False ∧ (Str.ofString "open" == Str.ofString "less") = false ∧ (Str.ofString "open" = Str.ofString "by") = False ∧ (Str.ofString "open" == Str.ofString "by") = false ∧ (Str.ofString "open" = Str.ofString "swap") = False ∧ (Str.ofString "open" == Str.ofString "swap") = false ∧ (Str.ofString "open" = Str.ofString "right") = False ∧ (Str.ofString "open" == Str.ofString "right") = false ∧ (Str.ofString "open" = Str.ofString "left") = False ∧ (Str.ofString "open" == Str.ofString "left") = false ∧ (Str.ofString "open" = Str.ofString "shut") = False ∧ (Str.ofString "open" == Str.ofString "shut") = false ∧ (Str.ofString "open" = Str.ofString "off") = False ∧ (Str.ofString "open" == Str.ofString "off") = false ∧ (Str.ofString "open" = Str.ofString "piece") = False ∧ (Str.ofString "open" == Str.ofString "piece") = false ∧ (Str.ofString "shut" = Str.ofString "num") = False ∧ (Str.ofString "shut" == Str.ofString "num") = false ∧ (Str.ofString "shut" = Str.ofString "name") = False ∧ (Str.ofString "shut" == Str.ofString "name") = false ∧ (Str.ofString "shut" = Str.ofString "turn") = False ∧ (Str.ofString "shut" == Str.ofString "turn") = false ∧ (Str.ofString "shut" = Str.ofString "sum") = False ∧ (Str.ofString "shut" == Str.ofString "sum") = false ∧ (Str.ofString "shut" = Str.ofString "less") = False ∧ (Str.ofString "shut" == Str.ofString "less") = false ∧ (Str.ofString "shut" = Str.ofString "by") = False ∧ (Str.ofString "shut" == Str.ofString "by") = false ∧ (Str.ofString "shut" = Str.ofString "swap") = False ∧ (Str.ofString "shut" == Str.ofString "swap") = false ∧ (Str.ofString "shut" = Str.ofString "right") = False ∧ (Str.ofString "shut" == Str.ofString "right") = false ∧ (Str.ofString "shut" = Str.ofString "left") = False ∧ (Str.ofString "shut" == Str.ofString "left") = false ∧ (Str.ofString "shut" = Str.ofString "open") = False ∧ (Str.ofString "shut" == Str.ofString "open") = false ∧ (Str.ofString "shut" = Str.ofString "off") = False ∧ (Str.ofString "shut" == Str.ofString "off") = false ∧ (Str.ofString "shut" = Str.ofString "piece") = False ∧ (Str.ofString "shut" == Str.ofString "piece") = false ∧ (Str.ofString "off" = Str.ofString "num") = False ∧ (Str.ofString "off" == Str.ofString "num") = false ∧ (Str.ofString "off" = Str.ofString "name") = False ∧ (Str.ofString "off" == Str.ofString "name") = false ∧ (Str.ofString "off" = Str.ofString "turn") = False ∧ (Str.ofString "off" == Str.ofString "turn") = false ∧ (Str.ofString "off" = Str.ofString "sum") = False ∧ (Str.ofString "off" == Str.ofString "sum") = false ∧ (Str.ofString "off" = Str.ofString "less") = False ∧ (Str.ofString "off" == Str.ofString "less") = false ∧ (Str.ofString "off" = Str.ofString "by") = False ∧ (Str.ofString "off" == Str.ofString "by") = false ∧ (Str.ofString "off" = Str.ofString "swap") = False ∧ (Str.ofString "off" == Str.ofString "swap") = false ∧ (Str.ofString "off" = Str.ofString "right") = False ∧ (Str.ofString "off" == Str.ofString "right") = false ∧ (Str.ofString "off" = Str.ofString "left") = False ∧ (Str.ofString "off" == Str.ofString "left") = false ∧ (Str.ofString "off" = Str.ofString "open") = False ∧ (Str.ofString "off" == Str.ofString "open") = false ∧ (Str.ofString "off" = Str.ofString "shut") = False ∧ (Str.ofString "off" == Str.ofString "shut") = false ∧ (Str.ofString "off" = Str.ofString "piece") = False ∧ (Str.ofString "off" == Str.ofString "piece") = false ∧ (Str.ofString "piece" = Str.ofString "num") = False ∧ (Str.ofString "piece" == Str.ofString "num") = false ∧ (Str.ofString "piece" = Str.ofString "name") = False ∧ (Str.ofString "piece" == Str.ofString "name") = false ∧ (Str.ofString "piece" = Str.ofString "turn") = False ∧ (Str.ofString "piece" == Str.ofString "turn") = false ∧ (Str.ofString "piece" = Str.ofString "sum") = False ∧ (Str.ofString "piece" == Str.ofString "sum") = false ∧ (Str.ofString "piece" = Str.ofString "less") = False ∧ (Str.ofString "piece" == Str.ofString "less") = false ∧ (Str.ofString "piece" = Str.ofString "by") = False ∧ (Str.ofString "piece" == Str.ofString "by") = false ∧ (Str.ofString "piece" = Str.ofString "swap") = False ∧ (Str.ofString "piece" == Str.ofString "swap") = false ∧ (Str.ofString "piece" = Str.ofString "right") = False ∧ (Str.ofString "piece" == Str.ofString "right") = false ∧ (Str.ofString "piece" = Str.ofString "left") = False ∧ (Str.ofString "piece" == Str.ofString "left") = false ∧ (Str.ofString "piece" = Str.ofString "open") = False ∧ (Str.ofString "piece" == Str.ofString "open") = false ∧ (Str.ofString "piece" = Str.ofString "shut") = False ∧ (Str.ofString "piece" == Str.ofString "shut") = false ∧ (Str.ofString "piece" = Str.ofString "off") = False ∧ (Str.ofString "piece" == Str.ofString "off") = false := ⟨w_num_name, v_num_name, w_num_turn, v_num_turn, w_num_sum, v_num_sum, w_num_less, v_num_less, w_num_by, v_num_by, w_num_swap, v_num_swap, w_num_right, v_num_right, w_num_left, v_num_left, w_num_open, v_num_open, w_num_shut, v_num_shut, w_num_off, v_num_off, w_num_piece, v_num_piece, w_name_num, v_name_num, w_name_turn, v_name_turn, w_name_sum, v_name_sum, w_name_less, v_name_less, w_name_by, v_name_by, w_name_swap, v_name_swap, w_name_right, v_name_right, w_name_left, v_name_left, w_name_open, v_name_open, w_name_shut, v_name_shut, w_name_off, v_name_off, w_name_piece, v_name_piece, w_turn_num, v_turn_num, w_turn_name, v_turn_name, w_turn_sum, v_turn_sum, w_turn_less, v_turn_less, w_turn_by, v_turn_by, w_turn_swap, v_turn_swap, w_turn_right, v_turn_right, w_turn_left, v_turn_left, w_turn_open, v_turn_open, w_turn_shut, v_turn_shut, w_turn_off, v_turn_off, w_turn_piece, v_turn_piece, w_sum_num, v_sum_num, w_sum_name, v_sum_name, w_sum_turn, v_sum_turn, w_sum_less, v_sum_less, w_sum_by, v_sum_by, w_sum_swap, v_sum_swap, w_sum_right, v_sum_right, w_sum_left, v_sum_left, w_sum_open, v_sum_open, w_sum_shut, v_sum_shut, w_sum_off, v_sum_off, w_sum_piece, v_sum_piece, w_less_num, v_less_num, w_less_name, v_less_name, w_less_turn, v_less_turn, w_less_sum, v_less_sum, w_less_by, v_less_by, w_less_swap, v_less_swap, w_less_right, v_less_right, w_less_left, v_less_left, w_less_open, v_less_open, w_less_shut, v_less_shut, w_less_off, v_less_off, w_less_piece, v_less_piece, w_by_num, v_by_num, w_by_name, v_by_name, w_by_turn, v_by_turn, w_by_sum, v_by_sum, w_by_less, v_by_less, w_by_swap, v_by_swap, w_by_right, v_by_right, w_by_left, v_by_left, w_by_open, v_by_open, w_by_shut, v_by_shut, w_by_off, v_by_off, w_by_piece, v_by_piece, w_swap_num, v_swap_num, w_swap_name, v_swap_name, w_swap_turn, v_swap_turn, w_swap_sum, v_swap_sum, w_swap_less, v_swap_less, w_swap_by, v_swap_by, w_swap_right, v_swap_right, w_swap_left, v_swap_left, w_swap_open, v_swap_open, w_swap_shut, v_swap_shut, w_swap_off, v_swap_off, w_swap_piece, v_swap_piece, w_right_num, v_right_num, w_right_name, v_right_name, w_right_turn, v_right_turn, w_right_sum, v_right_sum, w_right_less, v_right_less, w_right_by, v_right_by, w_right_swap, v_right_swap, w_right_left, v_right_left, w_right_open, v_right_open, w_right_shut, v_right_shut, w_right_off, v_right_off, w_right_piece, v_right_piece, w_left_num, v_left_num, w_left_name, v_left_name, w_left_turn, v_left_turn, w_left_sum, v_left_sum, w_left_less, v_left_less, w_left_by, v_left_by, w_left_swap, v_left_swap, w_left_right, v_left_right, w_left_open, v_left_open, w_left_shut, v_left_shut, w_left_off, v_left_off, w_left_piece, v_left_piece, w_open_num, v_open_num, w_open_name, v_open_name, w_open_turn, v_open_turn, w_open_sum, v_open_sum, w_open_less, v_open_less, w_open_by, v_open_by, w_open_swap, v_open_swap, w_open_right, v_open_right, w_open_left, v_open_left, w_open_shut, v_open_shut, w_open_off, v_open_off, w_open_piece, v_open_piece, w_shut_num, v_shut_num, w_shut_name, v_shut_name, w_shut_turn, v_shut_turn, w_shut_sum, v_shut_sum, w_shut_less, v_shut_less, w_shut_by, v_shut_by, w_shut_swap, v_shut_swap, w_shut_right, v_shut_right, w_shut_left, v_shut_left, w_shut_open, v_shut_open, w_shut_off, v_shut_off, w_shut_piece, v_shut_piece, w_off_num, v_off_num, w_off_name, v_off_name, w_off_turn, v_off_turn, w_off_sum, v_off_sum, w_off_less, v_off_less, w_off_by, v_off_by, w_off_swap, v_off_swap, w_off_right, v_off_right, w_off_left, v_off_left, w_off_open, v_off_open, w_off_shut, v_off_shut, w_off_piece, v_off_piece, w_piece_num, v_piece_num, w_piece_name, v_piece_name, w_piece_turn, v_piece_turn, w_piece_sum, v_piece_sum, w_piece_less, v_piece_less, w_piece_by, v_piece_by, w_piece_swap, v_piece_swap, w_piece_right, v_piece_right, w_piece_left, v_piece_left, w_piece_open, v_piece_open, w_piece_shut, v_piece_shut, w_piece_off, v_piece_off⟩
theorem eqX_non {z : Str} {M : MHp} {Q : UK} : uEqX false U.non (.str z) M Q = Q (.bl false) M := by
  have : eqS U.non (.str z) = some false := rfl
  unfold uEqX; rw [this]; rfl
def isLetter (c : Nat) : Bool := !(Builtin.Str.occurrences LET ⟨#[c]⟩ 0 LET.length 1).isEmpty
def isName : U → Bool
  | .str z => decide (1 ≤ z.length) && decide (z.length ≤ 8) && z.cps.toList.all isLetter
  | _ => false
def okU : U → Prop
  | .str z => z.length ≤ sizeLine
  | .ref _ => False
  | .ty _ => False
  | _ => True
def spName : USp := fun us M Q => ∃ x, us = [x] ∧ okU x ∧ Q (.bl (isName x)) M
theorem chars_mem {z : Str} {x : U} (h : x ∈ chars z) : ∃ c, x = .str ⟨#[c]⟩ := by
  obtain ⟨c, _, e⟩ := List.mem_map.mp h
  exact ⟨c, e.symm⟩
theorem chars_len (z : Str) : (chars z).length = z.length := by simp [chars, Str.length]
def elt1 : U → Option U
  | .str y => some (.bl (!(Builtin.Str.occurrences LET y 0 LET.length 1).isEmpty))
  | _ => none
theorem bls1 : ∀ l : List Nat, blsU ((l.map fun c => U.str ⟨#[c]⟩).filterMap elt1) = some (l.map isLetter)
  | [] => rfl
  | c :: r => by
    have := bls1 r
    simp only [List.map_cons, List.filterMap_cons, elt1] at this ⊢
    simp only [blsU, this, Option.map_some]
    rfl
local macro_rules | `(tactic| dsimp! only [$xs,*] $[$l]?) => `(tactic| simp only [$xs,*, Bool.false_eq_true, Bool.not_false, Bool.not_true, List.append_nil, List.cons_append, List.getElem?_cons_succ, List.getElem?_cons_zero, List.length_cons, List.length_nil, List.map_cons, List.map_nil, List.nil_append, List.replicate, List.set_cons_succ, List.set_cons_zero, Nat.add_sub_cancel, Nat.reduceAdd, Nat.reduceSub, Nat.sub_self, Option.some.injEq, and_true, at0, at1, at2, at3, bAll, bInt1, bInt2, bIsi2, bLen, bList, bTuple, cGe, cGt, cLe, cLt, decide_false, decide_true, eqS, exists_eq_left', hName, if_false, if_true, inSt, inTab, isNon, isi_NoneType_bool, isi_NoneType_dict, isi_NoneType_int, isi_NoneType_list, isi_NoneType_str, isi_NoneType_tuple, isi_bool_bool, isi_bool_dict, isi_bool_int, isi_bool_list, isi_bool_str, isi_bool_tuple, isi_dict_bool, isi_dict_dict, isi_dict_int, isi_dict_list, isi_dict_str, isi_dict_tuple, isi_int_bool, isi_int_dict, isi_int_int, isi_int_list, isi_int_str, isi_int_tuple, isi_list_bool, isi_list_dict, isi_list_int, isi_list_list, isi_list_str, isi_list_tuple, isi_str_bool, isi_str_dict, isi_str_int, isi_str_list, isi_str_str, isi_str_tuple, isi_tuple_bool, isi_tuple_dict, isi_tuple_int, isi_tuple_list, isi_tuple_str, isi_tuple_tuple, ixTab, mAppend, mPop, mkL, reduceCtorEq, startU, true_and, typU, uAdd, uAddL, uAnd, uAndV, uAsg, uBM, uBM0, uBreak, uC, uCB, uCall, uCallV, uChain, uCons, uCont, uDrop, uEqS, uI, uI0, uIf, uIfS, uIsN, uIter, uIx, uLst, uNeS, uNext, uNil, uNoPart, uNot, uNotN, uNotV, uOp, uOr, uOrV, uPart, uRet, uRetN, uRng1, uRng2, uSeq, uTest, uTru, uTup, uUn, uVar] $[$l]?)
theorem ok_is_name {t1 t2 : Tok} (F : Fun K "is_name" "is_name" s_is_name f fd) (hm : mg "is_name" = some (.ref f)) (m_len : mg "len" = none) (m_isinstance : mg "isinstance" = none) (m_str : mg "str" = none) (m_all : mg "all" = none)
    (g_LETTERS : mg "LETTERS" = some (.str LET t1)) (g_LONGEST_NAME : mg "LONGEST_NAME" = some (.int 8 t2)) : Callee P w K mg base 1 "is_name" spName [] := by
  refine callee_of F hm sc_is_name (fun _ _ _ _ _ _ us hl => match us, hl with | [_], _ => rfl) (fun us M Q h => by obtain ⟨x, rfl, _⟩ := h; rfl) (uss_cons (us_if (PWU.pt (uw_or (ut_not (ut_val (ue_b b_isi m_isinstance (ua_cons (uv 0) (ua_cons (ug_ty (n := "str") m_str) ua_nil))))) (uw_or1 (ut_not (ut_ch k_le k_le un_ (ue_b b_len m_len (ua_cons (uv 0) ua_nil)) (ug_int g_LONGEST_NAME))))))
  (uss_one (us_ret ub_))
  uss_nil)
  (uss_one (us_ret (ue_b b_all m_all (ua_cons (ue_comp false ["sign"] 1 [] (ui_seq (uv 0)) (ug_name (k := 1) 0 (by dsimp only [compD]; decide +kernel)) uif_nil (ue_c k_inS (uv 0) (ug_str g_LETTERS))) ua_nil))))) ?_
  rintro us M Q ⟨x, rfl, ok, q⟩
  cases x with
  | str z =>
    dsimp! only [capt, hTup, hCons, hNil, uEqX, uEqD, uLtX, uIn, items, uEnum, uZip, mExtend, mClear, bMax, bSum, view, uSlX]
    refine ⟨ok, ?_⟩
    simp only [isName] at q
    by_cases h1 : 1 ≤ (z.length : Int)
    · rw [if_pos (by simpa using h1)]
      by_cases h8 : (z.length : Int) ≤ 8
      · rw [if_neg (by simp [h8])]
        refine uComp_pure (S := ⟨none, chars z⟩) (M1 := M) (hw := fun R r => r) elt1 (by rw [show (Src.mk none (chars z)).xs.length = z.length from chars_len z]; exact ok) (fun a e => by cases e) (fun x hx M' _ R r => ?_) ?_
        · obtain ⟨c, rfl⟩ := chars_mem hx
          exact r
        · show (match blsU ((chars z).filterMap elt1) with | some bs => rtU Q (U.bl (bs.all fun b => b)) M | none => False)
          unfold chars
          rw [bls1]
          refine rt_same ?_
          have e : ((z.cps.toList.map isLetter).all fun b => b) = (decide (1 ≤ z.length) && decide (z.length ≤ 8) && z.cps.toList.all isLetter) := by
            rw [decide_eq_true (show 1 ≤ z.length by omega), decide_eq_true (show z.length ≤ 8 by omega), List.all_map]
            rfl
          rw [e]; exact q
      · rw [if_pos (by simp [h8])]
        rw [decide_eq_false (show ¬ z.length ≤ 8 by omega)] at q
        simp at q
        exact rt_same q
    · rw [if_neg (by simpa using h1)]
      rw [decide_eq_false (show ¬ 1 ≤ z.length by omega)] at q
      simp at q
      exact rt_same q
  | ref a => exact ok.elim
  | ty a => exact ok.elim
  | _ => dsimp! only [capt, hTup, hCons, hNil, uEqX, uEqD, uLtX, uIn, items, uEnum, uZip, mExtend, mClear, bMax, bSum, view, uSlX]; exact rt_same q
def numV : U → Bool
  | .int i => decide (0 ≤ i) && decide (i ≤ 1000000000000000000)
  | _ => false
inductive LF : U → Bool → Prop
  | non : LF .non false
  | bl (b : Bool) : LF (.bl b) false
  | int (i : Int) : LF (.int i) false
  | str (z : Str) : LF (.str z) false
  | lst (l : List U) : LF (.lst l) false
  | tnil : LF (.tup []) false
  | tn (r : List U) : LF (.tup (.non :: r)) false
  | tt (xs r : List U) (h : r.length = 1 → ∀ (z : Str) (M : MHp) (Q : UK), PyData.strOk z = true → Q (.bl false) M → uEqX false (.tup xs) (.str z) M Q) : LF (.tup (.tup xs :: r)) false
  | tl (xs r : List U) (h : r.length = 1 → ∀ (z : Str) (M : MHp) (Q : UK), PyData.strOk z = true → Q (.bl false) M → uEqX false (.lst xs) (.str z) M Q) : LF (.tup (.lst xs :: r)) false
  | word (z : Str) (r : List U) (h : tabGet SIGNS z = none ∨ ∃ k : Nat, tabGet SIGNS z = some (.int k) ∧ r.length ≠ k) (h2 : r.length = 1 → z ≠ Str.ofString "num" ∧ z ≠ Str.ofString "name") : LF (.tup (.str z :: r)) false
  | num (x : U) (h : okU x) : LF (.tup [.str (Str.ofString "num"), x]) (numV x)
  | name (x : U) (h : okU x) : LF (.tup [.str (Str.ofString "name"), x]) (isName x)
inductive G where
  | leaf (u : U) (b : Bool) | turn (a : G) | two (o : Op) (a b : G)
namespace G
def toU : G → U
  | leaf u _ => u
  | turn a => .tup [.str "turn", a.toU]
  | two o a b => .tup [.str o.word, a.toU, b.toU]
def size : G → Nat
  | leaf _ _ => 1
  | turn a => a.size + 1
  | two _ a b => a.size + b.size + 1
def dep : G → Nat
  | leaf _ _ => 1
  | turn a => a.dep + 1
  | two _ a b => max a.dep b.dep + 1
def fit : G → Bool
  | leaf _ b => b
  | turn a => a.fit
  | two _ a b => a.fit && b.fit
def wf (L : U → Bool → Prop) : G → Prop
  | leaf u b => L u b
  | turn a => a.wf L
  | two _ a b => a.wf L ∧ b.wf L
end G
def spWholeG : USp := fun us M Q => ∃ u, us = [u] ∧ okU u ∧ Q (.bl (match u with | .int _ => true | _ => false)) M
theorem ok_is_whole (F : Fun K "is_whole" "is_whole" s_is_whole f fd) (hm : mg "is_whole" = some (.ref f)) (m_isinstance : mg "isinstance" = none) (m_int : mg "int" = none) (m_bool : mg "bool" = none) : Callee P w K mg base 1 "is_whole" spWholeG [] := by
  refine callee_of F hm sc_is_whole (fun _ _ _ _ _ _ us hl => match us, hl with | [_], _ => rfl) (fun us M Q h => by obtain ⟨x, rfl, _⟩ := h; rfl) (uss_one (us_ret (ue_and (ue_b b_isi m_isinstance (ua_cons (uv 0) (ua_cons (ug_ty (n := "int") m_int) ua_nil))) (ue_one (ue_not (ue_b b_isi m_isinstance (ua_cons (uv 0) (ua_cons (ug_ty (n := "bool") m_bool) ua_nil)))))))) ?_
  rintro us M Q ⟨u, rfl, ho, q⟩
  cases u with
  | ref a => exact ho.elim
  | ty a => exact ho.elim
  | _ => dsimp! only [capt, hTup, hCons, hNil, uEqX, uEqD, uLtX, uIn, items, uEnum, uZip, mExtend, mClear, bMax, bSum, view, uSlX]; exact rt_same q
def spNumber : USp := fun us M Q => ∃ u, us = [u] ∧ okU u ∧ Q (.bl (numV u)) M
theorem ok_is_number {t1 : Tok} (F : Fun K "is_number" "is_number" s_is_number f fd) (hm : mg "is_number" = some (.ref f)) (g_GREATEST : mg "GREATEST" = some (.int 1000000000000000000 t1)) (C_is_whole : Callee P w K mg base 1 "is_whole" spWholeG []) : Callee P w K mg base 2 "is_number" spNumber [] := by
  refine callee_of F hm sc_is_number (fun _ _ _ _ _ _ us hl => match us, hl with | [_], _ => rfl) (fun us M Q h => by obtain ⟨x, rfl, _⟩ := h; rfl) (uss_one (us_ret (ue_and (ue_call C_is_whole (ua_cons (uv 0) ua_nil)) (ue_one (ue_ch k_le k_le un_ (uv 0) (ug_int g_GREATEST)))))) ?_
  rintro us M Q ⟨u, rfl, ho, q⟩
  dsimp! only [capt, hTup, hCons, hNil, uEqX, uEqD, uLtX, uIn, items, uEnum, uZip, mExtend, mClear, bMax, bSum, view, uSlX]
  refine ⟨u, rfl, ho, ?_⟩
  cases u with
  | ref a => exact ho.elim
  | ty a => exact ho.elim
  | int i =>
    dsimp! only [numV, capt, hTup, hCons, hNil, uEqX, uEqD, uLtX, uIn, items, uEnum, uZip, mExtend, mClear, bMax, bSum, view, uSlX] at q ⊢
    by_cases h : 0 ≤ i
    · rw [if_pos (decide_eq_true h)]
      rw [decide_eq_true h, Bool.true_and] at q
      exact rt_same q
    · rw [if_neg (by simpa using h)]
      rw [decide_eq_false h, Bool.false_and] at q
      exact rt_same q
  | _ => dsimp! only [capt, hTup, hCons, hNil, uEqX, uEqD, uLtX, uIn, items, uEnum, uZip, mExtend, mClear, bMax, bSum, view, uSlX]; exact rt_same q
def spSign : USp := fun us M Q => ∃ u, us = [u] ∧ ((∃ b, LF u b ∧ Q (.bl false) M) ∨ (∃ (z : Str) (r : List U), u = .tup (.str z :: r) ∧ tabGet SIGNS z = some (.int (r.length : Nat)) ∧ Q (.bl true) M))
theorem ok_is_sign (F : Fun K "is_sign" "is_sign" s_is_sign f fd) (hm : mg "is_sign" = some (.ref f)) (m_isinstance : mg "isinstance" = none) (m_tuple : mg "tuple" = none) (m_len : mg "len" = none) (m_str : mg "str" = none) (T_SIGNS : IsTab P w K d SIGNS) (g_SIGNS : mg "SIGNS" = some (.ref d)) : Callee P w K mg base 1 "is_sign" spSign [] := by
  refine callee_of F hm sc_is_sign (fun _ _ _ _ _ _ us hl => match us, hl with | [_], _ => rfl) (fun us M Q h => by obtain ⟨x, rfl, _⟩ := h; rfl) (uss_cons (us_if (PWU.pt (uw_or (ut_not (ut_val (ue_b b_isi m_isinstance (ua_cons (uv 0) (ua_cons (ug_ty (n := "tuple") m_tuple) ua_nil))))) (uw_or (ut_c k_eqX (ue_b b_len m_len (ua_cons (uv 0) ua_nil)) un_) (uw_or1 (ut_not (ut_val (ue_b b_isi m_isinstance (ua_cons (ue_ix (uv 0) un_) (ua_cons (ug_ty (n := "str") m_str) ua_nil)))))))))
  (uss_one (us_ret ub_))
  uss_nil)
  (uss_one (us_ret (ue_and (ue_c (k_inTab T_SIGNS) (ue_ix (uv 0) un_) (ug_ref g_SIGNS)) (ue_one (ue_c k_eqX (ue_b b_len m_len (ua_cons (uv 0) ua_nil)) (ue_add (own := false) un_ (ue_dix T_SIGNS (ug_ref g_SIGNS) (ue_ix (uv 0) un_))))))))) ?_
  rintro us M Q ⟨u, rfl, h⟩
  have hne : ∀ n : Nat, decide (((n + 1 : Nat) : Int) = 0) = false := fun n => decide_eq_false (by omega)
  have nn : tabGet SIGNS (Str.ofString "num") = none := by decide +kernel
  have nm : tabGet SIGNS (Str.ofString "name") = none := by decide +kernel
  have no : ∀ (z : Str) (r : List U), tabGet SIGNS z = none → Q (.bl false) M → uAndV (uOp (inTab d SIGNS false) (uOp uIx (uVar 0) (uC (U.int 0))) (uC (U.ref d))) (uOp (uEqX false) (uCB bLen (uCons (uVar 0) uNil)) (uOp (uAdd false) (uC (U.int 1)) (uOp (ixTab d SIGNS) (uC (U.ref d)) (uOp uIx (uVar 0) (uC (U.int 0)))))) [some (.tup (.str z :: r))] M (rtU Q) := fun z r h q => by
    dsimp! only [h, Option.isSome_none, capt, hTup, hCons, hNil, uEqX, uEqD, uLtX, uIn, items, uEnum, uZip, mExtend, mClear, bMax, bSum, view, uSlX]
    exact rt_same q
  have yes : ∀ (z : Str) (r : List U) (k : Nat), tabGet SIGNS z = some (.int k) → Q (.bl (decide (r.length = k))) M → uAndV (uOp (inTab d SIGNS false) (uOp uIx (uVar 0) (uC (U.int 0))) (uC (U.ref d))) (uOp (uEqX false) (uCB bLen (uCons (uVar 0) uNil)) (uOp (uAdd false) (uC (U.int 1)) (uOp (ixTab d SIGNS) (uC (U.ref d)) (uOp uIx (uVar 0) (uC (U.int 0)))))) [some (.tup (.str z :: r))] M (rtU Q) := fun z r k h q => by
    dsimp! only [h, Option.isSome_some, Fl.u, capt, hTup, hCons, hNil, uEqX, uEqD, uLtX, uIn, items, uEnum, uZip, mExtend, mClear, bMax, bSum, view, uSlX]
    refine rt_same ?_
    have e : decide (((r.length + 1 : Nat) : Int) = 1 + (k : Int)) = decide (r.length = k) := by
      by_cases e : r.length = k
      · rw [decide_eq_true e]; exact decide_eq_true (by omega)
      · rw [decide_eq_false e]; exact decide_eq_false (by omega)
    rw [e]
    exact q
  rcases h with ⟨b, hb, q⟩ | ⟨z, r, rfl, hz, q⟩
  · cases hb with
    | word z r h h2 =>
      simp_all! only [hne, eqS, uSeq, uIfS, hTup, hCons, hNil, uEqX, uEqD, uSeq, uIfS, uNext, uRet, uRetN, uAsg, hName, uDrop, eqS, isNon, uBreak, uCont]
      rcases h with h | ⟨k, h, hk⟩
      · exact no z r h q
      · exact yes z r k h (by rw [decide_eq_false hk]; exact q)
    | num x h =>
      simp_all! only [hne, eqS, uSeq, uIfS, hTup, hCons, hNil, uEqX, uEqD, uSeq, uIfS, uNext, uRet, uRetN, uAsg, hName, uDrop, eqS, isNon, uBreak, uCont]
      exact no _ _ nn q
    | name x h =>
      simp_all! only [hne, eqS, uSeq, uIfS, hTup, hCons, hNil, uEqX, uEqD, uSeq, uIfS, uNext, uRet, uRetN, uAsg, hName, uDrop, eqS, isNon, uBreak, uCont]
      exact no _ _ nm q
    | tnil => dsimp! only [show decide (((0 : Nat) : Int) = 0) = true from rfl, capt, hTup, hCons, hNil, uEqX, uEqD, uLtX, uIn, items, uEnum, uZip, mExtend, mClear, bMax, bSum, view, uSlX]; exact rt_same q
    | _ => dsimp! only [hne, capt, hTup, hCons, hNil, uEqX, uEqD, uLtX, uIn, items, uEnum, uZip, mExtend, mClear, bMax, bSum, view, uSlX]; exact rt_same q
  · simp_all! only [hne, eqS, uSeq, uIfS, hTup, hCons, hNil, uEqX, uEqD, uSeq, uIfS, uNext, uRet, uRetN, uAsg, hName, uDrop, eqS, isNon, uBreak, uCont]
    exact yes z r r.length hz (by rw [decide_eq_true rfl]; exact q)
def spTLeaf : USp := fun us M Q => ∃ u b, us = [u] ∧ LF u b ∧ Q (.bl b) M
theorem ok_is_tree_leaf (F : Fun K "is_tree_leaf" "is_tree_leaf" s_is_tree_leaf f fd) (m_isinstance : mg "isinstance" = none) (m_tuple : mg "tuple" = none) (m_len : mg "len" = none) (C_is_number : Callee P w K mg base 2 "is_number" spNumber []) (C_is_name : Callee P w K mg base 1 "is_name" spName []) : CalleeAt P w K mg base 3 f spTLeaf := by
  have h : FnOk P w K mg base CX0 3 f fd ["thing"] (liftSp K spTLeaf) := by
    refine fnok_of F sc_is_tree_leaf (fun us M Q h => by obtain ⟨x, y, rfl, _⟩ := h; rfl) (uss_cons (us_if (PWU.pt (uw_or (ut_not (ut_val (ue_b b_isi m_isinstance (ua_cons (uv 0) (ua_cons (ug_ty (n := "tuple") m_tuple) ua_nil))))) (uw_or1 (ut_c k_neX (ue_b b_len m_len (ua_cons (uv 0) ua_nil)) un_))))
  (uss_one (us_ret ub_))
  uss_nil)
  (uss_cons (us_if (ut_c k_eqX (ue_ix (uv 0) un_) us_)
  (uss_one (us_ret (ue_call C_is_number (ua_cons (ue_ix (uv 0) un_) ua_nil))))
  uss_nil)
  (uss_one (us_ret (ue_and (ue_c k_eqX (ue_ix (uv 0) un_) us_) (ue_one (ue_call C_is_name (ua_cons (ue_ix (uv 0) un_) ua_nil)))))))) ?_
    rintro us M Q ⟨u, b, rfl, hb, q⟩
    have hl : ∀ n : Nat, (!decide (((n + 1 : Nat) : Int) = 2)) = !decide (n = 1) := fun n => by
      by_cases e : n = 1
      · subst e; rfl
      · rw [decide_eq_false e, decide_eq_false (by omega)]
    have w1 : decide (Str.ofString "num" = Str.ofString "num") = true := by decide +kernel
    have w2 : decide (Str.ofString "name" = Str.ofString "num") = false := by decide +kernel
    have w3 : decide (Str.ofString "name" = Str.ofString "name") = true := by decide +kernel
    cases hb with
    | tnil => simp! only [show (!decide (((0 : Nat) : Int) = 2)) = true from rfl, hTup, hCons, hNil, uSeq, uIfS, uNext, uRet, uRetN, uAsg, hName, uDrop, uBreak, uCont, uSetI, uListRev, uRev, uListZip, uCallG, gL1, gL2, ulCons, ulLam, ulNil]; exact rt_same q
    | tt xs r h =>
      by_cases e : r.length = 1
      · simp! only [hl, e, hTup, hCons, hNil, uSeq, uIfS, uNext, uRet, uRetN, uAsg, hName, uDrop, uBreak, uCont, uSetI, uListRev, uRev, uListZip, uCallG, gL1, gL2, ulCons, ulLam, ulNil]
        refine h e _ _ _ (by decide +kernel) ?_
        simp! only [hTup, hCons, hNil, uSeq, uIfS, uNext, uRet, uRetN, uAsg, hName, uDrop, uBreak, uCont, uSetI, uListRev, uRev, uListZip, uCallG, gL1, gL2, ulCons, ulLam, ulNil]
        refine h e _ _ _ (by decide +kernel) ?_
        simp! only [hTup, hCons, hNil, uSeq, uIfS, uNext, uRet, uRetN, uAsg, hName, uDrop, uBreak, uCont, uSetI, uListRev, uRev, uListZip, uCallG, gL1, gL2, ulCons, ulLam, ulNil]
        exact rt_same q
      · simp! only [hl, e, hTup, hCons, hNil, uSeq, uIfS, uNext, uRet, uRetN, uAsg, hName, uDrop, uBreak, uCont, uSetI, uListRev, uRev, uListZip, uCallG, gL1, gL2, ulCons, ulLam, ulNil]
        exact rt_same q
    | tl xs r h =>
      by_cases e : r.length = 1
      · simp! only [hl, e, hTup, hCons, hNil, uSeq, uIfS, uNext, uRet, uRetN, uAsg, hName, uDrop, uBreak, uCont, uSetI, uListRev, uRev, uListZip, uCallG, gL1, gL2, ulCons, ulLam, ulNil]
        refine h e _ _ _ (by decide +kernel) ?_
        simp! only [hTup, hCons, hNil, uSeq, uIfS, uNext, uRet, uRetN, uAsg, hName, uDrop, uBreak, uCont, uSetI, uListRev, uRev, uListZip, uCallG, gL1, gL2, ulCons, ulLam, ulNil]
        refine h e _ _ _ (by decide +kernel) ?_
        simp! only [hTup, hCons, hNil, uSeq, uIfS, uNext, uRet, uRetN, uAsg, hName, uDrop, uBreak, uCont, uSetI, uListRev, uRev, uListZip, uCallG, gL1, gL2, ulCons, ulLam, ulNil]
        exact rt_same q
      · simp! only [hl, e, hTup, hCons, hNil, uSeq, uIfS, uNext, uRet, uRetN, uAsg, hName, uDrop, uBreak, uCont, uSetI, uListRev, uRev, uListZip, uCallG, gL1, gL2, ulCons, ulLam, ulNil]
        exact rt_same q
    | word z r h h2 =>
      by_cases e : r.length = 1
      · obtain ⟨n1, n2⟩ := h2 e
        simp! only [hl, e, n1, n2, hTup, hCons, hNil, uSeq, uIfS, uNext, uRet, uRetN, uAsg, hName, uDrop, uBreak, uCont, uSetI, uListRev, uRev, uListZip, uCallG, gL1, gL2, ulCons, ulLam, ulNil]
        exact rt_same q
      · simp! only [hl, e, hTup, hCons, hNil, uSeq, uIfS, uNext, uRet, uRetN, uAsg, hName, uDrop, uBreak, uCont, uSetI, uListRev, uRev, uListZip, uCallG, gL1, gL2, ulCons, ulLam, ulNil]
        exact rt_same q
    | num x h =>
      simp! only [hl, w1, hTup, hCons, hNil, uSeq, uIfS, uNext, uRet, uRetN, uAsg, hName, uDrop, uBreak, uCont, uSetI, uListRev, uRev, uListZip, uCallG, gL1, gL2, ulCons, ulLam, ulNil]
      exact ⟨x, rfl, h, rt_same q⟩
    | name x h =>
      simp! only [hl, w2, w3, hTup, hCons, hNil, uSeq, uIfS, uNext, uRet, uRetN, uAsg, hName, uDrop, uBreak, uCont, uSetI, uListRev, uRev, uListZip, uCallG, gL1, gL2, ulCons, ulLam, ulNil]
      exact ⟨x, rfl, h, rt_same q⟩
    | tn r =>
      by_cases e : r.length = 1
      · simp! only [hl, e, eqX_non, hTup, hCons, hNil, uSeq, uIfS, uNext, uRet, uRetN, uAsg, hName, uDrop, uBreak, uCont, uSetI, uListRev, uRev, uListZip, uCallG, gL1, gL2, ulCons, ulLam, ulNil]
        exact rt_same q
      · simp! only [hl, e, hTup, hCons, hNil, uSeq, uIfS, uNext, uRet, uRetN, uAsg, hName, uDrop, uBreak, uCont, uSetI, uListRev, uRev, uListZip, uCallG, gL1, gL2, ulCons, ulLam, ulNil]
        exact rt_same q
    | _ => simp! only [hTup, hCons, hNil, uSeq, uIfS, uNext, uRet, uRetN, uAsg, hName, uDrop, uBreak, uCont, uSetI, uListRev, uRev, uListZip, uCallG, gL1, gL2, ulCons, ulLam, ulNil]; exact rt_same q
  exact ⟨fd, _, h, F.kp, F.binds (fun _ _ _ _ _ _ us hl => match us, hl with | [_], _ => rfl)⟩
def ent (x : G × Nat) : U := .tup [x.1.toU, .int (x.2 : Nat)]
def tot : List (G × Nat) → Nat
  | [] => 0
  | x :: r => x.1.size + tot r
theorem tot_app : ∀ l r : List (G × Nat), tot (l ++ r) = tot l + tot r
  | [], _ => by simp [tot]
  | t :: l, r => by simp [tot, tot_app l r]; omega
def VV (c : Nat) (st : List (G × Nat)) : Prop := c + tot st ≤ 200 ∧ (∀ x ∈ st, x.2 + x.1.dep ≤ 41) ∧ ∀ x ∈ st, x.1.fit = true
def verd (g : G) : Bool := decide (g.size ≤ 200) && (decide (g.dep ≤ 40) && g.fit)
theorem verd_iff (g : G) : verd g = true ↔ VV 0 [(g, 1)] := by
  unfold verd VV
  simp only [Bool.and_eq_true, decide_eq_true_eq, tot, List.mem_cons, List.not_mem_nil, or_false, forall_eq]
  constructor
  · rintro ⟨a, b, c⟩; exact ⟨by omega, by omega, c⟩
  · rintro ⟨a, b, c⟩; exact ⟨by omega, by omega, c⟩
theorem vv_turn {c d : Nat} {st : List (G × Nat)} {a : G} : VV (c + 1) (st ++ [(a, d + 1)]) ↔ VV c (st ++ [(G.turn a, d)]) := by
  unfold VV
  simp only [tot_app, tot, List.mem_append, List.mem_cons, List.not_mem_nil, or_false, G.size]
  constructor
  · rintro ⟨h1, h2, h3⟩
    refine ⟨by omega, fun x hx => ?_, fun x hx => ?_⟩
    · rcases hx with hx | rfl
      · exact h2 x (.inl hx)
      · have := h2 (a, d + 1) (.inr rfl); simp only [G.dep] at this ⊢; omega
    · rcases hx with hx | rfl
      · exact h3 x (.inl hx)
      · exact h3 (a, d + 1) (.inr rfl)
  · rintro ⟨h1, h2, h3⟩
    refine ⟨by omega, fun x hx => ?_, fun x hx => ?_⟩
    · rcases hx with hx | rfl
      · exact h2 x (.inl hx)
      · have := h2 (G.turn a, d) (.inr rfl); simp only [G.dep] at this ⊢; omega
    · rcases hx with hx | rfl
      · exact h3 x (.inl hx)
      · exact h3 (G.turn a, d) (.inr rfl)
theorem vv_two {c d : Nat} {st : List (G × Nat)} {a b : G} {o : Op} : VV (c + 1) (st ++ [(a, d + 1), (b, d + 1)]) ↔ VV c (st ++ [(G.two o a b, d)]) := by
  unfold VV
  simp only [tot_app, tot, List.mem_append, List.mem_cons, List.not_mem_nil, or_false, G.size]
  constructor
  · rintro ⟨h1, h2, h3⟩
    refine ⟨by omega, fun x hx => ?_, fun x hx => ?_⟩
    · rcases hx with hx | rfl
      · exact h2 x (.inl hx)
      · have e1 := h2 (a, d + 1) (.inr (.inl rfl)); have e2 := h2 (b, d + 1) (.inr (.inr rfl)); simp only [G.dep] at e1 e2 ⊢; omega
    · rcases hx with hx | rfl
      · exact h3 x (.inl hx)
      · have e1 := h3 (a, d + 1) (.inr (.inl rfl)); have e2 := h3 (b, d + 1) (.inr (.inr rfl)); simp only [G.fit] at e1 e2 ⊢; rw [e1, e2]; rfl
  · rintro ⟨h1, h2, h3⟩
    have e1 := h2 (G.two o a b, d) (.inr rfl)
    have e2 := h3 (G.two o a b, d) (.inr rfl)
    simp only [G.dep, G.fit, Bool.and_eq_true] at e1 e2
    refine ⟨by omega, fun x hx => ?_, fun x hx => ?_⟩
    · rcases hx with hx | rfl | rfl
      · exact h2 x (.inl hx)
      · simp only; omega
      · simp only; omega
    · rcases hx with hx | rfl | rfl
      · exact h3 x (.inl hx)
      · exact e2.1
      · exact e2.2
theorem vv_leaf {c d : Nat} {st : List (G × Nat)} {u : U} (hd : d ≤ 40) : VV (c + 1) st ↔ VV c (st ++ [(G.leaf u true, d)]) := by
  unfold VV
  simp only [tot_app, tot, List.mem_append, List.mem_cons, List.not_mem_nil, or_false, G.size]
  constructor
  · rintro ⟨h1, h2, h3⟩
    refine ⟨by omega, fun x hx => ?_, fun x hx => ?_⟩
    · rcases hx with hx | rfl
      · exact h2 x hx
      · simp only [G.dep]; omega
    · rcases hx with hx | rfl
      · exact h3 x hx
      · rfl
  · rintro ⟨h1, h2, h3⟩
    exact ⟨by omega, fun x hx => h2 x (.inl hx), fun x hx => h3 x (.inl hx)⟩
theorem last_of {α : Type} (l : List α) : l = [] ∨ ∃ r x, l = r ++ [x] := by
  rcases List.eq_nil_or_concat l with h | ⟨r, x, h⟩
  · exact .inl h
  · exact .inr ⟨r, x, by simpa using h⟩
def spShape (fl : Addr) (s : USp) : USp := fun us M Q => ∃ (g : G) (L : U → Bool → Prop), us = [g.toU, .ref fl, .int 200, .int 40] ∧ g.wf L ∧ (∀ u b, L u b → ∃ b', LF u b') ∧ (∀ u b M' Q', Sub M M' → L u b → Q' (.bl b) M' → s [u] M' Q') ∧ Q (.bl (verd g)) M
theorem sg_turn : tabGet SIGNS (Str.ofString "turn") = some (.int 1) := by kernel_rfl
theorem sg_two (o : Op) : tabGet SIGNS o.word = some (.int 2) := by cases o <;> kernel_rfl
set_option maxHeartbeats 2000000 in
theorem ok_is_shape (F : Fun K "is_shape" "is_shape" s_is_shape f fd) (hm : mg "is_shape" = some (.ref f)) (C_is_sign : Callee P w K mg base 1 "is_sign" spSign []) {s : USp} {ka : Nat} (A_is_leaf : CalleeF P w K mg base (ka + 1) fl s) : Callee P w K mg base (ka + 2) "is_shape" (spShape fl s) [] := by
  refine callee_of F hm sc_is_shape (fun _ _ _ _ _ _ us hl => match us, hl with | [_, _, _, _], _ => rfl) (fun us M Q h => by obtain ⟨x, _, rfl, _⟩ := h; rfl) (uss_cons (us_set 4 sc_is_shape.nd un_)
  (uss_cons (us_set 5 sc_is_shape.nd (ue_lst (own := true) (ua_cons (ue_tup (ua_cons (uv 0) (ua_cons un_ ua_nil))) ua_nil)))
  (uss_cons (us_while (ut_val (uv 5))
  (uss_cons (us_set 6 sc_is_shape.nd (ue_pop (uv 5)))
  (uss_cons (us_set 7 sc_is_shape.nd (ue_ix (uv 6) un_))
  (uss_cons (us_set 8 sc_is_shape.nd (ue_ix (uv 6) un_))
  (uss_cons (us_set 4 sc_is_shape.nd (ue_add (own := false) (uv 4) un_))
  (uss_cons (us_if (PWU.pt (uw_or (ut_c k_gt (uv 4) (uv 2)) (uw_or1 (ut_c k_gt (uv 8) (uv 3)))))
  (uss_one (us_ret ub_))
  uss_nil)
  (uss_one (us_if (ut_val (ue_call C_is_sign (ua_cons (uv 7) ua_nil)))
  (uss_one (us_expr (ue_extend (uv 5) (ua_cons (ue_comp false ["part", "depth"] 1 [8] (ui_seq (ue_slX (own := false) (uv 7) (uo_some un_) uo_none)) (ug_name (k := 1) 0 (by dsimp only [compD]; decide +kernel)) uif_nil (ue_tup (ua_cons (uv 0) (ua_cons (ue_add (own := false) (uv 1) un_) ua_nil)))) ua_nil))))
  (uss_one (us_if (ut_not (ut_val (ue_callf 1 A_is_leaf (ua_cons (uv 7) ua_nil))))
  (uss_one (us_ret ub_))
  uss_nil))))))))))
  (uss_one (us_ret ub_))))) ?_
  rintro us M Q ⟨g, L, rfl, hwf, hLF, hs, q⟩
  simp! only [hTup, hCons, hNil, uSeq, uIfS, uNext, uRet, uRetN, uAsg, hName, uDrop, uBreak, uCont, uSetI, uListRev, uRev, uListZip, uCallG, gL1, gL2, ulCons, ulLam, ulNil]
  refine fun p hp => ?_
  refine while_by (fun τ M' => ∃ (c : Nat) (st : List (G × Nat)) (e1 e2 e3 : Option U), τ = [some g.toU, some (.ref fl), some (.int 200), some (.int 40), some (.int (c : Nat)), some (.ref p), e1, e2, e3] ∧ M' = mup M p (.lst (st.map ent)) ∧ (∀ x ∈ st, x.1.wf L) ∧ c ≤ 200 ∧ st.length ≤ c + 1 ∧ (VV c st ↔ VV 0 [(g, 1)]))
    (fun τ _ => match τ with | [_, _, _, _, some (.int c), _, _, _, _] => 201 - c.toNat | _ => 0) ⟨0, [(g, 1)], none, none, none, rfl, rfl, (fun x hx => by cases List.mem_singleton.mp hx; exact hwf), by omega, by simp, Iff.rfl⟩ ?_
  rintro τ M' ⟨c, st, e1, e2, e3, rfl, rfl, hst, hc, hlen, hV⟩
  have no : ¬ VV c st → Q (.bl false) M := fun h => by
    have : verd g = false := by
      cases hv : verd g with
      | false => rfl
      | true => exact absurd (hV.mpr ((verd_iff g).mp hv)) h
    rw [this] at q
    exact q
  have fin : ∀ us, rtU Q (.bl false) (mup M p (.lst us)) ↔ rtU Q (.bl false) (mup M p (.lst us)) := fun _ => Iff.rfl
  have out : ∀ us, Q (.bl false) M → rtU Q (.bl false) (mup M p (.lst us)) := fun us h => ⟨_, M, (Sub.refl M).mup hp, .inl rfl, h⟩
  rcases last_of st with rfl | ⟨st, ⟨x, dd⟩, rfl⟩
  · simp! only [List.isEmpty_nil, hTup, hCons, hNil, uSeq, uIfS, uNext, uRet, uRetN, uAsg, hName, uDrop, uBreak, uCont, uSetI, uListRev, uRev, uListZip, uCallG, gL1, gL2, ulCons, ulLam, ulNil]
    have : verd g = true := by
      rw [verd_iff, ← hV]
      exact ⟨by simp only [tot]; omega, (fun x hx => by cases hx), (fun x hx => by cases hx)⟩
    rw [this] at q
    exact ⟨_, M, (Sub.refl M).mup hp, .inl rfl, q⟩
  · have hlen' : st.length ≤ c := by simpa using hlen
    have hxw : x.wf L := hst (x, dd) (by simp)
    have hse : (st.map ent ++ [U.tup [x.toU, U.int (dd : Nat)]]).isEmpty = false := by simp
    simp! only [List.map_append, hse, gl_1, dl_1, ent, hTup, hCons, hNil, uSeq, uIfS, uNext, uRet, uRetN, uAsg, hName, uDrop, uBreak, uCont, uSetI, uListRev, uRev, uListZip, uCallG, gL1, gL2, ulCons, ulLam, ulNil]
    refine ⟨isL_own, ite2 (fun h => ?_) (fun h => ite2 (fun h2 => ?_) (fun h2 => ?_))⟩
    · refine out _ (no fun hv => ?_)
      have := of_decide_eq_true h
      have h3 := hv.1
      rw [tot_app] at h3
      have h4 : 1 ≤ x.size := by cases x <;> simp only [G.size] <;> omega
      simp only [tot] at h3
      omega
    · refine out _ (no fun hv => ?_)
      have := of_decide_eq_true h2
      have h3 := hv.2.1 (x, dd) (by simp)
      have h4 : 1 ≤ x.dep := by cases x <;> simp only [G.dep] <;> omega
      simp only at h3
      omega
    · have hc1 : c + 1 ≤ 200 := by
        have : ¬ (200 : Int) < (c : Int) + 1 := fun z => h (decide_eq_true z)
        omega
      have hdd : dd ≤ 40 := by
        have : ¬ (40 : Int) < (dd : Int) := fun z => h2 (decide_eq_true z)
        omega
      have hst' : ∀ y ∈ st, y.1.wf L := fun y hy => hst y (by simp [hy])
      cases x with
      | leaf u b =>
        obtain ⟨b', hb'⟩ := hLF u b hxw
        refine ⟨_, rfl, .inl ⟨b', hb', ?_⟩⟩
        simp! only [hTup, hCons, hNil, uSeq, uIfS, uNext, uRet, uRetN, uAsg, hName, uDrop, uBreak, uCont, uSetI, uListRev, uRev, uListZip, uCallG, gL1, gL2, ulCons, ulLam, ulNil]
        refine hs u b _ _ ((Sub.refl M).mup hp) hxw ?_
        cases b with
        | false =>
          simp! only [hTup, hCons, hNil, uSeq, uIfS, uNext, uRet, uRetN, uAsg, hName, uDrop, uBreak, uCont, uSetI, uListRev, uRev, uListZip, uCallG, gL1, gL2, ulCons, ulLam, ulNil]
          refine out _ (no fun hv => ?_)
          have := hv.2.2 (G.leaf u false, dd) (by simp)
          cases this
        | true =>
          simp! only [hTup, hCons, hNil, uSeq, uIfS, uNext, uRet, uRetN, uAsg, hName, uDrop, uBreak, uCont, uSetI, uListRev, uRev, uListZip, uCallG, gL1, gL2, ulCons, ulLam, ulNil]
          refine ⟨⟨c + 1, st, _, _, _, rfl, rfl, hst', hc1, by omega, ?_⟩, by omega⟩
          rw [← hV]
          exact vv_leaf hdd
      | turn a =>
        refine ⟨_, rfl, .inr ⟨_, _, rfl, sg_turn, ?_⟩⟩
        simp! only [G.toU, hTup, hCons, hNil, uSeq, uIfS, uNext, uRet, uRetN, uAsg, hName, uDrop, uBreak, uCont, uSetI, uListRev, uRev, uListZip, uCallG, gL1, gL2, ulCons, ulLam, ulNil]
        refine ⟨isL_own, uComp_list (S := ⟨none, [a.toU]⟩) (M1 := mup M p (.lst (st.map ent))) [ent (a, dd + 1)] (fun R r => ?_) rfl (show 1 ≤ sizeLine by decide) (fun a e => by cases e) ?_ ?_⟩
        · simp! only [cut1, hTup, hCons, hNil, uSeq, uIfS, uNext, uRet, uRetN, uAsg, hName, uDrop, uBreak, uCont, uSetI, uListRev, uRev, uListZip, uCallG, gL1, gL2, ulCons, ulLam, ulNil]
          exact r
        · intro j x y hx hy M' _ R r'
          match j, hx, hy with
          | 0, hx, hy =>
            cases hx; cases hy
            simp! only [hTup, hCons, hNil, uSeq, uIfS, uNext, uRet, uRetN, uAsg, hName, uDrop, uBreak, uCont, uSetI, uListRev, uRev, uListZip, uCallG, gL1, gL2, ulCons, ulLam, ulNil]
            first | refine ⟨by decide, ?_⟩ | skip
            have e : U.tup [a.toU, U.int ((dd : Int) + 1)] = ent (a, dd + 1) := rfl
            rw [e]; exact r'
          | j + 1, hx, hy => cases hx
        · simp! only [hTup, hCons, hNil, uSeq, uIfS, uNext, uRet, uRetN, uAsg, hName, uDrop, uBreak, uCont, uSetI, uListRev, uRev, uListZip, uCallG, gL1, gL2, ulCons, ulLam, ulNil]
          refine ⟨small (by simp; omega), ⟨c + 1, st ++ [(a, dd + 1)], _, _, _, rfl, by rw [List.map_append]; rfl, ?_, hc1, by simp; omega, ?_⟩, by omega⟩
          · intro y hy
            rcases List.mem_append.mp hy with hy | hy
            · exact hst' y hy
            · cases List.mem_singleton.mp hy; exact hxw
          · rw [← hV]; exact vv_turn
      | two o a b =>
        refine ⟨_, rfl, .inr ⟨_, _, rfl, sg_two o, ?_⟩⟩
        simp! only [G.toU, hTup, hCons, hNil, uSeq, uIfS, uNext, uRet, uRetN, uAsg, hName, uDrop, uBreak, uCont, uSetI, uListRev, uRev, uListZip, uCallG, gL1, gL2, ulCons, ulLam, ulNil]
        refine ⟨isL_own, uComp_list (S := ⟨none, [a.toU, b.toU]⟩) (M1 := mup M p (.lst (st.map ent))) [ent (a, dd + 1), ent (b, dd + 1)] (fun R r => ?_) rfl (show 2 ≤ sizeLine by decide) (fun a e => by cases e) ?_ ?_⟩
        · simp! only [cut1, hTup, hCons, hNil, uSeq, uIfS, uNext, uRet, uRetN, uAsg, hName, uDrop, uBreak, uCont, uSetI, uListRev, uRev, uListZip, uCallG, gL1, gL2, ulCons, ulLam, ulNil]
          exact r
        · intro j x y hx hy M' _ R r'
          match j, hx, hy with
          | 0, hx, hy =>
            cases hx; cases hy
            simp! only [hTup, hCons, hNil, uSeq, uIfS, uNext, uRet, uRetN, uAsg, hName, uDrop, uBreak, uCont, uSetI, uListRev, uRev, uListZip, uCallG, gL1, gL2, ulCons, ulLam, ulNil]
            first | refine ⟨by decide, ?_⟩ | skip
            have e : U.tup [a.toU, U.int ((dd : Int) + 1)] = ent (a, dd + 1) := rfl
            rw [e]; exact r'
          | 1, hx, hy =>
            cases hx; cases hy
            simp! only [hTup, hCons, hNil, uSeq, uIfS, uNext, uRet, uRetN, uAsg, hName, uDrop, uBreak, uCont, uSetI, uListRev, uRev, uListZip, uCallG, gL1, gL2, ulCons, ulLam, ulNil]
            first | refine ⟨by decide, ?_⟩ | skip
            have e : U.tup [b.toU, U.int ((dd : Int) + 1)] = ent (b, dd + 1) := rfl
            rw [e]; exact r'
          | j + 2, hx, hy => cases hx
        · simp! only [hTup, hCons, hNil, uSeq, uIfS, uNext, uRet, uRetN, uAsg, hName, uDrop, uBreak, uCont, uSetI, uListRev, uRev, uListZip, uCallG, gL1, gL2, ulCons, ulLam, ulNil]
          refine ⟨small (by simp; omega), ⟨c + 1, st ++ [(a, dd + 1), (b, dd + 1)], _, _, _, rfl, by rw [List.map_append]; rfl, ?_, hc1, by simp; omega, ?_⟩, by omega⟩
          · intro y hy
            rcases List.mem_append.mp hy with hy | hy
            · exact hst' y hy
            · simp only [List.mem_cons, List.not_mem_nil, or_false] at hy
              rcases hy with rfl | rfl
              · exact hxw.1
              · exact hxw.2
          · rw [← hV]; exact vv_two
def spIsTree : USp := fun us M Q => ∃ g : G, us = [g.toU] ∧ g.wf LF ∧ Q (.bl (verd g)) M
theorem ok_is_tree {t1 t2 : Tok} (F : Fun K "is_tree" "is_tree" s_is_tree f fd) (hm : mg "is_tree" = some (.ref f)) (v_is_tree_leaf : mg "is_tree_leaf" = some (.ref fl)) (g_TREE_PIECES : mg "TREE_PIECES" = some (.int 200 t1)) (g_TREE_WITHIN : mg "TREE_WITHIN" = some (.int 40 t2)) (C_is_shape : Callee P w K mg base 4 "is_shape" (spShape fl spTLeaf) []) : Callee P w K mg base 5 "is_tree" spIsTree [] := by
  refine callee_of F hm sc_is_tree (fun _ _ _ _ _ _ us hl => match us, hl with | [_], _ => rfl) (fun us M Q h => by obtain ⟨x, rfl, _⟩ := h; rfl) (uss_one (us_ret (ue_call C_is_shape (ua_cons (uv 0) (ua_cons (ug_ref v_is_tree_leaf) (ua_cons (ug_int g_TREE_PIECES) (ua_cons (ug_int g_TREE_WITHIN) ua_nil))))))) ?_
  rintro us M Q ⟨g, rfl, hwf, q⟩
  simp! only [hTup, hCons, hNil, uSeq, uIfS, uNext, uRet, uRetN, uAsg, hName, uDrop, uBreak, uCont, uSetI, uListRev, uRev, uListZip, uCallG, gL1, gL2, ulCons, ulLam, ulNil]
  exact ⟨g, LF, rfl, hwf, fun u b h => ⟨b, h⟩, fun u b M' Q' _ h hq => ⟨u, b, rfl, h, hq⟩, rt_same q⟩
end
end K08
namespace K08
open PySem L2 U2
open Tr
section
variable {P : Program} {w : World} {K : PySem.W.Frag} {mg : Str → Option Value} {base : Heap} {f d d2 fl : Addr} {fd : FuncData}
theorem cut_map {α β : Type} (g : α → β) (l : List α) (a b : Option Int) : cutU (l.map g) a b = (cutU l a b).map g := by
  unfold cutU
  rw [List.length_map, List.map_take, List.map_drop]
def spWhole : USp := fun us M Q => ∃ u, us = [u] ∧ ((∃ i, u = .int i ∧ Q (.bl true) M) ∨ ((∃ z, u = .str z) ∧ Q (.bl false) M))
local macro_rules | `(tactic| dsimp! only [$xs,*] $[$l]?) => `(tactic| simp only [$xs,*, Bool.false_eq_true, Bool.not_false, Bool.not_true, List.append_nil, List.cons_append, List.getElem?_cons_succ, List.getElem?_cons_zero, List.length_cons, List.length_nil, List.map_cons, List.map_nil, List.nil_append, List.replicate, List.set_cons_succ, List.set_cons_zero, Nat.add_sub_cancel, Nat.reduceAdd, Nat.reduceSub, Nat.sub_self, Option.some.injEq, and_true, at0, at1, at2, at3, bAll, bInt1, bInt2, bIsi2, bLen, bList, bTuple, cGe, cGt, cLe, cLt, decide_false, decide_true, eqS, exists_eq_left', hName, if_false, if_true, inSt, inTab, isNon, isi_NoneType_bool, isi_NoneType_dict, isi_NoneType_int, isi_NoneType_list, isi_NoneType_str, isi_NoneType_tuple, isi_bool_bool, isi_bool_dict, isi_bool_int, isi_bool_list, isi_bool_str, isi_bool_tuple, isi_dict_bool, isi_dict_dict, isi_dict_int, isi_dict_list, isi_dict_str, isi_dict_tuple, isi_int_bool, isi_int_dict, isi_int_int, isi_int_list, isi_int_str, isi_int_tuple, isi_list_bool, isi_list_dict, isi_list_int, isi_list_list, isi_list_str, isi_list_tuple, isi_str_bool, isi_str_dict, isi_str_int, isi_str_list, isi_str_str, isi_str_tuple, isi_tuple_bool, isi_tuple_dict, isi_tuple_int, isi_tuple_list, isi_tuple_str, isi_tuple_tuple, ixTab, mAppend, mPop, mkL, reduceCtorEq, startU, true_and, typU, uAdd, uAddL, uAnd, uAndV, uAsg, uBM, uBM0, uBreak, uC, uCB, uCall, uCallV, uChain, uCons, uCont, uDrop, uEqS, uI, uI0, uIf, uIfS, uIsN, uIter, uIx, uLst, uNeS, uNext, uNil, uNoPart, uNot, uNotN, uNotV, uOp, uOr, uOrV, uPart, uRet, uRetN, uRng1, uRng2, uSeq, uTest, uTru, uTup, uUn, uVar] $[$l]?)
theorem ok_whole (F : Fun K "_law_whole" "_law_whole" s_law_whole f fd) (hm : mg "_law_whole" = some (.ref f)) (m_isinstance : mg "isinstance" = none) (m_int : mg "int" = none) (m_bool : mg "bool" = none) : Callee P w K mg base 1 "_law_whole" spWhole [] := by
  refine callee_of F hm sc_law_whole (fun _ _ _ _ _ _ us hl => match us, hl with | [_], _ => rfl) (fun us M Q h => by obtain ⟨x, rfl, _⟩ := h; rfl) (uss_one (us_ret (ue_and (ue_b b_isi m_isinstance (ua_cons (uv 0) (ua_cons (ug_ty (n := "int") m_int) ua_nil))) (ue_one (ue_not (ue_b b_isi m_isinstance (ua_cons (uv 0) (ua_cons (ug_ty (n := "bool") m_bool) ua_nil)))))))) ?_
  rintro us M Q ⟨u, rfl, h⟩
  rcases h with ⟨i, rfl, q⟩ | ⟨⟨z, rfl⟩, q⟩
  · dsimp! only [capt, hTup, hCons, hNil, uEqX, uEqD, uLtX, uIn, items, uEnum, uZip, mExtend, mClear, bMax, bSum, view, uSl]
    exact rt_same q
  · dsimp! only [capt, hTup, hCons, hNil, uEqX, uEqD, uLtX, uIn, items, uEnum, uZip, mExtend, mClear, bMax, bSum, view, uSl]
    exact rt_same q
def plainU : Nat → U → Prop
  | 0, _ => False
  | _ + 1, .int _ => True
  | _ + 1, .str _ => True
  | n + 1, .tup us => ∀ u ∈ us, plainU n u
  | _ + 1, _ => False
def spAlike (n : Nat) : USp := fun us M Q => ∃ u, us = [u, u] ∧ plainU n u ∧ Q (.bl true) M
theorem ok_alike {n : Nat} (F : Fun K "_law_alike" "_law_alike" s_law_alike f fd) (hm : mg "_law_alike" = some (.ref f)) (m_isinstance : mg "isinstance" = none) (m_tuple : mg "tuple" = none) (m_len : mg "len" = none) (m_zip : mg "zip" = none) (m_str : mg "str" = none)
    (C_law_whole : Callee P w K mg base 1 "_law_whole" spWhole []) (C_law_alike : Callee P w K mg base (n + 2) "_law_alike" (spAlike n) []) : Callee P w K mg base (n + 3) "_law_alike" (spAlike (n + 1)) [] := by
  refine callee_of F hm sc_law_alike (fun _ _ _ _ _ _ us hl => match us, hl with | [_, _], _ => rfl) (fun us M Q h => by obtain ⟨x, rfl, _⟩ := h; rfl) (uss_cons (us_if (ut_val (ue_b b_isi m_isinstance (ua_cons (uv 1) (ua_cons (ug_ty (n := "tuple") m_tuple) ua_nil))))
  (uss_cons (us_if (PWU.pt (uw_or (ut_not (ut_val (ue_b b_isi m_isinstance (ua_cons (uv 0) (ua_cons (ug_ty (n := "tuple") m_tuple) ua_nil))))) (uw_or1 (ut_c k_neX (ue_b b_len m_len (ua_cons (uv 0) ua_nil)) (ue_b b_len m_len (ua_cons (uv 1) ua_nil))))))
  (uss_one (us_ret ub_))
  uss_nil)
  (uss_cons (us_for (ui_zip m_zip (ua_cons (uv 0) (ua_cons (uv 1) ua_nil))) (ug_tup (n := 2) (ugs_cons (ug_name (k := 1000) 2 sc_law_alike.nd) (ugs_cons (ug_name (k := 1000) 3 sc_law_alike.nd) ugs_nil)))
  (uss_one (us_if (ut_not (ut_val (ue_call C_law_alike (ua_cons (uv 2) (ua_cons (uv 3) ua_nil)))))
  (uss_one (us_ret ub_))
  uss_nil)))
  (uss_one (us_ret ub_))))
  uss_nil)
  (uss_cons (us_if (ut_val (ue_b b_isi m_isinstance (ua_cons (uv 1) (ua_cons (ug_ty (n := "str") m_str) ua_nil))))
  (uss_one (us_ret (ue_and (ue_b b_isi m_isinstance (ua_cons (uv 0) (ua_cons (ug_ty (n := "str") m_str) ua_nil))) (ue_one (ue_c k_eqX (uv 0) (uv 1))))))
  uss_nil)
  (uss_one (us_ret (ue_and (ue_call C_law_whole (ua_cons (uv 0) ua_nil)) (ue_one (ue_c k_eqX (uv 0) (uv 1)))))))) ?_
  rintro us M Q ⟨u, rfl, hp, q⟩
  cases u with
  | int i =>
    dsimp! only [capt, hTup, hCons, hNil, uEqX, uEqD, uLtX, uIn, items, uEnum, uZip, mExtend, mClear, view, uSl]
    exact ⟨_, rfl, .inl ⟨i, rfl, by simpa using rt_same q⟩⟩
  | str z =>
    dsimp! only [capt, hTup, hCons, hNil, uEqX, uEqD, uLtX, uIn, items, uEnum, uZip, mExtend, mClear, view, uSl]
    exact rt_same q
  | tup ws =>
    dsimp! only [capt, hTup, hCons, hNil, uEqX, uEqD, uLtX, uIn, items, uEnum, uZip, mExtend, mClear, view, uSl]
    refine for_by (S := ⟨none, zipped ws ws⟩) (M1 := M) (fun R r => r) (fun i τ Mi => ∃ b c, τ = [some (.tup ws), some (.tup ws), b, c] ∧ Mi = M) ⟨_, _, rfl, rfl⟩ (fun i τ M' _ a e => by cases e) ?_ ?_
    · rintro i x τ Mi e ⟨b, c, rfl, rfl⟩
      obtain ⟨u1, u2, e1, e2, rfl⟩ := zipped_get e
      rw [e1] at e2
      cases e2
      dsimp! only [capt, hTup, hCons, hNil, uEqX, uEqD, uLtX, uIn, items, uEnum, uZip, mExtend, mClear, view, uSl]
      refine ⟨u1, rfl, hp u1 (List.mem_of_getElem? e1), ?_⟩
      dsimp! only [capt, hTup, hCons, hNil, uEqX, uEqD, uLtX, uIn, items, uEnum, uZip, mExtend, mClear, view, uSl]
      exact ⟨_, _, rfl⟩
    · rintro τ Mi ⟨b, c, rfl, rfl⟩
      dsimp! only [capt, hTup, hCons, hNil, uEqX, uEqD, uLtX, uIn, items, uEnum, uZip, mExtend, mClear, view, uSl]
      exact rt_same q
  | _ => exact hp.elim
theorem alike_all (F : Fun K "_law_alike" "_law_alike" s_law_alike f fd) (hm : mg "_law_alike" = some (.ref f)) (m_isinstance : mg "isinstance" = none) (m_tuple : mg "tuple" = none) (m_len : mg "len" = none) (m_zip : mg "zip" = none) (m_str : mg "str" = none)
    (C_law_whole : Callee P w K mg base 1 "_law_whole" spWhole []) : ∀ n, Callee P w K mg base (n + 2) "_law_alike" (spAlike n) []
  | 0 => by
    have no : ∀ us M Q, ¬ spAlike 0 us M Q := fun us M Q h => by
      obtain ⟨u, _, h, _⟩ := h
      exact h
    refine ⟨f, fd, ["found", "due"], [], [], ⟨fun vs H Q E h => ?_, fun A outer s H args us vs Q E _ _ _ _ h => ?_⟩, hm, F.kp, F.binds (fun _ _ _ _ _ _ us hl => match us, hl with | [_, _], _ => rfl), .nil, fun H M => .nil⟩
    · obtain ⟨us, M, Q', _, _, h, _⟩ := h; exact absurd h (no us M Q')
    · obtain ⟨us, M, Q', _, _, h, _⟩ := h; exact absurd h (no us M Q')
  | n + 1 => ok_alike F hm m_isinstance m_tuple m_len m_zip m_str C_law_whole (alike_all F hm m_isinstance m_tuple m_len m_zip m_str C_law_whole n)
theorem plain_mono : ∀ {n m : Nat} {u : U}, n ≤ m → plainU n u → plainU m u
  | 0, _, _, _, h => h.elim
  | n + 1, 0, _, hn, _ => by omega
  | n + 1, m + 1, .int _, _, _ => trivial
  | n + 1, m + 1, .str _, _, _ => trivial
  | n + 1, m + 1, .tup us, hn, h => fun u hu => plain_mono (by omega) (h u hu)
  | n + 1, m + 1, .lst _, _, h => h.elim
  | n + 1, m + 1, .non, _, h => h.elim
  | n + 1, m + 1, .bl _, _, h => h.elim
  | n + 1, m + 1, .ty _, _, h => h.elim
  | n + 1, m + 1, .ref _, _, h => h.elim
theorem plain_tree : ∀ (t : Tr), plainU (t.dep + 1) t.toU
  | num n => by
    show plainU 2 _
    simp [toU, plainU]
  | name n => by
    show plainU 2 _
    simp [toU, plainU]
  | turn a => by
    have := plain_tree a
    simp only [toU, dep, plainU, List.mem_cons, List.not_mem_nil, or_false]
    rintro u (rfl | rfl)
    · trivial
    · exact this
  | two o a b => by
    have h1 := plain_tree a
    have h2 := plain_tree b
    simp only [toU, dep, plainU, List.mem_cons, List.not_mem_nil, or_false]
    rintro u (rfl | rfl | rfl)
    · trivial
    · exact plain_mono (by omega) h1
    · exact plain_mono (by omega) h2
def gT : Tr → G
  | .num k => .leaf (Tr.num k).toU true
  | .name x => .leaf (Tr.name x).toU true
  | .turn a => .turn (gT a)
  | .two o a b => .two o (gT a) (gT b)
theorem gT_U : ∀ t : Tr, (gT t).toU = t.toU
  | .num _ => rfl
  | .name _ => rfl
  | .turn a => by simp only [gT, G.toU, Tr.toU, gT_U a]
  | .two o a b => by simp only [gT, G.toU, Tr.toU, gT_U a, gT_U b]
theorem gT_size : ∀ t : Tr, (gT t).size = t.size
  | .num _ => rfl
  | .name _ => rfl
  | .turn a => by simp only [gT, G.size, Tr.size, gT_size a]
  | .two o a b => by simp only [gT, G.size, Tr.size, gT_size a, gT_size b]
theorem gT_dep : ∀ t : Tr, (gT t).dep = t.dep
  | .num _ => rfl
  | .name _ => rfl
  | .turn a => by simp only [gT, G.dep, Tr.dep, gT_dep a]
  | .two o a b => by simp only [gT, G.dep, Tr.dep, gT_dep a, gT_dep b]
theorem gT_fit : ∀ t : Tr, (gT t).fit = true
  | .num _ => rfl
  | .name _ => rfl
  | .turn a => gT_fit a
  | .two o a b => by simp only [gT, G.fit, gT_fit a, gT_fit b, Bool.and_self]
theorem name_is {x : Str} (h : x.length ≤ 8 ∧ 1 ≤ x.length ∧ ∀ c ∈ x.cps.toList, 97 ≤ c ∧ c ≤ 122) : isName (.str x) = true := by
  simp only [isName, Bool.and_eq_true, decide_eq_true_eq]
  refine ⟨⟨h.2.1, h.1⟩, List.all_eq_true.mpr fun c hc => ?_⟩
  unfold isLetter
  rw [in_let]
  exact decide_eq_true (h.2.2 c hc)
theorem gT_wf : ∀ t : Tr, t.ok → (gT t).wf LF
  | .num k, h => by
    have h2 : k ≤ 1000000000000000000 := h.2
    have e : numV (.int k) = true := by simp [numV, h.1, h2]
    have := LF.num (.int k) trivial
    rw [e] at this
    exact this
  | .name x, h => by
    have h' : isName (.str x) = true := name_is h
    have hl : x.length ≤ sizeLine := small (by have := h.1; omega)
    have := LF.name (.str x) hl
    rw [h'] at this
    exact this
  | .turn a, h => gT_wf a h
  | .two o a b, h => ⟨gT_wf a h.1, gT_wf b h.2⟩
theorem gT_verd {t : Tr} (hs : t.size ≤ 200) (hd : t.dep ≤ 40) : verd (gT t) = true := by
  unfold verd
  rw [gT_size, gT_dep, gT_fit t, decide_eq_true hs, decide_eq_true hd]; rfl
local macro_rules | `(tactic| simp! only [$xs,*] $[$l]?) => `(tactic| simp only [$xs,*, Bool.false_eq_true, Bool.not_false, Bool.not_true, List.append_nil, List.cons_append, List.getElem?_cons_succ, List.getElem?_cons_zero, List.length_cons, List.length_nil, List.map_cons, List.map_nil, List.nil_append, List.replicate, List.set_cons_succ, List.set_cons_zero, Nat.add_sub_cancel, Nat.reduceAdd, Nat.reduceLeDiff, Nat.reduceSub, Nat.sub_self, Option.getD_some, Option.some.injEq, and_true, at0, at1, at2, at3, bAll, bInt, bInt1, bInt2, bIsi2, bLen, bList, bMax, bSum, bTuple, cGe, cGt, cLe, cLt, capt, decide_false, decide_true, eqX_int, eqX_str, exists_eq_left', if_false, if_true, inSt, inTab, isNon, isi_NoneType_bool, isi_NoneType_dict, isi_NoneType_int, isi_NoneType_list, isi_NoneType_str, isi_NoneType_tuple, isi_bool_bool, isi_bool_dict, isi_bool_int, isi_bool_list, isi_bool_str, isi_bool_tuple, isi_dict_bool, isi_dict_dict, isi_dict_int, isi_dict_list, isi_dict_str, isi_dict_tuple, isi_int_bool, isi_int_dict, isi_int_int, isi_int_list, isi_int_str, isi_int_tuple, isi_list_bool, isi_list_dict, isi_list_int, isi_list_list, isi_list_str, isi_list_tuple, isi_str_bool, isi_str_dict, isi_str_int, isi_str_list, isi_str_str, isi_str_tuple, isi_tuple_bool, isi_tuple_dict, isi_tuple_int, isi_tuple_list, isi_tuple_str, isi_tuple_tuple, items, ixTab, mAppend, mClear, mExtend, mPop, mPopAt, mkL, mup_mup, mup_same, reduceCtorEq, startU, szl, true_and, typU, uAdd, uAddL, uAnd, uAndV, uBM, uBM0, uC, uCB, uCall, uCallV, uChain, uCons, uEnum, uEnumL, uEqS, uI, uI0, uIf, uIn, uIsN, uIter, uIx, uLst, uLtX, uMul, uNeS, uNil, uNoPart, uNot, uNotN, uNotV, uOp, uOr, uOrV, uPart, uRng1, uRng2, uSlX, uTest, uTru, uTup, uUn, uVar, uZip, vw_bl, vw_int, vw_lst, vw_non, vw_own, vw_str, vw_tup] $[$l]?)
theorem ok_read {fr : Addr} (F : Fun K "read" "read" s_read f fd) (hm : mg "read" = some (.ref f)) (v_read_leaf : mg "read_leaf" = some (.ref fr)) (C_read_shape : Callee P w K mg base 4 "read_shape" (spRShape fr) []) (C_is_tree : Callee P w K mg base 5 "is_tree" spIsTree []) : Callee P w K mg base 6 "read" spRead [] := by
  refine callee_of F hm sc_read (fun _ _ _ _ _ _ us hl => match us, hl with | [_], _ => rfl) (fun us M Q h => by obtain ⟨_, rfl, _⟩ := h; rfl) (uss_cons (us_set 1 sc_read.nd (ue_call C_read_shape (ua_cons (uv 0) (ua_cons (ug_ref v_read_leaf) ua_nil))))
  (uss_cons (us_if (ut_not (ut_val (ue_call C_is_tree (ua_cons (uv 1) ua_nil))))
  (uss_one us_raise)
  uss_nil)
  (uss_one (us_ret (uv 1))))) ?_
  rintro us M Q ⟨t, rfl, hok, hs, hd, q⟩
  refine seq_gen fun V1 hV1 => ?_
  simp! only [uAsg, hName]
  refine ⟨t, rfl, hok, by omega, by omega, ?_⟩
  subst hV1
  refine seq_gen fun V2 hV2 => ?_
  refine if_gen fun A B hA hB => ?_
  simp! only [true_and]
  refine ⟨gT t, by rw [gT_U], gT_wf t hok, ?_⟩
  rw [gT_verd hs hd]
  simp! only [true_and]
  subst hB
  simp only [uNext]
  subst hV2
  simp! only [uRet]
  exact rt_same q
def spLaw : USp := fun us M Q => ∃ ns : List Int, us = [.lst (ns.map .int)] ∧ ns.length ≤ 63 ∧ Q (.bl true) M
theorem ok_law (F : Fun K "law" "law" s_law f fd) (m_isinstance : mg "isinstance" = none) (m_str : mg "str" = none) (C_law_grown : Callee P w K mg base 2 "_law_grown" spGrown []) (C_law_built : Callee P w K mg base 3 "_law_built" spBuilt []) (C_law_cell_at : Callee P w K mg base 1 "_law_cell_at" spCell []) (C_read : Callee P w K mg base 6 "read" spRead []) (C_law_alike : Callee P w K mg base 52 "_law_alike" (spAlike 50) []) (C_shown : Callee P w K mg base 52 "shown" spShown []) : FnOk P w K mg base CX0 53 f fd ["script"] (liftSp K spLaw) := by
  refine fnok_of F sc_law (fun us M Q h => by obtain ⟨x, rfl, _⟩ := h; rfl) (uss_cons (us_set 1 sc_law.nd (ue_call C_law_grown (ua_cons (ue_call C_law_built (ua_cons (ue_slX (own := false) (uv 0) (uo_some un_) (uo_some un_)) ua_nil)) (ua_cons (ue_call C_law_cell_at (ua_cons (uv 0) (ua_cons un_ ua_nil))) ua_nil))))
  (uss_cons (us_set 2 sc_law.nd (ue_call C_read (ua_cons (ue_ix (uv 1) un_) ua_nil)))
  (uss_cons (us_if (ut_not (ut_val (ue_call C_law_alike (ua_cons (uv 2) (ua_cons (ue_ix (uv 1) un_) ua_nil)))))
  (uss_one (us_ret ub_))
  uss_nil)
  (uss_cons (us_set 3 sc_law.nd (ue_call C_shown (ua_cons (uv 2) ua_nil)))
  (uss_one (us_ret (ue_and (ue_b b_isi m_isinstance (ua_cons (uv 3) (ua_cons (ug_ty (n := "str") m_str) ua_nil))) (ue_one (ue_c k_eqX (uv 3) (ue_ix (uv 1) un_)))))))))) ?_
  rintro us M Q ⟨ns, rfl, hl, q⟩
  have hc : (cutU ns (some 1) (some 63)).length ≤ 62 := by
    unfold cutU
    simp only [HT.sIx]
    rw [List.length_take, List.length_drop]
    rw [if_neg (by decide), if_neg (by decide)]
    have e1 : (1 : Int).toNat = 1 := rfl
    have e2 : (63 : Int).toNat = 63 := rfl
    rw [e1, e2]
    omega
  refine seq_gen fun V1 hV1 => ?_
  simp! only [uAsg, hName, cut_map]
  refine ⟨_, rfl, hc, fun t1 g1 z1 => ⟨ns, 0, rfl, by decide, fun cell => ⟨t1, cell, rfl, g1, by omega, fun t g z => ?_⟩⟩⟩
  have hok := g.1
  have hdep := g.2
  subst hV1
  refine seq_gen fun V2 hV2 => ?_
  simp! only [uAsg, hName, item]
  refine ⟨t, rfl, hok, z, hdep, ?_⟩
  subst hV2
  refine seq_gen fun V3 hV3 => ?_
  refine if_gen fun A B hA hB => ?_
  simp! only [true_and]
  refine ⟨t.toU, rfl, plain_mono (by omega) (plain_tree t), ?_⟩
  simp! only [true_and]
  subst hB
  simp only [uNext]
  subst hV3
  refine seq_gen fun V4 hV4 => ?_
  simp! only [uAsg, hName]
  refine ⟨t, rfl, hok, by omega, by omega, ?_⟩
  subst hV4
  simp! only [uRet]
  exact rt_same q
end
end K08
namespace K08
open PySem L2 U2
theorem ints_rel {K : PySem.W.Frag} {H : Hp} {M : MHp} : ∀ ns : List Int, RelUs K H M (ns.map U.int) (ns.map V.int)
  | [] => .nil
  | _ :: r => .cons relU_int (ints_rel r)
theorem law_entry {K : PySem.W.Frag} {H : Hp} {a : Addr} {ns : List Int} {E : XK} (hl : ns.length ≤ 63) (hS : SqL K H a (ns.map V.int)) : liftSp K spLaw [.ref a] H (fun v _ => v = .bl true) E := by
  refine ⟨[.lst (ns.map .int)], fun _ => none, fun u _ => u = .bl true, (fun a mo e => by cases e), .cons ?_ .nil, ⟨ns, rfl, hl, rfl⟩, fun u v M1 H1 _ _ ru q => by subst q; exact ru.bl⟩
  simp only [RelU]
  refine ⟨a, _, rfl, ?_, ints_rel ns⟩
  rcases hS with h | h
  · exact .inl ⟨trivial, h⟩
  · exact .inr h
open PyProof.Rows in
theorem all_mk {l : PySem.W.OpenLaw} {w : World} {K : PySem.W.Frag} {h : Heap} {mg : Str → Option Value} {fa f0 f1 f2 f3 f4 f5 f6 f7 f8 f9 f10 f11 f12 f13 f14 f15 f16 f17 f18 f19 f20 f21 f22 f23 f24 f25 f26 f27 f28 f29 f30 : Addr} (X : K.In h) (G : h.Ns mainGlobals mg) (hfa : mg "law" = some (.ref fa))
    {od0 an0 : Option Addr} {sl0 : Array (Option Value)} {oc0 kV0 dc0 pm0 cd0 ct0 : Value}
    {od1 an1 : Option Addr} {sl1 : Array (Option Value)} {oc1 kV1 dc1 pm1 cd1 ct1 : Value}
    {od2 an2 : Option Addr} {sl2 : Array (Option Value)} {oc2 kV2 dc2 pm2 cd2 ct2 : Value}
    {od3 an3 : Option Addr} {sl3 : Array (Option Value)} {oc3 kV3 dc3 pm3 cd3 ct3 : Value}
    {od4 an4 : Option Addr} {sl4 : Array (Option Value)} {oc4 kV4 dc4 pm4 cd4 ct4 : Value}
    {od5 an5 : Option Addr} {sl5 : Array (Option Value)} {oc5 kV5 dc5 pm5 cd5 ct5 : Value}
    {od6 an6 : Option Addr} {sl6 : Array (Option Value)} {oc6 kV6 dc6 pm6 cd6 ct6 : Value}
    {od7 an7 : Option Addr} {sl7 : Array (Option Value)} {oc7 kV7 dc7 pm7 cd7 ct7 : Value}
    {od8 an8 : Option Addr} {sl8 : Array (Option Value)} {oc8 kV8 dc8 pm8 cd8 ct8 : Value}
    {od9 an9 : Option Addr} {sl9 : Array (Option Value)} {oc9 kV9 dc9 pm9 cd9 ct9 : Value}
    {od10 an10 : Option Addr} {sl10 : Array (Option Value)} {oc10 kV10 dc10 pm10 cd10 ct10 : Value}
    {od11 an11 : Option Addr} {sl11 : Array (Option Value)} {oc11 kV11 dc11 pm11 cd11 ct11 : Value}
    {od12 an12 : Option Addr} {sl12 : Array (Option Value)} {oc12 kV12 dc12 pm12 cd12 ct12 : Value}
    {od13 an13 : Option Addr} {sl13 : Array (Option Value)} {oc13 kV13 dc13 pm13 cd13 ct13 : Value}
    {od14 an14 : Option Addr} {sl14 : Array (Option Value)} {oc14 kV14 dc14 pm14 cd14 ct14 : Value}
    {od15 an15 : Option Addr} {sl15 : Array (Option Value)} {oc15 kV15 dc15 pm15 cd15 ct15 : Value}
    {od16 an16 : Option Addr} {sl16 : Array (Option Value)} {oc16 kV16 dc16 pm16 cd16 ct16 : Value}
    {od17 an17 : Option Addr} {sl17 : Array (Option Value)} {oc17 kV17 dc17 pm17 cd17 ct17 : Value}
    {od18 an18 : Option Addr} {sl18 : Array (Option Value)} {oc18 kV18 dc18 pm18 cd18 ct18 : Value}
    {od19 an19 : Option Addr} {sl19 : Array (Option Value)} {oc19 kV19 dc19 pm19 cd19 ct19 : Value}
    {od20 an20 : Option Addr} {sl20 : Array (Option Value)} {oc20 kV20 dc20 pm20 cd20 ct20 : Value}
    {od21 an21 : Option Addr} {sl21 : Array (Option Value)} {oc21 kV21 dc21 pm21 cd21 ct21 : Value}
    {od22 an22 : Option Addr} {sl22 : Array (Option Value)} {oc22 kV22 dc22 pm22 cd22 ct22 : Value}
    {od23 an23 : Option Addr} {sl23 : Array (Option Value)} {oc23 kV23 dc23 pm23 cd23 ct23 : Value}
    {od24 an24 : Option Addr} {sl24 : Array (Option Value)} {oc24 kV24 dc24 pm24 cd24 ct24 : Value}
    {od25 an25 : Option Addr} {sl25 : Array (Option Value)} {oc25 kV25 dc25 pm25 cd25 ct25 : Value}
    {od26 an26 : Option Addr} {sl26 : Array (Option Value)} {oc26 kV26 dc26 pm26 cd26 ct26 : Value}
    {od27 an27 : Option Addr} {sl27 : Array (Option Value)} {oc27 kV27 dc27 pm27 cd27 ct27 : Value}
    {od28 an28 : Option Addr} {sl28 : Array (Option Value)} {oc28 kV28 dc28 pm28 cd28 ct28 : Value}
    {od29 an29 : Option Addr} {sl29 : Array (Option Value)} {oc29 kV29 dc29 pm29 cd29 ct29 : Value}
    {od30 an30 : Option Addr} {sl30 : Array (Option Value)} {oc30 kV30 dc30 pm30 cd30 ct30 : Value}
    {tk0 : Tok}
    {tk1 : Tok}
    {tk2 : Tok}
    {tk3 : Tok}
    {tk4 : Tok}
    {tk5 : Tok}
    (a0 : PySem.W.nsIn K mainGlobals "is_whole" = some (some (.ref f0))) (l0 : K.lookup f0 = some ⟨oc0, od0, .func (PySem.W.fnOf "is_whole" "is_whole" (defArgs s_is_whole) (defBody s_is_whole) (defScope s_is_whole) .none kV0 dc0 pm0 an0 cd0 ct0), sl0⟩) (c0 : PySem.W.codeIn K cd0 "is_whole" = true) (k0 : PySem.W.keepIn K (.ref f0) = true)
    (a1 : PySem.W.nsIn K mainGlobals "is_number" = some (some (.ref f1))) (l1 : K.lookup f1 = some ⟨oc1, od1, .func (PySem.W.fnOf "is_number" "is_number" (defArgs s_is_number) (defBody s_is_number) (defScope s_is_number) .none kV1 dc1 pm1 an1 cd1 ct1), sl1⟩) (c1 : PySem.W.codeIn K cd1 "is_number" = true) (k1 : PySem.W.keepIn K (.ref f1) = true)
    (a2 : PySem.W.nsIn K mainGlobals "is_sign" = some (some (.ref f2))) (l2 : K.lookup f2 = some ⟨oc2, od2, .func (PySem.W.fnOf "is_sign" "is_sign" (defArgs s_is_sign) (defBody s_is_sign) (defScope s_is_sign) .none kV2 dc2 pm2 an2 cd2 ct2), sl2⟩) (c2 : PySem.W.codeIn K cd2 "is_sign" = true) (k2 : PySem.W.keepIn K (.ref f2) = true)
    (a3 : PySem.W.nsIn K mainGlobals "is_shape" = some (some (.ref f3))) (l3 : K.lookup f3 = some ⟨oc3, od3, .func (PySem.W.fnOf "is_shape" "is_shape" (defArgs s_is_shape) (defBody s_is_shape) (defScope s_is_shape) .none kV3 dc3 pm3 an3 cd3 ct3), sl3⟩) (c3 : PySem.W.codeIn K cd3 "is_shape" = true) (k3 : PySem.W.keepIn K (.ref f3) = true)
    (a4 : PySem.W.nsIn K mainGlobals "parts_of" = some (some (.ref f4))) (l4 : K.lookup f4 = some ⟨oc4, od4, .func (PySem.W.fnOf "parts_of" "parts_of" (defArgs s_parts_of) (defBody s_parts_of) (defScope s_parts_of) .none kV4 dc4 pm4 an4 cd4 ct4), sl4⟩) (c4 : PySem.W.codeIn K cd4 "parts_of" = true) (k4 : PySem.W.keepIn K (.ref f4) = true)
    (a5 : PySem.W.nsIn K mainGlobals "show_shape" = some (some (.ref f5))) (l5 : K.lookup f5 = some ⟨oc5, od5, .func (PySem.W.fnOf "show_shape" "show_shape" (defArgs s_show_shape) (defBody s_show_shape) (defScope s_show_shape) .none kV5 dc5 pm5 an5 cd5 ct5), sl5⟩) (c5 : PySem.W.codeIn K cd5 "show_shape" = true) (k5 : PySem.W.keepIn K (.ref f5) = true)
    (a6 : PySem.W.nsIn K mainGlobals "end_of_name" = some (some (.ref f6))) (l6 : K.lookup f6 = some ⟨oc6, od6, .func (PySem.W.fnOf "end_of_name" "end_of_name" (defArgs s_end_of_name) (defBody s_end_of_name) (defScope s_end_of_name) .none kV6 dc6 pm6 an6 cd6 ct6), sl6⟩) (c6 : PySem.W.codeIn K cd6 "end_of_name" = true) (k6 : PySem.W.keepIn K (.ref f6) = true)
    (a7 : PySem.W.nsIn K mainGlobals "read_number" = some (some (.ref f7))) (l7 : K.lookup f7 = some ⟨oc7, od7, .func (PySem.W.fnOf "read_number" "read_number" (defArgs s_read_number) (defBody s_read_number) (defScope s_read_number) .none kV7 dc7 pm7 an7 cd7 ct7), sl7⟩) (c7 : PySem.W.codeIn K cd7 "read_number" = true) (k7 : PySem.W.keepIn K (.ref f7) = true)
    (a8 : PySem.W.nsIn K mainGlobals "read_shape" = some (some (.ref f8))) (l8 : K.lookup f8 = some ⟨oc8, od8, .func (PySem.W.fnOf "read_shape" "read_shape" (defArgs s_read_shape) (defBody s_read_shape) (defScope s_read_shape) .none kV8 dc8 pm8 an8 cd8 ct8), sl8⟩) (c8 : PySem.W.codeIn K cd8 "read_shape" = true) (k8 : PySem.W.keepIn K (.ref f8) = true)
    (a9 : PySem.W.nsIn K mainGlobals "read_openings" = some (some (.ref f9))) (l9 : K.lookup f9 = some ⟨oc9, od9, .func (PySem.W.fnOf "read_openings" "read_openings" (defArgs s_read_openings) (defBody s_read_openings) (defScope s_read_openings) .none kV9 dc9 pm9 an9 cd9 ct9), sl9⟩) (c9 : PySem.W.codeIn K cd9 "read_openings" = true) (k9 : PySem.W.keepIn K (.ref f9) = true)
    (a10 : PySem.W.nsIn K mainGlobals "read_behind" = some (some (.ref f10))) (l10 : K.lookup f10 = some ⟨oc10, od10, .func (PySem.W.fnOf "read_behind" "read_behind" (defArgs s_read_behind) (defBody s_read_behind) (defScope s_read_behind) .none kV10 dc10 pm10 an10 cd10 ct10), sl10⟩) (c10 : PySem.W.codeIn K cd10 "read_behind" = true) (k10 : PySem.W.keepIn K (.ref f10) = true)
    (a11 : PySem.W.nsIn K mainGlobals "read_middle" = some (some (.ref f11))) (l11 : K.lookup f11 = some ⟨oc11, od11, .func (PySem.W.fnOf "read_middle" "read_middle" (defArgs s_read_middle) (defBody s_read_middle) (defScope s_read_middle) .none kV11 dc11 pm11 an11 cd11 ct11), sl11⟩) (c11 : PySem.W.codeIn K cd11 "read_middle" = true) (k11 : PySem.W.keepIn K (.ref f11) = true)
    (a12 : PySem.W.nsIn K mainGlobals "need_sign" = some (some (.ref f12))) (l12 : K.lookup f12 = some ⟨oc12, od12, .func (PySem.W.fnOf "need_sign" "need_sign" (defArgs s_need_sign) (defBody s_need_sign) (defScope s_need_sign) .none kV12 dc12 pm12 an12 cd12 ct12), sl12⟩) (c12 : PySem.W.codeIn K cd12 "need_sign" = true) (k12 : PySem.W.keepIn K (.ref f12) = true)
    (a13 : PySem.W.nsIn K mainGlobals "is_name" = some (some (.ref f13))) (l13 : K.lookup f13 = some ⟨oc13, od13, .func (PySem.W.fnOf "is_name" "is_name" (defArgs s_is_name) (defBody s_is_name) (defScope s_is_name) .none kV13 dc13 pm13 an13 cd13 ct13), sl13⟩) (c13 : PySem.W.codeIn K cd13 "is_name" = true) (k13 : PySem.W.keepIn K (.ref f13) = true)
    (a14 : PySem.W.nsIn K mainGlobals "is_tree_leaf" = some (some (.ref f14))) (l14 : K.lookup f14 = some ⟨oc14, od14, .func (PySem.W.fnOf "is_tree_leaf" "is_tree_leaf" (defArgs s_is_tree_leaf) (defBody s_is_tree_leaf) (defScope s_is_tree_leaf) .none kV14 dc14 pm14 an14 cd14 ct14), sl14⟩) (c14 : PySem.W.codeIn K cd14 "is_tree_leaf" = true) (k14 : PySem.W.keepIn K (.ref f14) = true)
    (a15 : PySem.W.nsIn K mainGlobals "is_tree" = some (some (.ref f15))) (l15 : K.lookup f15 = some ⟨oc15, od15, .func (PySem.W.fnOf "is_tree" "is_tree" (defArgs s_is_tree) (defBody s_is_tree) (defScope s_is_tree) .none kV15 dc15 pm15 an15 cd15 ct15), sl15⟩) (c15 : PySem.W.codeIn K cd15 "is_tree" = true) (k15 : PySem.W.keepIn K (.ref f15) = true)
    (a16 : PySem.W.nsIn K mainGlobals "show_leaf" = some (some (.ref f16))) (l16 : K.lookup f16 = some ⟨oc16, od16, .func (PySem.W.fnOf "show_leaf" "show_leaf" (defArgs s_show_leaf) (defBody s_show_leaf) (defScope s_show_leaf) .none kV16 dc16 pm16 an16 cd16 ct16), sl16⟩) (c16 : PySem.W.codeIn K cd16 "show_leaf" = true) (k16 : PySem.W.keepIn K (.ref f16) = true)
    (a17 : PySem.W.nsIn K mainGlobals "shown" = some (some (.ref f17))) (l17 : K.lookup f17 = some ⟨oc17, od17, .func (PySem.W.fnOf "shown" "shown" (defArgs s_shown) (defBody s_shown) (defScope s_shown) .none kV17 dc17 pm17 an17 cd17 ct17), sl17⟩) (c17 : PySem.W.codeIn K cd17 "shown" = true) (k17 : PySem.W.keepIn K (.ref f17) = true)
    (a18 : PySem.W.nsIn K mainGlobals "read_leaf" = some (some (.ref f18))) (l18 : K.lookup f18 = some ⟨oc18, od18, .func (PySem.W.fnOf "read_leaf" "read_leaf" (defArgs s_read_leaf) (defBody s_read_leaf) (defScope s_read_leaf) .none kV18 dc18 pm18 an18 cd18 ct18), sl18⟩) (c18 : PySem.W.codeIn K cd18 "read_leaf" = true) (k18 : PySem.W.keepIn K (.ref f18) = true)
    (a19 : PySem.W.nsIn K mainGlobals "read" = some (some (.ref f19))) (l19 : K.lookup f19 = some ⟨oc19, od19, .func (PySem.W.fnOf "read" "read" (defArgs s_read) (defBody s_read) (defScope s_read) .none kV19 dc19 pm19 an19 cd19 ct19), sl19⟩) (c19 : PySem.W.codeIn K cd19 "read" = true) (k19 : PySem.W.keepIn K (.ref f19) = true)
    (a20 : PySem.W.nsIn K mainGlobals "_law_whole" = some (some (.ref f20))) (l20 : K.lookup f20 = some ⟨oc20, od20, .func (PySem.W.fnOf "_law_whole" "_law_whole" (defArgs s_law_whole) (defBody s_law_whole) (defScope s_law_whole) .none kV20 dc20 pm20 an20 cd20 ct20), sl20⟩) (c20 : PySem.W.codeIn K cd20 "_law_whole" = true) (k20 : PySem.W.keepIn K (.ref f20) = true)
    (a21 : PySem.W.nsIn K mainGlobals "_law_cell_at" = some (some (.ref f21))) (l21 : K.lookup f21 = some ⟨oc21, od21, .func (PySem.W.fnOf "_law_cell_at" "_law_cell_at" (defArgs s_law_cell_at) (defBody s_law_cell_at) (defScope s_law_cell_at) .none kV21 dc21 pm21 an21 cd21 ct21), sl21⟩) (c21 : PySem.W.codeIn K cd21 "_law_cell_at" = true) (k21 : PySem.W.keepIn K (.ref f21) = true)
    (a22 : PySem.W.nsIn K mainGlobals "_law_alike" = some (some (.ref f22))) (l22 : K.lookup f22 = some ⟨oc22, od22, .func (PySem.W.fnOf "_law_alike" "_law_alike" (defArgs s_law_alike) (defBody s_law_alike) (defScope s_law_alike) .none kV22 dc22 pm22 an22 cd22 ct22), sl22⟩) (c22 : PySem.W.codeIn K cd22 "_law_alike" = true) (k22 : PySem.W.keepIn K (.ref f22) = true)
    (a23 : PySem.W.nsIn K mainGlobals "_law_name_of" = some (some (.ref f23))) (l23 : K.lookup f23 = some ⟨oc23, od23, .func (PySem.W.fnOf "_law_name_of" "_law_name_of" (defArgs s_law_name_of) (defBody s_law_name_of) (defScope s_law_name_of) .none kV23 dc23 pm23 an23 cd23 ct23), sl23⟩) (c23 : PySem.W.codeIn K cd23 "_law_name_of" = true) (k23 : PySem.W.keepIn K (.ref f23) = true)
    (a24 : PySem.W.nsIn K mainGlobals "_law_leaf" = some (some (.ref f24))) (l24 : K.lookup f24 = some ⟨oc24, od24, .func (PySem.W.fnOf "_law_leaf" "_law_leaf" (defArgs s_law_leaf) (defBody s_law_leaf) (defScope s_law_leaf) .none kV24 dc24 pm24 an24 cd24 ct24), sl24⟩) (c24 : PySem.W.codeIn K cd24 "_law_leaf" = true) (k24 : PySem.W.keepIn K (.ref f24) = true)
    (a25 : PySem.W.nsIn K mainGlobals "_law_joined" = some (some (.ref f25))) (l25 : K.lookup f25 = some ⟨oc25, od25, .func (PySem.W.fnOf "_law_joined" "_law_joined" (defArgs s_law_joined) (defBody s_law_joined) (defScope s_law_joined) .none kV25 dc25 pm25 an25 cd25 ct25), sl25⟩) (c25 : PySem.W.codeIn K cd25 "_law_joined" = true) (k25 : PySem.W.keepIn K (.ref f25) = true)
    (a26 : PySem.W.nsIn K mainGlobals "_law_turned" = some (some (.ref f26))) (l26 : K.lookup f26 = some ⟨oc26, od26, .func (PySem.W.fnOf "_law_turned" "_law_turned" (defArgs s_law_turned) (defBody s_law_turned) (defScope s_law_turned) .none kV26 dc26 pm26 an26 cd26 ct26), sl26⟩) (c26 : PySem.W.codeIn K cd26 "_law_turned" = true) (k26 : PySem.W.keepIn K (.ref f26) = true)
    (a27 : PySem.W.nsIn K mainGlobals "_law_all" = some (some (.ref f27))) (l27 : K.lookup f27 = some ⟨oc27, od27, .func (PySem.W.fnOf "_law_all" "_law_all" (defArgs s_law_all) (defBody s_law_all) (defScope s_law_all) .none kV27 dc27 pm27 an27 cd27 ct27), sl27⟩) (c27 : PySem.W.codeIn K cd27 "_law_all" = true) (k27 : PySem.W.keepIn K (.ref f27) = true)
    (a28 : PySem.W.nsIn K mainGlobals "_law_built" = some (some (.ref f28))) (l28 : K.lookup f28 = some ⟨oc28, od28, .func (PySem.W.fnOf "_law_built" "_law_built" (defArgs s_law_built) (defBody s_law_built) (defScope s_law_built) .none kV28 dc28 pm28 an28 cd28 ct28), sl28⟩) (c28 : PySem.W.codeIn K cd28 "_law_built" = true) (k28 : PySem.W.keepIn K (.ref f28) = true)
    (a29 : PySem.W.nsIn K mainGlobals "_law_grown" = some (some (.ref f29))) (l29 : K.lookup f29 = some ⟨oc29, od29, .func (PySem.W.fnOf "_law_grown" "_law_grown" (defArgs s_law_grown) (defBody s_law_grown) (defScope s_law_grown) .none kV29 dc29 pm29 an29 cd29 ct29), sl29⟩) (c29 : PySem.W.codeIn K cd29 "_law_grown" = true) (k29 : PySem.W.keepIn K (.ref f29) = true)
    (a30 : PySem.W.nsIn K mainGlobals "law" = some (some (.ref f30))) (l30 : K.lookup f30 = some ⟨oc30, od30, .func (PySem.W.fnOf "law" "law" (defArgs s_law) (defBody s_law) (defScope s_law) .none kV30 dc30 pm30 an30 cd30 ct30), sl30⟩) (c30 : PySem.W.codeIn K cd30 "law" = true) (k30 : PySem.W.keepIn K (.ref f30) = true)
    (e0 : PySem.W.nsIn K mainGlobals "LETTERS" = some (some (.str (LET) tk0)))
    (e1 : PySem.W.nsIn K mainGlobals "FIGURES" = some (some (.str (FIG) tk1)))
    (e2 : PySem.W.nsIn K mainGlobals "LONGEST_NAME" = some (some (.int (8) tk2)))
    (e3 : PySem.W.nsIn K mainGlobals "GREATEST" = some (some (.int (1000000000000000000) tk3)))
    (e4 : PySem.W.nsIn K mainGlobals "TREE_PIECES" = some (some (.int (200) tk4)))
    (e5 : PySem.W.nsIn K mainGlobals "TREE_WITHIN" = some (some (.int (40) tk5)))
    {dt0 : Addr} (ta0 : PySem.W.nsIn K mainGlobals "SIGNS" = some (some (.ref dt0))) (tb0 : KTD.tabLook KTD.flatLooks (fun b => K.lookup b) dt0 (tabP SIGNS) = true) (tc0 : KTD.hashesOf (fun b => K.lookup b) dt0 = (tabP SIGNS).map fun p => (PySem.strKind l.prog w).hash p.1)
    {dt1 : Addr} (ta1 : PySem.W.nsIn K mainGlobals "MIDDLE_TEXTS" = some (some (.ref dt1))) (tb1 : KTD.tabLook KTD.flatLooks (fun b => K.lookup b) dt1 (tabP MIDS) = true) (tc1 : KTD.hashesOf (fun b => K.lookup b) dt1 = (tabP MIDS).map fun p => (PySem.strKind l.prog w).hash p.1)
    {dt2 : Addr} (ta2 : PySem.W.nsIn K mainGlobals "MIDDLE_WORDS" = some (some (.ref dt2))) (tb2 : KTD.tabLook KTD.flatLooks (fun b => K.lookup b) dt2 (tabP MIDW) = true) (tc2 : KTD.hashesOf (fun b => K.lookup b) dt2 = (tabP MIDW).map fun p => (PySem.strKind l.prog w).hash p.1)
    (z0 : PySem.W.nsIn K mainGlobals "len" = some none)
    (z1 : PySem.W.nsIn K mainGlobals "isinstance" = some none)
    (z2 : PySem.W.nsIn K mainGlobals "str" = some none)
    (z3 : PySem.W.nsIn K mainGlobals "max" = some none)
    (z4 : PySem.W.nsIn K mainGlobals "range" = some none)
    (z5 : PySem.W.nsIn K mainGlobals "tuple" = some none)
    (z6 : PySem.W.nsIn K mainGlobals "int" = some none)
    (z7 : PySem.W.nsIn K mainGlobals "bool" = some none)
    (z8 : PySem.W.nsIn K mainGlobals "all" = some none)
    (z9 : PySem.W.nsIn K mainGlobals "zip" = some none)
    : ∃ fd : FuncData, (∀ (s : Shared) (v : Value), BindsTo s fd ⟨[v], []⟩ [("script", v)]) ∧ ∀ base : Heap, K.In base → base.Ns mainGlobals mg → FnOk l.prog w K mg base CX0 53 fa fd ["script"] (liftSp K spLaw) := by
  have e := hfa.symm.trans (PySem.W.mg_of X G a30)
  cases e
  have F_is_whole := fun_mk (st := s_is_whole) l0 c0 k0
  have v_is_whole := PySem.W.mg_of X G a0
  have F_is_number := fun_mk (st := s_is_number) l1 c1 k1
  have v_is_number := PySem.W.mg_of X G a1
  have F_is_sign := fun_mk (st := s_is_sign) l2 c2 k2
  have v_is_sign := PySem.W.mg_of X G a2
  have F_is_shape := fun_mk (st := s_is_shape) l3 c3 k3
  have v_is_shape := PySem.W.mg_of X G a3
  have F_parts_of := fun_mk (st := s_parts_of) l4 c4 k4
  have v_parts_of := PySem.W.mg_of X G a4
  have F_show_shape := fun_mk (st := s_show_shape) l5 c5 k5
  have v_show_shape := PySem.W.mg_of X G a5
  have F_end_of_name := fun_mk (st := s_end_of_name) l6 c6 k6
  have v_end_of_name := PySem.W.mg_of X G a6
  have F_read_number := fun_mk (st := s_read_number) l7 c7 k7
  have v_read_number := PySem.W.mg_of X G a7
  have F_read_shape := fun_mk (st := s_read_shape) l8 c8 k8
  have v_read_shape := PySem.W.mg_of X G a8
  have F_read_openings := fun_mk (st := s_read_openings) l9 c9 k9
  have v_read_openings := PySem.W.mg_of X G a9
  have F_read_behind := fun_mk (st := s_read_behind) l10 c10 k10
  have v_read_behind := PySem.W.mg_of X G a10
  have F_read_middle := fun_mk (st := s_read_middle) l11 c11 k11
  have v_read_middle := PySem.W.mg_of X G a11
  have F_need_sign := fun_mk (st := s_need_sign) l12 c12 k12
  have v_need_sign := PySem.W.mg_of X G a12
  have F_is_name := fun_mk (st := s_is_name) l13 c13 k13
  have v_is_name := PySem.W.mg_of X G a13
  have F_is_tree_leaf := fun_mk (st := s_is_tree_leaf) l14 c14 k14
  have v_is_tree_leaf := PySem.W.mg_of X G a14
  have F_is_tree := fun_mk (st := s_is_tree) l15 c15 k15
  have v_is_tree := PySem.W.mg_of X G a15
  have F_show_leaf := fun_mk (st := s_show_leaf) l16 c16 k16
  have v_show_leaf := PySem.W.mg_of X G a16
  have F_shown := fun_mk (st := s_shown) l17 c17 k17
  have v_shown := PySem.W.mg_of X G a17
  have F_read_leaf := fun_mk (st := s_read_leaf) l18 c18 k18
  have v_read_leaf := PySem.W.mg_of X G a18
  have F_read := fun_mk (st := s_read) l19 c19 k19
  have v_read := PySem.W.mg_of X G a19
  have F_law_whole := fun_mk (st := s_law_whole) l20 c20 k20
  have v_law_whole := PySem.W.mg_of X G a20
  have F_law_cell_at := fun_mk (st := s_law_cell_at) l21 c21 k21
  have v_law_cell_at := PySem.W.mg_of X G a21
  have F_law_alike := fun_mk (st := s_law_alike) l22 c22 k22
  have v_law_alike := PySem.W.mg_of X G a22
  have F_law_name_of := fun_mk (st := s_law_name_of) l23 c23 k23
  have v_law_name_of := PySem.W.mg_of X G a23
  have F_law_leaf := fun_mk (st := s_law_leaf) l24 c24 k24
  have v_law_leaf := PySem.W.mg_of X G a24
  have F_law_joined := fun_mk (st := s_law_joined) l25 c25 k25
  have v_law_joined := PySem.W.mg_of X G a25
  have F_law_turned := fun_mk (st := s_law_turned) l26 c26 k26
  have v_law_turned := PySem.W.mg_of X G a26
  have F_law_all := fun_mk (st := s_law_all) l27 c27 k27
  have v_law_all := PySem.W.mg_of X G a27
  have F_law_built := fun_mk (st := s_law_built) l28 c28 k28
  have v_law_built := PySem.W.mg_of X G a28
  have F_law_grown := fun_mk (st := s_law_grown) l29 c29 k29
  have v_law_grown := PySem.W.mg_of X G a29
  have F_law := fun_mk (st := s_law) l30 c30 k30
  have v_law := PySem.W.mg_of X G a30
  have g_LETTERS := PySem.W.mg_of X G e0
  have g_FIGURES := PySem.W.mg_of X G e1
  have g_LONGEST_NAME := PySem.W.mg_of X G e2
  have g_GREATEST := PySem.W.mg_of X G e3
  have g_TREE_PIECES := PySem.W.mg_of X G e4
  have g_TREE_WITHIN := PySem.W.mg_of X G e5
  have g_SIGNS := PySem.W.mg_of X G ta0
  have T_SIGNS : IsTab l.prog w K dt0 SIGNS := tab_of (by decide +kernel) tb0 tc0
  have g_MIDDLE_TEXTS := PySem.W.mg_of X G ta1
  have T_MIDDLE_TEXTS : IsTab l.prog w K dt1 MIDS := tab_of (by decide +kernel) tb1 tc1
  have g_MIDDLE_WORDS := PySem.W.mg_of X G ta2
  have T_MIDDLE_WORDS : IsTab l.prog w K dt2 MIDW := tab_of (by decide +kernel) tb2 tc2
  have m_len := PySem.W.mg_none_of X G z0
  have m_isinstance := PySem.W.mg_none_of X G z1
  have m_str := PySem.W.mg_none_of X G z2
  have m_max := PySem.W.mg_none_of X G z3
  have m_range := PySem.W.mg_none_of X G z4
  have m_tuple := PySem.W.mg_none_of X G z5
  have m_int := PySem.W.mg_none_of X G z6
  have m_bool := PySem.W.mg_none_of X G z7
  have m_all := PySem.W.mg_none_of X G z8
  have m_zip := PySem.W.mg_none_of X G z9
  refine ⟨PySem.W.fnOf "law" "law" (defArgs s_law) (defBody s_law) (defScope s_law) .none kV30 dc30 pm30 an30 cd30 ct30, fun s v => .of_eq rfl, fun base _ _ => ?_⟩
  have c0 := ok_parts_of (P := l.prog) (w := w) (base := base) F_parts_of v_parts_of T_SIGNS g_SIGNS
  have c1 := ok_show_leaf (P := l.prog) (w := w) (mg := mg) (base := base) F_show_leaf m_str
  have c2 := show_all F_show_shape v_show_shape T_SIGNS g_SIGNS T_MIDDLE_TEXTS g_MIDDLE_TEXTS c0 c1 50
  have c3 := ok_shown F_shown v_shown v_show_leaf c2
  have j0 := ok_joined (P := l.prog) (w := w) (base := base) F_law_joined v_law_joined m_max
  have t0 := ok_turned (P := l.prog) (w := w) (base := base) F_law_turned v_law_turned
  have n0 := ok_leaf F_law_leaf v_law_leaf m_str (ok_name_of (P := l.prog) (w := w) (base := base) F_law_name_of v_law_name_of m_len)
  have b0 := ok_built F_law_built v_law_built m_len m_max j0 t0 n0 (ok_all F_law_all v_law_all m_len m_range m_max j0)
  have i0 := ok_is_whole (P := l.prog) (w := w) (base := base) F_is_whole v_is_whole m_isinstance m_int m_bool
  have i1 := ok_is_number F_is_number v_is_number g_GREATEST i0
  have i2 := ok_is_sign (P := l.prog) (w := w) (base := base) F_is_sign v_is_sign m_isinstance m_tuple m_len m_str T_SIGNS g_SIGNS
  have i3 := ok_is_name (P := l.prog) (w := w) (base := base) F_is_name v_is_name m_len m_isinstance m_str m_all g_LETTERS g_LONGEST_NAME
  have i4 := (ok_is_tree_leaf F_is_tree_leaf m_isinstance m_tuple m_len i1 i3).f
  have i5 := ok_is_shape (ka := 2) F_is_shape v_is_shape i2 i4
  have i6 := ok_is_tree F_is_tree v_is_tree v_is_tree_leaf g_TREE_PIECES g_TREE_WITHIN i5
  have r0 := ok_need (P := l.prog) (w := w) (base := base) F_need_sign v_need_sign
  have r1 := ok_mid F_read_middle v_read_middle T_MIDDLE_WORDS g_MIDDLE_WORDS r0
  have r2 := ok_open F_read_openings v_read_openings r0
  have r3 := ok_beh F_read_behind v_read_behind m_tuple r0 r1
  have r4 := ok_rleaf F_read_leaf (ok_end (P := l.prog) (w := w) (base := base) F_end_of_name v_end_of_name m_len g_LONGEST_NAME g_LETTERS) (ok_num F_read_number v_read_number m_len g_GREATEST g_FIGURES)
  have r5 := ok_rshape F_read_shape v_read_shape m_len r4 r2 r3
  have r6 := ok_read F_read v_read v_read_leaf r5 i6
  have a0 := alike_all F_law_alike v_law_alike m_isinstance m_tuple m_len m_zip m_str (ok_whole (P := l.prog) (w := w) (base := base) F_law_whole v_law_whole m_isinstance m_int m_bool) 50
  exact ok_law F_law m_isinstance m_str (ok_grown F_law_grown v_law_grown j0 t0) b0 (ok_cell_at F_law_cell_at v_law_cell_at m_len) r6 a0 c3
theorem walk {l : PySem.W.OpenLaw} {q : Program} {loose : List Str} {XP : (Str → Option Value) → Heap → Prop} {YP : World → Heap → Prop} {d : DefRec} {K : Params → PySem.W.Frag} (hn : l.most = some 63) (hdf : d.params.defaults = [])
    (hY : ∀ (w : World) (h : Heap), YP w h → (K w.params).In h)
    (F : ∀ (w : World) (mg : Str → Option Value) (fa : Addr) (h : Heap), (K w.params).In h → h.Ns mainGlobals mg → mg d.name = some (.ref fa) →
      ∃ fd : FuncData, (∀ (s : Shared) (u : Value), BindsTo s fd ⟨[u], []⟩ [("script", u)]) ∧ ∀ base : Heap, (K w.params).In base → base.Ns mainGlobals mg → FnOk l.prog w (K w.params) mg base CX0 53 fa fd ["script"] (liftSp (K w.params) spLaw)) :
    PySem.W.WalkO q loose XP YP l.row.toRowW d [] (fun f vs => PySem.call f vs) :=
  L2.walk_of (n := 63) (k := 53) (x := "script") (CX := fun _ => CX0) (sp := fun w => liftSp (K w.params) spLaw) hn (by decide) hdf ⟨rfl, by decide, by decide⟩ hY F (fun _ _ a ns hl _ hS => law_entry hl hS) fun _ _ _ _ _ z => z
end K08
namespace PySem.W.Fast
def tw10185441126326523430:=0
def tw10264771067907828421:=0
def tw10288386178834228132:=0
def tw10314345109632665160:=0
def tw10323452228965005149:=0
def tw10331582277821032524:=0
def tw1041270524911108255:=0
def tw10417102181314409546:=0
def tw10523574680936005496:=0
def tw10612846829658377813:=0
def tw10624067174440724111:=0
def tw10641991574721934288:=0
def tw10644265569581251594:=0
def tw10900808596103301951:=0
def tw10957293540121377025:=0
def tw11213918028379077992:=0
def tw11273302828684205595:=0
def tw11345286700631859268:=0
def tw11371969033976740155:=0
def tw11725642528501896845:=0
def tw11741874482266215916:=0
def tw11868621955900711212:=0
def tw11927453077532541587:=0
def tw12059766170610993684:=0
def tw12060793125939423387:=0
def tw12092523567836396168:=0
def tw12224529864573523461:=0
def tw12407885383446528684:=0
def tw12438824786550800708:=0
def tw12473055184213969084:=0
def tw1253104376248094154:=0
def tw12703304641768897151:=0
def tw12708197580625342230:=0
def tw12723483539062772461:=0
def tw12854099840168364049:=0
def tw12878990508223385669:=0
def tw1299274467902615448:=0
def tw1302147939955441028:=0
def tw13022738044152985902:=0
def tw13042813249990369866:=0
def tw1315166263602035747:=0
def tw13217193927537948399:=0
def tw13412304935311319910:=0
def tw13438615777001731433:=0
def tw1348536307791079195:=0
def tw13501747033693274094:=0
def tw13562173293932565671:=0
def tw13688407555912359329:=0
def tw13704926726182564614:=0
def tw1372645891886102004:=0
def tw13893882492760386540:=0
def tw14136169376029802640:=0
def tw14142505219568057069:=0
def tw14204945246187528436:=0
def tw14227208122464052987:=0
def tw14325235973404314527:=0
def tw14328774147643646554:=0
def tw14374724524257982251:=0
def tw14566130930345372521:=0
def tw14584940725702423605:=0
def tw14612469795639458211:=0
def tw14629967896164010025:=0
def tw14652624566160182827:=0
def tw14695819269560620317:=0
def tw14712459134921732833:=0
def tw14750937278794796575:=0
def tw14835093242574387347:=0
def tw14856193882868425153:=0
def tw15057786669121715807:=0
def tw1509159788669666514:=0
def tw15197365510894727189:=0
def tw15307558786532454323:=0
def tw15345674362822777887:=0
def tw15353350765987006325:=0
def tw15356045444018932808:=0
def tw15381803878682560659:=0
def tw15435447192015646972:=0
def tw1546486833742539420:=0
def tw15487315787370674783:=0
def tw15531756134875579565:=0
def tw15568157731165758631:=0
def tw15597497377136918812:=0
def tw15601104525671830635:=0
def tw15650762282148345302:=0
def tw15749495687730085821:=0
def tw15857122456470345223:=0
def tw1593761258043643318:=0
def tw15970341833201177637:=0
def tw16139563545351900622:=0
def tw16142474429693894202:=0
def tw16165252923813353965:=0
def tw16221339768203161106:=0
def tw16281751093667478444:=0
def tw16354809428061552127:=0
def tw16357309420777451537:=0
def tw16378912204579953122:=0
def tw16381587587215949325:=0
def tw16391203827080188231:=0
def tw16404891568355165828:=0
def tw16411302014626346956:=0
def tw16413415447723271310:=0
def tw16737906973274011719:=0
def tw16762810993136220318:=0
def tw16824622275419609252:=0
def tw16916928542427342625:=0
def tw17078441769577484940:=0
def tw17192981877539509236:=0
def tw17294464033251669682:=0
def tw17314275800685413667:=0
def tw17470832786074456586:=0
def tw17475808929222123706:=0
def tw17503968456081283761:=0
def tw17666823139661526244:=0
def tw17693039013406592022:=0
def tw17780845477199076120:=0
def tw17852046121108780624:=0
def tw17908256720620656941:=0
def tw18024495111592350113:=0
def tw18047385211039683641:=0
def tw18063640102605600016:=0
def tw18139963388877966510:=0
def tw18280629482087214578:=0
def tw18425210348124376502:=0
def tw1920744173017616192:=0
def tw203391220226931726:=0
def tw2091686290402768112:=0
def tw2358830329442862514:=0
def tw2408701841275933533:=0
def tw2430771160270608118:=0
def tw2551233704841548744:=0
def tw2563255306628875318:=0
def tw2587997096827464827:=0
def tw2593226644791295428:=0
def tw2641060643177590549:=0
def tw2755470193714189473:=0
def tw2803503414803190381:=0
def tw2829172723899009663:=0
def tw2888291174758422209:=0
def tw3071131226401254956:=0
def tw3092316021877909355:=0
def tw3137666504401133335:=0
def tw3366867678549250817:=0
def tw339809174835982920:=0
def tw353511948318378864:=0
def tw3612188386166568405:=0
def tw3624769646436142895:=0
def tw3714651357411187473:=0
def tw3837114704656351763:=0
def tw3999521766101891288:=0
def tw4014216202720677222:=0
def tw4014228009314865344:=0
def tw4016424111975297039:=0
def tw4134627008389365602:=0
def tw4199583195054406392:=0
def tw4383195579172932350:=0
def tw4426934555303671463:=0
def tw4431897458006763666:=0
def tw452784299625890808:=0
def tw4589969400639429353:=0
def tw4591118253965199166:=0
def tw4611715969183622998:=0
def tw4695888688936764418:=0
def tw4726518510946310707:=0
def tw4981070015072152205:=0
def tw5195777492041758305:=0
def tw5222512671908608251:=0
def tw5242073414815163459:=0
def tw52541291205023431:=0
def tw5273597396561759733:=0
def tw5364379424208940641:=0
def tw5377135850921208268:=0
def tw5399613544786131946:=0
def tw5434859844340001648:=0
def tw5442917941516231761:=0
def tw5464216726696034241:=0
def tw5535203985312126094:=0
def tw5640918865816637498:=0
def tw56890625903176246:=0
def tw5700651377586118150:=0
def tw5846360159007116068:=0
def tw5866542868413032389:=0
def tw5887299653854419579:=0
def tw5890915229205013947:=0
def tw5953551324638516534:=0
def tw5999710728754856020:=0
def tw6005884300642170324:=0
def tw6035629557890542518:=0
def tw6057280018555183371:=0
def tw6069740349168760063:=0
def tw6353372438756694350:=0
def tw6357664888917396266:=0
def tw6396618102959579784:=0
def tw6462314392610985407:=0
def tw6581909143716084389:=0
def tw6714687384544880560:=0
def tw6718794671206031463:=0
def tw6738995511564134375:=0
def tw6947822523440726127:=0
def tw6975197367268231029:=0
def tw7140503190947747575:=0
def tw7178473724191639548:=0
def tw7411486206437213407:=0
def tw7451243277739159981:=0
def tw7508263551503375834:=0
def tw7622387021104362318:=0
def tw7739265269281815770:=0
def tw7779300877163671816:=0
def tw7786304692874635536:=0
def tw7946219311539821771:=0
def tw8059903856289867533:=0
def tw813782433536981090:=0
def tw8186094043896717211:=0
def tw8201038026937531829:=0
def tw8226838876630525245:=0
def tw8380911118770858775:=0
def tw8402472577672196946:=0
def tw840363713287631224:=0
def tw8551748608848408052:=0
def tw8554192592602566082:=0
def tw8581151862558462507:=0
def tw8649692479182080312:=0
def tw8748474078601125632:=0
def tw8760545978510495656:=0
def tw8852671364338767031:=0
def tw8955454025853590486:=0
def tw8971130770258864032:=0
def tw9165771756448202260:=0
def tw9254629856478646185:=0
def tw9315101092290197106:=0
def tw9416540478290914235:=0
def tw9578150093771183787:=0
def tw9603102837031412707:=0
def tw9652762002014718715:=0
def tw971237297502993064:=0
def tw973208868005214948:=0
def tw9736337679055016266:=0
def tw9755703805980568805:=0
def tw989412792178498274:=0
def tw9963798567168093344:=0
end PySem.W.Fast
open PySem PySem.W PyProof.Rows
set_option maxRecDepth 100000 in
set_option maxHeartbeats 0 in
theorem PySem.Challenge.cw_rowsmith_k08_read_again_holds : PySem.Challenge.rw_rowsmith_k08_read_again.Holds := by
  w_on; o_law; k_head; (case hw => w_witness2)
  k_fill
  refine K08.walk (l := PySem.Challenge.rw_rowsmith_k08_read_again) rfl rfl (fun w h Y => PySem.W.kIn_of Y) ?F
  case F =>
    intro w mg fa h KX G hmg
    refine' K08.all_mk KX G hmg ?a0 ?l0 ?c0 ?k0 ?a1 ?l1 ?c1 ?k1 ?a2 ?l2 ?c2 ?k2 ?a3 ?l3 ?c3 ?k3 ?a4 ?l4 ?c4 ?k4 ?a5 ?l5 ?c5 ?k5 ?a6 ?l6 ?c6 ?k6 ?a7 ?l7 ?c7 ?k7 ?a8 ?l8 ?c8 ?k8 ?a9 ?l9 ?c9 ?k9 ?a10 ?l10 ?c10 ?k10 ?a11 ?l11 ?c11 ?k11 ?a12 ?l12 ?c12 ?k12 ?a13 ?l13 ?c13 ?k13 ?a14 ?l14 ?c14 ?k14 ?a15 ?l15 ?c15 ?k15 ?a16 ?l16 ?c16 ?k16 ?a17 ?l17 ?c17 ?k17 ?a18 ?l18 ?c18 ?k18 ?a19 ?l19 ?c19 ?k19 ?a20 ?l20 ?c20 ?k20 ?a21 ?l21 ?c21 ?k21 ?a22 ?l22 ?c22 ?k22 ?a23 ?l23 ?c23 ?k23 ?a24 ?l24 ?c24 ?k24 ?a25 ?l25 ?c25 ?k25 ?a26 ?l26 ?c26 ?k26 ?a27 ?l27 ?c27 ?k27 ?a28 ?l28 ?c28 ?k28 ?a29 ?l29 ?c29 ?k29 ?a30 ?l30 ?c30 ?k30 ?e0 ?e1 ?e2 ?e3 ?e4 ?e5 ?ta0 ?tb0 ?tc0 ?ta1 ?tb1 ?tc1 ?ta2 ?tb2 ?tc2 ?z0 ?z1 ?z2 ?z3 ?z4 ?z5 ?z6 ?z7 ?z8 ?z9
    (case a0 => k_is)
    (case l0 => k_is)
    (case c0 => k_is)
    (case k0 => k_is)
    (case a1 => k_is)
    (case l1 => k_is)
    (case c1 => k_is)
    (case k1 => k_is)
    (case a2 => k_is)
    (case l2 => k_is)
    (case c2 => k_is)
    (case k2 => k_is)
    (case a3 => k_is)
    (case l3 => k_is)
    (case c3 => k_is)
    (case k3 => k_is)
    (case a4 => k_is)
    (case l4 => k_is)
    (case c4 => k_is)
    (case k4 => k_is)
    (case a5 => k_is)
    (case l5 => k_is)
    (case c5 => k_is)
    (case k5 => k_is)
    (case a6 => k_is)
    (case l6 => k_is)
    (case c6 => k_is)
    (case k6 => k_is)
    (case a7 => k_is)
    (case l7 => k_is)
    (case c7 => k_is)
    (case k7 => k_is)
    (case a8 => k_is)
    (case l8 => k_is)
    (case c8 => k_is)
    (case k8 => k_is)
    (case a9 => k_is)
    (case l9 => k_is)
    (case c9 => k_is)
    (case k9 => k_is)
    (case a10 => k_is)
    (case l10 => k_is)
    (case c10 => k_is)
    (case k10 => k_is)
    (case a11 => k_is)
    (case l11 => k_is)
    (case c11 => k_is)
    (case k11 => k_is)
    (case a12 => k_is)
    (case l12 => k_is)
    (case c12 => k_is)
    (case k12 => k_is)
    (case a13 => k_is)
    (case l13 => k_is)
    (case c13 => k_is)
    (case k13 => k_is)
    (case a14 => k_is)
    (case l14 => k_is)
    (case c14 => k_is)
    (case k14 => k_is)
    (case a15 => k_is)
    (case l15 => k_is)
    (case c15 => k_is)
    (case k15 => k_is)
    (case a16 => k_is)
    (case l16 => k_is)
    (case c16 => k_is)
    (case k16 => k_is)
    (case a17 => k_is)
    (case l17 => k_is)
    (case c17 => k_is)
    (case k17 => k_is)
    (case a18 => k_is)
    (case l18 => k_is)
    (case c18 => k_is)
    (case k18 => k_is)
    (case a19 => k_is)
    (case l19 => k_is)
    (case c19 => k_is)
    (case k19 => k_is)
    (case a20 => k_is)
    (case l20 => k_is)
    (case c20 => k_is)
    (case k20 => k_is)
    (case a21 => k_is)
    (case l21 => k_is)
    (case c21 => k_is)
    (case k21 => k_is)
    (case a22 => k_is)
    (case l22 => k_is)
    (case c22 => k_is)
    (case k22 => k_is)
    (case a23 => k_is)
    (case l23 => k_is)
    (case c23 => k_is)
    (case k23 => k_is)
    (case a24 => k_is)
    (case l24 => k_is)
    (case c24 => k_is)
    (case k24 => k_is)
    (case a25 => k_is)
    (case l25 => k_is)
    (case c25 => k_is)
    (case k25 => k_is)
    (case a26 => k_is)
    (case l26 => k_is)
    (case c26 => k_is)
    (case k26 => k_is)
    (case a27 => k_is)
    (case l27 => k_is)
    (case c27 => k_is)
    (case k27 => k_is)
    (case a28 => k_is)
    (case l28 => k_is)
    (case c28 => k_is)
    (case k28 => k_is)
    (case a29 => k_is)
    (case l29 => k_is)
    (case c29 => k_is)
    (case k29 => k_is)
    (case a30 => k_is)
    (case l30 => k_is)
    (case c30 => k_is)
    (case k30 => k_is)
    (case e0 => k_is)
    (case e1 => k_is)
    (case e2 => k_is)
    (case e3 => k_is)
    (case e4 => k_is)
    (case e5 => k_is)
    (case ta0 => k_is)
    (case tb0 => kernel_rfl)
    (case tc0 => kernel_rfl)
    (case ta1 => k_is)
    (case tb1 => kernel_rfl)
    (case tc1 => kernel_rfl)
    (case ta2 => k_is)
    (case tb2 => kernel_rfl)
    (case tc2 => kernel_rfl)
    (case z0 => k_is)
    (case z1 => k_is)
    (case z2 => k_is)
    (case z3 => k_is)
    (case z4 => k_is)
    (case z5 => k_is)
    (case z6 => k_is)
    (case z7 => k_is)
    (case z8 => k_is)
    (case z9 => k_is)
#print axioms PySem.Challenge.cw_rowsmith_k08_read_again_holds