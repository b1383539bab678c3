import PyProof.Rows.All
import Wide.All
import OpenK.AllK
import Wide.FinOn
import Lean
import PyProof.EqAt
import PyProof.EqKinds
import PyProof.TupleCall
import PySem.Challenge.RW_rowsmith_k10_tables
import PyProof.TupleKey
import KE.KRevIter
import PyProof.ListRange
import PyProof.CollectIter
import PyProof.Rows.SortWalk
import PyProof.ListMulRoad
import PyProof.AutoListH
import PyProof.Rows.SortStr
import PyProof.FactsAll.tuple_2
import KE.KLam
import KE.KNestM
import PyProof.ExcInit
import PyProof.InstStoreFacts
import PyProof.RulesAs
import PyProof.NsDelKeeps
import PyProof.ExcBaseAll.ValueError
import PyProof.ExcArgsOwn
import KE.KIsAll
import PyProof.Rows.FStr
import PyProof.Rows.SumAny
import PyProof.Rows.SetFrom
set_option linter.all false
set_option maxRecDepth 100000
set_option maxHeartbeats 4000000
namespace PySem
open Sem (wp)
section
variable {prog : Program} {w : World} {K : Type} [DecidableEq K] (knd : KeyKind prog w K)
def IsPairKey (h : Heap) (x : List K × K) (a : Addr) : Prop := ∃ o n b v, h.get? a = some o ∧ o.cls = .type "tuple" ∧ o.data = .seq #[.ref b, v] n ∧ IsTupleKey knd h x.1 b ∧ knd.is x.2 v = true
variable {knd}
theorem IsPairKey.typeIs {s : Shared} {x : List K × K} {a : Addr} (p : IsPairKey knd s.heap x a) : s.TypeIs (.ref a) "tuple" := let ⟨o, _, _, _, ho, hc, _⟩ := p; ⟨o, ho, hc⟩
theorem IsPairKey.inj {h : Heap} {a : Addr} {x y : List K × K} (hx : IsPairKey knd h x a) (hy : IsPairKey knd h y a) : x = y := by
  obtain ⟨o, n, b, v, ho, _, hd, h1, h2⟩ := hx
  obtain ⟨o', n', b', v', ho', _, hd', h1', h2'⟩ := hy
  obtain rfl : o = o' := Option.some.inj (ho.symm.trans ho')
  rw [hd] at hd'
  injection hd' with e _
  have e1 : (.ref b : Value) = .ref b' ∧ v = v' := by simpa using e
  obtain ⟨e2, rfl⟩ := e1
  cases e2
  exact Prod.ext (h1.inj h1') (knd.inj _ _ _ h2 h2')
theorem IsPairKey.keeps {h h' : Heap} {x : List K × K} {a d : Addr} {o : Obj} {es ep} (p : IsPairKey knd h x a) (ho : h.get? d = some o) (hd : o.data = .dict es ep) (hs : Heap.SameBut d h h') : IsPairKey knd h' x a := by
  obtain ⟨o', n, b, v, ho', hc, hd', h1, h2⟩ := p
  have hne : a ≠ d := by
    rintro rfl
    obtain rfl : o' = o := Option.some.inj (ho'.symm.trans ho)
    rw [hd] at hd'; exact nomatch hd'
  exact ⟨o', n, b, v, (hs.2 a hne).trans ho', hc, hd', h1.keeps ho hd hs, h2⟩
def pairKeyHash (knd : KeyKind prog w K) (x : List K × K) : Int := reduceHash (Builtin.Tuple.tupleHashOf [tupleKeyHash knd x.1, knd.hash x.2])
variable {A : Around} {E : Value → Shared → Prop} {s : Shared}
theorem wpAny_pyHash_pair {x : List K × K} {a : Addr} {Q : Int → Shared → Prop} (hu : A.units + 1 < cLine) (hk : IsPairKey knd s.heap x a) (h : Q (pairKeyHash knd x) { s with toks := s.toks + (x.1.length + 3) }) :
    wpAny (model prog w) A (pyHash (.ref a)) Q E s := by
  have hT := hk.typeIs
  obtain ⟨o, n, b, v, ho, _, hd, h1, h2⟩ := hk
  unfold pyHash
  first | unfold pyHashByItsType | skip
  first | refine wpAny_bind (wpAny_cRoomFor_or (.inr (by omega)) ?_) | skip
  refine wpAny_bind (wpAny_specialOf hT F.slot_tuple_hash.lookup ?_)
  show wpAny _ _ (if (some (Value.builtin "tuple.__hash__") == some Value.none) = true then _ else _) Q E s
  rw [if_neg (by rw [beq_builtin_none]; exact Bool.false_ne_true)]
  refine wpAny_bind (wpAny_specialOf hT F.slot_tuple_hash.lookup ?_)
  show wpAny _ _ (callSpecialIfBoundUnlessNone? (.ref a) "__hash__" _ >>= _) Q E s
  refine wpAny_bind (wpAny_callSpecialIfBoundUnlessNone?_slot hT F.slot_tuple_hash (wpAny_call_entry F.slot_tuple_hash hT F.entry_tuple_hash ?_ (F.args_tuple_hash_1 _)))
  show wpAny _ _ (Builtin.Tuple.tupleItemsOf (.ref a) >>= _) _ _ s
  refine wpAny_bind (wpAny_tupleItemsOf ho hd ?_)
  refine wpAny_bind ?_
  rw [← Array.forIn_toList]
  refine wpAny_forIn_list _
    (fun rest (r : Array Int) s' => (rest = [.ref b, v] ∧ r.toList = [] ∧ s' = s) ∨ (rest = [v] ∧ r.toList = [tupleKeyHash knd x.1] ∧ s' = { s with toks := s.toks + (x.1.length + 1) }) ∨ (rest = [] ∧ r.toList = [tupleKeyHash knd x.1, knd.hash x.2] ∧ s' = { s with toks := s.toks + (x.1.length + 1) + 1 }))
    _ ?_ ?_ _ _ (.inl ⟨rfl, rfl, rfl⟩)
  · rintro y rest r s' (⟨hr, hb, rfl⟩ | ⟨hr, hb, rfl⟩ | ⟨hr, _⟩)
    · cases hr
      refine wpAny_bind (wpAny_pyHash_tuple (by first | exact hu | (show A.units + 1 < cLine; exact hu)) h1 ?_)
      first
        | exact wpAny_pure (.inr (.inl ⟨rfl, by simp [hb], rfl⟩))
        | exact wpAny_bind (wpAny_pure (wpAny_pure (.inr (.inl ⟨rfl, by simp [hb], rfl⟩))))
    · cases hr
      refine wpAny_bind (knd.pyHash h2 ?_)
      first
        | exact wpAny_pure (.inr (.inr ⟨rfl, by simp [hb], rfl⟩))
        | exact wpAny_bind (wpAny_pure (wpAny_pure (.inr (.inr ⟨rfl, by simp [hb], rfl⟩))))
    · cases hr
  · rintro r s' (⟨hr, _⟩ | ⟨hr, _⟩ | ⟨_, hb, rfl⟩)
    · cases hr
    · cases hr
    · show wpAny _ _ (retInt (Builtin.Tuple.tupleHashOf r.toList)) _ _ _
      rw [hb]
      refine wpAny_ret_mkInt ?_
      show wpAny _ _ (if (decide (-(2 : Int) ^ 63 ≤ Builtin.Tuple.tupleHashOf [tupleKeyHash knd x.1, knd.hash x.2]) && decide (Builtin.Tuple.tupleHashOf [tupleKeyHash knd x.1, knd.hash x.2] < 2 ^ 63)) = true then _ else _) Q E _
      unfold pairKeyHash reduceHash at h
      by_cases hr : (decide (-(2 : Int) ^ 63 ≤ Builtin.Tuple.tupleHashOf [tupleKeyHash knd x.1, knd.hash x.2]) && decide (Builtin.Tuple.tupleHashOf [tupleKeyHash knd x.1, knd.hash x.2] < 2 ^ 63)) = true
      · rw [if_pos hr]
        rw [if_pos hr] at h
        exact wpAny_pure (by simpa [Nat.add_assoc] using h)
      · rw [if_neg hr]
        rw [if_neg hr] at h
        exact wpAny_bind (wpAny_rule (wpAny_pure (by simpa [Nat.add_assoc] using h)))
theorem pair_eq_tree {x y : List K × K} {a b : Addr} {P : Fin → Shared → Prop} (hu : A.units < cLine) (hx : IsPairKey knd s.heap x a) (hy : IsPairKey knd s.heap y b) (h : P (.done (.ret (.bool (decide (x = y))))) s) :
    wpAny (model prog w) A (Builtin.«tuple.__eq__» ⟨[.ref a, .ref b], []⟩) P E s := by
  have hTb := hy.typeIs
  obtain ⟨oa, na, a1, v1, hoa, _, hda, p1, q1⟩ := hx
  obtain ⟨ob, nb, a2, v2, hob, _, hdb, p2, q2⟩ := hy
  show wpAny _ _ (isInstance (.ref b) (.type "tuple") >>= _) _ _ s
  refine wpAny_bind (wpAny_isInstance hTb isSubtype_tuple_tuple ?_)
  simp only [Bool.not_true, Bool.false_eq_true, if_false]
  refine wpAny_bind (wpAny_tupleItemsOf hoa hda ?_)
  refine wpAny_bind (wpAny_tupleItemsOf hob hdb ?_)
  refine wpAny_bind ?_
  refine wpAny_forIn_list _
    (fun rest r s' => r.1 = none ∧ s' = s ∧ ((rest = [(.ref a1, .ref a2), (v1, v2)]) ∨ (rest = [(v1, v2)] ∧ x.1 = y.1) ∨ (rest = [] ∧ x = y)))
    _ ?_ ?_ _ _ ⟨rfl, rfl, .inl rfl⟩
  · rintro ⟨u, v⟩ rest r s' ⟨hr, rfl, hz | ⟨hz, e⟩ | ⟨hz, _⟩⟩
    · cases hz
      refine wpAny_bind (wpAny_eqBool_tuple hu p1 p2 ?_)
      by_cases hk : x.1 = y.1
      · rw [decide_eq_true hk]
        simp only [Bool.not_true, Bool.false_eq_true, if_false]
        exact wpAny_pure ⟨rfl, rfl, by simp [hk]⟩
      · rw [decide_eq_false hk]
        simp only [Bool.not_false, if_true]
        have hf : decide (x = y) = false := decide_eq_false fun z => hk (by rw [z])
        rw [hf] at h
        exact wpAny_bind (wpAny_pure (wpAny_pure (wpAny_pure h)))
    · cases hz
      refine wpAny_bind (knd.eqBool (a := x.2) (b := y.2) q1 q2 ?_)
      by_cases hk : x.2 = y.2
      · rw [decide_eq_true hk]
        simp only [Bool.not_true, Bool.false_eq_true, if_false]
        exact wpAny_pure ⟨rfl, rfl, .inr (.inr ⟨trivial, Prod.ext e hk⟩)⟩
      · rw [decide_eq_false hk]
        simp only [Bool.not_false, if_true]
        have hf : decide (x = y) = false := decide_eq_false fun z => hk (by rw [z])
        rw [hf] at h
        exact wpAny_bind (wpAny_pure (wpAny_pure (wpAny_pure h)))
    · cases hz
  · rintro ⟨r1, r2⟩ s' ⟨hr, rfl, hz | ⟨hz, _⟩ | ⟨_, e⟩⟩
    · cases hz
    · cases hz
    · simp only at hr
      subst hr
      refine wpAny_pure ?_
      rw [decide_eq_true e] at h
      exact h
theorem wpAny_eqBool_pair {x y : List K × K} {a b : Addr} {Q : Bool → Shared → Prop} (hu : A.units + 1 < cLine) (hx : IsPairKey knd s.heap x a) (hy : IsPairKey knd s.heap y b) (h : Q (decide (x = y)) s) :
    wpAny (model prog w) A (eqBool (.ref a) (.ref b)) Q E s := by
  unfold eqBool
  try with_reducible refine wpAny_holding ?_
  show wpAny _ _ (if (Value.ref a == Value.ref b) = true then _ else _) Q E s
  by_cases hab : (Value.ref a == Value.ref b) = true
  · rw [if_pos hab]
    have e : a = b := by have := eq_of_beq hab; injection this
    subst e
    obtain rfl := hx.inj hy
    exact wpAny_bind (wpAny_rule (wpAny_pure (by simpa using h)))
  · rw [if_neg hab]
    exact wpAny_bind (wpAny_richCompare_same_room (op := .Eq) hx.typeIs hy.typeIs F.slot_tuple_eq
      (wpAny_call_entry F.slot_tuple_eq hx.typeIs F.entry_tuple_eq (pair_eq_tree (by first | exact hu | (show A.units + 1 < cLine; exact hu)) hx hy ⟨_, rfl, (fun e => nomatch e), wpAny_truthy_bool h⟩) (F.args_tuple_eq_2 _ _)) (by omega))
theorem wpAny_eqIsQuiet_pair {x : List K × K} {a : Addr} {Q : Bool → Shared → Prop} (hk : IsPairKey knd s.heap x a) (h : Q true s) : wpAny (model prog w) A (eqIsQuiet 8 (.ref a)) Q E s := by
  have hT := hk.typeIs
  obtain ⟨o, n, b, v, ho, _, hd, h1, h2⟩ := hk
  have inner : ∀ {Q : Bool → Shared → Prop}, Q true s → wpAny (model prog w) A (eqIsQuiet 7 (.ref b)) Q E s := by
    intro Q h
    have hT := h1.typeIs
    obtain ⟨o, items, n, ho, _, hd, hi⟩ := h1
    unfold eqIsQuiet
    refine wpAny_bind (wpAny_specialOf hT F.slot_tuple_eq.lookup ?_)
    show wpAny _ _ (isInstance (.ref b) (.type "tuple") >>= _) _ _ s
    refine wpAny_bind (wpAny_isInstance hT isSubtype_tuple_tuple ?_)
    simp only [Bool.not_true, Bool.false_eq_true, if_false]
    refine wpAny_bind (wpAny_seqItems ho hd ?_)
    refine wpAny_bind ?_
    show wpAny _ _ (forIn items _ _) _ _ s
    rw [← Array.forIn_toList]
    refine wpAny_forIn_list _ (fun rest r s' => r.1 = none ∧ s' = s ∧ ∀ v ∈ rest, carriedByValue v = true) _ ?_ ?_ _ _ ⟨rfl, rfl, hi.byValue⟩
    · rintro v rest r s' ⟨hr, rfl, hall⟩
      rw [eqIsQuiet_byValue _ (hall v List.mem_cons_self)]
      refine wpAny_bind (wpAny_pure ?_)
      simp only [Bool.not_true, Bool.false_eq_true, if_false]
      exact wpAny_pure ⟨rfl, rfl, fun u hu' => hall u (List.mem_cons_of_mem _ hu')⟩
    · rintro ⟨r1, r2⟩ s' ⟨hr, rfl, _⟩
      simp only at hr
      subst hr
      exact wpAny_pure h
  unfold eqIsQuiet
  refine wpAny_bind (wpAny_specialOf hT F.slot_tuple_eq.lookup ?_)
  show wpAny _ _ (isInstance (.ref a) (.type "tuple") >>= _) _ _ s
  refine wpAny_bind (wpAny_isInstance hT isSubtype_tuple_tuple ?_)
  simp only [Bool.not_true, Bool.false_eq_true, if_false]
  refine wpAny_bind (wpAny_seqItems ho hd ?_)
  refine wpAny_bind ?_
  show wpAny _ _ (forIn #[Value.ref b, v] _ _) _ _ s
  rw [← Array.forIn_toList]
  refine wpAny_forIn_list _ (fun rest r s' => r.1 = none ∧ s' = s ∧ (rest = [.ref b, v] ∨ rest = [v] ∨ rest = [])) _ ?_ ?_ _ _ ⟨rfl, rfl, .inl rfl⟩
  · rintro u rest r s' ⟨hr, rfl, hz | hz | hz⟩
    · cases hz
      refine wpAny_bind (inner ?_)
      simp only [Bool.not_true, Bool.false_eq_true, if_false]
      exact wpAny_pure ⟨rfl, rfl, by simp⟩
    · cases hz
      rw [eqIsQuiet_byValue _ (knd.byValue _ _ h2)]
      refine wpAny_bind (wpAny_pure ?_)
      simp only [Bool.not_true, Bool.false_eq_true, if_false]
      exact wpAny_pure ⟨rfl, rfl, by simp⟩
    · cases hz
  · rintro ⟨r1, r2⟩ s' ⟨hr, rfl, _⟩
    simp only at hr
    subst hr
    exact wpAny_pure h
end
def pairKind {prog : Program} {w : World} {K : Type} [DecidableEq K] (knd : KeyKind prog w K) : HeapKind prog w (List K × K) where
  is := IsPairKey knd
  hash := pairKeyHash knd
  draws := fun x => x.1.length + 3
  room := fun A => A.units + 1 < cLine
  inj := fun hx hy => hx.inj hy
  keeps := fun x ho hd hs => x.keeps ho hd hs
  pyHash := fun hu hk h => wpAny_pyHash_pair hu hk h
  eqBool := fun hu hx hy h => wpAny_eqBool_pair hu hx hy h
  quiet := fun hk h => wpAny_eqIsQuiet_pair hk h
end PySem
set_option Elab.async false
namespace L2
open PySem PySem.Spec PyProof.Rows
abbrev Key := Sum Int Str
def keyIs : Key → Value → Bool
  | .inl k, v => Value.isInt k v
  | .inr x, v => Value.isStrOf x v
def keyH (w : World) : Key → Int
  | .inl k => hashInt k
  | .inr x => hashStr w x
theorem keyIs_shape : ∀ {k : Key} {v : Value}, keyIs k v = true → (∃ i t, k = Sum.inl i ∧ v = Value.int i t) ∨ (∃ x t, k = Sum.inr x ∧ v = Value.str x t)
  | .inl i, v, h => by
    obtain ⟨t, e⟩ := Value.isInt_shape (k := i) (v := v) h
    exact .inl ⟨i, t, rfl, e⟩
  | .inr x, v, h => by
    obtain ⟨t, e⟩ := Value.isStrOf_shape (x := x) (v := v) h
    exact .inr ⟨x, t, rfl, e⟩
theorem key_ll (a b : Int) : decide ((Sum.inl a : Key) = Sum.inl b) = (a == b) := by
  by_cases e : a = b
  · subst e; simp
  · have h : ¬ (Sum.inl a : Key) = Sum.inl b := fun q => e (Sum.inl.inj q)
    rw [decide_eq_false h]
    exact (beq_eq_false_iff_ne.mpr e).symm
theorem key_rr (a b : Str) : decide ((Sum.inr a : Key) = Sum.inr b) = decide (a = b) := by
  by_cases e : a = b
  · subst e; simp
  · have h : ¬ (Sum.inr a : Key) = Sum.inr b := fun q => e (Sum.inr.inj q)
    rw [decide_eq_false h, decide_eq_false e]
theorem key_lr (a : Int) (b : Str) : decide ((Sum.inl a : Key) = Sum.inr b) = false := decide_eq_false (fun q => nomatch q)
theorem key_rl (a : Str) (b : Int) : decide ((Sum.inr a : Key) = Sum.inl b) = false := decide_eq_false (fun q => nomatch q)
def mixKind (prog : Program) (w : World) : PySem.KeyKind prog w Key where
  is := keyIs
  hash := keyH w
  inj := fun v a b ha hb => by
    rcases keyIs_shape ha with ⟨i, t, rfl, rfl⟩ | ⟨x, t, rfl, rfl⟩
    · rcases keyIs_shape hb with ⟨j, u, rfl, e⟩ | ⟨y, u, rfl, e⟩
      · injection e with e1 _; rw [e1]
      · exact nomatch e
    · rcases keyIs_shape hb with ⟨j, u, rfl, e⟩ | ⟨y, u, rfl, e⟩
      · exact nomatch e
      · injection e with e1 _; rw [e1]
  byValue := fun k v h => by
    rcases keyIs_shape h with ⟨i, t, rfl, rfl⟩ | ⟨x, t, rfl, rfl⟩ <;> rfl
  pyHash := fun hv h => by
    rcases keyIs_shape hv with ⟨i, t, rfl, rfl⟩ | ⟨x, t, rfl, rfl⟩
    · exact wpAny_pyHash_int h
    · exact wpAny_pyHash_str h
  eqBool := fun hu hv h => by
    rcases keyIs_shape hu with ⟨i, t, rfl, rfl⟩ | ⟨x, t, rfl, rfl⟩
    · rcases keyIs_shape hv with ⟨j, u, rfl, rfl⟩ | ⟨y, u, rfl, rfl⟩
      · rw [key_ll] at h; exact wpAny_eqBool_int h
      · rw [key_lr] at h; exact SeqAt.EqAt.int_str i t y u _ _ _ _ h
    · rcases keyIs_shape hv with ⟨j, u, rfl, rfl⟩ | ⟨y, u, rfl, rfl⟩
      · rw [key_rl] at h; exact SeqAt.EqAt.str_int x t j u _ _ _ _ h
      · rw [key_rr] at h; exact wpAny_eqBool_str h
  «strs» := fun k x t v h => by
    rcases keyIs_shape h with ⟨i, u, rfl, e⟩ | ⟨y, u, rfl, e⟩
    · exact nomatch e
    · injection e with e1 _
      subst e1
      cases v <;> rfl
inductive V where
  | non | bl (b : Bool) | int (i : Int) | str (x : Str) | byt (b : Array UInt8) | flt (b : UInt64) | ref (a : Addr) | ty (n : String)
  deriving DecidableEq
def RelV : V → Value → Prop
  | .non, u => u = Value.none
  | .bl b, u => u = Value.bool b
  | .int i, u => ∃ t, u = Value.int i t
  | .str x, u => ∃ t, u = Value.str x t
  | .byt b, u => ∃ t, u = Value.bytes b t
  | .flt b, u => ∃ t, u = Value.float b t
  | .ref a, u => u = Value.ref a
  | .ty n, u => u = Value.type n
abbrev Vals : List V → List Value → Prop := Paired RelV
theorem Vals.length {xs : List V} {us : List Value} (r : Vals xs us) : xs.length = us.length := Paired.length r
theorem Vals.get : ∀ {xs : List V} {us : List Value} {i : Nat} {x : V}, Vals xs us → xs[i]? = some x → ∃ u, us[i]? = some u ∧ RelV x u
  | _, _, _, _, .nil, e => by simp at e
  | _, _, 0, _, .cons r _, e => by simp at e; subst e; exact ⟨_, rfl, r⟩
  | _, _, i + 1, x, .cons _ t, e => by
    obtain ⟨u, h1, h2⟩ := Vals.get (i := i) (x := x) t (by simpa using e)
    exact ⟨u, by simpa using h1, h2⟩
theorem Vals.append : ∀ {xs ys : List V} {us ws : List Value}, Vals xs us → Vals ys ws → Vals (xs ++ ys) (us ++ ws)
  | _, _, _, _, .nil, s => s
  | _, _, _, _, .cons r t, s => .cons r (Vals.append t s)
theorem Vals.take : ∀ {xs : List V} {us : List Value} (n : Nat), Vals xs us → Vals (xs.take n) (us.take n)
  | _, _, 0, _ => .nil
  | _, _, _ + 1, .nil => .nil
  | _, _, n + 1, .cons r t => .cons r (Vals.take n t)
theorem Vals.drop : ∀ {xs : List V} {us : List Value} (n : Nat), Vals xs us → Vals (xs.drop n) (us.drop n)
  | _, _, 0, r => r
  | _, _, _ + 1, .nil => .nil
  | _, _, n + 1, .cons _ t => Vals.drop n t
def RelO : Option V → Option Value → Prop
  | some v, some u => RelV v u
  | none, none => True
  | _, _ => False
def KV {κ : Type} : List (κ × V) → List (κ × Value) → Prop := Paired fun (p : κ × V) (q : κ × Value) => p.1 = q.1 ∧ RelV p.2 q.2
def kV : Key → V
  | .inl i => .int i
  | .inr x => .str x
inductive HO where
    | lst (xs : List V)
    | tup (xs : List V)
    | dK (kvs : List (Key × V)) | dT (kvs : List (List Key × V)) | dN (kvs : List ((List Key × Key) × V))
    | set (S : Int → Bool) (n : Nat)
    | ins (C dx : Addr) (fs : List (Str × V))
    | own (x : Addr)
    | xd (fs : List (Str × V))
    | met (f x : Addr)
    | rng (lo hi : Int)
    | frz (o : Obj) (u : HO)
    | tbl (ps : Array Value)
    | ext (φ : Heap → Prop)
abbrev Hp := Addr → Option HO
def upd (H : Hp) (a : Addr) (o : HO) : Hp := fun b => if b = a then some o else H b
theorem upd_same {H : Hp} {a : Addr} {o : HO} : upd H a o a = some o := by unfold upd; rw [if_pos rfl]
theorem upd_ne {H : Hp} {a b : Addr} {o : HO} (h : b ≠ a) : upd H a o b = H b := by unfold upd; rw [if_neg h]
theorem ne_of {H : Hp} {a b : Addr} {o u : HO} (h : H a = some o) (h' : H b = some u) (d : o ≠ u) : a ≠ b := by
  intro e; subst e; rw [h] at h'; exact d (Option.some.inj h')
theorem ne_of_none {H : Hp} {a b : Addr} {o : HO} (h : H a = some o) (h' : H b = none) : a ≠ b := by
  intro e; subst e; rw [h] at h'; cases h'
def IsTupP (h : Heap) (a : Addr) (items : Array Value) : Prop := ∃ o, h.get? a = some o ∧ o.cls = .type "tuple" ∧ o.dict = none ∧ ∃ n, o.data = .seq items n
theorem IsTupP.tup {h : Heap} {a : Addr} {items : Array Value} (x : IsTupP h a items) : IsTup h a items := let ⟨o, h1, h2, _, h3⟩ := x; ⟨o, h1, h2, h3⟩
theorem IsTupP.new (h : Heap) (items : Array Value) : IsTupP (h.push { cls := .type "tuple", data := .seq items }) h.objs.size items := ⟨_, Heap.get?_push_size _ rfl, rfl, rfl, _, rfl⟩
section
variable (P : Program) (w : World)
def ObjOk (H : Hp) (h : Heap) (a : Addr) : HO → Prop
  | .lst xs => xs.length ≤ sizeLine ∧ ∃ (its : List Value) (n : Nat), Vals xs its ∧ h.get? a = some { cls := .type "list", data := .seq its.toArray n }
  | .tup xs => xs.length ≤ sizeLine ∧ ∃ its : List Value, Vals xs its ∧ IsTupP h a its.toArray
  | .dK kvs => kvs.length ≤ sizeLine ∧ (a == sysModules) = false ∧ ∃ vs, KV kvs vs ∧ h.DictOf (mixKind P w) a vs
  | .dT kvs => kvs.length ≤ sizeLine ∧ (a == sysModules) = false ∧ ∃ xs : List (List Key × Addr × Value),
      Paired (fun (p : List Key × V) (q : List Key × Addr × Value) => p.1 = q.1 ∧ H q.2.1 = some (.tup (p.1.map kV)) ∧ RelV p.2 q.2.2) kvs xs ∧
      ∃ o es ep, h.get? a = some o ∧ o.ExactDict ∧ o.data = .dict es ep ∧ es.toList = xs.map (entryOfKey (tupleKind (mixKind P w))) ∧ (xs.map (·.1)).Nodup
  | .dN kvs => kvs.length ≤ sizeLine ∧ (a == sysModules) = false ∧ ∃ xs : List ((List Key × Key) × Addr × Value),
      Paired (fun (p : (List Key × Key) × V) (q : (List Key × Key) × Addr × Value) => p.1 = q.1 ∧ (∃ c, H q.2.1 = some (.tup [.ref c, kV p.1.2]) ∧ H c = some (.tup (p.1.1.map kV))) ∧ RelV p.2 q.2.2) kvs xs ∧
      ∃ o es ep, h.get? a = some o ∧ o.ExactDict ∧ o.data = .dict es ep ∧ es.toList = xs.map (entryOfKey (pairKind (mixKind P w))) ∧ (xs.map (·.1)).Nodup
  | .set S n => h.SetOf (intKind P w) a S n
  | .ins C dx fs => H dx = some (.own a) ∧ fs.length ≤ 1000 ∧ dx ≠ a ∧ h.get? a = some (PySem.W.instObj C dx) ∧
      ∃ mA, h.Ns1 dx mA ∧ (∀ f, RelO (fs.lookup f) (mA f)) ∧ PySem.Within mA (fs.map (·.1))
  | .own _ => ∃ o, h.get? a = some o
  | .xd fs => ∃ mA, h.Ns1 a mA ∧ ∀ f, RelO (fs.lookup f) (mA f)
  | .rng lo hi => ∃ t u v, h.get? a = some { cls := .type "range", data := .fields #[.int lo t, .int hi u, .int 1 v] }
  | .frz o u => h.get? a = some o ∧ ObjOk H h a u
  | .tbl ps => h.get? a = some { cls := .none, data := .fields ps }
  | .met f x => h.get? a = some (PySem.W.methodObj (.ref f) (.ref x))
  | .ext φ => φ h ∧ (∃ o, h.get? a = some o) ∧ ∀ h1 h2 : Heap, φ h1 → (∀ o, h1.get? a = some o → h2.get? a = some o) → φ h2
def HOk (H : Hp) (h : Heap) : Prop := ∀ a o, H a = some o → ObjOk P w H h a o
end
section
variable {P : Program} {w : World} {H H' : Hp} {h h' : Heap} {a : Addr} {o : HO}
theorem ObjOk.lt (x : ObjOk P w H h a o) : a < h.objs.size := by
  cases o with
  | lst xs => obtain ⟨_, _, _, _, e⟩ := x; exact Heap.lt_size e
  | tup xs => obtain ⟨_, _, _, p⟩ := x; exact IsTup.lt (IsTupP.tup p)
  | dK kvs => obtain ⟨_, _, _, _, o, _, _, e, _⟩ := x; exact Heap.lt_size e
  | dT kvs => obtain ⟨_, _, _, _, o, _, _, e, _⟩ := x; exact Heap.lt_size e
  | dN kvs => obtain ⟨_, _, _, _, o, _, _, e, _⟩ := x; exact Heap.lt_size e
  | set S n => obtain ⟨o, _, _, _, e, _⟩ := x; exact Heap.lt_size e
  | ins C dx fs => obtain ⟨_, _, _, e, _⟩ := x; exact Heap.lt_size e
  | own y => obtain ⟨_, e⟩ := x; exact Heap.lt_size e
  | xd fs => obtain ⟨_, ⟨_, _, _, e, _⟩, _⟩ := x; exact Heap.lt_size e
  | rng lo hi => obtain ⟨_, _, _, e⟩ := x; exact Heap.lt_size e
  | frz ob u => obtain ⟨e, _⟩ := x; exact Heap.lt_size e
  | tbl ps => exact Heap.lt_size (show h.get? a = some _ from x)
  | met f y => exact Heap.lt_size (show h.get? a = some _ from x)
  | ext φ => obtain ⟨_, ⟨_, e⟩, _⟩ := x; exact Heap.lt_size e
theorem Paired.mapP {α β : Type} {F G : α → β → Prop} : ∀ {l₁ : List α} {l₂ : List β}, Paired F l₁ l₂ → (∀ a b, F a b → G a b) → Paired G l₁ l₂
  | _, _, .nil, _ => .nil
  | _, _, .cons r t, f => .cons (f _ _ r) (Paired.mapP t f)
theorem ObjOk.stay (x : ObjOk P w H h a o) (k : ∀ b u, (b = a ∨ H b = some (.own a)) → h.get? b = some u → h'.get? b = some u)
    (ho : ∀ b, H b = some (.own a) → H' b = some (.own a)) (ht : ∀ b xs, H b = some (.tup xs) → H' b = some (.tup xs)) : ObjOk P w H' h' a o := by
  induction o with
  | lst xs => obtain ⟨z, its, n, r, e⟩ := x; exact ⟨z, its, n, r, k _ _ (.inl rfl) e⟩
  | tup xs => obtain ⟨z, its, r, ob, e, c⟩ := x; exact ⟨z, its, r, ob, k _ _ (.inl rfl) e, c⟩
  | dK kvs => obtain ⟨z, y, vs, r, ob, es, ep, e, c⟩ := x; exact ⟨z, y, vs, r, ob, es, ep, k _ _ (.inl rfl) e, c⟩
  | dT kvs =>
    obtain ⟨z, y, xs, r, ob, es, ep, e, c⟩ := x
    exact ⟨z, y, xs, Paired.mapP r fun p q z => ⟨z.1, ht _ _ z.2.1, z.2.2⟩, ob, es, ep, k _ _ (.inl rfl) e, c⟩
  | dN kvs =>
    obtain ⟨z, y, xs, r, ob, es, ep, e, c⟩ := x
    exact ⟨z, y, xs, Paired.mapP r fun p q z => ⟨z.1, let ⟨c, h1, h2⟩ := z.2.1; ⟨c, ht _ _ h1, ht _ _ h2⟩, z.2.2⟩, ob, es, ep, k _ _ (.inl rfl) e, c⟩
  | set S n => obtain ⟨ob, es, ep, t, e, c⟩ := x; exact ⟨ob, es, ep, t, k _ _ (.inl rfl) e, c⟩
  | ins C dx fs =>
    obtain ⟨d, z, ne, e, mA, ⟨od, es, ep, e2, c⟩, r⟩ := x
    exact ⟨ho _ d, z, ne, k _ _ (.inl rfl) e, mA, ⟨od, es, ep, k _ _ (.inr d) e2, c⟩, r⟩
  | own y => obtain ⟨ob, e⟩ := x; exact ⟨ob, k _ _ (.inl rfl) e⟩
  | xd fs => obtain ⟨mA, ⟨od, es, ep, e, c⟩, r⟩ := x; exact ⟨mA, ⟨od, es, ep, k _ _ (.inl rfl) e, c⟩, r⟩
  | rng lo hi => obtain ⟨t, u, v, e⟩ := x; exact ⟨t, u, v, k _ _ (.inl rfl) e⟩
  | frz ob u ih => obtain ⟨e, q⟩ := x; exact ⟨k _ _ (.inl rfl) e, ih q⟩
  | tbl ps =>
    have e : h.get? a = some { cls := .none, data := .fields ps } := x
    show h'.get? a = some { cls := .none, data := .fields ps }
    exact k a _ (.inl rfl) e
  | met f y =>
    have e : h.get? a = some (PySem.W.methodObj (.ref f) (.ref y)) := x
    show h'.get? a = some (PySem.W.methodObj (.ref f) (.ref y))
    exact k a _ (.inl rfl) e
  | ext φ => obtain ⟨p, ⟨o, e⟩, st⟩ := x; exact ⟨st _ _ p fun o q => k _ _ (.inl rfl) q, ⟨o, k _ _ (.inl rfl) e⟩, st⟩
theorem HOk.lt (x : HOk P w H h) (e : H a = some o) : a < h.objs.size := (x a o e).lt
theorem HOk.fresh (x : HOk P w H h) (e : h.objs.size ≤ a) : H a = none := by
  cases q : H a with
  | none => rfl
  | some u => exact absurd (Nat.lt_of_lt_of_le (x.lt q) e) (Nat.lt_irrefl _)
theorem HOk.kept (x : HOk P w H h) (k : ∀ b u, h.get? b = some u → h'.get? b = some u) : HOk P w H h' := fun a o e =>
  (x a o e).stay (fun b u _ q => k b u q) (fun _ q => q) fun _ _ q => q
theorem HOk.laid (x : HOk P w H h) (k : ∀ b u, h.get? b = some u → h'.get? b = some u) (hp : h.objs.size ≤ a) (new : ObjOk P w (upd H a o) h' a o) : HOk P w (upd H a o) h' := fun b u e => by
  have hn := x.fresh hp
  by_cases hb : b = a
  · subst hb; rw [upd_same] at e; cases e; exact new
  · rw [upd_ne hb] at e
    exact (x b u e).stay (fun c v _ q => k c v q) (fun c q => by rw [upd_ne (ne_of_none q hn)]; exact q) fun c xs q => by rw [upd_ne (ne_of_none q hn)]; exact q
end
def Rd (H : Hp) (a : Addr) (u : HO) : Prop := H a = some u ∨ ∃ o, H a = some (.frz o u)
theorem Rd.ok {P : Program} {w : World} {H : Hp} {h : Heap} {a : Addr} {u : HO} (r : Rd H a u) (x : HOk P w H h) : ObjOk P w H h a u := by
  rcases r with r | ⟨o, r⟩
  · exact x a u r
  · obtain ⟨_, q⟩ := x a _ r
    exact q
def Mut : Option HO → Prop
  | some (.lst _) => True
  | some (.dK _) => True
  | some (.dT _) => True
  | some (.dN _) => True
  | some (.set _ _) => True
  | some (.ins _ _ _) => True
  | some (.ext _) => True
  | _ => False
section
variable {P : Program} {w : World} {H : Hp} {h h' : Heap} {x e : Addr} {o' : HO}
theorem HOk.write (ok : HOk P w H h) (mu : Mut (H x)) (he : e = x ∨ H e = some (.own x)) (k : ∀ b u, b ≠ e → h.get? b = some u → h'.get? b = some u) (heo : ∃ u, h'.get? e = some u)
    (new : ObjOk P w (upd H x o') h' x o') : HOk P w (upd H x o') h' := fun b u q => by
  have nown : ∀ c y, H c = some (.own y) → c ≠ x := fun c y r z => by subst z; rw [r] at mu; exact mu
  have ntup : ∀ c xs, H c = some (.tup xs) → c ≠ x := fun c xs r z => by subst z; rw [r] at mu; exact mu
  by_cases hb : b = x
  · subst hb; rw [upd_same] at q; cases q; exact new
  · rw [upd_ne hb] at q
    by_cases hbe : b = e
    · have q' : H b = some (.own x) := by
        rcases he with z | z
        · exact absurd (hbe.trans z) hb
        · rw [hbe]; exact z
      rw [q] at q'; cases q'
      obtain ⟨v, hv⟩ := heo
      exact ⟨v, by rw [hbe]; exact hv⟩
    · refine (ok b u q).stay (fun c v hc r => k c v ?_ r) (fun c r => by rw [upd_ne (nown c b r)]; exact r) fun c xs r => by rw [upd_ne (ntup c xs r)]; exact r
      rcases hc with rfl | hc
      · exact hbe
      · rintro rfl
        rcases he with z | z
        · exact nown c b hc z
        · rw [hc] at z; cases z; exact hb rfl
end
structure Un (fs ex : List Addr) (H H' : Hp) (h h' : Heap) : Prop where
  keep : ∀ b o, h.get? b = some o → H b = none → b ∉ fs → b ∉ ex → h'.get? b = some o
  slot : ∀ b o, h.get? b = some o → H b = none → b ∈ fs → b ∉ ex → ∃ sl, h'.get? b = some { o with slots := sl }
  free : ∀ b o, h.get? b = some o → H b = none → b ∉ ex → H' b = none
  there : ∀ b o, h.get? b = some o → b ∉ ex → ∃ o', h'.get? b = some o'
  tups : ∀ b xs, H b = some (.tup xs) → H' b = some (.tup xs)
  frzs : ∀ b o u, H b = some (.frz o u) → H' b = some (.frz o u)
  tbls : ∀ b ps, H b = some (.tbl ps) → ∃ more, H' b = some (.tbl (ps ++ more))
section
variable {fs fs' ex ex' : List Addr} {H H1 H2 : Hp} {h h1 h2 h' : Heap} {a x e : Addr} {o : HO}
theorem Un.any (u : Un fs ex H H1 h h1) {b : Addr} {ob : Obj} (q : h.get? b = some ob) (n : H b = none) (hx : b ∉ ex) : ∃ sl, h1.get? b = some { ob with slots := sl } := by
  by_cases hb : b ∈ fs
  · exact u.slot b ob q n hb hx
  · exact ⟨ob.slots, u.keep b ob q n hb hx⟩
theorem Un.kept (k : ∀ b u, h.get? b = some u → h'.get? b = some u) : Un fs ex H H h h' :=
  ⟨fun b ob q _ _ _ => k b ob q, fun b ob q _ _ _ => ⟨ob.slots, k b ob q⟩, fun _ _ _ n _ => n, fun b ob q _ => ⟨ob, k b ob q⟩, fun _ _ q => q, fun _ _ _ q => q, fun _ ps q => ⟨#[], by rw [q]; simp⟩⟩
theorem Un.refl : Un fs ex H H h h := Un.kept fun _ _ q => q
theorem Un.laid (k : ∀ b u, h.get? b = some u → h'.get? b = some u) (hp : h.objs.size ≤ a) (hn : H a = none) : Un fs ex H (upd H a o) h h' where
  keep := fun b u q _ _ _ => k b u q
  slot := fun b u q _ _ _ => ⟨u.slots, k b u q⟩
  free := fun b u q n _ => by rw [upd_ne (Nat.ne_of_lt (Nat.lt_of_lt_of_le (Heap.lt_size q) hp))]; exact n
  there := fun b u q _ => ⟨u, k b u q⟩
  tups := fun b xs q => by rw [upd_ne (ne_of_none q hn)]; exact q
  frzs := fun b u xs q => by rw [upd_ne (ne_of_none q hn)]; exact q
  tbls := fun b ps q => ⟨#[], by rw [upd_ne (ne_of_none q hn), q]; simp⟩
theorem Un.write (mu : Mut (H x)) (he : e = x ∨ H e = some (.own x)) (k : ∀ b u, b ≠ e → h.get? b = some u → h'.get? b = some u) (heo : ∃ u, h'.get? e = some u) : Un fs ex H (upd H x o) h h' := by
  have hx : ∀ b, H b = none → b ≠ x := fun b n z => by subst z; rw [n] at mu; exact mu
  have hb : ∀ b, H b = none → b ≠ e := fun b n z => by
    subst z
    rcases he with r | r
    · exact hx b n r
    · rw [n] at r; cases r
  have hm : ∀ b u, H b = some u → ¬ Mut (some u) → b ≠ x := fun b u q nm z => by subst z; rw [q] at mu; exact nm mu
  refine ⟨fun b u q n _ _ => k b u (hb b n) q, fun b u q n _ _ => ⟨u.slots, k b u (hb b n) q⟩, fun b u q n _ => by rw [upd_ne (hx b n)]; exact n, fun b u q _ => ?_,
    fun b xs q => by rw [upd_ne (hm b _ q fun z => z)]; exact q, fun b u xs q => by rw [upd_ne (hm b _ q fun z => z)]; exact q, fun b ps q => ⟨#[], by rw [upd_ne (hm b _ q fun z => z), q]; simp⟩⟩
  by_cases hbe : b = e
  · subst hbe; exact heo
  · exact ⟨u, k b u hbe q⟩
end
def trk (h : Heap) (H : Hp) : List Addr := (List.range h.objs.size).filter fun a => (H a).isSome
def hidT (h : Heap) (H : Hp) : Heap := PySem.W.hideAll h (trk h H)
theorem hidT_size (h : Heap) (H : Hp) : (hidT h H).objs.size = h.objs.size := PySem.W.hideAll_size _ _
theorem hidT_get {h : Heap} {H : Hp} {b : Addr} {o : Obj} (e : h.get? b = some o) (n : H b = none) : (hidT h H).get? b = some o :=
  PySem.W.hideAll_get _ e fun hm => by
    have q : (H b).isSome = true := (List.mem_filter.mp hm).2
    rw [n] at q; simp at q
theorem of_hidT {h : Heap} {H : Hp} {b : Addr} {o : Obj} (e : (hidT h H).get? b = some o) : h.get? b = some o ∧ H b = none := by
  have e' : h.get? b = some o := PySem.W.of_hideAll (trk h H) e
  refine ⟨e', ?_⟩
  cases q : H b with
  | none => rfl
  | some x =>
    have hm : b ∈ trk h H := List.mem_filter.mpr ⟨List.mem_range.mpr (Heap.lt_size e'), by simp [q]⟩
    have z : (hidT h H).get? b = none := PySem.W.hideAll_none (trk h H) hm
    rw [z] at e; cases e
structure Mod (K : PySem.W.Frag) (mg : Str → Option Value) (base : Heap) : Prop where
  kin : K.In base
  glob : base.Ns mainGlobals mg
  blt : ∃ mb, base.Ns builtinsNs mb ∧ ∀ x : Str, x ≠ "__name__" → mb x = bootBuiltins x
  nolimit : base.NoLimit
structure Cx where
  prog : Program
  w : World
  K : PySem.W.Frag
  mg : Str → Option Value
  base : Heap
  A : Around
  N : List Str
  s₀ : Shared
  H₀ : Hp
  env : Env
  outer : List Env
  stack : List Env
  ex : List Addr
  fn : Str → Bool
  calm : Bool
  pn : List (Addr × Obj)
  xe : Value → Shared → Prop
def frs (l : List Env) : List Addr := l.filterMap (·.frame)
abbrev Cx.fs (X : Cx) : List Addr := frs X.outer
def Vis (sc : Scope) (x : Str) : Prop := sc.names.lookup x = some .local ∨ sc.names.lookup x = some .cell ∨ sc.names.lookup x = some .free
def Loc (sc : Scope) (x : Str) : Prop := sc.names.lookup x = some .local ∨ sc.names.lookup x = some .cell
def Look (env : Env) (h : Heap) (m : Str → Option Value) (x : Str) (u : Value) : Prop :=
  (env.kindOf x = some .local ∧ m x = some u) ∨ ((env.kindOf x = some .cell ∨ env.kindOf x = some .free) ∧ ∃ c, env.cells.lookup x = some c ∧ h.IsCell c (some u))
structure Cx.Ok (X : Cx) : Prop where
  mod : Mod X.K X.mg X.base
  kind : X.env.scope.kind = .function
  glob : X.env.globals = mainGlobals
  blt : X.env.builtins = builtinsNs
  above : X.s₀.heap.objs.size ≤ X.env.locals
  inj : ∀ x y c, X.env.cells.lookup x = some c → X.env.cells.lookup y = some c → x = y
  has : ∀ x, (X.env.kindOf x = some .cell ∨ X.env.kindOf x = some .free) → ∃ c, X.env.cells.lookup x = some c
  cab : ∀ x c, X.fn x = true → X.env.cells.lookup x = some c → X.s₀.heap.objs.size ≤ c
  hd : X.calm = true → X.A.handled = none
  frames : X.A.frames = some X.stack
  stk : X.stack = X.outer ∨ (X.stack = X.env :: X.outer ∧ X.env.frame = some X.env.locals)
  exf : ∀ b ∈ X.ex, b ≠ X.env.locals ∧ ∀ x c, X.env.cells.lookup x = some c → c ≠ b
  bs : ∀ b o, X.base.get? b = some o → X.s₀.heap.get? b = some o ∧ X.H₀ b = none
  bsz : X.base.objs.size ≤ X.s₀.heap.objs.size
  noex : ∀ b o, X.base.get? b = some o → b ∉ X.ex
  exfs : ∀ b ∈ X.ex, b ∉ X.fs
  funs : X.s₀.heap.FunFrames X.base X.outer
  frf : ∀ b ∈ X.fs, X.H₀ b = none
structure Inv (X : Cx) (pins : List (Addr × Obj)) (σ : List (Option V)) (H : Hp) (s : Shared) : Prop where
  ok : X.Ok
  os : s.os = X.s₀.os
  bare : AllBare s.gens
  base : Un X.fs X.ex X.H₀ H X.s₀.heap s.heap
  loc : ∃ m, s.heap.Ns X.env.locals m ∧ ∀ (i : Nat) (x : Str) (v : V), X.N[i]? = some x → σ[i]? = some (some v) → Vis X.env.scope x → ∃ u, RelV v u ∧ Look X.env s.heap m x u
  cell : ∀ x c, X.env.cells.lookup x = some c → ∃ v, s.heap.IsCell c v
  free : H X.env.locals = none
  freeC : ∀ x c, X.env.cells.lookup x = some c → H c = none
  pin : ∀ p ∈ X.pn ++ pins, s.heap.get? p.1 = some p.2 ∧ H p.1 = none ∧ p.1 ≠ X.env.locals ∧ p.1 ∉ X.fs ∧ ∀ v, p.2.data ≠ .cell v
  hok : HOk X.prog X.w H s.heap
  len : σ.length = X.N.length
section
variable {X : Cx} {pins : List (Addr × Obj)} {σ : List (Option V)} {H H' : Hp} {s : Shared} {h' : Heap}
theorem Cx.Ok.nofr (ok : X.Ok) {b : Addr} {o : Obj} (e : X.base.get? b = some o) : b ∉ X.fs := fun hb => by
  have := (ok.funs.mem hb).1
  rw [e] at this; cases this
theorem Inv.bs (I : Inv X pins σ H s) : ∀ b o, X.base.get? b = some o → s.heap.get? b = some o ∧ H b = none := fun b o e =>
  ⟨I.base.keep b o (I.ok.bs b o e).1 (I.ok.bs b o e).2 (I.ok.nofr e) (I.ok.noex b o e), I.base.free b o (I.ok.bs b o e).1 (I.ok.bs b o e).2 (I.ok.noex b o e)⟩
theorem Inv.bk (I : Inv X pins σ H s) : ∀ b o, X.base.get? b = some o → s.heap.get? b = some o := fun b o e => (I.bs b o e).1
theorem Inv.mod (I : Inv X pins σ H s) : Mod X.K X.mg X.base := I.ok.mod
theorem Inv.kIn (I : Inv X pins σ H s) : X.K.In s.heap := I.ok.mod.kin.keeps I.bk
theorem Inv.fr (I : Inv X pins σ H s) : ∃ m, Fr X.base X.env.locals s.heap m :=
  let ⟨m, hn, _⟩ := I.loc
  ⟨m, hn, I.bk, Nat.le_trans I.ok.bsz I.ok.above⟩
theorem Inv.lt (I : Inv X pins σ H s) : X.env.locals < s.heap.objs.size := let ⟨_, hn, _⟩ := I.loc; hn.lt
theorem Inv.sz (I : Inv X pins σ H s) : X.s₀.heap.objs.size ≤ s.heap.objs.size := Nat.le_trans I.ok.above (Nat.le_of_lt I.lt)
theorem Inv.nofs (I : Inv X pins σ H s) {a : Addr} (h : s.heap.objs.size ≤ a) : a ∉ X.fs := fun hb => by
  obtain ⟨_, o, ho, _⟩ := I.ok.funs.mem hb
  exact absurd (Nat.lt_of_lt_of_le (Heap.lt_size ho) (Nat.le_trans I.sz h)) (Nat.lt_irrefl _)
theorem Inv.cne (I : Inv X pins σ H s) : ∀ x c, X.env.cells.lookup x = some c → c ≠ X.env.locals := fun x c e z => by
  obtain ⟨v, o, ho, hd⟩ := I.cell x c e
  obtain ⟨m, ⟨o', es, ep, ho', hd', _⟩, _⟩ := I.loc
  rw [z, ho'] at ho; cases ho; rw [hd'] at hd; cases hd
theorem Inv.funs (I : Inv X pins σ H s) : s.heap.FunFrames X.base X.outer := by
  have all : ∀ (l : List Env), (∀ b ∈ frs l, b ∈ X.fs) → X.s₀.heap.FunFrames X.base l → s.heap.FunFrames X.base l := by
    intro l
    induction l with
    | nil => intro _ _; trivial
    | cons env r ih =>
      intro hs hl
      obtain ⟨hk, ⟨L, o, hf, hn, ho, hd⟩, hr⟩ := hl
      have hL : L ∈ X.fs := hs L (by unfold frs; rw [List.filterMap_cons, hf]; exact List.mem_cons_self)
      obtain ⟨sl, e⟩ := I.base.slot L o ho (I.ok.frf L hL) hL fun z => I.ok.exfs L z hL
      exact ⟨hk, ⟨L, _, hf, hn, e, hd⟩, ih (fun b hb => hs b (by unfold frs; rw [List.filterMap_cons, hf]; exact List.mem_cons_of_mem _ hb)) hr⟩
  exact all X.outer (fun _ hb => hb) I.ok.funs
theorem Inv.stack (I : Inv X pins σ H s) : s.heap.FunFrames X.base X.stack := by
  rcases I.ok.stk with e | ⟨e, hf⟩
  · rw [e]; exact I.funs
  · rw [e]
    obtain ⟨m, hn, _⟩ := I.loc
    refine .cons (by rw [I.ok.kind]; decide) hf hn ?_ I.funs
    exact Heap.get?_none_of_le (Nat.le_trans I.ok.bsz I.ok.above)
theorem Inv.stkSub (I : Inv X pins σ H s) : ∀ b ∈ frs X.stack, b ∈ X.env.locals :: X.fs := fun b hb => by
  rcases I.ok.stk with e | ⟨e, hf⟩
  · rw [e] at hb; exact List.mem_cons_of_mem _ hb
  · rw [e] at hb
    unfold frs at hb
    rw [List.filterMap_cons, hf] at hb
    exact hb
theorem Inv.stkFree (I : Inv X pins σ H s) : ∀ b ∈ frs X.stack, H b = none := fun b hb => by
  rcases List.mem_cons.mp (I.stkSub b hb) with e | hb
  · rw [e]; exact I.free
  · obtain ⟨_, o, ho, _⟩ := I.ok.funs.mem hb
    exact I.base.free b o ho (I.ok.frf b hb) fun z => I.ok.exfs b z hb
theorem Inv.step {g' : Array GenState} {t' : Nat} {d' : Drawn} {ch : List Addr} (I : Inv X pins σ H s)
    (hch : ∀ b ∈ ch, (b ∈ X.ex ∨ X.s₀.heap.objs.size ≤ b) ∧ b ≠ X.env.locals ∧ (∀ x c, X.env.cells.lookup x = some c → c ≠ b) ∧ ∀ p ∈ X.pn ++ pins, p.1 ≠ b)
    (keep : ∀ b o, b ≠ X.env.locals → b ∉ X.fs → b ∉ ch → s.heap.get? b = some o → H b = none → h'.get? b = some o)
    (slot : ∀ b o, b ≠ X.env.locals → b ∈ X.fs → b ∉ ch → s.heap.get? b = some o → H b = none → ∃ sl, h'.get? b = some { o with slots := sl }) (free : ∀ b o, b ∉ ch → s.heap.get? b = some o → H b = none → H' b = none)
    (there : ∀ b o, b ∉ ch → s.heap.get? b = some o → ∃ o', h'.get? b = some o')
    (tups : ∀ b xs, H b = some (.tup xs) → H' b = some (.tup xs)) (frzs : ∀ b o u, H b = some (.frz o u) → H' b = some (.frz o u)) (tbls : ∀ b ps, H b = some (.tbl ps) → ∃ more, H' b = some (.tbl (ps ++ more)))
    (ns : ∀ m, s.heap.Ns X.env.locals m → h'.Ns X.env.locals m) (hok : HOk X.prog X.w H' h') (hg : AllBare g') :
    Inv X pins σ H' { s with heap := h', gens := g', drawn := d', toks := t' } := by
  have neL : ∀ b o, X.s₀.heap.get? b = some o → b ≠ X.env.locals := fun b o e => Nat.ne_of_lt (Nat.lt_of_lt_of_le (Heap.lt_size e) I.ok.above)
  have neC : ∀ b o, X.s₀.heap.get? b = some o → b ∉ X.ex → b ∉ ch := fun b o e hx hb => by
    rcases (hch b hb).1 with z | z
    · exact hx z
    · exact absurd (Nat.lt_of_lt_of_le (Heap.lt_size e) z) (Nat.lt_irrefl _)
  have cellK : ∀ x c, X.env.cells.lookup x = some c → ∀ v, s.heap.IsCell c v → h'.IsCell c v := fun x c e v ⟨o, ho, hd⟩ => by
    have nch : c ∉ ch := fun z => (hch c z).2.2.1 x c e rfl
    by_cases hc : c ∈ X.fs
    · obtain ⟨sl, q⟩ := slot c o (I.cne x c e) hc nch ho (I.freeC x c e)
      exact ⟨_, q, hd⟩
    · exact ⟨o, keep c o (I.cne x c e) hc nch ho (I.freeC x c e), hd⟩
  refine ⟨I.ok, I.os, hg, ⟨fun b o e n hb hx => ?_, fun b o e n hb hx => ?_, fun b o e n hx => ?_, fun b o e hx => ?_, fun b xs e => tups b xs (I.base.tups b xs e), fun b o xs e => frzs b o xs (I.base.frzs b o xs e), fun b ps e => ?_⟩, ?_, fun x c e => ?_, ?_, fun x c e => ?_, fun p hp => ?_, hok, I.len⟩
  · exact keep b o (neL b o e) hb (neC b o e hx) (I.base.keep b o e n hb hx) (I.base.free b o e n hx)
  · obtain ⟨sl, e1⟩ := I.base.slot b o e n hb hx
    obtain ⟨sl', e2⟩ := slot b _ (neL b o e) hb (neC b o e hx) e1 (I.base.free b o e n hx)
    exact ⟨sl', e2⟩
  · obtain ⟨o', e1⟩ := I.base.there b o e hx
    exact free b o' (neC b o e hx) e1 (I.base.free b o e n hx)
  · obtain ⟨o', e1⟩ := I.base.there b o e hx
    exact there b o' (neC b o e hx) e1
  · obtain ⟨m1, e1⟩ := I.base.tbls b ps e
    obtain ⟨m2, e2⟩ := tbls b _ e1
    exact ⟨m1 ++ m2, by rw [e2, Array.append_assoc]⟩
  · obtain ⟨m, hn, hl⟩ := I.loc
    refine ⟨m, ns m hn, fun i x v e1 e2 e3 => ?_⟩
    obtain ⟨u, r, l⟩ := hl i x v e1 e2 e3
    refine ⟨u, r, ?_⟩
    rcases l with l | ⟨k, c, e, z⟩
    · exact .inl l
    · exact .inr ⟨k, c, e, cellK x c e _ z⟩
  · obtain ⟨v, z⟩ := I.cell x c e
    exact ⟨v, cellK x c e v z⟩
  · obtain ⟨m, ⟨o, _, _, ho, _⟩, _⟩ := I.loc
    exact free _ o (fun z => (hch _ z).2.1 rfl) ho I.free
  · obtain ⟨v, o, ho, hd⟩ := I.cell x c e
    exact free c o (fun z => (hch c z).2.2.1 x c e rfl) ho (I.freeC x c e)
  · obtain ⟨e, n, ne, nf, d⟩ := I.pin p hp
    have nch : p.1 ∉ ch := fun z => (hch p.1 z).2.2.2 p hp rfl
    exact ⟨keep p.1 p.2 ne nf nch e n, free p.1 p.2 nch e n, ne, nf, d⟩
theorem Inv.un {t' : Nat} (I : Inv X pins σ H s) (u : Un X.fs [] H H' s.heap h') (hok : HOk X.prog X.w H' h') : Inv X pins σ H' { s with heap := h', toks := t' } := by
  obtain ⟨m, ⟨o, es, ep, ho, r⟩, _⟩ := id I.loc
  obtain ⟨sl, hL⟩ := u.any ho I.free (by simp)
  exact I.step (g' := s.gens) (d' := s.drawn) (ch := []) (fun _ z => nomatch z) (fun b o _ hb _ e n => u.keep b o e n hb (by simp)) (fun b o _ hb _ e n => u.slot b o e n hb (by simp)) (fun b o _ e n => u.free b o e n (by simp)) (fun b o _ e => u.there b o e (by simp)) u.tups u.frzs u.tbls (fun m' hm => by
    obtain ⟨o', es', ep', ho', r'⟩ := hm
    rw [ho] at ho'; cases ho'
    exact ⟨_, es', ep', hL, r'⟩) hok I.bare
theorem Inv.call {g' : Array GenState} {t' : Nat} {d' : Drawn} {ch : List Addr} (I : Inv X pins σ H s) (u : Un (frs X.stack) ch H H' s.heap h') (hok : HOk X.prog X.w H' h') (hg : AllBare g')
    (hch : ∀ b ∈ ch, (b ∈ X.ex ∨ X.s₀.heap.objs.size ≤ b) ∧ b ≠ X.env.locals ∧ (∀ x c, X.env.cells.lookup x = some c → c ≠ b) ∧ ∀ p ∈ X.pn ++ pins, p.1 ≠ b) :
    Inv X pins σ H' { s with heap := h', gens := g', drawn := d', toks := t' } := by
  obtain ⟨m, ⟨o, es, ep, ho, r⟩, _⟩ := id I.loc
  obtain ⟨sl, hL⟩ := u.any ho I.free fun z => (hch _ z).2.1 rfl
  exact I.step (ch := ch) hch (fun b o hL hb hc e n => u.keep b o e n (fun z => (List.mem_cons.mp (I.stkSub b z)).elim hL hb) hc) (fun b o _ _ hc e n => u.any e n hc) (fun b o hc e n => u.free b o e n hc) (fun b o hc e => u.there b o e hc) u.tups u.frzs u.tbls (fun m' hm => by
    obtain ⟨o', es', ep', ho', r'⟩ := hm
    rw [ho] at ho'; cases ho'
    exact ⟨_, es', ep', hL, r'⟩) hok hg
theorem Inv.turned {t' : Nat} {it : Addr} (I : Inv X pins σ H s) (k : ∀ b o, b ≠ it → s.heap.get? b = some o → h'.get? b = some o) (hn : H it = none) (hL : it ≠ X.env.locals)
    (h1 : it ∈ X.ex ∨ X.s₀.heap.objs.size ≤ it) (h2 : ∀ x c, X.env.cells.lookup x = some c → c ≠ it) (h3 : ∀ p ∈ X.pn ++ pins, p.1 ≠ it) : Inv X pins σ H { s with heap := h', toks := t' } := by
  have nit : ∀ b u, H b = some u → b ≠ it := fun b u e z => by rw [z, hn] at e; cases e
  refine I.step (g' := s.gens) (d' := s.drawn) (ch := [it]) (fun b hb => ?_) (fun b o _ _ hc e _ => k b o (fun z => hc (by simp [z])) e) (fun b o _ _ hc e _ => ⟨o.slots, k b o (fun z => hc (by simp [z])) e⟩) (fun _ _ _ _ n => n)
    (fun b o hc e => ⟨o, k b o (fun z => hc (by simp [z])) e⟩) (fun _ _ e => e) (fun _ _ _ e => e) (fun b ps e => ⟨#[], by rw [e]; simp⟩) (fun m hm => ?_) (fun b u e => ?_) I.bare
  · have e : b = it := by simpa using hb
    subst e
    exact ⟨h1, hL, h2, h3⟩
  · obtain ⟨o, es, ep, ho, r⟩ := hm
    exact ⟨o, es, ep, k _ o (Ne.symm hL) ho, r⟩
  · refine (I.hok b u e).stay (fun c v hc q => k c v ?_ q) (fun _ q => q) fun _ _ q => q
    rcases hc with z | z
    · rw [z]; exact nit b u e
    · exact nit c _ z
theorem Inv.tok (I : Inv X pins σ H s) (t : Nat) : Inv X pins σ H { s with toks := t } := I.un (h' := s.heap) (t' := t) Un.refl I.hok
theorem Inv.kept {t' : Nat} (I : Inv X pins σ H s) (k : ∀ b u, s.heap.get? b = some u → h'.get? b = some u) : Inv X pins σ H { s with heap := h', toks := t' } := I.un (Un.kept k) (I.hok.kept k)
theorem Inv.laid {a : Addr} {o : HO} {t' : Nat} (I : Inv X pins σ H s) (k : ∀ b u, s.heap.get? b = some u → h'.get? b = some u) (hp : s.heap.objs.size ≤ a) (new : ObjOk X.prog X.w (upd H a o) h' a o) :
    Inv X pins σ (upd H a o) { s with heap := h', toks := t' } := I.un (Un.laid k hp (I.hok.fresh hp)) (I.hok.laid k hp new)
theorem Inv.write {x e : Addr} {o : HO} {t' : Nat} (I : Inv X pins σ H s) (mu : Mut (H x)) (he : e = x ∨ H e = some (.own x)) (k : ∀ b u, b ≠ e → s.heap.get? b = some u → h'.get? b = some u) (heo : ∃ u, h'.get? e = some u)
    (new : ObjOk X.prog X.w (upd H x o) h' x o) : Inv X pins σ (upd H x o) { s with heap := h', toks := t' } := I.un (Un.write mu he k heo) (I.hok.write mu he k heo new)
theorem Inv.weak {σ' : List (Option V)} (I : Inv X pins σ H s) (hl : σ'.length = σ.length) (w : ∀ (i : Nat) v, σ'[i]? = some (some v) → σ[i]? = some (some v)) : Inv X pins σ' H s :=
  ⟨I.ok, I.os, I.bare, I.base, let ⟨m, hn, hl'⟩ := I.loc; ⟨m, hn, fun i x v e1 e2 e3 => hl' i x v e1 (w i v e2) e3⟩, I.cell, I.free, I.freeC, I.pin, I.hok, hl.trans I.len⟩
theorem Inv.pins_of {pins' : List (Addr × Obj)} (I : Inv X pins σ H s) (h : ∀ p ∈ pins', s.heap.get? p.1 = some p.2 ∧ H p.1 = none ∧ p.1 ≠ X.env.locals ∧ p.1 ∉ X.fs ∧ ∀ v, p.2.data ≠ .cell v) : Inv X pins' σ H s :=
  ⟨I.ok, I.os, I.bare, I.base, I.loc, I.cell, I.free, I.freeC, fun p hp => (List.mem_append.mp hp).elim (fun z => I.pin p (List.mem_append_left _ z)) (h p), I.hok, I.len⟩
theorem nodup_ix {N : List Str} (hN : N.Nodup) {i j : Nat} {x : Str} (a : N[i]? = some x) (b : N[j]? = some x) : i = j := by
  obtain ⟨h1, e1⟩ := List.getElem?_eq_some_iff.mp a
  obtain ⟨h2, e2⟩ := List.getElem?_eq_some_iff.mp b
  exact (List.getElem_inj hN).mp (e1.trans e2.symm)
theorem store_ok2 {M : Model} {A : Around} {E : Value → Shared → Prop} {i : Nat} {x : Str} {v : V} {u : Value} {Q : Unit → Shared → Prop} (I : Inv X pins σ H s) (hN : X.N.Nodup) (hi : X.N[i]? = some x) (hx : Loc X.env.scope x) (r : RelV v u)
    (h : ∀ s', Inv X pins (σ.set i (some v)) H s' → (∃ a, Heap.SameBut a s.heap s'.heap ∧ (a = X.env.locals ∨ X.env.cells.lookup x = some a)) → Q () s') (hf : X.fn x = true ∨ X.env.scope.names.lookup x = some .local := by first | exact .inl rfl | exact .inr rfl | assumption) : wpAny M A (storeName X.env x u) Q E s := by
  obtain ⟨m, hn, hl⟩ := id I.loc
  have hcls : (X.env.scope.kind == .class || (X.env.scope.kind == .module && X.env.locals != X.env.globals)) = false := by rw [I.ok.kind]; rfl
  have hiσ : i < σ.length := by rw [I.len]; exact (List.getElem?_eq_some_iff.mp hi).1
  have cne := I.cne
  have tracked : ∀ {a : Addr} {h' : Heap}, (∃ o, s.heap.get? a = some o ∧ H a = none) → Heap.SameBut a s.heap h' → HOk X.prog X.w H h' := fun {a h'} ha hs b ob e => by
    obtain ⟨_, _, hfree⟩ := ha
    refine (I.hok b ob e).stay (fun c w' hc q => (hs.2 c ?_).trans q) (fun _ q => q) fun _ _ q => q
    rintro rfl
    rcases hc with rfl | hc
    · rw [hfree] at e; cases e
    · rw [hfree] at hc; cases hc
  rcases hx with hk | hk
  · refine wpAny_storeName_local hk hn (fun h' hn' hs => ?_) hcls
    obtain ⟨oL, _, _, hoL, _⟩ := id hn
    refine h _ ⟨I.ok, I.os, I.bare, ⟨fun b o e n hb hx => ?_, fun b o e n hb hx => ?_, I.base.free, fun b o e hx => ?_, I.base.tups, I.base.frzs, I.base.tbls⟩, ⟨_, hn', fun j y v' e1 e2 e3 => ?_⟩, fun y c e => ?_, I.free, I.freeC, fun p hp => ?_, tracked ⟨oL, hoL, I.free⟩ hs, by simpa using I.len⟩ ⟨_, hs, .inl rfl⟩
    · exact (hs.2 b (Nat.ne_of_lt (Nat.lt_of_lt_of_le (Heap.lt_size e) I.ok.above))).trans (I.base.keep b o e n hb hx)
    · obtain ⟨sl, e1⟩ := I.base.slot b o e n hb hx
      exact ⟨sl, (hs.2 b (Nat.ne_of_lt (Nat.lt_of_lt_of_le (Heap.lt_size e) I.ok.above))).trans e1⟩
    · obtain ⟨o', e1⟩ := I.base.there b o e hx
      exact ⟨o', (hs.2 b (Nat.ne_of_lt (Nat.lt_of_lt_of_le (Heap.lt_size e) I.ok.above))).trans e1⟩
    · by_cases hj : j = i
      · subst hj
        rw [hi] at e1; cases e1
        rw [List.getElem?_set_self hiσ] at e2
        cases e2
        exact ⟨u, r, .inl ⟨hk, by simp⟩⟩
      · rw [List.getElem?_set_ne (Ne.symm hj)] at e2
        obtain ⟨u', r', q⟩ := hl j y v' e1 e2 e3
        refine ⟨u', r', ?_⟩
        rcases q with ⟨k, e⟩ | ⟨k, c, e, z⟩
        · refine .inl ⟨k, ?_⟩
          have : y ≠ x := fun e => hj (nodup_ix hN e1 (e ▸ hi))
          simp [this, e]
        · exact .inr ⟨k, c, e, z.sameBut hs (cne y c e)⟩
    · obtain ⟨w', z⟩ := I.cell y c e
      exact ⟨w', z.sameBut hs (cne y c e)⟩
    · obtain ⟨e, n, ne, nf, d⟩ := I.pin p hp
      exact ⟨(hs.2 p.1 ne).trans e, n, ne, nf, d⟩
  · have hfn : X.fn x = true := by
      rcases hf with z | z
      · exact z
      · rw [z] at hk; cases hk
    obtain ⟨c, hc⟩ := I.ok.has x (.inl hk)
    obtain ⟨w', z⟩ := I.cell x c hc
    refine wpAny_storeName_cell I.ok.kind hk hc z (fun h' hc' hs => ?_)
    obtain ⟨oc, hoc, hocd⟩ := id z
    refine h { s with heap := h' } ⟨I.ok, I.os, I.bare, ⟨fun b o e n hb hx => ?_, fun b o e n hb hx => ?_, I.base.free, fun b o e hx => ?_, I.base.tups, I.base.frzs, I.base.tbls⟩, ⟨m, hn.sameBut hs (Ne.symm (cne x c hc)), fun j y v' e1 e2 e3 => ?_⟩, fun y c' e => ?_, I.free, I.freeC, fun p hp => ?_, tracked ⟨oc, hoc, I.freeC x c hc⟩ hs, by simpa using I.len⟩ ⟨c, hs, .inr hc⟩
    · exact (hs.2 b (Nat.ne_of_lt (Nat.lt_of_lt_of_le (Heap.lt_size e) (I.ok.cab x c hfn hc)))).trans (I.base.keep b o e n hb hx)
    · obtain ⟨sl, e1⟩ := I.base.slot b o e n hb hx
      exact ⟨sl, (hs.2 b (Nat.ne_of_lt (Nat.lt_of_lt_of_le (Heap.lt_size e) (I.ok.cab x c hfn hc)))).trans e1⟩
    · obtain ⟨o', e1⟩ := I.base.there b o e hx
      exact ⟨o', (hs.2 b (Nat.ne_of_lt (Nat.lt_of_lt_of_le (Heap.lt_size e) (I.ok.cab x c hfn hc)))).trans e1⟩
    · by_cases hj : j = i
      · subst hj
        rw [hi] at e1; cases e1
        rw [List.getElem?_set_self hiσ] at e2
        cases e2
        exact ⟨u, r, .inr ⟨.inl hk, c, hc, hc'⟩⟩
      · rw [List.getElem?_set_ne (Ne.symm hj)] at e2
        obtain ⟨u', r', q⟩ := hl j y v' e1 e2 e3
        refine ⟨u', r', ?_⟩
        rcases q with q | ⟨k, c', e, z'⟩
        · exact .inl q
        · refine .inr ⟨k, c', e, z'.sameBut hs ?_⟩
          rintro rfl
          exact hj (nodup_ix hN e1 (I.ok.inj _ _ _ e hc ▸ hi))
    · by_cases hcc : c' = c
      · subst hcc; exact ⟨_, hc'⟩
      · obtain ⟨w2, z2⟩ := I.cell y c' e
        exact ⟨w2, z2.sameBut hs hcc⟩
    · obtain ⟨e, n, ne, nf, d⟩ := I.pin p hp
      refine ⟨(hs.2 p.1 ?_).trans e, n, ne, nf, d⟩
      intro q
      rw [q, hoc] at e
      have q' : oc = p.2 := Option.some.inj e
      exact d w' (by rw [← q']; exact hocd)
theorem store_ok {M : Model} {A : Around} {E : Value → Shared → Prop} {i : Nat} {x : Str} {v : V} {u : Value} {Q : Unit → Shared → Prop} (I : Inv X pins σ H s) (hN : X.N.Nodup) (hi : X.N[i]? = some x) (hx : Loc X.env.scope x) (r : RelV v u)
    (h : ∀ s', Inv X pins (σ.set i (some v)) H s' → Q () s') (hf : X.fn x = true ∨ X.env.scope.names.lookup x = some .local := by first | exact .inl rfl | exact .inr rfl | assumption) : wpAny M A (storeName X.env x u) Q E s :=
  store_ok2 I hN hi hx r (fun s' I' _ => h s' I') hf
theorem Inv.call' {s' : Shared} {ch : List Addr} (I : Inv X pins σ H s) (ho : s'.os = s.os) (u : Un (frs X.stack) ch H H' s.heap s'.heap) (hok : HOk X.prog X.w H' s'.heap) (hg : AllBare s'.gens)
    (hch : ∀ b ∈ ch, (b ∈ X.ex ∨ X.s₀.heap.objs.size ≤ b) ∧ b ≠ X.env.locals ∧ (∀ x c, X.env.cells.lookup x = some c → c ≠ b) ∧ ∀ p ∈ X.pn ++ pins, p.1 ≠ b) : Inv X pins σ H' s' := by
  obtain ⟨h', g', d', t', o'⟩ := s'
  have e : o' = s.os := ho
  subst e
  exact I.call (g' := g') (t' := t') (d' := d') u hok hg hch
end
abbrev XK := Value → Option Addr → Hp → Prop
abbrev St := List (Option V)
abbrev VK := V → Hp → Prop
abbrev TE := St → Hp → VK → Prop
abbrev TT := St → Hp → (Bool → Hp → Prop) → Prop
abbrev TA := St → Hp → (List V → Hp → Prop) → Prop
structure Ends where
  nx : St → Hp → Prop
  rt : VK
  bk : St → Hp → Prop := fun _ _ => False
  ct : St → Hp → Prop := fun _ _ => False
abbrev TS := Ends → St → Hp → Prop
def EP (X : Cx) (pins : List (Addr × Obj)) (σ : St) (Q : VK) (u : Value) (s' : Shared) : Prop := ∃ v H', Inv X pins σ H' s' ∧ RelV v u ∧ Q v H'
def TP (X : Cx) (pins : List (Addr × Obj)) (σ : St) (Q : Bool → Hp → Prop) (b : Bool) (s' : Shared) : Prop := ∃ H', Inv X pins σ H' s' ∧ Q b H'
def AP (X : Cx) (pins : List (Addr × Obj)) (σ : St) (Q : List V → Hp → Prop) (us : List Value) (s' : Shared) : Prop := ∃ vs H', Inv X pins σ H' s' ∧ Vals vs us ∧ Q vs H'
def SP (X : Cx) (pins : List (Addr × Obj)) (D : Ends) (f : Flow) (s' : Shared) : Prop :=
  match f with
  | .next => ∃ σ' H', Inv X pins σ' H' s' ∧ D.nx σ' H'
  | .brk => ∃ σ' H', Inv X pins σ' H' s' ∧ D.bk σ' H'
  | .cont => ∃ σ' H', Inv X pins σ' H' s' ∧ D.ct σ' H'
  | .ret u => ∃ v σ' H', Inv X pins σ' H' s' ∧ RelV v u ∧ D.rt v H'
def PE (X : Cx) (e : Expr) (t : TE) : Prop :=
  ∀ (pins : List (Addr × Obj)) (s : Shared) (σ : St) (H : Hp) (Q : VK), Inv X pins σ H s → t σ H Q → wpAny (model X.prog X.w) X.A (eval e X.env) (EP X pins σ Q) X.xe s
def PT (X : Cx) (e : Expr) (t : TT) : Prop :=
  ∀ (pins : List (Addr × Obj)) (s : Shared) (σ : St) (H : Hp) (Q : Bool → Hp → Prop), Inv X pins σ H s → t σ H Q → wpAny (model X.prog X.w) X.A (isTrue e X.env (eval e X.env)) (TP X pins σ Q) X.xe s
def PW (X : Cx) (e : Expr) (t : TT) : Prop :=
  ∀ (whole : Sem Value) (pins : List (Addr × Obj)) (s : Shared) (σ : St) (H : Hp) (Q : Bool → Hp → Prop), Inv X pins σ H s → t σ H Q → wpAny (model X.prog X.w) X.A (isTrue e X.env whole) (TP X pins σ Q) X.xe s
theorem PW.pt {X : Cx} {e : Expr} {t : TT} (h : PW X e t) : PT X e t := h _
def PA (X : Cx) (es : List Expr) (t : TA) : Prop :=
  ∀ (pos : Pos) (pins : List (Addr × Obj)) (s : Shared) (σ : St) (H : Hp) (Q : List V → Hp → Prop), Inv X pins σ H s → t σ H Q → wpAny (model X.prog X.w) X.A (spliced (backTo pos (starEach es X.env))) (AP X pins σ Q) X.xe s
def PS (X : Cx) (st : Stmt) (t : TS) : Prop :=
  ∀ (pins : List (Addr × Obj)) (s : Shared) (σ : St) (H : Hp) (D : Ends), Inv X pins σ H s → t D σ H → wpAny (model X.prog X.w) X.A (exec st X.env) (SP X pins D) X.xe s
def PSs (X : Cx) (st : List Stmt) (t : TS) : Prop :=
  ∀ (pins : List (Addr × Obj)) (s : Shared) (σ : St) (H : Hp) (D : Ends), Inv X pins σ H s → t D σ H → wpAny (model X.prog X.w) X.A (execs st X.env) (SP X pins D) X.xe s
theorem thn {α : Type} {t : Sem α} {Q Q' : α → Shared → Prop} {M : Model} {A : Around} {E : Value → Shared → Prop} {s : Shared} (h : wpAny M A t Q E s) (hQ : ∀ a s, Q a s → Q' a s) : wpAny M A t Q' E s := wpAny_mono h hQ fun _ _ x => x
section
variable {X : Cx}
theorem bin {a b : Expr} {ta tb : TE} (ha : PE X a ta) (hb : PE X b tb) {pins : List (Addr × Obj)} {s : Shared} {σ : St} {H : Hp} {R : V → V → Hp → Prop} (I : Inv X pins σ H s) (h : ta σ H fun x H1 => tb σ H1 fun y H2 => R x y H2)
    {α : Type} {Q : α → Shared → Prop} {f : Value → Value → Sem α}
    (hf : ∀ v u s2 x y H2, Inv X pins σ H2 s2 → RelV x v → RelV y u → R x y H2 → wpAny (model X.prog X.w) X.A (f v u) Q X.xe s2) :
    wpAny (model X.prog X.w) X.A (eval a X.env) (fun v s₁ => wpAny (model X.prog X.w) X.A (eval b X.env) (fun u s₂ => wpAny (model X.prog X.w) X.A (f v u) Q X.xe s₂) X.xe s₁) X.xe s := by
  refine thn (ha pins s σ H _ I h) fun v s1 ⟨x, H1, I1, r1, q1⟩ => ?_
  refine thn (hb pins s1 σ H1 _ I1 q1) fun u s2 ⟨y, H2, I2, r2, q2⟩ => ?_
  exact hf v u s2 x y H2 I2 r1 r2 q2
def tVar (i : Nat) : TE := fun σ H Q => ∃ v, σ[i]? = some (some v) ∧ Q v H
def tC (v : V) : TE := fun _ H Q => Q v H
theorem pe_var {i : Nat} {x : Str} {pos : Pos} (hN : X.N[i]? = some x) (hv : Vis X.env.scope x) (hd : (x == ("__debug__" : Str)) = false := by decide) (hcd : (x == ("__classdict__" : Str)) = false := by decide) : PE X (.Name x pos) (tVar i) := by
  intro pins s σ H Q I h
  obtain ⟨v, e, h⟩ := h
  obtain ⟨m, hn, hl⟩ := I.loc
  obtain ⟨u, r, l⟩ := hl i x v hN e hv
  have fin : EP X pins σ Q u s := ⟨v, H, I, r, h⟩
  rcases l with ⟨hk, hm⟩ | ⟨hk, c, hc, hcell⟩
  · exact wpAny_Name (wpAny_loadName_local I.ok.kind hk hn hm fin) hd
  · rcases hk with hk | hk
    · exact wpAny_Name (wpAny_loadName_cell I.ok.kind hk hc hcell fin) hd
    · exact wpAny_Name (wpAny_loadName_free I.ok.kind hk hc hcell fin hcd) hd
theorem pe_int {i j pos} : PE X (.Constant (.int i) j pos) (tC (.int i)) := fun _ _ _ H _ I h => wpAny_Constant_int ⟨.int i, H, I.tok _, ⟨_, rfl⟩, h⟩
theorem pe_bl {b j pos} : PE X (.Constant (.bool b) j pos) (tC (.bl b)) := fun _ _ _ H _ I h => Constant_bool ⟨.bl b, H, I, rfl, h⟩
theorem pe_non {j pos} : PE X (.Constant .none j pos) (tC .non) := fun _ _ _ H _ I h => Constant_none ⟨.non, H, I, rfl, h⟩
theorem pe_str {x j pos} : PE X (.Constant (.str x) j pos) (tC (.str x)) := fun _ _ _ H _ I h => Calls.Constant_str ⟨.str x, H, I.tok _, ⟨_, rfl⟩, h⟩
def Gl (X : Cx) (x : Str) : Prop := X.env.kindOf x = some .globalImplicit
theorem ld_glob {E : Value → Shared → Prop} {pins : List (Addr × Obj)} {s : Shared} {σ : St} {H : Hp} {x : Str} {u : Value} {pos : Pos} {Q : Value → Shared → Prop} (I : Inv X pins σ H s) (hg : Gl X x) (hm : X.mg x = some u) (h : Q u s)
    (hd : (x == ("__debug__" : Str)) = false := by decide) : wpAny (model X.prog X.w) X.A (eval (.Name x pos) X.env) Q E s :=
  Calls.Name_function_global I.ok.kind hg (Calls.loadGlobal_global (by rw [I.ok.glob]; exact I.mod.glob.keeps I.bk) hm h) hd
theorem ld_blt {E : Value → Shared → Prop} {pins : List (Addr × Obj)} {s : Shared} {σ : St} {H : Hp} {x : Str} {u : Value} {pos : Pos} {Q : Value → Shared → Prop} (I : Inv X pins σ H s) (hg : Gl X x) (hm : X.mg x = none) (hv : bootBuiltins x = some u) (h : Q u s)
    (hn : x ≠ "__name__" := by decide) (hd : (x == ("__debug__" : Str)) = false := by decide) : wpAny (model X.prog X.w) X.A (eval (.Name x pos) X.env) Q E s := by
  obtain ⟨mb, h1, h2⟩ := I.mod.blt
  exact Calls.Name_function_global I.ok.kind hg (Calls.loadGlobal_builtin (by rw [I.ok.glob]; exact I.mod.glob.keeps I.bk) hm (by rw [I.ok.blt]; exact h1.keeps I.bk) ((h2 x hn).trans hv) h) hd
theorem pe_glob {x : Str} {v : V} {u : Value} {pos : Pos} (hg : Gl X x) (hm : X.mg x = some u) (r : RelV v u) (hd : (x == ("__debug__" : Str)) = false := by decide) : PE X (.Name x pos) (tC v) :=
  fun _ _ _ H _ I h => ld_glob I hg hm ⟨v, H, I, r, h⟩ hd
theorem pe_bltn {x : Str} {v : V} {u : Value} {pos : Pos} (hg : Gl X x) (hm : X.mg x = none) (hv : bootBuiltins x = some u) (r : RelV v u) (hn : x ≠ "__name__" := by decide) (hd : (x == ("__debug__" : Str)) = false := by decide) : PE X (.Name x pos) (tC v) :=
  fun _ _ _ H _ I h => ld_blt I hg hm hv ⟨v, H, I, r, h⟩ hn hd
def t2I (ta tb : TE) (k : Int → Int → Hp → Prop) : St → Hp → Prop := fun σ H => ta σ H fun x H1 => tb σ H1 fun y H2 => ∃ i j, x = .int i ∧ y = .int j ∧ k i j H2
variable {a b : Expr} {ta tb : TE} {pos : Pos}
def tCmp (p : Int → Int → Bool) (ta tb : TE) : TE := fun σ H Q => t2I ta tb (fun i j H2 => Q (.bl (p i j)) H2) σ H
abbrev tLt : TE → TE → TE := tCmp fun i j => decide (i < j)
abbrev tLe : TE → TE → TE := tCmp fun i j => decide (i ≤ j)
abbrev tGt : TE → TE → TE := tCmp fun i j => decide (j < i)
abbrev tGe : TE → TE → TE := tCmp fun i j => decide (j ≤ i)
abbrev tEqI : TE → TE → TE := tCmp fun i j => decide (i = j)
abbrev tNeI : TE → TE → TE := tCmp fun i j => !decide (i = j)
variable {tA tB' : TT} {rest : List Expr}
def tAnd (t u : TT) : TT := fun σ H Q => t σ H fun c H1 => if c = true then u σ H1 Q else Q false H1
def tOr (t u : TT) : TT := fun σ H Q => t σ H fun c H1 => if c = true then Q true H1 else u σ H1 Q
def tNot (t : TT) : TT := fun σ H Q => t σ H fun c H1 => Q (!c) H1
theorem pw_and1 (ha : PT X a tA) : PW X (.BoolOp .And [a] pos) tA := by
  intro wh pins s σ H Q I h
  refine isTrue_and (thn (ha pins s σ H Q I h) fun c s1 e => ?_)
  cases c with
  | true => exact isTrue_and_nil e
  | false => exact e
theorem pw_or1 (ha : PT X a tA) : PW X (.BoolOp .Or [a] pos) tA := by
  intro wh pins s σ H Q I h
  refine isTrue_or (thn (ha pins s σ H Q I h) fun c s1 e => ?_)
  cases c with
  | false => exact isTrue_or_nil e
  | true => exact e
theorem pw_and (ha : PT X a tA) (hb : PW X (.BoolOp .And (b :: rest) pos) tB') : PW X (.BoolOp .And (a :: b :: rest) pos) (tAnd tA tB') := by
  intro wh pins s σ H Q I h
  refine isTrue_and (thn (ha pins s σ H _ I h) fun c s1 ⟨H1, I1, q1⟩ => ?_)
  cases c with
  | true => exact hb wh pins s1 σ H1 Q I1 q1
  | false => exact ⟨H1, I1, q1⟩
theorem pw_or (ha : PT X a tA) (hb : PW X (.BoolOp .Or (b :: rest) pos) tB') : PW X (.BoolOp .Or (a :: b :: rest) pos) (tOr tA tB') := by
  intro wh pins s σ H Q I h
  refine isTrue_or (thn (ha pins s σ H _ I h) fun c s1 ⟨H1, I1, q1⟩ => ?_)
  cases c with
  | true => exact ⟨H1, I1, q1⟩
  | false => exact hb wh pins s1 σ H1 Q I1 q1
theorem pt_not (ha : PT X a tA) : PT X (.UnaryOp .Not a pos) (tNot tA) := by
  intro pins s σ H Q I h
  exact isTrue_not (ha pins s σ H (fun c H1 => Q (!c) H1) I h)
def tAndV (ta tb : TE) : TE := fun σ H Q => ta σ H fun x H1 => ∃ c, x = .bl c ∧ if c = true then tb σ H1 Q else Q (.bl false) H1
def tOrV (ta tb : TE) : TE := fun σ H Q => ta σ H fun x H1 => ∃ c, x = .bl c ∧ if c = true then Q (.bl true) H1 else tb σ H1 Q
def tNotV (ta : TE) : TE := fun σ H Q => ta σ H fun x H1 => ∃ c, x = .bl c ∧ Q (.bl (!c)) H1
theorem pe_one {op} {t : TE} (h : PE X a t) : PE X (.BoolOp op [a] pos) t := fun pins s σ H Q I hw => BoolOp_one (h pins s σ H Q I hw)
theorem pe_and (ha : PE X a ta) (hb : PE X (.BoolOp .And (b :: rest) pos) tb) : PE X (.BoolOp .And (a :: b :: rest) pos) (tAndV ta tb) := by
  intro pins s σ H Q I h
  refine BoolOp_and (thn (ha pins s σ H _ I h) fun v s1 ⟨x, H1, I1, r1, q1⟩ => ?_)
  obtain ⟨c, rfl, q1⟩ := q1
  cases r1
  refine wpAny_truthy_bool ?_
  cases c with
  | true => exact hb pins s1 σ H1 Q I1 q1
  | false => exact ⟨.bl false, H1, I1, rfl, q1⟩
theorem pe_or (ha : PE X a ta) (hb : PE X (.BoolOp .Or (b :: rest) pos) tb) : PE X (.BoolOp .Or (a :: b :: rest) pos) (tOrV ta tb) := by
  intro pins s σ H Q I h
  refine BoolOp_or (thn (ha pins s σ H _ I h) fun v s1 ⟨x, H1, I1, r1, q1⟩ => ?_)
  obtain ⟨c, rfl, q1⟩ := q1
  cases r1
  refine wpAny_truthy_bool ?_
  cases c with
  | false => exact hb pins s1 σ H1 Q I1 q1
  | true => exact ⟨.bl true, H1, I1, rfl, q1⟩
theorem pe_not (ha : PE X a ta) : PE X (.UnaryOp .Not a pos) (tNotV ta) := by
  intro pins s σ H Q I h
  refine UnaryOp_ (thn (ha pins s σ H _ I h) fun v s1 ⟨x, H1, I1, r1, q1⟩ => ?_)
  obtain ⟨c, rfl, q1⟩ := q1
  cases r1
  exact not_of (wpAny_truthy_bool ⟨.bl (!c), H1, I1, rfl, q1⟩)
def tIf (t : TT) (ta tb : TE) : TE := fun σ H Q => t σ H fun c H1 => if c = true then ta σ H1 Q else tb σ H1 Q
theorem pe_ifExp {c : Expr} (hc : PT X c tA) (ha : PE X a ta) (hb : PE X b tb) : PE X (.IfExp c a b pos) (tIf tA ta tb) := by
  intro pins s σ H Q I h
  refine wpAny_IfExp (thn (hc pins s σ H _ I h) fun d s1 ⟨H1, I1, q1⟩ => ?_)
  cases d with
  | true => exact ha pins s1 σ H1 Q I1 q1
  | false => exact hb pins s1 σ H1 Q I1 q1
end
def SqL (K : PySem.W.Frag) (H : Hp) (a : Addr) (xs : List V) : Prop :=
  Rd H a (.lst xs) ∨
    ∃ (o : Obj) (its : Array Value) (n : Nat), K.lookup a = some o ∧ o.cls = .type "list" ∧ o.dict = none ∧ o.data = .seq its n ∧ its.size ≤ sizeLine ∧ Vals xs its.toList
def SqT (K : PySem.W.Frag) (H : Hp) (a : Addr) (xs : List V) : Prop :=
  Rd H a (.tup xs) ∨
    ∃ (o : Obj) (its : Array Value) (n : Nat), K.lookup a = some o ∧ o.cls = .type "tuple" ∧ o.dict = none ∧ o.data = .seq its n ∧ its.size ≤ sizeLine ∧ Vals xs its.toList
def absV : Value → Option V
  | .none => some .non
  | .bool b => some (.bl b)
  | .int i _ => some (.int i)
  | .str x _ => some (.str x)
  | .bytes b _ => some (.byt b)
  | .float b _ => some (.flt b)
  | .ref a => some (.ref a)
  | .type n => some (.ty n)
  | _ => none
theorem RelV.abs {x : V} {u : Value} (r : RelV x u) : absV u = some x := by
  cases x with
  | non => cases r; rfl
  | bl _ => cases r; rfl
  | int _ => obtain ⟨t, rfl⟩ := r; rfl
  | str _ => obtain ⟨t, rfl⟩ := r; rfl
  | byt _ => obtain ⟨t, rfl⟩ := r; rfl
  | flt _ => obtain ⟨t, rfl⟩ := r; rfl
  | ref _ => cases r; rfl
  | ty _ => cases r; rfl
theorem RelV.inj {x y : V} {u : Value} (r : RelV x u) (q : RelV y u) : x = y := Option.some.inj (r.abs.symm.trans q.abs)
theorem Vals.inj : ∀ {xs ys : List V} {us : List Value}, Vals xs us → Vals ys us → xs = ys
  | _, _, _, .nil, .nil => rfl
  | _, _, _, .cons r t, .cons r' t' => by rw [r.inj r', Vals.inj t t']
section
variable {X : Cx} {pins : List (Addr × Obj)} {σ : St} {H : Hp} {s : Shared} {a : Addr} {xs ys : List V}
theorem Inv.list (I : Inv X pins σ H s) (h : SqL X.K H a xs) : ∃ its : List Value, Vals xs its ∧ PlainL s.heap a its.toArray ∧ xs.length ≤ sizeLine := by
  rcases h with h | ⟨o, its, n, hk, hc, hd, hs, hz, r⟩
  · obtain ⟨z, its, n, r, e⟩ := h.ok I.hok
    exact ⟨its, r, ⟨_, n, e, rfl, rfl, rfl⟩, z⟩
  · refine ⟨its.toList, r, ⟨o, n, I.kIn a o hk, hc, hd, by simpa using hs⟩, ?_⟩
    have e := r.length
    simp only [Array.length_toList] at e
    omega
theorem Inv.tupleP (I : Inv X pins σ H s) (h : SqT X.K H a xs) : ∃ its : List Value, Vals xs its ∧ IsTupP s.heap a its.toArray ∧ xs.length ≤ sizeLine := by
  rcases h with h | ⟨o, its, n, hk, hc, hd, hs, hz, r⟩
  · obtain ⟨z, its, r, p⟩ := h.ok I.hok
    exact ⟨its, r, p, z⟩
  · refine ⟨its.toList, r, ⟨o, I.kIn a o hk, hc, hd, n, by simpa using hs⟩, ?_⟩
    have e := r.length
    simp only [Array.length_toList] at e
    omega
theorem Inv.tuple (I : Inv X pins σ H s) (h : SqT X.K H a xs) : ∃ its : List Value, Vals xs its ∧ IsTup s.heap a its.toArray ∧ xs.length ≤ sizeLine := by
  obtain ⟨its, r, p, z⟩ := I.tupleP h
  exact ⟨its, r, p.tup, z⟩
theorem Inv.list_inj (I : Inv X pins σ H s) (h : SqL X.K H a xs) (h' : SqL X.K H a ys) : xs = ys := by
  obtain ⟨its, r, ⟨o, n, e, _, _, d⟩, _⟩ := I.list h
  obtain ⟨its', r', ⟨o', n', e', _, _, d'⟩, _⟩ := I.list h'
  rw [e] at e'; cases e'
  rw [d] at d'
  injection d' with d1 _
  have : its = its' := by simpa using congrArg Array.toList d1
  subst this
  exact r.inj r'
theorem Inv.tuple_inj (I : Inv X pins σ H s) (h : SqT X.K H a xs) (h' : SqT X.K H a ys) : xs = ys := by
  obtain ⟨its, r, ⟨o, e, _, n, d⟩, _⟩ := I.tuple h
  obtain ⟨its', r', ⟨o', e', _, n', d'⟩, _⟩ := I.tuple h'
  rw [e] at e'; cases e'
  rw [d] at d'
  injection d' with d1 _
  have : its = its' := by simpa using congrArg Array.toList d1
  subst this
  exact r.inj r'
end
abbrev Cx.wish (X : Cx) (E : Value → Shared → Prop) : Cx := { X with xe := E }
abbrev Cx.nox (X : Cx) : Cx := X.wish fun _ _ => False
theorem Cx.Ok.wish {X : Cx} (ok : X.Ok) (E : Value → Shared → Prop) : (X.wish E).Ok :=
  ⟨ok.mod, ok.kind, ok.glob, ok.blt, ok.above, ok.inj, ok.has, ok.cab, ok.hd, ok.frames, ok.stk, ok.exf, ok.bs, ok.bsz, ok.noex, ok.exfs, ok.funs, ok.frf⟩
theorem Cx.Ok.unwish {X : Cx} {E : Value → Shared → Prop} (ok : (X.wish E).Ok) : X.Ok :=
  ⟨ok.mod, ok.kind, ok.glob, ok.blt, ok.above, ok.inj, ok.has, ok.cab, ok.hd, ok.frames, ok.stk, ok.exf, ok.bs, ok.bsz, ok.noex, ok.exfs, ok.funs, ok.frf⟩
section
variable {X : Cx} {pins : List (Addr × Obj)} {σ : St} {H : Hp} {s : Shared} {E : Value → Shared → Prop}
theorem Inv.wish (I : Inv X pins σ H s) (E : Value → Shared → Prop) : Inv (X.wish E) pins σ H s := ⟨I.ok.wish E, I.os, I.bare, I.base, I.loc, I.cell, I.free, I.freeC, I.pin, I.hok, I.len⟩
theorem Inv.unwish (I : Inv (X.wish E) pins σ H s) : Inv X pins σ H s := ⟨I.ok.unwish, I.os, I.bare, I.base, I.loc, I.cell, I.free, I.freeC, I.pin, I.hok, I.len⟩
theorem SP.unwish {D : Ends} {f : Flow} {s' : Shared} (h : SP (X.wish E) pins D f s') : SP X pins D f s' := by
  cases f with
  | next => obtain ⟨σ', H', I, q⟩ := h; exact ⟨σ', H', I.unwish, q⟩
  | brk => obtain ⟨σ', H', I, q⟩ := h; exact ⟨σ', H', I.unwish, q⟩
  | cont => obtain ⟨σ', H', I, q⟩ := h; exact ⟨σ', H', I.unwish, q⟩
  | ret u => obtain ⟨v, σ', H', I, r, q⟩ := h; exact ⟨v, σ', H', I.unwish, r, q⟩
theorem PSs.nox {st : List Stmt} {t : TS} (h : PSs X.nox st t) : PSs X st t := fun pins s σ H D I hw =>
  wpAny_mono (h pins s σ H D (I.wish _) hw) (fun _ _ q => q.unwish) fun _ _ z => False.elim z
end
section
variable {X : Cx} {st : Stmt} {rest : List Stmt} {t u : TS} {e : Expr} {te : TE} {pos : Pos}
def tNext : TS := fun D σ H => D.nx σ H
def tSeq (t u : TS) : TS := fun D σ H => t { D with nx := u D } σ H
theorem pss_nil : PSs X [] tNext := fun _ _ σ H _ I h => wpAny_execs_nil ⟨σ, H, I, h⟩
theorem pss_cons (h1 : PS X st t) (h2 : PSs X rest u) : PSs X (st :: rest) (tSeq t u) := by
  intro pins s σ H D I h
  refine wpAny_execs_cons (thn (h1 pins s σ H { D with nx := u D } I h) fun f s1 q => ?_)
  cases f with
  | next =>
    obtain ⟨σ', H', I', q⟩ := q
    exact h2 pins s1 σ' H' D I' q
  | ret v => exact q
  | brk => exact q
  | cont => exact q
theorem pss_one (h1 : PS X st t) : PSs X [st] t := by
  intro pins s σ H D I h
  refine wpAny_execs_cons (thn (h1 pins s σ H D I h) fun f s1 q => ?_)
  cases f with
  | next => exact wpAny_execs_nil q
  | ret v => exact q
  | brk => exact q
  | cont => exact q
theorem Inv.quiet {pins : List (Addr × Obj)} {σ : St} {H : Hp} {s : Shared} (I : Inv X pins σ H s) : interactive X.env = false := by simp [interactive, I.ok.kind]
def tDrop (te : TE) : TS := fun D σ H => te σ H fun _ H1 => D.nx σ H1
theorem ps_expr (he : PE X e te) (hs : swapsWith e none pos.line X.env = pure false := by rfl) : PS X (.Expr e pos) (tDrop te) := by
  intro pins s σ H D I h
  exact wpAny_Expr_any (thn (he pins s σ H _ I h) fun v s1 ⟨x, H1, I1, r1, q1⟩ => ⟨σ, H1, I1, q1⟩) I.quiet hs
def tRet (te : TE) : TS := fun D σ H => te σ H D.rt
theorem ps_ret (he : PE X e te) : PS X (.Return (some e) pos) (tRet te) := by
  intro pins s σ H D I h
  exact wpAny_Return_some (thn (he pins s σ H _ I h) fun v s1 ⟨x, H1, I1, r1, q1⟩ => ⟨x, σ, H1, I1, r1, q1⟩)
def tIfS (c : TT) (t u : TS) : TS := fun D σ H => c σ H fun b H1 => if b = true then t D σ H1 else u D σ H1
theorem ps_if {c : Expr} {a b : List Stmt} {tc : TT} (hc : PT X c tc) (ha : PSs X a t) (hb : PSs X b u) : PS X (.If c a b pos) (tIfS tc t u) := by
  intro pins s σ H D I h
  refine wpAny_If (thn (hc pins s σ H _ I h) fun d s1 ⟨H1, I1, q1⟩ => ?_)
  cases d with
  | true => exact ha pins s1 σ H1 D I1 q1
  | false => exact hb pins s1 σ H1 D I1 q1
end
abbrev TG := V → St → Hp → (St → Hp → Prop) → Prop
abbrev TGs := List V → St → Hp → (St → Hp → Prop) → Prop
def PG (X : Cx) (target : Expr) (t : TG) : Prop :=
  ∀ (pins : List (Addr × Obj)) (s : Shared) (σ : St) (H : Hp) (v : V) (u : Value) (Q : St → Hp → Prop), Inv X pins σ H s → RelV v u → t v σ H Q →
    wpAny (model X.prog X.w) X.A (assign target X.env u) (fun _ s' => ∃ σ' H', Inv X pins σ' H' s' ∧ Q σ' H') X.xe s
def PGs (X : Cx) (ts : List Expr) (t : TGs) : Prop :=
  ∀ (pins : List (Addr × Obj)) (s : Shared) (σ : St) (H : Hp) (vs : List V) (us : List Value) (Q : St → Hp → Prop), Inv X pins σ H s → Vals vs us → t vs σ H Q →
    wpAny (model X.prog X.w) X.A (assignInOrder ((assignEach ts X.env).map (·.2)) us) (fun _ s' => ∃ σ' H', Inv X pins σ' H' s' ∧ Q σ' H') X.xe s
abbrev TSet := V → V → V → Hp → (Hp → Prop) → Prop
abbrev TIp := V → V → Hp → VK → Prop
section
variable {X : Cx} {pos : Pos}
def gName (i : Nat) : TG := fun v σ H Q => Q (σ.set i (some v)) H
theorem pg_name {i : Nat} {x : Str} (hN : X.N.Nodup) (hi : X.N[i]? = some x) (hx : Loc X.env.scope x) (hf : X.fn x = true ∨ X.env.scope.names.lookup x = some .local := by first | exact .inl rfl | exact .inr rfl | assumption) : PG X (.Name x pos) (gName i) := by
  intro pins s σ H v u Q I r h
  exact wpAny_assign_Name (store_ok I hN hi hx r (fun s' I' => ⟨_, H, I', h⟩) hf)
def gNil : TGs := fun vs σ H Q => vs = [] ∧ Q σ H
def gCons (t : TG) (u : TGs) : TGs := fun vs σ H Q => ∃ v r, vs = v :: r ∧ t v σ H fun σ' H' => u r σ' H' Q
theorem pgs_nil : PGs X [] gNil := by
  intro pins s σ H vs us Q I r h
  obtain ⟨e, h⟩ := h
  subst e
  cases r
  exact assignInOrder_nil ⟨σ, H, I, h⟩
theorem pgs_cons {e : Expr} {es : List Expr} {t : TG} {u : TGs} (h1 : PG X e t) (h2 : PGs X es u)
    (hs : (assignEach (e :: es) X.env).map (·.2) = assign e X.env :: (assignEach es X.env).map (·.2) := by rfl) : PGs X (e :: es) (gCons t u) := by
  intro pins s σ H vs us Q I r h
  obtain ⟨v, vr, e1, h⟩ := h
  subst e1
  cases r with
  | cons r rr =>
    rw [hs]
    refine assignInOrder_cons (thn (h1 pins s σ H _ _ _ I r h) fun _ s1 ⟨σ1, H1, I1, q1⟩ => ?_)
    exact h2 pins s1 σ1 H1 _ _ Q I1 rr q1
def gTup (K : PySem.W.Frag) (n : Nat) (t : TGs) : TG := fun v σ H Q => ∃ a xs, v = .ref a ∧ SqT K H a xs ∧ xs.length = n ∧ t xs σ H Q
theorem pg_tup {es : List Expr} {k : Nat} {t : TGs} {n : Nat} (hc : X.calm = true) (h : PGs X es t)
    (hn : (assignEach es X.env).length = n := by rfl) (hst : (assignEach es X.env).findIdx? (·.1) = none := by rfl) : PG X (.Tuple es k pos) (gTup X.K n t) := by
  intro pins s σ H v u Q I r hw
  obtain ⟨a, xs, e1, hq, hl, hw⟩ := hw
  subst e1
  cases r
  obtain ⟨its, rv, ht, hz⟩ := I.tuple hq
  refine assign_Tuple_tuple (I.ok.hd hc) ht (by simp [hn, ← hl, rv.length]) hst fun h' hx => ?_
  have I1 : Inv X pins σ H { s with heap := h' } := I.kept (t' := s.toks) fun b o e => hx b o (Nat.ne_of_lt (Heap.lt_size e)) e
  exact h pins _ σ H xs _ Q I1 (by simpa using rv) hw
def tAsg (te : TE) (g : TG) : TS := fun D σ H => te σ H fun x H1 => g x σ H1 D.nx
theorem ps_asg {tg e : Expr} {te : TE} {g : TG} (he : PE X e te) (hg : PG X tg g) (hs : swapsWithSole [tg] e pos.line X.env = pure false := by rfl) (hw : swappedStores [tg] e X.env = pure none := by rfl)
    (h1 : (assignEach [tg] X.env).map (·.2) = [assign tg X.env] := by rfl) : PS X (.Assign [tg] e pos) (tAsg te g) := by
  intro pins s σ H D I h
  refine wpAny_Assign_stores (thn (he pins s σ H _ I h) fun v s1 ⟨x, H1, I1, r1, q1⟩ => ?_) hs hw
  rw [h1]
  exact thn (hg pins s1 σ H1 x v _ I1 r1 q1) fun _ s2 q => q
theorem ps_set {i : Nat} {x : Str} {e : Expr} {te : TE} {pos' : Pos} (hN : X.N.Nodup) (hi : X.N[i]? = some x) (hx : Loc X.env.scope x) (he : PE X e te) (hs : swapsWith e (some (.Name x pos')) pos.line X.env = pure false := by rfl) (hf : X.fn x = true ∨ X.env.scope.names.lookup x = some .local := by first | exact .inl rfl | exact .inr rfl | assumption) :
    PS X (.Assign [.Name x pos'] e pos) (tAsg te (gName i)) := by
  intro pins s σ H D I h
  refine wpAny_Assign_Name (thn (he pins s σ H _ I h) fun v s1 ⟨y, H1, I1, r1, q1⟩ => ?_) hs
  exact store_ok I1 hN hi hx r1 (fun s2 I2 => ⟨_, H1, I2, q1⟩) hf
end
section
variable {X : Cx} {pos : Pos}
def tWhile (c : TT) (tb : TS) : TS := fun D σ H => ∃ W : Nat → St → Hp → Prop, (∃ m, W m σ H) ∧ ∀ m σ H, W m σ H →
  c σ H fun b H1 => if b = true then ∃ N : St → Hp → Prop, (∀ σ' H', N σ' H' → ∃ m', m' < m ∧ W m' σ' H') ∧ tb { D with nx := N, ct := N, bk := D.nx } σ H1 else D.nx σ H1
theorem ps_while {c : Expr} {body : List Stmt} {tc : TT} {tb : TS} (hp : PassesOwn (model X.prog X.w) X.A X.env X.xe) (hc : PT X c tc) (hb : PSs X body tb) : PS X (.While c body [] pos) (tWhile tc tb) := by
  intro pins s σ H D I h
  obtain ⟨W, ⟨m0, w0⟩, turn⟩ := h
  refine wpAny_While (codeAny_whileLoop (fun n s' => ∃ σ' H', Inv X pins σ' H' s' ∧ W n σ' H') ?_ m0 ⟨σ, H, I, w0⟩)
  rintro n s1 ⟨σ1, H1, I1, w1⟩
  refine wpAny_passesOwn hp (thn (hc pins s1 σ1 H1 _ I1 (turn n σ1 H1 w1)) fun b s2 ⟨H2, I2, q2⟩ => ?_)
  cases b with
  | true =>
    obtain ⟨N, hN, q2⟩ := q2
    rw [if_pos rfl]
    refine wpAny_passesOwn hp (thn (hb pins s2 σ1 H2 _ I2 q2) fun f s3 q3 => ?_)
    cases f with
    | next =>
      obtain ⟨σ3, H3, I3, n3⟩ := q3
      obtain ⟨m', hm, w3⟩ := hN σ3 H3 n3
      exact ⟨m', hm, σ3, H3, I3, w3⟩
    | cont =>
      obtain ⟨σ3, H3, I3, n3⟩ := q3
      obtain ⟨m', hm, w3⟩ := hN σ3 H3 n3
      exact ⟨m', hm, σ3, H3, I3, w3⟩
    | brk => exact q3
    | ret v => exact q3
  | false =>
    rw [if_neg Bool.false_ne_true]
    exact wpAny_execs_nil ⟨σ1, H2, I2, q2⟩
end
structure It where
  go : Nat → Hp → Prop
  yld : Nat → Hp → V → Hp → Prop
  stop : Nat → Hp → Prop
def FpOk (X : Cx) (pins : List (Addr × Obj)) (H : Hp) (b : Addr) : Prop :=
  H b = none ∧ b ≠ X.env.locals ∧ b ∉ X.fs ∧ (b ∈ X.ex ∨ X.s₀.heap.objs.size ≤ b) ∧ (∀ x c, X.env.cells.lookup x = some c → c ≠ b) ∧ ∀ p ∈ X.pn ++ pins, p.1 ≠ b
theorem Inv.fpOk {X : Cx} {pins : List (Addr × Obj)} {σ : St} {H H' : Hp} {s : Shared} {b : Addr} (I : Inv X pins σ H s) (hb : s.heap.objs.size ≤ b) (hn : H' b = none) : FpOk X pins H' b := by
  refine ⟨hn, Nat.ne_of_gt (Nat.lt_of_lt_of_le I.lt hb), I.nofs hb, .inr (Nat.le_trans I.sz hb), fun x c e z => ?_, fun p hp z => ?_⟩
  · obtain ⟨v, q⟩ := I.cell x c e
    exact absurd (Nat.lt_of_lt_of_le q.lt (by rw [z]; exact hb)) (Nat.lt_irrefl _)
  · exact absurd (Nat.lt_of_lt_of_le (Heap.lt_size (I.pin p hp).1) (by rw [z]; exact hb)) (Nat.lt_irrefl _)
structure Turn (P : Program) (w : World) (K : PySem.W.Frag) (tg : Expr) (J : It) (fp : List Addr) (it : Addr) (tn : Nat → Heap → Prop) : Prop where
  mem : it ∈ fp
  obj : ∀ i h, tn i h → ∀ b ∈ fp, ∃ o, h.get? b = some o ∧ ∀ v, o.data ≠ .cell v
  keep : ∀ i h h', tn i h → (∀ b ∈ fp, ∀ o, h.get? b = some o → h'.get? b = some o) → tn i h'
  item : ∀ (X : Cx), X.prog = P → X.w = w → X.K = K → X.calm = true → ∀ (i : Nat) (pins : List (Addr × Obj)) (s : Shared) (σ : St) (H : Hp) (E : Value → Shared → Prop), Inv X pins σ H s → (∀ b ∈ fp, FpOk X pins H b) → tn i s.heap → J.go i H →
    wpAny (model P w) X.A (pyNext (.ref it)) (fun r s1 => ∃ u, r = some u ∧
      wpAny (model P w) X.A (letOwnedTupleGo tg (.ref it) u) (fun _ s2 => ∃ x H', Inv X pins σ H' s2 ∧ RelV x u ∧ J.yld i H x H' ∧ tn (i + 1) s2.heap ∧ ∀ b ∈ fp, H' b = none) E s1) E s
  done : ∀ (X : Cx), X.prog = P → X.w = w → X.K = K → X.calm = true → ∀ (i : Nat) (pins : List (Addr × Obj)) (s : Shared) (σ : St) (H : Hp) (E : Value → Shared → Prop), Inv X pins σ H s → (∀ b ∈ fp, FpOk X pins H b) → tn i s.heap → J.stop i H →
    wpAny (model P w) X.A (pyNext (.ref it)) (fun r s1 => r = none ∧ Inv X pins σ H s1) E s
  self : ∀ (A : Around) (i : Nat) (s : Shared) (Q : Value → Shared → Prop) (E : Value → Shared → Prop), tn i s.heap → Q (.ref it) s → wpAny (model P w) A (pyIter (.ref it)) Q E s
abbrev TI := St → Hp → (It → Hp → Prop) → Prop
def PIE (X : Cx) (pins : List (Addr × Obj)) (σ : St) (tg : Expr) (R : It → Hp → Prop) (itv : Value) (s2 : Shared) : Prop :=
  ∃ (it : Addr) (fp : List Addr) (tn : Nat → Heap → Prop) (J : It) (H' : Hp), itv = .ref it ∧ Inv X pins σ H' s2 ∧ Turn X.prog X.w X.K tg J fp it tn ∧ tn 0 s2.heap ∧ (∀ b ∈ fp, FpOk X pins H' b) ∧ R J H'
def PI (X : Cx) (tg iter : Expr) (wi : TI) : Prop :=
  ∀ (pins : List (Addr × Obj)) (s : Shared) (σ : St) (H : Hp) (R : It → Hp → Prop), Inv X pins σ H s → wi σ H R →
    wpAny (model X.prog X.w) X.A (eval iter X.env) (fun v s1 => wpAny (model X.prog X.w) X.A (pyIter v) (PIE X pins σ tg R) X.xe s1) X.xe s
theorem go_of {M : Model} {A : Around} {E : Value → Shared → Prop} {s : Shared} {tg : Expr} {it : Addr} {u : Value} {o : Obj} {n : String} {vs : Array Value} {Q : Unit → Shared → Prop} (ho : s.heap.get? it = some o) (hc : o.cls = .type n) (hd : o.data = .fields vs)
    (hn : ["enumerate", "zip", "dict_itemiterator", "dict_reverseitemiterator", "odict_iterator", "itertools.zip_longest", "itertools.pairwise"].contains n = false) (hQ : Q () s) : wpAny M A (letOwnedTupleGo tg (.ref it) u) Q E s := by
  unfold letOwnedTupleGo
  cases tg <;> first
    | exact wpAny_pure hQ
    | (cases u <;> first
        | exact wpAny_pure hQ
        | (refine wpAny_bind (wpAny_load ho ?_)
           rw [hc, hd]
           show wpAny M A (if (["enumerate", "zip", "dict_itemiterator", "dict_reverseitemiterator", "odict_iterator", "itertools.zip_longest", "itertools.pairwise"].contains n && vs[0]? == some (rawInt _)) = true then _ else _) Q E s
           rw [if_neg (by intro h; rw [hn, Bool.false_and] at h; cases h)]
           exact wpAny_pure hQ))
def Itl (K : PySem.W.Frag) (a : Addr) : It :=
  ⟨fun i H => ∃ xs x, SqL K H a xs ∧ xs[i]? = some x, fun i H x H' => H' = H ∧ ∀ xs, SqL K H a xs → xs[i]? = some x, fun i H => ∃ xs, SqL K H a xs ∧ xs.length ≤ i⟩
def Itt (K : PySem.W.Frag) (a : Addr) : It :=
  ⟨fun i H => ∃ xs x, SqT K H a xs ∧ xs[i]? = some x, fun i H x H' => H' = H ∧ ∀ xs, SqT K H a xs → xs[i]? = some x, fun i H => ∃ xs, SqT K H a xs ∧ xs.length ≤ i⟩
def Itr (lo : Int) (n : Nat) : It := ⟨fun i _ => i < n, fun i H x H' => H' = H ∧ x = .int (lo + i), fun i _ => n ≤ i⟩
theorem turn_list {P : Program} {w : World} {K : PySem.W.Frag} {tg : Expr} (a it : Addr) : Turn P w K tg (Itl K a) [it] it (fun i h => h.IsListIter it a i) where
  mem := by simp
  obj := fun i h st b hb => by
    have e : b = it := by simpa using hb
    subst e
    obtain ⟨o, e, c, d⟩ := st
    exact ⟨o, e, fun v z => by rw [d] at z; cases z⟩
  keep := fun i h h' st k => st.at fun o e => k it (by simp) o e
  item := by
    intro X hP hw hK hc i pins s σ H E I hf st hg
    subst hP hw hK
    obtain ⟨xs, x, hq, hx⟩ := hg
    obtain ⟨its, rv, p, hz⟩ := I.list hq
    obtain ⟨u, hu, ru⟩ := rv.get hx
    obtain ⟨f0, f1, f2, f3, f4, f5⟩ := hf it (by simp)
    refine wpAny_pyNext_list_item st p.isList (x := u) (by simpa using hu) fun h' st' sb => ?_
    have I1 : Inv X pins σ H { s with heap := h' } := I.turned (t' := s.toks) (fun b o hb e => (sb.2 b hb).trans e) f0 f1 f3 f4 f5
    obtain ⟨o, e, c, d⟩ := id st'
    exact ⟨u, rfl, go_of (s := { s with heap := h' }) e c d (by decide) ⟨x, H, I1, ru, ⟨rfl, fun ys hy => by rw [I.list_inj hy hq]; exact hx⟩, st', fun b hb => (hf b hb).1⟩⟩
  done := by
    intro X hP hw hK hc i pins s σ H E I hf st hg
    subst hP hw hK
    obtain ⟨xs, hq, hx⟩ := hg
    obtain ⟨its, rv, p, hz⟩ := I.list hq
    obtain ⟨f0, f1, f2, f3, f4, f5⟩ := hf it (by simp)
    have hl := rv.length
    exact wpAny_pyNext_list_end (I.ok.hd hc) st p.isList (by simp; omega) fun h' eb => ⟨rfl, I.turned (t' := s.toks) (fun b o hb e => eb b o hb e) f0 f1 f3 f4 f5⟩
  self := fun _ _ _ _ _ st h => wpAny_pyIter_listiter st h
theorem turn_tuple {P : Program} {w : World} {K : PySem.W.Frag} {tg : Expr} (a it : Addr) : Turn P w K tg (Itt K a) [it] it (fun i h => h.IsTupleIter it a i) where
  mem := by simp
  obj := fun i h st b hb => by
    have e : b = it := by simpa using hb
    subst e
    obtain ⟨o, e, c, d⟩ := st
    exact ⟨o, e, fun v z => by rw [d] at z; cases z⟩
  keep := fun i h h' st k => st.at fun o e => k it (by simp) o e
  item := by
    intro X hP hw hK hc i pins s σ H E I hf st hg
    subst hP hw hK
    obtain ⟨xs, x, hq, hx⟩ := hg
    obtain ⟨its, rv, p, hz⟩ := I.tuple hq
    obtain ⟨u, hu, ru⟩ := rv.get hx
    obtain ⟨f0, f1, f2, f3, f4, f5⟩ := hf it (by simp)
    refine wpAny_pyNext_tuple_item st (show s.heap.IsTuple a its.toArray from p) (x := u) (by simpa using hu) fun h' st' sb => ?_
    have I1 : Inv X pins σ H { s with heap := h' } := I.turned (t' := s.toks) (fun b o hb e => (sb.2 b hb).trans e) f0 f1 f3 f4 f5
    obtain ⟨o, e, c, d⟩ := id st'
    exact ⟨u, rfl, go_of (s := { s with heap := h' }) e c d (by decide) ⟨x, H, I1, ru, ⟨rfl, fun ys hy => by rw [I.tuple_inj hy hq]; exact hx⟩, st', fun b hb => (hf b hb).1⟩⟩
  done := by
    intro X hP hw hK hc i pins s σ H E I hf st hg
    subst hP hw hK
    obtain ⟨xs, hq, hx⟩ := hg
    obtain ⟨its, rv, p, hz⟩ := I.tuple hq
    obtain ⟨f0, f1, f2, f3, f4, f5⟩ := hf it (by simp)
    have hl := rv.length
    exact wpAny_pyNext_tuple_end (I.ok.hd hc) st (show s.heap.IsTuple a its.toArray from p) (by simp; omega) fun h' eb => ⟨rfl, I.turned (t' := s.toks) (fun b o hb e => eb b o hb e) f0 f1 f3 f4 f5⟩
  self := fun _ _ _ _ _ st h => wpAny_pyIter_tupleiter st h
theorem turn_range {P : Program} {w : World} {K : PySem.W.Frag} {tg : Expr} (it : Addr) (lo : Int) (n : Nat) : Turn P w K tg (Itr lo n) [it] it (fun i h => IsRangeIter h it (lo + (i : Nat) * 1) ((n : Int) - (i : Nat)) 1) where
  mem := by simp
  obj := fun i h st b hb => by
    have e : b = it := by simpa using hb
    subst e
    exact ⟨_, st, fun v z => by
      have z' : Data.fields _ = Data.cell v := z
      cases z'⟩
  keep := fun i h h' st k => k it (by simp) _ st
  item := by
    intro X hP hw hK hc i pins s σ H E I hf st hg
    subst hP hw hK
    obtain ⟨f0, f1, f2, f3, f4, f5⟩ := hf it (by simp)
    have W := Walks.range (prog := X.prog) (w := X.w) (I.ok.hd hc) it lo 1 n
    refine W.item i s _ _ hg st fun v h' tk hv st' kk => ?_
    obtain ⟨t, rfl⟩ := hv
    have I1 : Inv X pins σ H { s with heap := h', toks := tk } := I.turned (fun b o hb e => kk b o (by simpa using hb) e) f0 f1 f3 f4 f5
    refine ⟨_, rfl, go_of (s := { s with heap := h', toks := tk }) (n := "range_iterator") st' rfl rfl (by decide) ⟨.int (lo + i), H, I1, ⟨t, ?_⟩, ⟨rfl, rfl⟩, st', fun b hb => (hf b hb).1⟩⟩
    rw [Int.mul_one]
  done := by
    intro X hP hw hK hc i pins s σ H E I hf st hg
    subst hP hw hK
    obtain ⟨f0, f1, f2, f3, f4, f5⟩ := hf it (by simp)
    exact wpAny_pyNext_range_end (I.ok.hd hc) st (by have : n ≤ i := hg; omega) fun h' eb => ⟨rfl, I.turned (t' := s.toks) (fun b o hb e => eb b o hb e) f0 f1 f3 f4 f5⟩
  self := fun _ _ _ _ _ st h => wpAny_pyIter_rangeiter st h
section
variable {X : Cx} {tg : Expr}
theorem range_it {pins : List (Addr × Obj)} {σ : St} {H : Hp} {s : Shared} {R : It → Hp → Prop} {E : Value → Shared → Prop} {lo hi : Int} {t u v : Tok} {tk : Nat} (I : Inv X pins σ H s) (h1 : -(2 ^ 62) ≤ lo) (h2 : lo < 2 ^ 62) (h3 : -(2 ^ 62) ≤ hi) (h4 : hi < 2 ^ 62)
    (q : R (Itr lo (hi - lo).toNat) H) : wpAny (model X.prog X.w) X.A (pyIter (.ref s.heap.objs.size)) (PIE X pins σ tg R) E { s with heap := s.heap.push { cls := .type "range", data := .fields #[.int lo t, .int hi u, .int 1 v] }, toks := tk } := by
  refine wpAny_pyIter_range (IsRange.new ..) (small_one h1 h2 h3 h4) ?_
  have I1 : Inv X pins σ H { s with heap := s.heap.push { cls := .type "range", data := .fields #[.int lo t, .int hi u, .int 1 v] }, toks := tk } := I.kept fun b o e => Heap.get?_push_of_some _ e
  refine ⟨(s.heap.push { cls := .type "range", data := .fields #[.int lo t, .int hi u, .int 1 v] }).objs.size, [(s.heap.push { cls := .type "range", data := .fields #[.int lo t, .int hi u, .int 1 v] }).objs.size], _, _, H, rfl,
    I1.kept (t' := tk) fun b o e => Heap.get?_push_of_some _ e, turn_range _ lo (hi - lo).toNat, ?_, fun b hb => ?_, q⟩
  · have e1 : lo + ((0 : Nat) : Int) * 1 = lo := by simp
    have e2 : (((hi - lo).toNat : Nat) : Int) - ((0 : Nat) : Int) = Builtin.Range.rangeSize lo hi 1 := by rw [rangeSize_one]; split <;> omega
    show IsRangeIter _ _ (lo + ((0 : Nat) : Int) * 1) ((((hi - lo).toNat : Nat) : Int) - ((0 : Nat) : Int)) 1
    rw [e1, e2]
    exact Heap.get?_push_size _ rfl
  · have e : b = (s.heap.push { cls := .type "range", data := .fields #[.int lo t, .int hi u, .int 1 v] }).objs.size := by simpa using hb
    subst e
    exact I1.fpOk (Nat.le_refl _) (I1.hok.fresh (Nat.le_refl _))
def iRng1 (ta : TA) : TI := fun σ H R => ta σ H fun vs H1 => ∃ j : Int, vs = [.int j] ∧ -(2 ^ 62) ≤ j ∧ j < 2 ^ 62 ∧ R (Itr 0 j.toNat) H1
theorem pi_range1 {a : Expr} {ta : TA} {p pos : Pos} (hg : Gl X "range") (hm : X.mg "range" = none) (ha : PA X [a] ta) (hs : starEach [a] X.env = [(false, eval a X.env)] := by rfl) : PI X tg (.Call (.Name "range" p) [a] [] pos) (iRng1 ta) := by
  intro pins s σ H R I h
  refine Call_ (ld_blt I hg hm boot_range (PyProof.Rows.callWith_type1 (thn (ha pos pins s σ H _ I h) fun us s1 ⟨vs, H1, I1, r1, q1⟩ => ?_) hs rfl))
  obtain ⟨j, e, q1, q2, q⟩ := q1
  subst e
  cases r1 with
  | cons r rr =>
    cases rr
    obtain ⟨t, rfl⟩ := r
    exact call_range_1 (range_it I1 (by omega) (by omega) q1 q2 (by simpa using q))
def tFor (wi : TI) (g : TG) (tb : TS) : TS := fun D σ H => wi σ H fun J H1 => ∃ W : Nat → Nat → St → Hp → Prop, (∃ m, W 0 m σ H1) ∧ ∀ i m σ H, W i m σ H →
  (J.stop i H ∧ D.nx σ H) ∨ (J.go i H ∧ ∃ N : St → Hp → Prop, (∀ σ' H', N σ' H' → ∃ m', m' < m ∧ W (i + 1) m' σ' H') ∧ ∀ x H', J.yld i H x H' → g x σ H' fun σ2 H2 => tb { D with nx := N, ct := N, bk := D.nx } σ2 H2)
def pinsAt (fp : List Addr) (h : Heap) : List (Addr × Obj) := fp.filterMap fun b => (h.get? b).map fun o => (b, o)
theorem mem_pinsAt {fp : List Addr} {h : Heap} {b : Addr} {o : Obj} (hb : b ∈ fp) (e : h.get? b = some o) : (b, o) ∈ pinsAt fp h := List.mem_filterMap.mpr ⟨b, hb, by rw [e]; rfl⟩
theorem of_pinsAt {fp : List Addr} {h : Heap} {p : Addr × Obj} (hp : p ∈ pinsAt fp h) : p.1 ∈ fp ∧ h.get? p.1 = some p.2 := by
  obtain ⟨b, hb, e⟩ := List.mem_filterMap.mp hp
  cases q : h.get? b with
  | none => rw [q] at e; cases e
  | some o =>
    rw [q] at e
    have e' : (b, o) = p := Option.some.inj e
    subst e'
    exact ⟨hb, q⟩
theorem Inv.pinned {pins : List (Addr × Obj)} {σ : St} {H : Hp} {s : Shared} {fp : List Addr} (I : Inv X pins σ H s) (hf : ∀ b ∈ fp, FpOk X pins H b) (ho : ∀ b ∈ fp, ∃ o, s.heap.get? b = some o ∧ ∀ v, o.data ≠ .cell v) : Inv X (pins ++ pinsAt fp s.heap) σ H s :=
  I.pins_of fun p hp => (List.mem_append.mp hp).elim (fun z => I.pin p (List.mem_append_right _ z)) fun z => by
    obtain ⟨hb, e⟩ := of_pinsAt z
    obtain ⟨f0, f1, f2, _⟩ := hf p.1 hb
    obtain ⟨o, e', d⟩ := ho p.1 hb
    rw [e] at e'; cases e'
    exact ⟨e, f0, f1, f2, d⟩
theorem Inv.unpinned {pins pl : List (Addr × Obj)} {σ : St} {H : Hp} {s : Shared} (I : Inv X (pins ++ pl) σ H s) : Inv X pins σ H s := I.pins_of fun p hp => I.pin p (List.mem_append_right _ (List.mem_append_left _ hp))
theorem ps_for {iter : Expr} {body : List Stmt} {wi : TI} {g : TG} {tb : TS} {pos : Pos} (hp : PassesOwn (model X.prog X.w) X.A X.env X.xe) (hc : X.calm = true) (hi : PI X tg iter wi) (hg : PG X tg g) (hb : PSs X body tb)
    (hs : ∀ x, foldedSetIterable iter X.env x = pure x := by intro _; rfl) : PS X (.For tg iter body [] pos) (tFor wi g tb) := by
  intro pins s σ H D I h
  refine wpAny_For (thn (hi pins s σ H _ I h) fun v s1 h1 => thn h1 fun itv s2 h2 => ?_) hs
  obtain ⟨it, fp, tn, J, H2, e, I2, T, st2, f2, W, ⟨m0, w0⟩, turn⟩ := h2
  subst e
  -- what stays true of the iterator's objects through the loop
  have stat : ∀ {H' : Hp}, (∀ b ∈ fp, H' b = none) → ∀ b ∈ fp, FpOk X pins H' b := fun hn b hb => ⟨hn b hb, (f2 b hb).2⟩
  refine codeAny_forLoop_any (fun n s' => ∃ i σ' H', Inv X pins σ' H' s' ∧ tn i s'.heap ∧ (∀ b ∈ fp, H' b = none) ∧ W i n σ' H') ?_ m0 ⟨0, σ, H2, I2, st2, fun b hb => (f2 b hb).1, w0⟩
  rintro n s3 ⟨i, σ3, H3, I3, st3, fr3, w3⟩
  rcases turn i n σ3 H3 w3 with ⟨stop, qn⟩ | ⟨go, N, hN, step⟩
  · refine wpAny_passesOwn hp (thn (T.done X rfl rfl rfl hc i pins s3 σ3 H3 X.xe I3 (stat fr3) st3 stop) fun r s4 ⟨hr, I4⟩ => ?_)
    subst hr
    exact wpAny_execs_nil ⟨σ3, H3, I4, qn⟩
  · refine wpAny_passesOwn hp (thn (T.item X rfl rfl rfl hc i pins s3 σ3 H3 X.xe I3 (stat fr3) st3 go) fun r s4 ⟨u, hr, h4⟩ => ?_)
    subst hr
    refine wpAny_passesOwn hp (thn h4 fun _ s5 ⟨x, H5, I5, r5, y5, st5, fr5⟩ => ?_)
    have I5' := I5.pinned (stat fr5) (T.obj _ _ st5)
    refine wpAny_passesOwn hp (thn (hg _ s5 σ3 H5 x u _ I5' r5 (step x H5 y5)) fun _ s6 ⟨σ6, H6, I6, q6⟩ => ?_)
    refine wpAny_passesOwn hp (thn (hb _ s6 σ6 H6 _ I6 q6) fun f s7 q7 => ?_)
    have again : ∀ {σ7 : St} {H7 : Hp}, Inv X (pins ++ pinsAt fp s5.heap) σ7 H7 s7 → N σ7 H7 → ∃ m, m < n ∧ ∃ i σ' H', Inv X pins σ' H' s7 ∧ tn i s7.heap ∧ (∀ b ∈ fp, H' b = none) ∧ W i m σ' H' := fun {σ7 H7} I7 n7 => by
      obtain ⟨m', hm, w7⟩ := hN σ7 H7 n7
      refine ⟨m', hm, i + 1, σ7, H7, I7.unpinned, T.keep _ _ _ st5 fun b hb o e => (I7.pin (b, o) (List.mem_append_right _ (List.mem_append_right _ (mem_pinsAt hb e)))).1, fun b hb => ?_, w7⟩
      obtain ⟨o, e, d⟩ := T.obj _ _ st5 b hb
      exact (I7.pin (b, o) (List.mem_append_right _ (List.mem_append_right _ (mem_pinsAt hb e)))).2.1
    cases f with
    | next => obtain ⟨σ7, H7, I7, n7⟩ := q7; exact again I7 n7
    | cont => obtain ⟨σ7, H7, I7, n7⟩ := q7; exact again I7 n7
    | brk => obtain ⟨σ7, H7, I7, q7⟩ := q7; exact ⟨σ7, H7, I7.unpinned, q7⟩
    | ret v => obtain ⟨x7, σ7, H7, I7, r7, q7⟩ := q7; exact ⟨x7, σ7, H7, I7.unpinned, r7, q7⟩
end
abbrev R2 := V → V → Hp → VK → Prop
def OpR (X : Cx) (f : Value → Value → Sem Value) (r : R2) : Prop :=
  ∀ (pins : List (Addr × Obj)) (s : Shared) (σ : St) (H : Hp) (x y : V) (v u : Value) (Q : VK), Inv X pins σ H s → RelV x v → RelV y u → r x y H Q →
    wpAny (model X.prog X.w) X.A (f v u) (EP X pins σ Q) X.xe s
def UnR (X : Cx) (f : Value → Sem Value) (r : V → Hp → VK → Prop) : Prop :=
  ∀ (pins : List (Addr × Obj)) (s : Shared) (σ : St) (H : Hp) (x : V) (v : Value) (Q : VK), Inv X pins σ H s → RelV x v → r x H Q →
    wpAny (model X.prog X.w) X.A (f v) (EP X pins σ Q) X.xe s
def CallR (X : Cx) (f : Value) (r : List V → Hp → VK → Prop) : Prop :=
  ∀ (pins : List (Addr × Obj)) (s : Shared) (σ : St) (H : Hp) (xs : List V) (us : List Value) (Q : VK), Inv X pins σ H s → Vals xs us → r xs H Q →
    wpAny (model X.prog X.w) X.A (call f us) (EP X pins σ Q) X.xe s
def TruR (X : Cx) (r : V → Hp → (Bool → Hp → Prop) → Prop) : Prop :=
  ∀ (pins : List (Addr × Obj)) (s : Shared) (σ : St) (H : Hp) (x : V) (v : Value) (Q : Bool → Hp → Prop), Inv X pins σ H s → RelV x v → r x H Q →
    wpAny (model X.prog X.w) X.A (truthy v) (TP X pins σ Q) X.xe s
def tOp (r : R2) (ta tb : TE) : TE := fun σ H Q => ta σ H fun x H1 => tb σ H1 fun y H2 => r x y H2 Q
def tUn (r : V → Hp → VK → Prop) (ta : TE) : TE := fun σ H Q => ta σ H fun x H1 => r x H1 Q
def rI (C : Int → Int → Prop) (g : Int → Int → V) : R2 := fun x y H Q => ∃ i j, x = .int i ∧ y = .int j ∧ C i j ∧ Q (g i j) H
def rI0 (g : Int → Int → V) : R2 := fun x y H Q => ∃ i j, x = .int i ∧ y = .int j ∧ Q (g i j) H
def rU (g : Int → V) : V → Hp → VK → Prop := fun x H Q => ∃ i, x = .int i ∧ Q (g i) H
section
variable {X : Cx} {a b c : Expr} {ta tb tc : TE} {pos : Pos}
theorem binT (ha : PE X a ta) (hb : PE X b tb) {pins : List (Addr × Obj)} {s : Shared} {σ : St} {H : Hp} {R : V → V → Hp → Prop} (I : Inv X pins σ H s)
    (h : ta σ H fun x H1 => tb σ H1 fun y H2 => R x y H2) {Q : Value → Shared → Prop} {f : Value → Value → Sem Value}
    (hf : ∀ v u s2 x y H2, Inv X pins σ H2 s2 → RelV x v → RelV y u → R x y H2 → wpAny (model X.prog X.w) X.A (f v u) Q X.xe s2) :
    wpAny (model X.prog X.w) X.A (eval a X.env) (fun v s₁ => wpAny (model X.prog X.w) X.A (eval b X.env) (fun u s₂ => wpAny (model X.prog X.w) X.A (f v u) Q X.xe s₂) X.xe s₁) X.xe s := by
  refine thn (ha pins s σ H _ I h) fun v s1 ⟨x, H1, I1, r1, q1⟩ => ?_
  refine thn (hb pins s1 σ H1 _ I1 q1) fun u s2 ⟨y, H2, I2, r2, q2⟩ => ?_
  exact hf v u s2 x y H2 I2 r1 r2 q2
theorem pe_op {op : Operator} {r : R2} (ho : OpR X (binaryOp op) r) (ha : PE X a ta) (hb : PE X b tb) : PE X (.BinOp a op b pos) (tOp r ta tb) := by
  intro pins s σ H Q I h
  exact wpAny_BinOp (binT ha hb I h fun v u s2 x y H2 I2 rx ry q => ho pins s2 σ H2 x y v u Q I2 rx ry q)
theorem pe_un {op : UnaryOp} {r : V → Hp → VK → Prop} (ho : UnR X (unaryOp op) r) (ha : PE X a ta) : PE X (.UnaryOp op a pos) (tUn r ta) := by
  intro pins s σ H Q I h
  exact UnaryOp_ (thn (ha pins s σ H _ I h) fun v s1 ⟨x, H1, I1, r1, q1⟩ => ho pins s1 σ H1 x v Q I1 r1 q1)
theorem opI {f : Value → Value → Sem Value} {C : Int → Int → Prop} {g : Int → Int → Int}
    (rule : ∀ (i j : Int) (t u : Tok) (s : Shared) (Q : Value → Shared → Prop) (E : Value → Shared → Prop), C i j → Q (.int (g i j) s.toks) { s with toks := s.toks + 1 } → wpAny (model X.prog X.w) X.A (f (.int i t) (.int j u)) Q E s) :
    OpR X f (rI C fun i j => .int (g i j)) := by
  intro pins s σ H x y v u Q I rx ry h
  obtain ⟨i, j, rfl, rfl, hc, q⟩ := h
  obtain ⟨t, rfl⟩ := rx
  obtain ⟨t', rfl⟩ := ry
  exact rule i j t t' s _ _ hc ⟨.int (g i j), H, I.tok _, ⟨_, rfl⟩, q⟩
theorem opI0 {f : Value → Value → Sem Value} {g : Int → Int → Int}
    (rule : ∀ (i j : Int) (t u : Tok) (s : Shared) (Q : Value → Shared → Prop) (E : Value → Shared → Prop), Q (.int (g i j) s.toks) { s with toks := s.toks + 1 } → wpAny (model X.prog X.w) X.A (f (.int i t) (.int j u)) Q E s) :
    OpR X f (rI0 fun i j => .int (g i j)) := by
  intro pins s σ H x y v u Q I rx ry h
  obtain ⟨i, j, rfl, rfl, q⟩ := h
  obtain ⟨t, rfl⟩ := rx
  obtain ⟨t', rfl⟩ := ry
  exact rule i j t t' s _ _ ⟨.int (g i j), H, I.tok _, ⟨_, rfl⟩, q⟩
theorem opB0 {f : Value → Value → Sem Value} {g : Int → Int → Bool}
    (rule : ∀ (i j : Int) (t u : Tok) (s : Shared) (Q : Value → Shared → Prop) (E : Value → Shared → Prop), Q (.bool (g i j)) s → wpAny (model X.prog X.w) X.A (f (.int i t) (.int j u)) Q E s) :
    OpR X f (rI0 fun i j => .bl (g i j)) := by
  intro pins s σ H x y v u Q I rx ry h
  obtain ⟨i, j, rfl, rfl, q⟩ := h
  obtain ⟨t, rfl⟩ := rx
  obtain ⟨t', rfl⟩ := ry
  exact rule i j t t' s _ _ ⟨.bl (g i j), H, I, rfl, q⟩
def CPow (i j : Int) : Prop := 0 ≤ j ∧ j ≤ 1000000 ∧ i.natAbs < 2 ^ 64
def CMul (i j : Int) : Prop := (-(2 ^ 64) < i ∧ i < 2 ^ 64) ∨ (-(2 ^ 64) < j ∧ j < 2 ^ 64)
theorem CMul.ok {i j : Int} (h : CMul i j) : IntMulOk i j := by
  rcases h with ⟨h1, h2⟩ | ⟨h1, h2⟩
  · exact .of_left (intBits_le_64 h1 h2)
  · exact .of_right (intBits_le_64 h1 h2)
theorem two_pow_nn (k : Nat) : (0 : Int) ≤ 2 ^ k := by
  rw [two_pow_cast]
  exact Int.natCast_nonneg _
theorem op_add : OpR X (binaryOp .Add) (rI0 fun i j => .int (i + j)) := opI0 fun _ _ _ _ _ _ _ q => add_int q
theorem op_sub : OpR X (binaryOp .Sub) (rI0 fun i j => .int (i - j)) := opI0 fun _ _ _ _ _ _ _ q => sub_int q
theorem op_mod : OpR X (binaryOp .Mod) (rI (fun _ j => 0 < j) fun i j => .int (i % j)) := opI fun i j _ _ _ _ _ hc q => by
  have h1 : (0 : Int) < j := hc
  exact mod_int' (by omega) (by rw [Int.fmod_eq_emod_of_nonneg i (by omega)]; exact q)
theorem op_pow : OpR X (binaryOp .Pow) (rI CPow fun i j => .int (i ^ j.toNat)) := opI fun _ _ _ _ _ _ _ hc q => pow_int_small hc.1 hc.2.1 hc.2.2 q
theorem unI {f : Value → Sem Value} {g : Int → Int}
    (rule : ∀ (i : Int) (t : Tok) (s : Shared) (Q : Value → Shared → Prop) (E : Value → Shared → Prop), Q (.int (g i) s.toks) { s with toks := s.toks + 1 } → wpAny (model X.prog X.w) X.A (f (.int i t)) Q E s) :
    UnR X f (rU fun i => .int (g i)) := by
  intro pins s σ H x v Q I rx h
  obtain ⟨i, rfl, q⟩ := h
  obtain ⟨t, rfl⟩ := rx
  exact rule i t s _ _ ⟨.int (g i), H, I.tok _, ⟨_, rfl⟩, q⟩
theorem un_neg : UnR X (unaryOp .USub) (rU fun i => .int (-i)) := unI fun _ _ _ _ _ q => neg_int q
end
def scal : V → V → Bool
  | .non, .non => true | .non, .int _ => true | .int _, .non => true | .non, .bl _ => true | .bl _, .non => true | .non, .str _ => true | .str _, .non => true
  | .int _, .int _ => true | .bl _, .bl _ => true | .str _, .str _ => true | .byt _, .byt _ => true
  | .int _, .str _ => true | .str _, .int _ => true | .bl _, .str _ => true | .str _, .bl _ => true
  | _, _ => false
def rEq : R2 := fun x y H Q => scal x y = true ∧ Q (.bl (decide (x = y))) H
def rNe : R2 := fun x y H Q => scal x y = true ∧ Q (.bl (!decide (x = y))) H
theorem dec_int {i j : Int} : decide (V.int i = V.int j) = (i == j) := by
  rw [Bool.eq_iff_iff]
  simp
theorem dec_bl {i j : Bool} : decide (V.bl i = V.bl j) = (i == j) := by
  rw [Bool.eq_iff_iff]
  simp
theorem dec_str {i j : Str} : decide (V.str i = V.str j) = (i == j) := by
  rw [Bool.eq_iff_iff]
  simp
theorem dec_byt {i j : Array UInt8} : decide (V.byt i = V.byt j) = (i.toList == j.toList) := by
  rw [Bool.eq_iff_iff]
  cases i
  cases j
  simp
section
variable {X : Cx} {a b c : Expr} {ta tb tc : TE} {pos : Pos}
theorem fin_bl {pins : List (Addr × Obj)} {σ : St} {H : Hp} {s : Shared} {Q : VK} {k k' : Bool} (I : Inv X pins σ H s) (q : Q (.bl k) H) (e : k = k') : EP X pins σ Q (.bool k') s := by
  subst e
  exact ⟨.bl k, H, I, rfl, q⟩
theorem op_eq : OpR X (compareOp .Eq) rEq := by
  intro pins s σ H x y v u Q I rx ry h
  obtain ⟨hs, q⟩ := h
  cases x with
  | non =>
    cases rx
    cases y with
    | non => cases ry; exact PySem.EqNone.eq_none_none (fin_bl I q (by simp))
    | bl j => cases ry; exact PySem.EqNone.eq_none_bool (fin_bl I q (by simp))
    | int j => obtain ⟨t', rfl⟩ := ry; exact PySem.EqNone.eq_none_int (fin_bl I q (by simp))
    | str j => obtain ⟨t', rfl⟩ := ry; exact PySem.EqNone.eq_none_str (fin_bl I q (by simp))
    | _ => exact absurd (show false = true from hs) Bool.false_ne_true
  | bl i =>
    cases rx
    cases y with
    | non => cases ry; exact PySem.EqNone.eq_bool_none (fin_bl I q (by simp))
    | bl j => cases ry; exact eq_bool (fin_bl I q dec_bl)
    | str j => obtain ⟨t', rfl⟩ := ry; exact PySem.EqMixed.eq_bool_str (fin_bl I q (by simp))
    | _ => exact absurd (show false = true from hs) Bool.false_ne_true
  | int i =>
    obtain ⟨t, rfl⟩ := rx
    cases y with
    | non => cases ry; exact PySem.EqNone.eq_int_none (fin_bl I q (by simp))
    | int j => obtain ⟨t', rfl⟩ := ry; exact eq_int (fin_bl I q dec_int)
    | str j => obtain ⟨t', rfl⟩ := ry; exact PySem.EqMixed.eq_int_str (fin_bl I q (by simp))
    | _ => exact absurd (show false = true from hs) Bool.false_ne_true
  | str i =>
    obtain ⟨t, rfl⟩ := rx
    cases y with
    | non => cases ry; exact PySem.EqNone.eq_str_none (fin_bl I q (by simp))
    | bl j => cases ry; exact PySem.EqMixed.eq_str_bool (fin_bl I q (by simp))
    | int j => obtain ⟨t', rfl⟩ := ry; exact PySem.EqMixed.eq_str_int (fin_bl I q (by simp))
    | str j => obtain ⟨t', rfl⟩ := ry; exact eq_str (fin_bl I q dec_str)
    | _ => exact absurd (show false = true from hs) Bool.false_ne_true
  | byt i =>
    obtain ⟨t, rfl⟩ := rx
    cases y with
    | byt j => obtain ⟨t', rfl⟩ := ry; exact PySem.W.eq_bytes (fin_bl I q dec_byt)
    | _ => exact absurd (show false = true from hs) Bool.false_ne_true
  | _ => cases y <;> exact absurd (show false = true from hs) Bool.false_ne_true
theorem op_ne : OpR X (compareOp .NotEq) rNe := by
  intro pins s σ H x y v u Q I rx ry h
  obtain ⟨hs, q⟩ := h
  cases x with
  | non =>
    cases rx
    cases y with
    | non => cases ry; exact PySem.EqNone.ne_none_none (fin_bl I q (by simp))
    | bl j => cases ry; exact PySem.EqNone.ne_none_bool (fin_bl I q (by simp))
    | int j => obtain ⟨t', rfl⟩ := ry; exact PySem.EqNone.ne_none_int (fin_bl I q (by simp))
    | str j => obtain ⟨t', rfl⟩ := ry; exact PySem.EqNone.ne_none_str (fin_bl I q (by simp))
    | _ => exact absurd (show false = true from hs) Bool.false_ne_true
  | bl i =>
    cases rx
    cases y with
    | non => cases ry; exact PySem.EqNone.ne_bool_none (fin_bl I q (by simp))
    | bl j => cases ry; exact ne_bool (fin_bl I q (congrArg not dec_bl))
    | str j => obtain ⟨t', rfl⟩ := ry; exact PySem.EqMixed.ne_bool_str (fin_bl I q (by simp))
    | _ => exact absurd (show false = true from hs) Bool.false_ne_true
  | int i =>
    obtain ⟨t, rfl⟩ := rx
    cases y with
    | non => cases ry; exact PySem.EqNone.ne_int_none (fin_bl I q (by simp))
    | int j => obtain ⟨t', rfl⟩ := ry; exact ne_int (fin_bl I q (congrArg not dec_int))
    | str j => obtain ⟨t', rfl⟩ := ry; exact PySem.EqMixed.ne_int_str (fin_bl I q (by simp))
    | _ => exact absurd (show false = true from hs) Bool.false_ne_true
  | str i =>
    obtain ⟨t, rfl⟩ := rx
    cases y with
    | non => cases ry; exact PySem.EqNone.ne_str_none (fin_bl I q (by simp))
    | bl j => cases ry; exact PySem.EqMixed.ne_str_bool (fin_bl I q (by simp))
    | int j => obtain ⟨t', rfl⟩ := ry; exact PySem.EqMixed.ne_str_int (fin_bl I q (by simp))
    | str j => obtain ⟨t', rfl⟩ := ry; exact ne_str (fin_bl I q (congrArg not dec_str))
    | _ => exact absurd (show false = true from hs) Bool.false_ne_true
  | byt i =>
    obtain ⟨t, rfl⟩ := rx
    cases y with
    | byt j => obtain ⟨t', rfl⟩ := ry; exact PySem.W.ne_bytes (fin_bl I q (congrArg not dec_byt))
    | _ => exact absurd (show false = true from hs) Bool.false_ne_true
  | _ => cases y <;> exact absurd (show false = true from hs) Bool.false_ne_true
theorem op_lt : OpR X (compareOp .Lt) (rI0 fun i j => .bl (decide (i < j))) := opB0 fun _ _ _ _ _ _ _ q => lt_int q
theorem op_le : OpR X (compareOp .LtE) (rI0 fun i j => .bl (decide (i ≤ j))) := opB0 fun _ _ _ _ _ _ _ q => le_int q
theorem op_gt : OpR X (compareOp .Gt) (rI0 fun i j => .bl (decide (j < i))) := opB0 fun _ _ _ _ _ _ _ q => gt_int q
theorem op_ge : OpR X (compareOp .GtE) (rI0 fun i j => .bl (decide (j ≤ i))) := opB0 fun _ _ _ _ _ _ _ q => ge_int q
theorem op_in_str : OpR X (compareOp .In) (fun x y H Q => ∃ i j, x = .str i ∧ y = .str j ∧ Q (.bl (!(Builtin.Str.occurrences j i 0 j.length 1).isEmpty)) H) := by
  intro pins s σ H x y v u Q I rx ry h
  obtain ⟨i, j, rfl, rfl, q⟩ := h
  obtain ⟨t, rfl⟩ := rx
  obtain ⟨t', rfl⟩ := ry
  exact in_str (fin_bl I q rfl)
theorem OpR.or {f : Value → Value → Sem Value} {r r' : R2} (h : OpR X f r) (h' : OpR X f r') : OpR X f (fun x y H Q => r x y H Q ∨ r' x y H Q) := by
  intro pins s σ H x y v u Q I rx ry q
  rcases q with q | q
  · exact h pins s σ H x y v u Q I rx ry q
  · exact h' pins s σ H x y v u Q I rx ry q
theorem nomark (b : Expr) {op : CmpOp} (h : op ≠ .In := by decide) (h2 : op ≠ .NotIn := by decide) : behindInMarks op b = false := by
  have e1 : (op == CmpOp.In) = false := by cases op <;> first | rfl | exact absurd rfl h
  have e2 : (op == CmpOp.NotIn) = false := by cases op <;> first | rfl | exact absurd rfl h2
  cases b <;> simp [behindInMarks, e1, e2]
theorem pe_cmpR {op : CmpOp} {r : R2} (ho : OpR X (compareOp op) r) (ha : PE X a ta) (hb : PE X b tb) (hm : behindInMarks op b = false) : PE X (.Compare a [op] [b] pos) (tOp r ta tb) := by
  intro pins s σ H Q I h
  exact wpAny_Compare1 (binT ha hb I h fun v u s2 x y H2 I2 rx ry q => ho pins s2 σ H2 x y v u Q I2 rx ry q) hm
def tTest (t : TE) : TT := fun σ H Q => t σ H fun x H' => ∃ k, x = .bl k ∧ Q k H'
theorem pt_cmpR {op : CmpOp} {r : R2} (ho : OpR X (compareOp op) r) (ha : PE X a ta) (hb : PE X b tb) (hm : behindInMarks op b = false) : PT X (.Compare a [op] [b] pos) (tTest (tOp r ta tb)) := by
  intro pins s σ H Q I h
  refine wpAny_isTrue_Compare1 (thn (ha pins s σ H _ I h) fun v s1 ⟨x, H1, I1, r1, q1⟩ => thn (hb pins s1 σ H1 _ I1 q1) fun u s2 ⟨y, H2, I2, r2, q2⟩ =>
    thn (ho pins s2 σ H2 x y v u _ I2 r1 r2 q2) fun c s3 ⟨z, H3, I3, r3, k, e, q3⟩ => ?_) hm
  subst e
  cases r3
  exact wpAny_truthy_bool ⟨H3, I3, q3⟩
def tChain (r r' : R2) (ta tb tc : TE) : TE := fun σ H Q => ta σ H fun x H1 => tb σ H1 fun y H2 => r x y H2 fun z H3 => ∃ k, z = .bl k ∧
  (if k = true then tc σ H3 fun w' H4 => r' y w' H4 Q else Q (.bl false) H3)
theorem pe_chain {op op' : CmpOp} {r r' : R2} (ho : OpR X (compareOp op) r) (ho' : OpR X (compareOp op') r') (ha : PE X a ta) (hb : PE X b tb) (hc : PE X c tc)
    (hm : lastMarks [op, op'] [b, c] = false := by with_unfolding_all rfl) : PE X (.Compare a [op, op'] [b, c] pos) (tChain r r' ta tb tc) := by
  intro pins s σ H Q I h
  refine Compare_chain (thn (ha pins s σ H _ I h) fun v s1 ⟨x, H1, I1, r1, q1⟩ => chain_link (thn (hb pins s1 σ H1 _ I1 q1) fun u s2 ⟨y, H2, I2, r2, q2⟩ =>
    thn (ho pins s2 σ H2 x y v u _ I2 r1 r2 q2) fun d s3 ⟨z, H3, I3, r3, k, e, q3⟩ => ?_)) hm
  subst e
  cases r3
  refine wpAny_truthy_bool ?_
  cases k with
  | false => exact ite_ff ⟨.bl false, H3, I3, rfl, q3⟩
  | true => exact ite_tt (chain_last (thn (hc pins s3 σ H3 _ I3 q3) fun w' s4 ⟨z', H4, I4, r4, q4⟩ => ho' pins s4 σ H4 y z' u w' Q I4 r2 r4 q4))
theorem pt_chain {op op' : CmpOp} {r r' : R2} (ho : OpR X (compareOp op) r) (ho' : OpR X (compareOp op') r') (ha : PE X a ta) (hb : PE X b tb) (hc : PE X c tc)
    (hm : lastMarks [op, op'] [b, c] = false := by with_unfolding_all rfl) : PT X (.Compare a [op, op'] [b, c] pos) (tTest (tChain r r' ta tb tc)) := by
  intro pins s σ H Q I h
  refine isTrue_chain (thn (ha pins s σ H _ I h) fun v s1 ⟨x, H1, I1, r1, q1⟩ => test_link (thn (hb pins s1 σ H1 _ I1 q1) fun u s2 ⟨y, H2, I2, r2, q2⟩ =>
    thn (ho pins s2 σ H2 x y v u _ I2 r1 r2 q2) fun d s3 ⟨z, H3, I3, r3, k, e, q3⟩ => ?_)) hm
  subst e
  cases r3
  refine wpAny_truthy_bool ?_
  cases k with
  | false =>
    obtain ⟨k', e', q'⟩ := q3
    cases e'
    exact ite_ff ⟨H3, I3, q'⟩
  | true =>
    refine ite_tt (test_last (thn (hc pins s3 σ H3 _ I3 q3) fun w' s4 ⟨z', H4, I4, r4, q4⟩ => thn (ho' pins s4 σ H4 y z' u w' _ I4 r2 r4 q4) fun d' s5 ⟨z2, H5, I5, r5, k2, e2, q5⟩ => ?_))
    subst e2
    cases r5
    exact wpAny_truthy_bool ⟨H5, I5, q5⟩
def TruV (K : PySem.W.Frag) (x : V) (H : Hp) (k : Bool) : Prop :=
  match x with
  | .non => k = false
  | .bl b => k = b
  | .int i => k = (i != 0)
  | .str y => y.length ≤ sizeLine ∧ k = ((y.length : Int) != 0)
  | .byt y => y.size ≤ sizeLine ∧ k = ((y.size : Int) != 0)
  | .ref p => (∃ xs, SqL K H p xs ∧ k = !xs.isEmpty) ∨ (∃ xs, SqT K H p xs ∧ k = !xs.isEmpty) ∨ ∃ kvs, H p = some (.dK kvs) ∧ k = !kvs.isEmpty
  | _ => False
theorem isEmpty_kv {κ : Type} {kvs : List (κ × V)} {vs : List (κ × Value)} (r : KV kvs vs) : (!vs.isEmpty) = !kvs.isEmpty := by
  cases r <;> rfl
theorem isEmpty_of {xs : List V} {its : List Value} (r : Vals xs its) : (!its.toArray.isEmpty) = !xs.isEmpty := by
  cases r <;> simp
theorem line63 : (sizeLine : Nat) < 2 ^ 63 := by rw [sizeLine_eq]; decide
theorem tru_ok : TruR X (fun x H Q => ∃ k, TruV X.K x H k ∧ Q k H) := by
  intro pins s σ H x v Q I rx h
  obtain ⟨k, e, q⟩ := h
  have hl := line63
  have hs : sizeLine = 16777216 := sizeLine_eq
  cases x with
  | non =>
    cases rx
    have e' : k = false := e
    subst e'
    exact truthy_none ⟨H, I, q⟩
  | bl b =>
    cases rx
    have e' : k = b := e
    subst e'
    exact wpAny_truthy_bool ⟨H, I, q⟩
  | int i =>
    obtain ⟨t, rfl⟩ := rx
    have e' : k = (i != 0) := e
    subst e'
    exact PySem.P.truthy_int ⟨H, I, q⟩
  | str y =>
    obtain ⟨t, rfl⟩ := rx
    obtain ⟨hy, e'⟩ : y.length ≤ sizeLine ∧ k = ((y.length : Int) != 0) := e
    subst e'
    exact PySem.P.truthy_str (by omega) ⟨H, I.tok _, q⟩
  | byt y =>
    obtain ⟨t, rfl⟩ := rx
    obtain ⟨hy, e'⟩ : y.size ≤ sizeLine ∧ k = ((y.size : Int) != 0) := e
    subst e'
    exact PySem.W.truthy_bytes (by omega) ⟨H, I.tok _, q⟩
  | ref p =>
    cases rx
    have e' : (∃ xs, SqL X.K H p xs ∧ k = !xs.isEmpty) ∨ (∃ xs, SqT X.K H p xs ∧ k = !xs.isEmpty) ∨ ∃ kvs, H p = some (.dK kvs) ∧ k = !kvs.isEmpty := e
    rcases e' with ⟨xs, hx, e'⟩ | ⟨xs, hx, e'⟩ | ⟨kvs, hx, e'⟩
    · subst e'
      obtain ⟨its, r, pl, hz⟩ := I.list hx
      have hlen := r.length
      exact wpAny_truthy_list pl.isList (by simp only [List.size_toArray]; omega) ⟨H, I.tok _, by rw [isEmpty_of r]; exact q⟩
    · subst e'
      obtain ⟨its, r, pl, hz⟩ := I.tuple hx
      have hlen := r.length
      exact truthy_tuple pl (by simp only [List.size_toArray]; omega) ⟨H, I.tok _, by rw [isEmpty_of r]; exact q⟩
    · subst e'
      obtain ⟨hz, hS, vs, r, m⟩ : kvs.length ≤ sizeLine ∧ (p == sysModules) = false ∧ ∃ vs, KV kvs vs ∧ s.heap.DictOf (mixKind X.prog X.w) p vs := I.hok p _ hx
      have hlen : kvs.length = vs.length := Paired.length r
      exact wpAny_truthy_dict hS m (by omega) ⟨H, I.tok _, by rw [isEmpty_kv r]; exact q⟩
  | _ => exact (show False from e).elim
theorem pt_truth (ha : PE X a ta) (he : ∀ whole, isTrue a X.env whole = (do let v ← whole; standAt a.pos; holding [v] (truthy v))) :
    PT X a (fun σ H Q => ta σ H fun x H' => ∃ k, TruV X.K x H' k ∧ Q k H') := by
  intro pins s σ H Q I h
  exact isTrue_plain (thn (ha pins s σ H _ I h) fun v s1 ⟨x, H1, I1, r1, q1⟩ => tru_ok pins s1 σ H1 x v Q I1 r1 q1) (he _)
theorem op_add_str : OpR X (binaryOp .Add) (fun x y H Q => ∃ i j, x = .str i ∧ y = .str j ∧ i.length + j.length ≤ sizeLine ∧ Q (.str (i ++ j)) H) := by
  intro pins s σ H x y v u Q I rx ry h
  obtain ⟨i, j, rfl, rfl, hz, q⟩ := h
  obtain ⟨t, rfl⟩ := rx
  obtain ⟨t', rfl⟩ := ry
  exact add_str (fun t' tk => ⟨.str (i ++ j), H, I.tok _, ⟨_, rfl⟩, q⟩) hz
theorem vals1 {x : V} {us : List Value} (r : Vals [x] us) : ∃ u, us = [u] ∧ RelV x u := by
  cases r with
  | cons r1 r2 => cases r2; exact ⟨_, rfl, r1⟩
theorem vals2 {x y : V} {us : List Value} (r : Vals [x, y] us) : ∃ u w', us = [u, w'] ∧ RelV x u ∧ RelV y w' := by
  cases r with
  | cons r1 r2 =>
    cases r2 with
    | cons r3 r4 => cases r4; exact ⟨_, _, rfl, r1, r3⟩
theorem call_abs : CallR X (.builtin "abs") (fun xs H Q => ∃ i, xs = [.int i] ∧ Q (.int (if i < 0 then -i else i)) H) := by
  intro pins s σ H xs us Q I r h
  obtain ⟨i, rfl, q⟩ := h
  obtain ⟨u, rfl, t, rfl⟩ := vals1 r
  exact call_abs_int fun u tk => ⟨.int (if i < 0 then -i else i), H, I.tok _, ⟨_, rfl⟩, q⟩
theorem call_max2 (hc : X.calm = true) : CallR X (.builtin "max") (fun xs H Q => ∃ i j, xs = [.int i, .int j] ∧ Q (.int (if j > i then j else i)) H) := by
  intro pins s σ H xs us Q I r h
  obtain ⟨i, j, rfl, q⟩ := h
  obtain ⟨u, w', rfl, ⟨t, rfl⟩, ⟨t', rfl⟩⟩ := vals2 r
  refine max_two_ints (I.ok.hd hc) fun h' tk k => ⟨_, H, I.kept k, ?_, q⟩
  by_cases hj : j > i
  · rw [if_pos hj, if_pos hj]; exact ⟨_, rfl⟩
  · rw [if_neg hj, if_neg hj]; exact ⟨_, rfl⟩
theorem call_int1 : CallR X (.type "int") (fun xs H Q => (∃ i, xs = [.int i] ∧ Q (.int i) H) ∨ ∃ k, xs = [.bl k] ∧ Q (.int (if k then 1 else 0)) H) := by
  intro pins s σ H xs us Q I r h
  rcases h with ⟨i, rfl, q⟩ | ⟨k, rfl, q⟩
  · obtain ⟨u, rfl, t, rfl⟩ := vals1 r
    exact call_int_int ⟨.int i, H, I, ⟨_, rfl⟩, q⟩
  · obtain ⟨u, rfl, r1⟩ := vals1 r
    cases r1
    exact call_int_bool ⟨.int (if k then 1 else 0), H, I.tok _, ⟨_, rfl⟩, q⟩
theorem call_str_int : CallR X (.type "str") (fun xs H Q => ∃ i, xs = [.int i] ∧ i.natAbs.log2 < 1920 ∧ Q (.str (toString i)) H) := by
  intro pins s σ H xs us Q I r h
  obtain ⟨i, rfl, hz, q⟩ := h
  obtain ⟨u, rfl, t, rfl⟩ := vals1 r
  exact PySem.P.str_of_int hz ⟨.str _, H, I.tok _, ⟨_, rfl⟩, q⟩
def LenV (K : PySem.W.Frag) (x : V) (H : Hp) (n : Nat) : Prop :=
  match x with
  | .str y => y.length ≤ sizeLine ∧ n = y.length
  | .byt y => y.size ≤ sizeLine ∧ n = y.size
  | .ref p => (∃ xs, SqL K H p xs ∧ n = xs.length) ∨ ∃ xs, SqT K H p xs ∧ n = xs.length
  | _ => False
theorem call_len : CallR X (.builtin "len") (fun xs H Q => ∃ x n, xs = [x] ∧ LenV X.K x H n ∧ Q (.int n) H) := by
  intro pins s σ H xs us Q I r h
  obtain ⟨x, n, rfl, e, q⟩ := h
  obtain ⟨u, rfl, rx⟩ := vals1 r
  have hl := line63
  have hs : sizeLine = 16777216 := sizeLine_eq
  cases x with
  | str y =>
    obtain ⟨t, rfl⟩ := rx
    obtain ⟨hy, e'⟩ : y.length ≤ sizeLine ∧ n = y.length := e
    subst e'
    exact len_str (by omega) ⟨.int _, H, I.tok _, ⟨_, rfl⟩, q⟩
  | byt y =>
    obtain ⟨t, rfl⟩ := rx
    obtain ⟨hy, e'⟩ : y.size ≤ sizeLine ∧ n = y.size := e
    subst e'
    exact PySem.W.len_bytes (by omega) ⟨.int _, H, I.tok _, ⟨_, rfl⟩, q⟩
  | ref p =>
    cases rx
    have e' : (∃ xs, SqL X.K H p xs ∧ n = xs.length) ∨ ∃ xs, SqT X.K H p xs ∧ n = xs.length := e
    rcases e' with ⟨xs, hx, e'⟩ | ⟨xs, hx, e'⟩
    · subst e'
      obtain ⟨its, r', pl, hz⟩ := I.list hx
      have hlen := r'.length
      exact Calls.call_len_list pl.isList (by simp only [List.size_toArray]; omega) ⟨.int xs.length, H, I.tok _, ⟨_, by simp only [List.size_toArray]; rw [hlen]⟩, q⟩
    · subst e'
      obtain ⟨its, r', pl, hz⟩ := I.tuple hx
      have hlen := r'.length
      exact len_tuple pl (by simp only [List.size_toArray]; omega) ⟨.int xs.length, H, I.tok _, ⟨_, by simp only [List.size_toArray]; rw [hlen]⟩, q⟩
  | _ => exact (show False from e).elim
end
structure ObjM (h : Heap) (x dx C : Addr) (mA : Str → Option Value) : Prop where
  obj : h.get? x = some (PySem.W.instObj C dx)
  ns : h.Ns1 dx mA
  ne : dx ≠ x
theorem lookIn_ns {h : Heap} {dx : Addr} {mA : Str → Option Value} (n : h.Ns1 dx mA) : ∃ od, h.get? dx = some od ∧ ∀ name, PySem.W.lookIn name od = some (mA name) := by
  obtain ⟨o, es, ep, ho, hd, hk, _, hm⟩ := n
  refine ⟨o, ho, fun name => ?_⟩
  have e := hm name
  unfold nsFind findBy at e
  rw [← Array.find?_toList] at e
  unfold PySem.W.lookIn
  rw [hd]
  dsimp only
  split
  · rename_i y q
    rw [q] at e
    exact congrArg some e
  · rename_i q
    rw [q] at e
    have a : es.toList.any (·.refKey) = false := by
      rw [List.any_eq_false]
      intro y hy
      obtain ⟨z, t, hkey⟩ := hk y (Array.mem_toList_iff.mp hy)
      simp [DictEntry.refKey, hkey]
    have a' : ¬ es.toList.any (·.refKey) = true := by rw [a]; exact Bool.false_ne_true
    rw [if_neg a']
    exact congrArg some e
theorem ObjM.look {h : Heap} {x dx C : Addr} {mA : Str → Option Value} (I : ObjM h x dx C mA) : ∃ od, PySem.W.InstAt h x (PySem.W.instObj C dx) C (some od) ∧ ∀ name, PySem.W.lookIn name od = some (mA name) :=
  let ⟨od, ho, hl⟩ := lookIn_ns I.ns
  ⟨od, ⟨I.obj, rfl, rfl, ho⟩, hl⟩
section
variable {prog : Program} {w : World} {A : Around} {E : Value → Shared → Prop} {s : Shared} {K : PySem.W.Frag} {x dx C f : Addr} {mA : Str → Option Value} {name : Str} {v : Value}
end
def putF (f : Str) (v : V) : List (Str × V) → List (Str × V)
  | [] => [(f, v)]
  | (g, x) :: r => if g = f then (g, v) :: r else (g, x) :: putF f v r
theorem lookup_putF (f g : Str) (v : V) : ∀ fs : List (Str × V), (putF f v fs).lookup g = if g = f then some v else fs.lookup g
  | [] => by
    show List.lookup g [(f, v)] = _
    by_cases h : g = f
    · have hb : (g == f) = true := beq_iff_eq.mpr h
      simp only [List.lookup, hb, if_pos h]
    · have hb : (g == f) = false := beq_eq_false_iff_ne.mpr h
      simp only [List.lookup, hb, if_neg h]
  | (k, x) :: r => by
    have ih := lookup_putF f g v r
    rw [show putF f v ((k, x) :: r) = (if k = f then (k, v) :: r else (k, x) :: putF f v r) from rfl]
    by_cases hk : k = f
    · rw [if_pos hk]
      by_cases h : g = k
      · have hb : (g == k) = true := beq_iff_eq.mpr h
        simp only [List.lookup, hb, if_pos (h.trans hk)]
      · have hb : (g == k) = false := beq_eq_false_iff_ne.mpr h
        simp only [List.lookup, hb, if_neg (fun e : g = f => h (e.trans hk.symm))]
    · rw [if_neg hk]
      by_cases h : g = k
      · have hb : (g == k) = true := beq_iff_eq.mpr h
        simp only [List.lookup, hb, if_neg (fun e : g = f => hk (h.symm.trans e))]
      · have hb : (g == k) = false := beq_eq_false_iff_ne.mpr h
        simp only [List.lookup, hb]
        exact ih
section
variable {P : Program} {w : World} {H H' : Hp} {h h' : Heap} {a C dx : Addr} {fs fs' : List (Str × V)}
theorem ins_get (hok : HOk P w H h) (e : H a = some (.ins C dx fs)) : ∃ mA, ObjM h a dx C mA ∧ (∀ f, RelO (fs.lookup f) (mA f)) ∧ PySem.Within mA (fs.map (·.1)) ∧ fs.length ≤ 1000 ∧ H dx = some (.own a) := by
  obtain ⟨d, z, ne, ob, mA, n, r, q⟩ := (show ObjOk P w H h a (.ins C dx fs) from hok a _ e)
  exact ⟨mA, ⟨ob, n, ne⟩, r, q, z, d⟩
end
structure Cls (K : PySem.W.Frag) (C : Addr) : Prop where
  pg : PySem.W.plainGet K C Str.empty = true
  hd : PySem.W.hasDictIn K C = true
  po : PySem.W.plainOver K C = true
  sa : PySem.W.findIn K (.ref C) "__setattr__" = some (some (.builtin "object.__setattr__"))
theorem Cls.get {K : PySem.W.Frag} {C : Addr} (c : Cls K C) (f : Str) : PySem.W.plainGet K C f = true := c.pg
section
variable {X : Cx} {pins : List (Addr × Obj)} {σ : St} {H : Hp} {s : Shared} {a C dx : Addr} {fs : List (Str × V)} {f : Str} {v : V} {A : Around} {E : Value → Shared → Prop}
end
section
variable {X : Cx} {o e value : Expr} {f : Str} {pos pos' tpos : Pos} {ta tv : TE}
end
section
variable {X : Cx} {pins : List (Addr × Obj)} {σ : St} {H : Hp} {s : Shared} {A : Around} {E : Value → Shared → Prop} {Q : Value → Shared → Prop} {c : Value} {b : Bool}
inductive TyOf (K : PySem.W.Frag) (H : Hp) : V → Value → Prop where
  | non : TyOf K H .non (.type "NoneType")
  | bl (x : Bool) : TyOf K H (.bl x) (.type "bool")
  | int (i : Int) : TyOf K H (.int i) (.type "int")
  | str (x : Str) : TyOf K H (.str x) (.type "str")
  | flt (x : UInt64) : TyOf K H (.flt x) (.type "float")
  | lst {a : Addr} {xs : List V} (e : H a = some (.lst xs)) : TyOf K H (.ref a) (.type "list")
  | frz {a : Addr} {o : Obj} {xs : List V} (e : H a = some (.frz o (.lst xs))) : TyOf K H (.ref a) (.type "list")
  | tup {a : Addr} {xs : List V} (e : H a = some (.tup xs)) : TyOf K H (.ref a) (.type "tuple")
  | dK {a : Addr} {kvs : List (Key × V)} (e : H a = some (.dK kvs)) : TyOf K H (.ref a) (.type "dict")
  | dT {a : Addr} {kvs : List (List Key × V)} (e : H a = some (.dT kvs)) : TyOf K H (.ref a) (.type "dict")
  | ins {a C dx : Addr} {fs : List (Str × V)} (e : H a = some (.ins C dx fs)) (cl : Cls K C) (ha : PySem.W.findIn K (.ref C) "__class__" = some (some (.builtin "object.__class__")))
      (hn : PySem.W.specialIn K (.builtin "object.__class__") "__get__" = some (some (.builtin "getset_descriptor.__get__"))) (htk : PySem.W.takesIn K (.builtin "object.__class__") = some true)
      (hm : PySem.W.mroIn K C (.type "object") = some true) : TyOf K H (.ref a) (.ref C)
theorem isinst_ok {x : V} {u t : Value} (I : Inv X pins σ H s) (rx : RelV x u) (ty : TyOf X.K H x t) (e : PySem.W.kitOne X.K t c = some b) (h : ∀ tk, Q (.bool b) { s with toks := tk }) :
    wpAny (model X.prog X.w) A (call (.builtin "isinstance") [u, c]) Q E s := by
  cases ty with
  | non => cases (show u = Value.none from rx); exact PySem.W.kia_one PySem.W.kitx_none I.kIn True.intro e (fun z => nomatch z) h
  | bl y => cases (show u = Value.bool y from rx); exact PySem.W.kia_one PySem.W.kitx_bool I.kIn True.intro e (fun z => nomatch z) h
  | int i => obtain ⟨t, q⟩ := (show ∃ t, u = Value.int i t from rx); cases q; exact PySem.W.kia_one PySem.W.kitx_int I.kIn True.intro e (fun z => nomatch z) h
  | str y => obtain ⟨t, q⟩ := (show ∃ t, u = Value.str y t from rx); cases q; exact PySem.W.kia_one PySem.W.kitx_str I.kIn True.intro e (fun z => nomatch z) h
  | flt y => obtain ⟨t, q⟩ := (show ∃ t, u = Value.float y t from rx); cases q; exact PySem.W.kia_one PySem.W.kitx_float I.kIn True.intro e (fun z => nomatch z) h
  | @lst a xs ea =>
    cases (show u = Value.ref a from rx)
    obtain ⟨_, _, n, _, h1⟩ := (show ObjOk X.prog X.w H s.heap a (.lst xs) from I.hok a _ ea)
    exact PySem.W.kia_one PySem.W.kitx_list I.kIn ⟨_, h1, rfl⟩ e (fun z => nomatch z) h
  | @frz a ob xs ea =>
    cases (show u = Value.ref a from rx)
    obtain ⟨_, _, _, n, _, h1⟩ := (show ObjOk X.prog X.w H s.heap a (.frz ob (.lst xs)) from I.hok a _ ea)
    exact PySem.W.kia_one PySem.W.kitx_list I.kIn ⟨_, h1, rfl⟩ e (fun z => nomatch z) h
  | @tup a xs ea =>
    cases (show u = Value.ref a from rx)
    obtain ⟨_, _, _, p⟩ := (show ObjOk X.prog X.w H s.heap a (.tup xs) from I.hok a _ ea)
    obtain ⟨o, h1, h2, _⟩ := p
    exact PySem.W.kia_one PySem.W.kitx_tuple I.kIn ⟨o, h1, h2⟩ e (fun z => nomatch z) h
  | @dK a kvs ea =>
    cases (show u = Value.ref a from rx)
    obtain ⟨_, _, vs, _, p⟩ := (show ObjOk X.prog X.w H s.heap a (.dK kvs) from I.hok a _ ea)
    obtain ⟨o, es, ep, h1, h2, _⟩ := p
    exact PySem.W.kia_one PySem.W.kitx_dict I.kIn ⟨o, h1, h2.1⟩ e (fun z => nomatch z) h
  | @dT a kvs ea =>
    cases (show u = Value.ref a from rx)
    obtain ⟨_, _, xs, _, o, es, ep, h1, h2, _⟩ := (show ObjOk X.prog X.w H s.heap a (.dT kvs) from I.hok a _ ea)
    exact PySem.W.kia_one PySem.W.kitx_dict I.kIn ⟨o, h1, h2.1⟩ e (fun z => nomatch z) h
  | @ins a C dx fs ea cl ha hn htk hm =>
    cases (show u = Value.ref a from rx)
    obtain ⟨mA, O, _⟩ := ins_get I.hok ea
    obtain ⟨od, J, _⟩ := O.look
    exact PySem.W.kia_one (PySem.W.kitx_own (cl.get _) cl.hd ha hn htk hm) I.kIn J e (fun z => nomatch z) h
end
structure Room (k : Nat) (A : Around) : Prop where
  hd : A.handled = none
  dp : A.depth + 3 * k + 5 < recursionLimit
  un : A.units + 16 * k + 200 < cLine
theorem Room.mono {j k : Nat} {A : Around} (r : Room k A) (h : j ≤ k) : Room j A := ⟨r.hd, by have := r.dp; omega, by have := r.un; omega⟩
theorem Room.deeper {k : Nat} {A : Around} (r : Room (k + 1) A) (env : Env) : Room k (A.deeper env) :=
  ⟨r.hd, by have := r.dp; show A.depth + 1 + 3 * k + 5 < _; omega, by have := r.un; show A.units + 3 + 16 * k + 200 < _; omega⟩
theorem make_depth {A : Around} {C : Addr} {us : List Value} {kw : List (Str × Value)} : (A.under (.builtin "type.__call__" ⟨.ref C :: us, kw⟩)).depth = A.depth + 1 := by
  first | rfl | simp [Around.under, Code.weight, Code.isCreation, Code.isGuard, Code.isCaller, Code.frames, Code.isFrame, guardIds]
theorem make_units {A : Around} {C : Addr} {us : List Value} {kw : List (Str × Value)} : (A.under (.builtin "type.__call__" ⟨.ref C :: us, kw⟩)).units = A.units + 1 := by
  first | rfl | simp [Around.under, Code.cUnits, Code.frames, Code.isFrame]
theorem Room.depth {k : Nat} {A : Around} (r : Room k A) : A.depth < recursionLimit := by have := r.dp; omega
theorem Room.units {k : Nat} {A : Around} (r : Room k A) : A.units + 64 < cLine := by have := r.un; omega
theorem Room.units0 {k : Nat} {A : Around} (r : Room k A) : A.units < cLine := by have := r.un; omega
def tNil : TA := fun _ H Q => Q [] H
def tCons (ta : TE) (tr : TA) : TA := fun σ H Q => ta σ H fun x H1 => tr σ H1 fun xs H2 => Q (x :: xs) H2
section
variable {X : Cx} {e : Expr} {es : List Expr} {te : TE} {t : TA} {pos : Pos}
theorem pa_nil : PA X [] tNil := fun _ _ _ _ H Q I h => Calls.spliced_nil ⟨[], H, I, .nil, h⟩
theorem pa_cons (ha : PE X e te) (hr : PA X es t) (hs : starEach (e :: es) X.env = (false, eval e X.env) :: starEach es X.env := by rfl) : PA X (e :: es) (tCons te t) := by
  intro pos pins s σ H Q I h
  rw [hs]
  show wpAny _ _ (spliced ((false, eval e X.env) :: backTo pos (starEach es X.env))) _ _ s
  refine Calls.spliced_cons (thn (ha pins s σ H _ I h) fun u s1 ⟨x, H1, I1, r1, q1⟩ => ?_)
  exact thn (hr pos pins s1 σ H1 _ I1 q1) fun us s2 ⟨xs, H2, I2, r2, q2⟩ => ⟨x :: xs, H2, I2, .cons r1 r2, q2⟩
def tTup (t : TA) : TE := fun σ H Q => t σ H fun xs H1 => xs.length ≤ sizeLine ∧ ∀ p, H1 p = none → Q (.ref p) (upd H1 p (.tup xs))
def tLst (t : TA) : TE := fun σ H Q => t σ H fun xs H1 => xs.length ≤ sizeLine ∧ ∀ p, H1 p = none → Q (.ref p) (upd H1 p (.lst xs))
theorem pe_tup {x1} (h : PA X es t) : PE X (.Tuple es x1 pos) (tTup t) := by
  intro pins s σ H Q I hq
  refine wpAny_Tuple_spliced (thn (h pos pins s σ H _ I hq) fun us s1 ⟨xs, H1, I1, r, z, q⟩ => ⟨by rw [← r.length]; exact z, ?_⟩)
  have hf : H1 s1.heap.objs.size = none := I1.hok.fresh (Nat.le_refl _)
  refine ⟨.ref s1.heap.objs.size, upd H1 s1.heap.objs.size (.tup xs), I1.laid (t' := s1.toks) (fun b u e => Heap.get?_push_of_some _ e) (Nat.le_refl _) ?_, rfl, q _ hf⟩
  exact ⟨z, us, r, ⟨_, Heap.get?_push_size _ rfl, rfl, rfl, _, rfl⟩⟩
theorem pe_lst (h : PA X es t) : PE X (.List es pos) (tLst t) := by
  intro pins s σ H Q I hq
  refine wpAny_List_spliced (thn (h pos pins s σ H _ I hq) fun us s1 ⟨xs, H1, I1, r, z, q⟩ => ⟨by rw [← r.length]; exact z, ?_⟩)
  have hf : H1 s1.heap.objs.size = none := I1.hok.fresh (Nat.le_refl _)
  refine ⟨.ref s1.heap.objs.size, upd H1 s1.heap.objs.size (.lst xs), I1.laid (t' := s1.toks) (fun b u e => Heap.get?_push_of_some _ e) (Nat.le_refl _) ?_, rfl, q _ hf⟩
  exact ⟨z, us, 0, r, Heap.get?_push_size _ rfl⟩
end
abbrev Sp := List V → Hp → VK → XK → Prop
abbrev CXT := List Env → Hp → Shared → XK → Value → Shared → Prop
structure Env0 (P : Program) (w : World) (K : PySem.W.Frag) (mg : Str → Option Value) (base : Heap) (A : Around) (outer : List Env) (s : Shared) (H : Hp) : Prop where
  frames : A.frames = some outer
  mod : Mod K mg base
  bs : ∀ b o, base.get? b = some o → s.heap.get? b = some o ∧ H b = none
  bsz : base.objs.size ≤ s.heap.objs.size
  funs : s.heap.FunFrames base outer
  frf : ∀ b ∈ frs outer, H b = none
  hok : HOk P w H s.heap
  bare : AllBare s.gens
def CE (outer : List Env) (P : Program) (w : World) (H : Hp) (s : Shared) (Q : VK) (u : Value) (s' : Shared) : Prop :=
  ∃ v H', s'.os = s.os ∧ AllBare s'.gens ∧ Un (frs outer) [] H H' s.heap s'.heap ∧ HOk P w H' s'.heap ∧ RelV v u ∧ Q v H'
def CR (CX : CXT) (outer : List Env) (P : Program) (w : World) (H : Hp) (s : Shared) (Q : VK) (E : XK) (r : Result) (s' : Shared) : Prop :=
  match r with
  | .ok (.ret u) => CE outer P w H s Q u s'
  | .ok _ => False
  | .error e => CX outer H s E e s'
structure FnOk (P : Program) (w : World) (K : PySem.W.Frag) (mg : Str → Option Value) (base : Heap) (CX : CXT) (k : Nat) (f : Addr) (fd : FuncData) (ps : List Str) (sp : Sp) : Prop where
  len : ∀ vs H Q E, sp vs H Q E → vs.length = ps.length
  run : ∀ (A : Around) (outer : List Env) (s : Shared) (H : Hp) (args : Args) (us : List Value) (vs : List V) (Q : VK) (E : XK), Room k A → Env0 P w K mg base A outer s H → BindsTo s fd args (ps.zip us) → Vals vs us → sp vs H Q E →
    codeAny (model P w) A (.call (.ref f) args) (CR CX outer P w H s Q E) s
section
variable {X : Cx} {pins : List (Addr × Obj)} {σ : St} {H : Hp} {s s' : Shared}
theorem Inv.env0 (I : Inv X pins σ H s) : Env0 X.prog X.w X.K X.mg X.base X.A X.stack s H :=
  ⟨I.ok.frames, I.ok.mod, I.bs, Nat.le_trans I.ok.bsz I.sz, I.stack, I.stkFree, I.hok, I.bare⟩
theorem Inv.after {Q : VK} {u : Value} (I : Inv X pins σ H s) (h : CE X.stack X.prog X.w H s Q u s') : EP X pins σ Q u s' := by
  obtain ⟨v, H', os, bare, un, hok, r, q⟩ := h
  obtain ⟨hh, g, d, t, os'⟩ := s'
  obtain rfl : os' = s.os := os
  exact ⟨v, H', I.call (h' := hh) (g' := g) (d' := d) (t' := t) (ch := []) un hok bare (fun b z => absurd z (by simp)), r, q⟩
end
def tCall (sp : Sp) (dvs : List V) (E : XK) (t : TA) : TE := fun σ H Q => t σ H fun vs H1 => sp (vs ++ dvs) H1 Q E
def Binds (K : PySem.W.Frag) (fd : FuncData) (ps : List Str) (ds : List Value) : Prop :=
  ∀ (s : Shared) (us : List Value), K.In s.heap → (us ++ ds).length = ps.length → BindsTo s fd ⟨us, []⟩ (ps.zip (us ++ ds))
theorem Binds.all {K : PySem.W.Frag} {fd : FuncData} {ps : List Str} (h : ∀ us : List Value, us.length = ps.length → bindArgs fd ⟨us, []⟩ = pure (ps.zip us)) : Binds K fd ps [] := fun s us _ hl => by
  rw [List.append_nil] at hl ⊢
  exact .of_eq (h us hl)
def Passes (CX : CXT) (X : Cx) (E : XK) : Prop := ∀ (pins : List (Addr × Obj)) (σ : St) (H : Hp) (s : Shared) (e : Value) (s' : Shared), Inv X pins σ H s → CX X.stack H s E e s' → X.xe e s'
section
variable {X : Cx} {CX : CXT} {k : Nat} {f C : Addr} {fd : FuncData} {ps : List Str} {sp : Sp} {dvs : List V} {ds : List Value} {E : XK} {x m : Str} {p pos apos : Pos} {e o : Expr} {es : List Expr} {ta : TE} {t : TA}
theorem run_fn {pins : List (Addr × Obj)} {σ : St} {H : Hp} {s : Shared} {Q : VK} {us : List Value} {vs : List V} (F : FnOk X.prog X.w X.K X.mg X.base CX k f fd ps sp) (hr : Room k X.A) (hb : Binds X.K fd ps ds) (hd : Vals dvs ds) (hx : Passes CX X E)
    (I : Inv X pins σ H s) (r : Vals vs us) (h : sp (vs ++ dvs) H Q E) : wpAny (model X.prog X.w) X.A (call (.ref f) us) (EP X pins σ Q) X.xe s := by
  have r2 : Vals (vs ++ dvs) (us ++ ds) := r.append hd
  have hl : (us ++ ds).length = ps.length := by rw [← r2.length]; exact F.len _ _ _ _ h
  refine wpAny_call (codeAny_mono (F.run X.A X.stack s H ⟨us, []⟩ (us ++ ds) (vs ++ dvs) Q E hr I.env0 (hb s us I.kIn hl) r2 h) fun r s' hq => ?_)
  cases r with
  | error e => exact hx pins σ H s e s' I hq
  | ok fl =>
    cases fl with
    | ret u => exact I.after hq
    | next => exact False.elim hq
    | brk => exact False.elim hq
    | cont => exact False.elim hq
theorem pe_call (F : FnOk X.prog X.w X.K X.mg X.base CX k f fd ps sp) (hr : Room k X.A) (hg : Gl X x) (hm : X.mg x = some (.ref f)) (hk : PySem.W.keepIn X.K (.ref f) = true) (hb : Binds X.K fd ps ds) (hd : Vals dvs ds) (hx : Passes CX X E)
    (ha : PA X (e :: es) t) (hdb : (x == ("__debug__" : Str)) = false := by decide) (he : starEach (e :: es) X.env = (false, eval e X.env) :: starEach es X.env := by rfl) (hpl : (backTo pos (starEach es X.env)).any (·.1) = false := by rfl) :
    PE X (.Call (.Name x p) (e :: es) [] pos) (tCall sp dvs E t) := by
  intro pins s σ H Q I h
  refine wpAny_Call_Name_kw (ld_glob I hg hm ?_ hdb)
  refine PySem.W.callWith_K (h₀ := X.base) I.ok.mod.kin hk (thn (ha pos pins s σ H _ I h) fun us s1 ⟨vs, H1, I1, r, q⟩ => ⟨I1.kIn, ?_⟩) he hpl
  exact run_fn F hr hb hd hx I1 r q
end
section
variable {X : Cx} {CX : CXT} {k : Nat} {f C : Addr} {fd : FuncData} {ps ks : List Str} {sp : Sp} {E : XK} {x m : Str} {p pos apos kpos : Pos} {e o : Expr} {es : List Expr} {kws : List Keyword} {te ta : TE} {t tk : TA} {nm : Option Str}
variable {g : List Value → List Value → List Value} {gV : List V → List V → List V}
end
structure FnScope (N P : List Str) (sc : Scope) : Prop where
  kind : sc.kind = .function
  co : sc.isCoroutine = false
  gen : sc.isGenerator = false
  nd : N.Nodup
  pre : N.take P.length = P
  par : ∀ x ∈ P, sc.names.lookup x = some .local ∨ sc.names.lookup x = some .cell
  nofree : ∀ y ∈ sc.names, y.2 ≠ .free
theorem bindL_out {kindOf : Str → Option NameKind} {x : Str} : ∀ {binds : List (Str × Value)} {m : Str → Option Value}, (∀ v, (x, v) ∉ binds) → bindL kindOf binds m x = m x
  | [], _, _ => rfl
  | (n, v) :: r, m, h => by
    unfold bindL
    rw [bindL_out fun w hw => h w (List.mem_cons_of_mem _ hw)]
    split
    · have : x ≠ n := by rintro rfl; exact h v List.mem_cons_self
      simp [this]
    · rfl
theorem bindC_out {kindOf : Str → Option NameKind} {x : Str} : ∀ {binds : List (Str × Value)} {m : Str → Option Value}, (∀ v, (x, v) ∉ binds) → bindC kindOf binds m x = m x
  | [], _, _ => rfl
  | (n, v) :: r, m, h => by
    unfold bindC
    rw [bindC_out fun w hw => h w (List.mem_cons_of_mem _ hw)]
    split
    · rfl
    · have : x ≠ n := by rintro rfl; exact h v List.mem_cons_self
      simp [this]
theorem bindL_get {kindOf : Str → Option NameKind} {x : Str} {v : Value} : ∀ {P : List Str} {vs : List Value} {i : Nat} {m : Str → Option Value}, P.Nodup → P[i]? = some x → vs[i]? = some v → kindOf x = some .local →
    bindL kindOf (P.zip vs) m x = some v
  | [], _, _, _, _, h, _, _ => by simp at h
  | _ :: _, [], _, _, _, _, h, _ => by simp at h
  | p :: P, w :: vs, 0, m, nd, h1, h2, hk => by
    simp at h1 h2; subst h1; subst h2
    show bindL kindOf ((p, w) :: P.zip vs) m p = _
    unfold bindL
    rw [bindL_out fun v hv => (List.nodup_cons.mp nd).1 (List.of_mem_zip hv).1, if_pos hk]
    simp
  | p :: P, w :: vs, i + 1, m, nd, h1, h2, hk => by
    show bindL kindOf ((p, w) :: P.zip vs) m x = _
    unfold bindL
    exact bindL_get (i := i) (List.nodup_cons.mp nd).2 (by simpa using h1) (by simpa using h2) hk
theorem bindC_get {kindOf : Str → Option NameKind} {x : Str} {v : Value} : ∀ {P : List Str} {vs : List Value} {i : Nat} {m : Str → Option Value}, P.Nodup → P[i]? = some x → vs[i]? = some v → kindOf x ≠ some .local →
    bindC kindOf (P.zip vs) m x = some v
  | [], _, _, _, _, h, _, _ => by simp at h
  | _ :: _, [], _, _, _, _, h, _ => by simp at h
  | p :: P, w :: vs, 0, m, nd, h1, h2, hk => by
    simp at h1 h2; subst h1; subst h2
    show bindC kindOf ((p, w) :: P.zip vs) m p = _
    unfold bindC
    rw [bindC_out fun v hv => (List.nodup_cons.mp nd).1 (List.of_mem_zip hv).1, if_neg hk]
    simp
  | p :: P, w :: vs, i + 1, m, nd, h1, h2, hk => by
    show bindC kindOf ((p, w) :: P.zip vs) m x = _
    unfold bindC
    exact bindC_get (i := i) (List.nodup_cons.mp nd).2 (by simpa using h1) (by simpa using h2) hk
def start (N : List Str) (vs : List V) : St := vs.map some ++ List.replicate (N.length - vs.length) none
def cxOf (CX : CXT) (P : Program) (w : World) (K : PySem.W.Frag) (mg : Str → Option Value) (base : Heap) (N : List Str) (qual : Str) (scope : Scope) (f : Addr) (cd : Value) (A : Around) (outer : List Env) (s : Shared) (H : Hp) (E : XK) : Cx where
  prog := P
  w := w
  K := K
  mg := mg
  base := base
  A := A.deeper (envOfC qual scope s.heap.objs.size f cd)
  N := N
  s₀ := s
  H₀ := H
  env := envOfC qual scope s.heap.objs.size f cd
  outer := outer
  stack := envOfC qual scope s.heap.objs.size f cd :: outer
  ex := []
  calm := true
  fn := fun _ => true
  pn := []
  xe := fun e s' => wpAny (model P w) (A.deeper (envOfC qual scope s.heap.objs.size f cd)) (leaving (envOfC qual scope s.heap.objs.size f cd) e) (fun _ s'' => CX outer H s E e s'') (fun e' s'' => CX outer H s E e' s'') s'
theorem cell_has {sc : Scope} {n : Nat} {x : Str} (h : sc.names.lookup x = some .cell) : ∃ c, (cellsFrom n sc.names []).lookup x = some c := by
  have q := PySem.W.cellsFrom_some sc.names n [] (.inl h)
  exact Option.isSome_iff_exists.mp q
theorem inv_start {CX : CXT} {P : Program} {w : World} {K : PySem.W.Frag} {mg : Str → Option Value} {base : Heap} {N ps : List Str} {qual : Str} {scope : Scope} {f : Addr} {cd : Value} {A : Around} {outer : List Env} {s s1 : Shared} {H : Hp} {E : XK} {us : List Value} {vs : List V}
    (S : FnScope N ps scope) (hd : A.handled = none) (e0 : Env0 P w K mg base A outer s H) (hl : vs.length = ps.length) (r : Vals vs us)
    (x : InCallC s s.heap.objs.size (bindL (envOfC qual scope s.heap.objs.size f cd).kindOf (ps.zip us) fun _ => none) (cellsFrom (s.heap.objs.size + 1) scope.names []) (bindC (envOfC qual scope s.heap.objs.size f cd).kindOf (ps.zip us) fun _ => none) s1) :
    Inv (cxOf CX P w K mg base N qual scope f cd A outer s H E) [] (start N vs) H s1 := by
  have hpl : ps.length ≤ N.length := by have := congrArg List.length S.pre; rw [List.length_take] at this; omega
  obtain ⟨h1, tk, rfl, hk⟩ := x.done
  have noA : ∀ b : Addr, b ∉ (cxOf CX P w K mg base N qual scope f cd A outer s H E).ex := fun b z => absurd (show b ∈ ([] : List Addr) from z) (by simp)
  refine ⟨⟨e0.mod, S.kind, rfl, rfl, Nat.le_refl _, fun y z c h1 h2 => ?_, fun y hy => ?_, fun y c _ h => ?_, fun _ => hd, Around.frames_deeper e0.frames, .inr ⟨rfl, rfl⟩, fun b z => absurd z (noA b), e0.bs, e0.bsz, fun b _ _ => noA b, fun b z => absurd z (noA b), e0.funs, e0.frf⟩,
    rfl, e0.bare, Un.kept hk, ⟨_, x.toInCall.ns, fun i y v h1 h2 h3 => ?_⟩, fun y c h => ⟨_, x.cell y c h⟩, e0.hok.fresh (Nat.le_refl _), fun y c h => ?_, fun p hp => absurd (show p ∈ ([] : List (Addr × Obj)) from hp) (by simp), e0.hok.kept hk, ?_⟩
  · exact name_of_addr x.apart (PySem.mem_of_lookup h1) (PySem.mem_of_lookup h2)
  · have hy : scope.names.lookup y = some .cell ∨ scope.names.lookup y = some .free := hy
    rcases hy with hy | hy
    · exact cell_has hy
    · exact absurd rfl (S.nofree _ (PySem.mem_of_lookup hy))
  · exact Nat.le_of_lt (x.above y c (PySem.mem_of_lookup h))
  · have hi : i < vs.length := by
      unfold start at h2
      by_cases hi : i < vs.length
      · exact hi
      · rw [List.getElem?_append_right (by simpa using hi)] at h2
        rw [List.getElem?_replicate] at h2
        split at h2 <;> cases h2
    have ha : vs[i]? = some v := by
      unfold start at h2
      rw [List.getElem?_append_left (by simpa using hi), List.getElem?_map] at h2
      cases e : vs[i]? with
      | none => rw [e] at h2; cases h2
      | some a => rw [e] at h2; cases h2; rfl
    obtain ⟨u, hu, rv⟩ := r.get ha
    have hp : ps[i]? = some y := by
      rw [← S.pre, List.getElem?_take_of_lt (by omega)]; exact h1
    have ndP : ps.Nodup := by rw [← S.pre]; exact S.nd.sublist (List.take_sublist _ _)
    refine ⟨u, rv, ?_⟩
    rcases S.par y (List.mem_of_getElem? hp) with k | k
    · exact .inl ⟨k, bindL_get ndP hp hu k⟩
    · obtain ⟨c, e⟩ := cell_has (n := s.heap.objs.size + 1) k
      refine .inr ⟨.inl k, c, e, ?_⟩
      have q := x.cell y c e
      rw [bindC_get ndP hp hu (by show scope.names.lookup y ≠ _; rw [k]; decide)] at q
      exact q
  · exact e0.hok.fresh (Nat.le_of_lt (x.above y c (PySem.mem_of_lookup h)))
  · unfold start
    show _ = N.length
    rw [List.length_append, List.length_map, List.length_replicate]
    omega
theorem fn_of {CX : CXT} {P : Program} {w : World} {K : PySem.W.Frag} {mg : Str → Option Value} {base : Heap} {k : Nat} {f : Addr} {name qual : Str} {params : Arguments} {body : List Stmt} {scope : Scope} {dV kV doc pm cdv ct oc : Value} {an od : Option Addr}
    {osl : Array (Option Value)} {N ps : List Str} {sp : Sp} (lk : K.lookup f = some ⟨oc, od, .func (PySem.W.fnOf name qual params body scope dV kV doc pm an cdv ct), osl⟩) (hcd : PySem.W.codeIn K cdv qual = true) (S : FnScope N ps scope)
    (len : ∀ vs H Q E, sp vs H Q E → vs.length = ps.length)
    (hbody : ∀ (A : Around) (outer : List Env) (s : Shared) (H : Hp) (vs : List V) (Q : VK) (E : XK), Room k (A.deeper (envOfC qual scope s.heap.objs.size f cdv)) → sp vs H Q E →
      ∃ t, PSs (cxOf CX P w K mg base N qual scope f cdv A outer s H E) body t ∧ t { nx := fun _ H' => Q .non H', rt := Q } (start N vs) H) :
    FnOk P w K mg base CX (k + 1) f (PySem.W.fnOf name qual params body scope dV kV doc pm an cdv ct) ps sp := by
  refine ⟨len, fun A outer s H args us vs Q E hr e0 hb r hsp => ?_⟩
  have hl := len _ _ _ _ hsp
  have KX : K.In s.heap := e0.mod.kin.keeps fun b o e => (e0.bs b o e).1
  have lim : s.heap.NoLimit := e0.mod.nolimit.keeps fun b o e => (e0.bs b o e).1
  have hkind : ∀ y ∈ ps.zip us, scope.names.lookup y.1 = some .local ∨ (scope.names.lookup y.1 = some .cell ∧ ((cellsFrom (s.heap.objs.size + 1) scope.names []).lookup y.1).isSome = true) := fun ⟨n, v⟩ hy => by
    rcases S.par n (List.of_mem_zip hy).1 with q | q
    · exact .inl q
    · exact .inr ⟨q, PySem.W.cellsFrom_some _ _ _ (.inl q)⟩
  refine codeAny_call_function hr.depth (KX _ _ lk) rfl S.co S.gen rfl (PySem.W.codeRec_of KX hcd) (hb _ _ _ _ ?_)
  refine wpAny_newFunctionEnv_cells S.kind hkind fun env he s1 x => ?_
  subst he
  refine ⟨lim.keeps x.toInCall.keep, codeAny_func ?_⟩
  obtain ⟨t, ht, hq⟩ := hbody A outer s H vs Q E (hr.deeper _) hsp
  have I : Inv (cxOf CX P w K mg base N qual scope f cdv A outer s H E) [] (start N vs) H s1 := inv_start S hr.hd e0 hl r x
  refine wpAny_mono (ht [] s1 (start N vs) H _ I hq) (fun fl s' hs => ?_) fun e s' hs => hs
  have fin : ∀ {σ' : St} {H' : Hp} {v : V} {u : Value}, Inv (cxOf CX P w K mg base N qual scope f cdv A outer s H E) [] σ' H' s' → RelV v u → Q v H' → CE outer P w H s Q u s' :=
    fun {σ' H' v u} J rv q => ⟨v, H', J.os, J.bare, J.base, J.hok, rv, q⟩
  cases fl with
  | ret u =>
    obtain ⟨v, σ', H', J, rv, q⟩ := hs
    exact fin J rv q
  | next =>
    obtain ⟨σ', H', J, q⟩ := hs
    exact fin (v := V.non) (u := Value.none) J rfl q
  | brk =>
    obtain ⟨_, _, _, q⟩ := hs
    exact False.elim q
  | cont =>
    obtain ⟨_, _, _, q⟩ := hs
    exact False.elim q
section
variable {X : Cx} {x : Str} {p pos : Pos} {e : Expr} {es : List Expr} {t : TA} {id T : String} {r : List V → Hp → VK → Prop}
def tCB (r : List V → Hp → VK → Prop) (t : TA) : TE := fun σ H Q => t σ H fun vs H1 => r vs H1 Q
theorem pe_callB (hc : CallR X (.builtin id) r) (hg : Gl X x) (hm : X.mg x = none) (hv : bootBuiltins x = some (.builtin id)) (ha : PA X (e :: es) t) (hn : x ≠ "__name__" := by decide) (hdb : (x == ("__debug__" : Str)) = false := by decide)
    (he : starEach (e :: es) X.env = (false, eval e X.env) :: starEach es X.env := by rfl) (hpl : (backTo pos (starEach es X.env)).any (·.1) = false := by rfl) : PE X (.Call (.Name x p) (e :: es) [] pos) (tCB r t) := by
  intro pins s σ H Q I h
  refine wpAny_Call_Name_kw (ld_blt I hg hm hv ?_ hn hdb)
  exact PyProof.Rows.callWith_builtin1 (thn (ha pos pins s σ H _ I h) fun us s1 ⟨vs, H1, I1, r1, q1⟩ => hc pins s1 σ H1 vs us Q I1 r1 q1) he hpl
theorem pe_callTy (hc : CallR X (.type T) r) (hg : Gl X x) (hm : X.mg x = none) (hv : bootBuiltins x = some (.type T)) (ha : PA X (e :: es) t) (hn : x ≠ "__name__" := by decide) (hdb : (x == ("__debug__" : Str)) = false := by decide)
    (he : starEach (e :: es) X.env = (false, eval e X.env) :: starEach es X.env := by rfl) (hpl : (backTo pos (starEach es X.env)).any (·.1) = false := by rfl) : PE X (.Call (.Name x p) (e :: es) [] pos) (tCB r t) := by
  intro pins s σ H Q I h
  refine wpAny_Call_Name_kw (ld_blt I hg hm hv ?_ hn hdb)
  exact PyProof.Rows.callWith_type1 (thn (ha pos pins s σ H _ I h) fun us s1 ⟨vs, H1, I1, r1, q1⟩ => hc pins s1 σ H1 vs us Q I1 r1 q1) he hpl
end
end L2
namespace HT
open PySem PyProof.Rows
def lexLt : List Int → List Int → Bool
  | [], [] => false
  | [], _ :: _ => true
  | _ :: _, [] => false
  | x :: xs, y :: ys => if x = y then lexLt xs ys else decide (x < y)
theorem lexLt_cons (x y : Int) (xs ys : List Int) : lexLt (x :: xs) (y :: ys) = if x = y then lexLt xs ys else decide (x < y) := rfl
theorem lexLt_nil_nil : lexLt [] [] = false := rfl
theorem lexLt_nil_cons (y : Int) (ys : List Int) : lexLt [] (y :: ys) = true := rfl
theorem lexLt_cons_nil (x : Int) (xs : List Int) : lexLt (x :: xs) [] = false := rfl
theorem eqAt_int (A : Around) (s : Shared) (a : Int) (t : Tok) (c : Int) (u : Tok) : ∃ e, SeqAt.EqAt A s (.int a t) (.int c u) e ∧ (e = true ↔ a = c) :=
  ⟨(a == c), SeqAt.EqAt.int_int a t c u, by simp⟩
theorem rcLt_int (A : Around) (s : Shared) (a : Int) (t : Tok) (c : Int) (u : Tok) (prog : Program) (w : World) (E : Value → Shared → Prop) (Q : Value → Shared → Prop) (h : Q (.bool (decide (a < c))) s) :
    wpAny (model prog w) A (richCompare .Lt (.int a t) (.int c u)) Q E s :=
  (PyProof.Rows.lt_int h : wpAny (model prog w) A (compareOp .Lt (.int a t) (.int c u)) Q E s)
section
open PySem.SeqAt
open PySem.AutoSeq1 (wpAny_loadPart')
open PySem.MeetsSeq PySem.MeetsSeq2 PySem.MeetsSeq3
theorem tuple_lt_ints (l b : Addr) (items items2 : Array Value) (n n2 : Nat) (dd dd2 : Option Addr) (sl sl2 : Array (Option Value)) (ns ms : List Int) (hi : IntsAre items.toList ns) (hj : IntsAre items2.toList ms) :
    Meets (Builtin.«tuple.__lt__» ⟨[.ref l, .ref b], []⟩)
      (fun _ R s => s.heap.get? l = some { cls := .type "tuple", dict := dd, data := .seq items n, slots := sl } ∧ s.heap.get? b = some { cls := .type "tuple", dict := dd2, data := .seq items2 n2, slots := sl2 } ∧
        R (.ok (.ret (.bool (lexLt ns ms)))) s) :=
  .of_wp fun prog w A R s h => by
    obtain ⟨hp, g, d, tk, os⟩ := s; obtain ⟨hl, hb, h⟩ := h
    have f2 := AutoSeq1.sub_tuple_tuple
    have z1 : items.size = ns.length := by rw [← hi.length]; simp
    have z2 : items2.size = ms.length := by rw [← hj.length]; simp
    wp_walk using wpAny_loadPart' hl, wpAny_loadPart' hb, wpAny_forIn_list _ (fun rest b s' => b.1 = none ∧ s' = ⟨hp, g, d, tk, os⟩ ∧ ∃ (vs ws : List Value) (ns' ms' : List Int), rest = vs.zip ws ∧
      IntsAre vs ns' ∧ IntsAre ws ms' ∧ ns'.length + items2.size = ms'.length + items.size ∧ R (.ok (.ret (.bool (lexLt ns' ms')))) ⟨hp, g, d, tk, os⟩) _
    case turn =>
      rintro ⟨y, x⟩ rest b s' ⟨hb', rfl, vs, ws, ns', ms', hz, hvi, hwi, hlen, hR⟩
      cases hvi with
      | nil => rw [List.zip_nil_left] at hz; cases hz
      | cons a t hvi' =>
        cases hwi with
        | nil => rw [List.zip_nil_right] at hz; cases hz
        | cons c u hwi' =>
          rw [List.zip_cons_cons] at hz
          injection hz with hyx hrest
          injection hyx with hy hx
          subst hy hx
          rw [lexLt_cons] at hR
          simp only [List.length_cons] at hlen
          obtain ⟨e, he, hiff⟩ := eqAt_int A.in1 ⟨hp, g, d, tk, os⟩ a t c u
          refine wpAny_bind (he prog w _ _ ?_)
          cases e with
          | true =>
            rw [if_pos (hiff.mp rfl)] at hR
            wp_walk
            exact ⟨rfl, rfl, _, _, _, _, hrest, hvi', hwi', by omega, hR⟩
          | false =>
            rw [if_neg (fun q => absurd (hiff.mpr q) Bool.false_ne_true)] at hR
            have hri := rcLt_int A.in1 ⟨hp, g, d, tk, os⟩ a t c u prog w
            wp_walk using hri
            exact ⟨_, rfl, by simpa using hR⟩
    case fin =>
      rintro ⟨b1, b2⟩ s' ⟨hb', rfl, vs, ws, ns', ms', hz, hvi, hwi, hlen, hR⟩
      simp only at hb'
      subst hb'
      have hv : lexLt ns' ms' = decide (items.size < items2.size) := by
        cases hvi with
        | nil =>
          cases hwi with
          | nil =>
            simp only [List.length_nil] at hlen
            rw [lexLt_nil_nil]
            exact (decide_eq_false (by omega)).symm
          | cons c u hw =>
            simp only [List.length_nil, List.length_cons] at hlen
            rw [lexLt_nil_cons]
            exact (decide_eq_true (by omega)).symm
        | cons a t hv =>
          cases hwi with
          | nil =>
            simp only [List.length_nil, List.length_cons] at hlen
            rw [lexLt_cons_nil]
            exact (decide_eq_false (by omega)).symm
          | cons c u hw =>
            rw [List.zip_cons_cons] at hz
            cases hz
      rw [hv] at hR
      wp_walk
      exact ⟨_, rfl, by simpa [Builtin.Tuple.tupleCompareSizes] using hR⟩
    case h =>
      exact ⟨rfl, rfl, items.toList, items2.toList, ns, ms, rfl, hi, hj, by omega, h⟩
end
section
variable {prog : Program} {w : World} {A : Around} {E : Value → Shared → Prop} {s : Shared}
theorem lt_tupInts {l b : Addr} {items items2 : Array Value} {ns ms : List Int} {Q : Value → Shared → Prop} (hl : IsTup s.heap l items) (hb : IsTup s.heap b items2) (hi : IntsAre items.toList ns) (hj : IntsAre items2.toList ms)
    (hu : A.units < cLine) (h : Q (.bool (lexLt ns ms)) s) : wpAny (model prog w) A (compareOp .Lt (.ref l) (.ref b)) Q E s := by
  obtain ⟨⟨cls, dd, data, sl⟩, ho, hc, n, hd⟩ := id hl
  obtain ⟨⟨cls2, dd2, data2, sl2⟩, ho2, hc2, n2, hd2⟩ := id hb
  simp only at hc hd hc2 hd2
  subst hc hd hc2 hd2
  exact richCompare_meets_room (op := .Lt) ⟨_, ho, rfl⟩ ⟨_, ho2, rfl⟩ PySem.F.slot_tuple_lt PySem.F.entry_tuple_lt (PySem.F.args_tuple_lt_2 _ _) (tuple_lt_ints l b items items2 n n2 dd dd2 sl sl2 ns ms hi hj)
    ⟨ho, ho2, show Value.bool (lexLt ns ms) ≠ Value.notImplemented ∧ Q (.bool (lexLt ns ms)) s from ⟨(fun x => nomatch x), h⟩⟩ hu
theorem cat_tup {t b : Addr} {vs ws : List Value} {Q : Value → Shared → Prop} (ht : IsTup s.heap t vs.toArray) (hb : IsTup s.heap b ws.toArray) (hv : vs ≠ [])
    (h1 : ws = [] → Q (.ref t) s) (h2 : ws ≠ [] → Q (.ref s.heap.objs.size) { s with heap := s.heap.push { cls := .type "tuple", data := .seq (vs ++ ws).toArray } })
    (hsz : vs.length + ws.length ≤ sizeLine) : wpAny (model prog w) A (binaryOp .Add (.ref t) (.ref b)) Q E s := by
  obtain ⟨⟨cls, dd, data, sl⟩, ho, hc, n, hd⟩ := id ht
  obtain ⟨⟨cls2, dd2, data2, sl2⟩, ho2, hc2, n2, hd2⟩ := id hb
  simp only at hc hd hc2 hd2
  subst hc hd hc2 hd2
  have e : vs.toArray ++ ws.toArray = (vs ++ ws).toArray := by simp
  by_cases hw : ws = []
  · exact concat_meets ⟨_, ho, rfl⟩ ⟨_, ho2, rfl⟩ noFill_tuple_add seq_tuple_add PySem.F.slot_tuple_add PySem.F.entry_tuple_add (PySem.F.args_tuple_add_2 _ _)
      (tuple_addW1 t b vs.toArray ws.toArray n n2 dd dd2 sl sl2 (by simpa using hv) (by simp [hw])) ⟨ho, ho2, h1 hw⟩
  · refine concat_meets ⟨_, ho, rfl⟩ ⟨_, ho2, rfl⟩ noFill_tuple_add seq_tuple_add PySem.F.slot_tuple_add PySem.F.entry_tuple_add (PySem.F.args_tuple_add_2 _ _)
      (tuple_addW2 t b vs.toArray ws.toArray n n2 dd dd2 sl sl2 (by simpa using hv) (by simpa using hw) (by rw [List.size_toArray, List.size_toArray]; exact hsz)) ⟨ho, ho2, ?_⟩
    rw [e]
    exact h2 hw
def sIx (n d : Nat) : Option Int → Nat
  | none => d
  | some v => if v < 0 then (v + (n : Int)).toNat else min v.toNat n
theorem sIx_le (n d : Nat) (hd : d ≤ n) (o : Option Int) : sIx n d o ≤ n := by
  cases o with
  | none => exact hd
  | some v =>
    show (if v < 0 then (v + (n : Int)).toNat else min v.toNat n) ≤ n
    by_cases hv : v < 0
    · rw [if_pos hv]; omega
    · rw [if_neg hv]; exact Nat.min_le_right _ _
theorem clip_eq (v : Int) (n d : Nat) : (if v < 0 then max (v + (n : Int)) 0 else min v (n : Int)) = ((sIx n d (some v) : Nat) : Int) := by
  show (if v < 0 then max (v + (n : Int)) 0 else min v (n : Int)) = (((if v < 0 then (v + (n : Int)).toNat else min v.toNat n) : Nat) : Int)
  by_cases hv : v < 0
  · simp only [if_pos hv]; omega
  · simp only [if_neg hv]; omega
theorem adjust_gen (lo hi : Option Int) (n : Nat) : Builtin.Slice.sliceAdjust lo hi 1 (n : Int) = (((sIx n 0 lo : Nat) : Int), ((sIx n n hi : Nat) : Int)) := by
  have h1 : ¬ ((1 : Int) < 0) := by omega
  unfold Builtin.Slice.sliceAdjust
  simp only [h1, if_false]
  refine Prod.ext ?_ ?_
  · cases lo with
    | none => rfl
    | some v => exact clip_eq v n 0
  · cases hi with
    | none => rfl
    | some v => exact clip_eq v n n
theorem places_gen (i j : Nat) : Builtin.Slice.slicePlaces (i : Int) (j : Int) 1 = j - i := by
  unfold Builtin.Slice.slicePlaces
  have h1 : (1 : Int) > 0 := by omega
  simp only [h1, if_true, Int.ediv_one]
  split <;> omega
theorem slicePart_ {v : Value} {o : Option Int} {Q : Option Int → Shared → Prop} (p : IsPart v o) (h : Q o s) : wpAny (model prog w) A (Builtin.Slice.slicePartIndex v) Q E s := by
  cases p with
  | none => exact slicePart_none h
  | int i t => exact slicePart_int h
theorem sliceApplied_gen {sl : Addr} {vl vu : Value} {lo hi : Option Int} {n : Nat} {Q : Int × Int × Nat → Shared → Prop} (hs : s.heap.IsSliceOf sl vl vu .none) (pl : IsPart vl lo) (pu : IsPart vu hi)
    (h : Q (((sIx n 0 lo : Nat) : Int), 1, sIx n n hi - sIx n 0 lo) s) : wpAny (model prog w) A (Builtin.Slice.sliceApplied (.ref sl) (pure (n : Int))) Q E s := by
  obtain ⟨os, hos, hcs, hds⟩ := id hs
  unfold Builtin.Slice.sliceApplied Builtin.Slice.sliceFields
  refine wpAny_bind (wpAny_bind (wpAny_field hos hds (x := vl) rfl (wpAny_bind (wpAny_field hos hds (x := vu) rfl (wpAny_bind (wpAny_field hos hds (x := .none) rfl (wpAny_pure ?_)))))))
  refine wpAny_bind (slicePart_none ?_)
  show wpAny _ _ (if ((1 : Int) == 0) = true then _ else _) _ _ s
  rw [if_neg (by decide)]
  refine wpAny_bind (slicePart_ pl (wpAny_bind (slicePart_ pu (wpAny_bind (wpAny_pure ?_)))))
  show wpAny _ _ (match Builtin.Slice.sliceAdjust lo hi 1 (n : Int) with | (lo, hi) => pure (lo, (1 : Int), Builtin.Slice.slicePlaces lo hi 1)) _ _ s
  rw [adjust_gen lo hi n]
  show wpAny _ _ (pure (((sIx n 0 lo : Nat) : Int), (1 : Int), Builtin.Slice.slicePlaces ((sIx n 0 lo : Nat) : Int) ((sIx n n hi : Nat) : Int) 1)) _ _ s
  rw [places_gen]
  exact wpAny_pure h
theorem pick_gen (xs : Array Value) (i k : Nat) : ((List.range k).filterMap fun (m : Nat) => xs[((i : Int) + (m : Int) * 1).toNat]?).toArray = ((xs.toList.drop i).take k).toArray := by
  have e : (fun (m : Nat) => xs[((i : Int) + (m : Int) * 1).toNat]?) = fun m => xs[i + m]? := by
    funext m
    have : ((i : Int) + (m : Int) * 1).toNat = i + m := by omega
    rw [this]
  rw [e]
  have := pick_run xs i k
  rw [List.filterMap_map] at this
  have e2 : ((fun x => xs[x]?) ∘ fun x => i + x) = fun m => xs[i + m]? := rfl
  rw [e2] at this
  rw [this]
theorem getItem_tuple_cut {t sl : Addr} {items : Array Value} {vl vu : Value} {lo hi : Option Int} {Q : Value → Shared → Prop} (ht : IsTup s.heap t items) (hs : s.heap.IsSliceOf sl vl vu .none) (pl : IsPart vl lo) (pu : IsPart vu hi)
    (hw : ¬ (sIx items.size 0 lo = 0 ∧ sIx items.size items.size hi = items.size))
    (h : Q (.ref s.heap.objs.size) { s with heap := s.heap.push { cls := .type "tuple", data := .seq ((items.toList.drop (sIx items.size 0 lo)).take (sIx items.size items.size hi - sIx items.size 0 lo)).toArray } })
    (hsz : items.size ≤ sizeLine) : wpAny (model prog w) A (getItem (.ref t) (.ref sl)) Q E s := by
  have htake : sizeOk (.seq ((items.toList.drop (sIx items.size 0 lo)).take (sIx items.size items.size hi - sIx items.size 0 lo)).toArray) := by
    show ((items.toList.drop (sIx items.size 0 lo)).take (sIx items.size items.size hi - sIx items.size 0 lo)).toArray.size ≤ sizeLine
    rw [List.size_toArray, List.length_take, List.length_drop, Array.length_toList]
    omega
  have hj : sIx items.size items.size hi ≤ items.size := sIx_le _ _ (Nat.le_refl _) hi
  obtain ⟨os, hos, hcs, hds⟩ := id hs
  have hTs : s.TypeIs (.ref sl) "slice" := ⟨os, hos, hcs⟩
  unfold getItem
  try with_reducible refine wpAny_holding ?_
  first | refine wpAny_bind (wpAny_pure ?_) | skip
  refine wpAny_bind (wpAny_sequenceKey ht.typeIs (by decide) ?_)
  refine wpAny_bind (wpAny_callSpecial?_slot (name := Str.ofString "__getitem__") ht.typeIs PyProof.Rows.slot_tuple_getitem
    (wpAny_call_entry PyProof.Rows.slot_tuple_getitem ht.typeIs entry_tuple_getitem ?_ (args_tuple_getitem _ _)))
  show wpAny _ _ (Builtin.Tuple.tupleItemsOf (.ref t) >>= _) _ _ s
  refine wpAny_bind (tupleItemsOf_ ht ?_)
  refine wpAny_bind (wpAny_typeOf hTs ?_)
  rw [if_pos (by decide)]
  refine wpAny_bind (sliceApplied_gen hs pl pu ?_)
  have hno : ¬ ((((sIx items.size 0 lo : Nat) : Int) == 0 && (1 : Int) == 1 && (sIx items.size items.size hi - sIx items.size 0 lo) == items.size) = true) := by
    intro q
    rw [Bool.and_eq_true, Bool.and_eq_true] at q
    have q1 : ((sIx items.size 0 lo : Nat) : Int) = 0 := eq_of_beq q.1.1
    have q2 : sIx items.size items.size hi - sIx items.size 0 lo = items.size := eq_of_beq q.2
    exact hw ⟨by omega, by omega⟩
  show wpAny _ _ (if (((sIx items.size 0 lo : Nat) : Int) == 0 && (1 : Int) == 1 && (sIx items.size items.size hi - sIx items.size 0 lo) == items.size) = true then _ else _) _ _ s
  rw [if_neg hno, pick_gen]
  first
    | exact wpAny_bind (m := Builtin.Tuple.tupleExact _) (wpAny_newObj_type (wpAny_pure ⟨_, rfl, wpAny_pure h⟩) htake)
    | exact wpAny_bind (m := Builtin.Tuple.tupleExact _) (wpAny_newObj_type (wpAny_bind (wpAny_pure (wpAny_pure ⟨_, rfl, wpAny_pure h⟩))) htake)
    | exact wpAny_bind (wpAny_bind (m := Builtin.Tuple.tupleExact _) (wpAny_newObj_type (wpAny_pure (wpAny_pure ⟨_, rfl, wpAny_pure h⟩)) htake))
    | exact wpAny_bind (wpAny_bind (m := Builtin.Tuple.tupleExact _) (wpAny_newObj_type (wpAny_pure ⟨_, rfl, wpAny_pure h⟩) htake))
end
end HT
namespace L2
open PySem PySem.Spec PyProof.Rows
abbrev TO := St → Hp → (Option Int → Hp → Prop) → Prop
def PO (X : Cx) (e : Option Expr) (t : TO) : Prop :=
  ∀ (pins : List (Addr × Obj)) (s : Shared) (σ : St) (H : Hp) (Q : Option Int → Hp → Prop), Inv X pins σ H s → t σ H Q →
    wpAny (model X.prog X.w) X.A (evalPart e X.env) (fun u s' => ∃ o H', Inv X pins σ H' s' ∧ IsPart u o ∧ Q o H') X.xe s
def tNoPart : TO := fun _ H Q => Q none H
def tPart (t : TE) : TO := fun σ H Q => t σ H fun x H1 => ∃ i, x = .int i ∧ Q (some i) H1
theorem intsAre_of {ns : List Int} : ∀ {us : List Value}, Vals (ns.map V.int) us → IntsAre us ns := by
  induction ns with
  | nil => intro us r; rw [List.map_nil] at r; cases r; exact .nil
  | cons n ns ih =>
    intro us r
    rw [List.map_cons] at r
    cases r with
    | cons r1 r2 =>
      obtain ⟨t, e⟩ := r1
      subst e
      exact .cons n t (ih r2)
section
variable {X : Cx} {e : Expr} {te : TE} {lo hi : Option Expr} {tl th : TO} {pos p2 : Pos}
theorem po_none : PO X none tNoPart := by
  intro pins s σ H Q I h
  rw [evalPart_none]
  exact wpAny_pure ⟨none, H, I, .none, h⟩
theorem po_some (h : PE X e te) : PO X (some e) (tPart te) := by
  intro pins s σ H Q I hw
  rw [evalPart_some]
  refine thn (h pins s σ H _ I hw) fun u s1 ⟨x, H1, I1, r1, q1⟩ => ?_
  obtain ⟨i, rfl, q⟩ := q1
  obtain ⟨t, rfl⟩ := r1
  exact ⟨some i, H1, I1, .int i t, q⟩
def SlR (X : Cx) (r : V → Option Int → Option Int → Hp → VK → Prop) : Prop :=
  ∀ (pins : List (Addr × Obj)) (s : Shared) (σ : St) (H : Hp) (x : V) (v vl vu : Value) (lo hi : Option Int) (sl : Addr) (Q : VK), Inv X pins σ H s → RelV x v → s.heap.IsSliceOf sl vl vu .none → IsPart vl lo → IsPart vu hi → r x lo hi H Q →
    ∃ T id, typeLookup (.type T) "__getitem__" = pure (some (.builtin id)) ∧ s.TypeIs v T ∧ wpAny (model X.prog X.w) X.A (getItem v (.ref sl)) (EP X pins σ Q) X.xe s
theorem SlR.or {r r' : V → Option Int → Option Int → Hp → VK → Prop} (h : SlR X r) (h' : SlR X r') : SlR X (fun x lo hi H Q => r x lo hi H Q ∨ r' x lo hi H Q) := by
  intro pins s σ H x v vl vu lo hi sl Q I rx hs pl pu q
  rcases q with q | q
  · exact h pins s σ H x v vl vu lo hi sl Q I rx hs pl pu q
  · exact h' pins s σ H x v vl vu lo hi sl Q I rx hs pl pu q
def tSl (r : V → Option Int → Option Int → Hp → VK → Prop) (te : TE) (tl th : TO) : TE := fun σ H Q => te σ H fun x H1 => tl σ H1 fun l H2 => th σ H2 fun u H3 => r x l u H3 Q
theorem pe_slice {r : V → Option Int → Option Int → Hp → VK → Prop} (hr : SlR X r) (he : PE X e te) (hl : PO X lo tl) (hu : PO X hi th) : PE X (.Subscript e (.Slice lo hi none p2) pos) (tSl r te tl th) := by
  intro pins s σ H Q I h
  refine Subscript_ (thn (he pins s σ H _ I h) fun v s1 ⟨x, H1, I1, r1, q1⟩ => ?_)
  refine wpAny_Slice (thn (hl pins s1 σ H1 _ I1 q1) fun vl s2 ⟨l, H2, I2, pl, q2⟩ => thn (hu pins s2 σ H2 _ I2 q2) fun vu s3 ⟨u, H3, I3, pu, q3⟩ => ?_)
  rw [evalPart_none]
  refine wpAny_pure ?_
  have I4 : Inv X pins σ H3 { s3 with heap := s3.heap.push { cls := .type "slice", data := .fields #[vl, vu, .none] } } := I3.kept (t' := s3.toks) fun b ob q => Heap.get?_push_of_some _ q
  obtain ⟨T, id, hT, ht, hg⟩ := hr pins { s3 with heap := s3.heap.push { cls := .type "slice", data := .fields #[vl, vu, .none] } } σ H3 x v vl vu l u s3.heap.objs.size Q I4 r1 (Heap.IsSliceOf.new ..) pl pu q3
  show wpAny (model X.prog X.w) X.A (subscriptTail e (.Slice lo hi none p2) v (.ref s3.heap.objs.size)) (EP X pins σ Q) X.xe { s3 with heap := s3.heap.push { cls := .type "slice", data := .fields #[vl, vu, .none] } }
  exact tail_any (ops := [.ref s3.heap.objs.size, v]) ht hT hg (by with_unfolding_all rfl)
def cutV (xs : List V) (lo hi : Option Int) : List V := (xs.drop (HT.sIx xs.length 0 lo)).take (HT.sIx xs.length xs.length hi - HT.sIx xs.length 0 lo)
theorem cutV_length (xs : List V) (lo hi : Option Int) : (cutV xs lo hi).length ≤ xs.length := by
  unfold cutV
  rw [List.length_take, List.length_drop]
  omega
def rSlT (K : PySem.W.Frag) : V → Option Int → Option Int → Hp → VK → Prop := fun x lo hi H Q => ∃ a xs, x = .ref a ∧ SqT K H a xs ∧
  ¬ (HT.sIx xs.length 0 lo = 0 ∧ HT.sIx xs.length xs.length hi = xs.length) ∧ ∀ p, H p = none → Q (.ref p) (upd H p (.tup (cutV xs lo hi)))
theorem sl_tup : SlR X (rSlT X.K) := by
  intro pins s σ H x v vl vu lo hi sl Q I rx hs pl pu h
  obtain ⟨a, xs, rfl, hx, hw, q⟩ := h
  cases rx
  obtain ⟨its, r, ht, hz⟩ := I.tuple hx
  have hlen : its.toArray.size = xs.length := by rw [List.size_toArray]; exact r.length.symm
  refine ⟨"tuple", _, PyProof.Rows.slot_tuple_getitem.lookup, ht.typeIs, ?_⟩
  refine HT.getItem_tuple_cut ht hs pl pu (by rw [hlen]; exact hw) ?_ (by rw [hlen]; exact hz)
  rw [hlen]
  refine ⟨.ref s.heap.objs.size, _, I.laid (t' := s.toks) (o := .tup (cutV xs lo hi)) (fun b ob q => Heap.get?_push_of_some _ q) (Nat.le_refl _) ?_, rfl, q _ (I.hok.fresh (Nat.le_refl _))⟩
  exact ⟨Nat.le_trans (cutV_length xs lo hi) hz, _, (r.drop (HT.sIx xs.length 0 lo)).take (HT.sIx xs.length xs.length hi - HT.sIx xs.length 0 lo), IsTupP.new _ _⟩
def rLtT (K : PySem.W.Frag) : R2 := fun x y H Q => ∃ a b ns ms, x = .ref a ∧ y = .ref b ∧ SqT K H a (ns.map V.int) ∧ SqT K H b (ms.map V.int) ∧ Q (.bl (HT.lexLt ns ms)) H
theorem op_ltT (hu : X.A.units < cLine) : OpR X (compareOp .Lt) (rLtT X.K) := by
  intro pins s σ H x y v u Q I rx ry h
  obtain ⟨a, b, ns, ms, rfl, rfl, ha, hb, q⟩ := h
  cases rx
  cases ry
  obtain ⟨its, r1, p1, _⟩ := I.tuple ha
  obtain ⟨its2, r2, p2, _⟩ := I.tuple hb
  have i1 : IntsAre its.toArray.toList ns := intsAre_of r1
  have i2 : IntsAre its2.toArray.toList ms := intsAre_of r2
  exact HT.lt_tupInts p1 p2 i1 i2 hu ⟨.bl (HT.lexLt ns ms), H, I, rfl, q⟩
def rCatT (K : PySem.W.Frag) : R2 := fun x y H Q => ∃ a b xs ys, x = .ref a ∧ y = .ref b ∧ SqT K H a xs ∧ SqT K H b ys ∧ xs ≠ [] ∧ xs.length + ys.length ≤ sizeLine ∧
  (ys = [] → Q (.ref a) H) ∧ (ys ≠ [] → ∀ p, H p = none → Q (.ref p) (upd H p (.tup (xs ++ ys))))
theorem Vals.nil_iff {xs : List V} {us : List Value} (r : Vals xs us) : us = [] ↔ xs = [] := by
  cases r with
  | nil => simp
  | cons _ _ => simp
theorem op_catT : OpR X (binaryOp .Add) (rCatT X.K) := by
  intro pins s σ H x y v u Q I rx ry h
  obtain ⟨a, b, xs, ys, rfl, rfl, ha, hb, hx, hz, q1, q2⟩ := h
  cases rx
  cases ry
  obtain ⟨its, r1, p1, _⟩ := I.tuple ha
  obtain ⟨its2, r2, p2, _⟩ := I.tuple hb
  refine HT.cat_tup p1 p2 (fun z => hx (r1.nil_iff.mp z)) (fun z => ⟨.ref a, H, I, rfl, q1 (r2.nil_iff.mp z)⟩) (fun z => ?_) (by rw [← r1.length, ← r2.length]; exact hz)
  refine ⟨.ref s.heap.objs.size, _, I.laid (t' := s.toks) (o := .tup (xs ++ ys)) (fun b ob q => Heap.get?_push_of_some _ q) (Nat.le_refl _) ?_, rfl, q2 (fun w => z (r2.nil_iff.mpr w)) _ (I.hok.fresh (Nat.le_refl _))⟩
  exact ⟨by rw [List.length_append]; exact hz, _, r1.append r2, IsTupP.new _ _⟩
end
def ixN (n : Nat) (i : Int) : Option Nat := if 0 ≤ i then (if i < n then some i.toNat else none) else if -(n : Int) ≤ i then some (i + n).toNat else none
def atI {α : Type} (xs : List α) (i : Int) : Option α := (ixN xs.length i).bind fun j => xs[j]?
theorem ixN_seq {n : Nat} {i : Int} {j : Nat} (h : ixN n i = some j) : seqIndex? i n = some j ∧ j < n ∧ -(n : Int) ≤ i ∧ i < n := by
  unfold ixN at h
  by_cases h0 : 0 ≤ i
  · rw [if_pos h0] at h
    by_cases h1 : i < n
    · rw [if_pos h1] at h
      have e : i.toNat = j := Option.some.inj h
      exact ⟨by rw [seqIndex_of h0 h1, e], by omega, by omega, h1⟩
    · rw [if_neg h1] at h; cases h
  · rw [if_neg h0] at h
    by_cases h1 : -(n : Int) ≤ i
    · rw [if_pos h1] at h
      have e : (i + n).toNat = j := Option.some.inj h
      exact ⟨by rw [seqIndex_neg (by omega) h1, e], by omega, h1, by omega⟩
    · rw [if_neg h1] at h; cases h
theorem atI_get {α : Type} {xs : List α} {i : Int} {v : α} (h : atI xs i = some v) : ∃ j, seqIndex? i xs.length = some j ∧ xs[j]? = some v ∧ j < xs.length ∧ -(xs.length : Int) ≤ i ∧ i < xs.length := by
  unfold atI at h
  cases e : ixN xs.length i with
  | none => rw [e] at h; cases h
  | some j =>
    rw [e] at h
    obtain ⟨h1, h2, h3, h4⟩ := ixN_seq e
    exact ⟨j, h1, h, h2, h3, h4⟩
theorem atI_nat {α : Type} {xs : List α} {j : Nat} {v : α} (h : xs[j]? = some v) : atI xs (j : Int) = some v := by
  have hj : j < xs.length := (List.getElem?_eq_some_iff.mp h).1
  have e : ixN xs.length (j : Int) = some j := by
    unfold ixN
    rw [if_pos (by omega), if_pos (by omega)]; simp
  unfold atI; rw [e]; exact h
theorem atI_last {α : Type} (xs : List α) (v : α) : atI (xs ++ [v]) (-1) = some v := by
  have hl : (xs ++ [v]).length = xs.length + 1 := by simp
  have e : ixN (xs ++ [v]).length (-1) = some xs.length := by
    unfold ixN
    rw [hl, if_neg (by decide), if_pos (by omega)]
    congr 1
    omega
  unfold atI
  rw [e]
  show (xs ++ [v])[xs.length]? = some v
  simp
def PlainIx (b : Expr) : Prop := ∀ o i, subscripted b false o i = operate [o, i] (getItem o i)
def IxR (X : Cx) (r : R2) : Prop :=
  ∀ (value slice : Expr) (pins : List (Addr × Obj)) (s : Shared) (σ : St) (H : Hp) (x y : V) (v u : Value) (Q : VK), Inv X pins σ H s → RelV x v → RelV y u → r x y H Q →
    subscripted slice false v u = operate [v, u] (getItem v u) → wpAny (model X.prog X.w) X.A (subscriptTail value slice v u) (EP X pins σ Q) X.xe s
def MtR (X : Cx) (id : String) (r : V → List V → Hp → VK → Prop) : Prop :=
  ∀ (pins : List (Addr × Obj)) (s : Shared) (σ : St) (H : Hp) (x : V) (xs : List V) (v : Value) (us : List Value) (Q : VK), Inv X pins σ H s → RelV x v → Vals xs us → r x xs H Q →
    wpAny (model X.prog X.w) X.A (call (.builtin id) (v :: us)) (EP X pins σ Q) X.xe s
section
variable {X : Cx} {a b : Expr} {ta tb : TE} {pos : Pos}
theorem IxR.or {r r' : R2} (h : IxR X r) (h' : IxR X r') : IxR X (fun x y H Q => r x y H Q ∨ r' x y H Q) := by
  intro value slice pins s σ H x y v u Q I rx ry q hs
  rcases q with q | q
  · exact h value slice pins s σ H x y v u Q I rx ry q hs
  · exact h' value slice pins s σ H x y v u Q I rx ry q hs
theorem pe_ix {r : R2} (hr : IxR X r) (ha : PE X a ta) (hb : PE X b tb) (hs : PlainIx b) : PE X (.Subscript a b pos) (tOp r ta tb) := by
  intro pins s σ H Q I h
  exact Subscript_ (binT ha hb I h fun v u s2 x y H2 I2 rx ry q => hr a b pins s2 σ H2 x y v u Q I2 rx ry q (hs _ _))
def rIxL (K : PySem.W.Frag) : R2 := fun x y H Q => ∃ p xs i v, x = .ref p ∧ y = .int i ∧ SqL K H p xs ∧ atI xs i = some v ∧ Q v H
def rIxT (K : PySem.W.Frag) : R2 := fun x y H Q => ∃ p xs i v, x = .ref p ∧ y = .int i ∧ SqT K H p xs ∧ atI xs i = some v ∧ Q v H
def rIxS : R2 := fun x y H Q => ∃ z i c, x = .str z ∧ y = .int i ∧ z.length ≤ sizeLine ∧ atI z.cps.toList i = some c ∧ Q (.str ⟨#[c]⟩) H
theorem ix_list : IxR X (rIxL X.K) := by
  intro value slice pins s σ H x y v u Q I rx ry h hs
  obtain ⟨p, xs, i, z, rfl, rfl, hq, he, q⟩ := h
  cases rx
  obtain ⟨t, rfl⟩ := ry
  obtain ⟨its, r, pl, hz⟩ := I.list hq
  obtain ⟨j, h1, h2, h3, h4, h5⟩ := atI_get he
  obtain ⟨w, ew, rw'⟩ := r.get h2
  have hl := r.length
  have hn := line63
  have fin : EP X pins σ Q w s := ⟨z, H, I, rw', q⟩
  by_cases h0 : 0 ≤ i
  · have hj : i.toNat = j := by
      rw [seqIndex_of h0 h5] at h1
      exact Option.some.inj h1
    exact item_listR pl.isList h0 (by omega) (by rw [hj]; simpa using ew) fin hs
  · have hj : (i + (its.toArray.size : Int)).toNat = j := by
      rw [seqIndex_neg (by omega) h4] at h1
      rw [List.size_toArray, ← hl]
      exact Option.some.inj h1
    exact subscriptTail_builtinR (x := w) pl.isList.typeIs slot_list_getitem.lookup
      (wpAny_getItem_list_neg (Q := fun r s' => r = w ∧ EP X pins σ Q r s') pl.isList (by omega) (by rw [List.size_toArray] <;> omega) (by omega) (by rw [hj]; simpa using ew) ⟨rfl, fin⟩) hs
theorem ix_tup : IxR X (rIxT X.K) := by
  intro value slice pins s σ H x y v u Q I rx ry h hs
  obtain ⟨p, xs, i, z, rfl, rfl, hq, he, q⟩ := h
  cases rx
  obtain ⟨t, rfl⟩ := ry
  obtain ⟨its, r, pl, hz⟩ := I.tuple hq
  obtain ⟨j, h1, h2, h3, h4, h5⟩ := atI_get he
  obtain ⟨w, ew, rw'⟩ := r.get h2
  have hl := r.length
  have hn := line63
  have fin : EP X pins σ Q w s := ⟨z, H, I, rw', q⟩
  exact subscriptTail_builtinR (x := w) pl.typeIs slot_tuple_getitem.lookup
    (getItem_tuple (j := j) (Q := fun r s' => r = w ∧ EP X pins σ Q r s') pl (by omega) (by omega) (by rw [List.size_toArray, ← hl]; exact h1) (by simpa using ew) ⟨rfl, fin⟩) hs
theorem ix_str : IxR X rIxS := by
  intro value slice pins s σ H x y v u Q I rx ry h hs
  obtain ⟨z, i, c, rfl, rfl, hz, he, q⟩ := h
  obtain ⟨t, rfl⟩ := rx
  obtain ⟨t', rfl⟩ := ry
  obtain ⟨j, h1, h2, h3, h4, h5⟩ := atI_get he
  have hl : z.cps.toList.length = z.length := by simp [Str.length]
  rw [hl] at h1 h4 h5
  have hn := line63
  exact tail_any (typeIs_str s z t) slot_str_getitem.lookup (getItem_str (c := c) (by
    have e1 : decide (i < -(2 ^ 63 : Int)) = false := decide_eq_false (by omega)
    have e2 : decide (i ≥ 2 ^ 63) = false := decide_eq_false (by omega)
    rw [e1, e2, Bool.or_false]) (by rw [h1]; simpa using h2) ⟨.str ⟨#[c]⟩, H, I.tok _, ⟨_, rfl⟩, q⟩) hs
def rIx (K : PySem.W.Frag) : R2 := fun x y H Q => rIxL K x y H Q ∨ rIxT K x y H Q ∨ rIxS x y H Q
theorem ix_seq : IxR X (rIx X.K) := ix_list.or (ix_tup.or ix_str)
theorem slice_bounds (lo hi : Option Int) (n : Nat) : (sliceBounds lo hi none n).1 = ((HT.sIx n 0 lo : Nat) : Int) ∧ (sliceBounds lo hi none n).2.1 = ((HT.sIx n n hi : Nat) : Int) ∧ (sliceBounds lo hi none n).2.2 = 1 := by
  refine ⟨?_, ?_, rfl⟩
  · cases lo with
    | none => simp [sliceBounds, HT.sIx]
    | some i =>
      simp only [sliceBounds, HT.sIx, Option.getD_none, show (1 : Int) > 0 by decide, if_true]
      by_cases h : i < 0
      · simp only [h, if_true] <;> omega
      · simp only [h, if_false] <;> omega
  · cases hi with
    | none => simp [sliceBounds, HT.sIx]
    | some i =>
      simp only [sliceBounds, HT.sIx, Option.getD_none, show (1 : Int) > 0 by decide, if_true]
      by_cases h : i < 0
      · simp only [h, if_true] <;> omega
      · simp only [h, if_false] <;> omega
theorem slicePick_cut (its : List Value) (lo hi : Option Int) : slicePick its.toArray lo hi none = ((its.drop (HT.sIx its.length 0 lo)).take (HT.sIx its.length its.length hi - HT.sIx its.length 0 lo)).toArray := by
  obtain ⟨h1, h2, h3⟩ := slice_bounds lo hi its.toArray.size
  unfold slicePick
  rw [h1, h2, h3]
  simp only [sliceRange_one, pick_run, List.size_toArray] <;> rfl
def rSlL (K : PySem.W.Frag) : V → Option Int → Option Int → Hp → VK → Prop := fun x lo hi H Q => ∃ a xs, x = .ref a ∧ SqL K H a xs ∧ ∀ p, H p = none → Q (.ref p) (upd H p (.lst (cutV xs lo hi)))
theorem sl_list : SlR X (rSlL X.K) := by
  intro pins s σ H x v vl vu lo hi sl Q I rx hs pl pu h
  obtain ⟨a, xs, rfl, hx, q⟩ := h
  cases rx
  obtain ⟨its, r, ht, hz⟩ := I.list hx
  have hlen := r.length
  refine ⟨"list", _, slot_list_getitem.lookup, ht.isList.typeIs, ?_⟩
  refine wpAny_getItem_list_slice ht.isList hs pl pu .none (by simp) ?_ (by rw [List.size_toArray] <;> omega)
  rw [slicePick_cut, ← hlen]
  refine ⟨.ref s.heap.objs.size, _, I.laid (t' := s.toks) (o := .lst (cutV xs lo hi)) (fun b ob q => Heap.get?_push_of_some _ q) (Nat.le_refl _) ?_, rfl, q _ (I.hok.fresh (Nat.le_refl _))⟩
  exact ⟨Nat.le_trans (cutV_length xs lo hi) hz, _, 0, (r.drop (HT.sIx xs.length 0 lo)).take (HT.sIx xs.length xs.length hi - HT.sIx xs.length 0 lo), Heap.get?_push_size _ rfl⟩
def flatV : V → Bool
  | .non => true
  | .bl _ => true
  | .int _ => true
  | .str _ => true
  | _ => false
def eqV : V → V → Bool
  | .non, .non => true
  | .bl a, .bl b => a == b
  | .bl a, .int b => (if a then 1 else 0) == b
  | .int a, .bl b => a == (if b then 1 else 0)
  | .int a, .int b => a == b
  | .str a, .str b => a == b
  | _, _ => false
theorem eqAt_V {A : Around} {s : Shared} {y x : V} {u v : Value} (ry : RelV y u) (rx : RelV x v) (fy : flatV y = true) (fx : flatV x = true) : SeqAt.EqAt A s u v (eqV y x) := by
  cases y with
  | non =>
    cases ry
    cases x with
    | non => cases rx; exact SeqAt.EqAt.same _
    | bl b => cases rx; exact SeqAt.EqAt.none_bool b
    | int b => obtain ⟨t, rfl⟩ := rx; exact SeqAt.EqAt.none_int b t
    | str b => obtain ⟨t, rfl⟩ := rx; exact SeqAt.EqAt.none_str b t
    | _ => exact absurd (show false = true from fx) Bool.false_ne_true
  | bl a =>
    cases ry
    cases x with
    | non => cases rx; exact SeqAt.EqAt.bool_none a
    | bl b => cases rx; exact SeqAt.EqAt.bool_bool a b
    | int b => obtain ⟨t, rfl⟩ := rx; exact SeqAt.EqAt.bool_int a b t
    | str b => obtain ⟨t, rfl⟩ := rx; exact SeqAt.EqAt.bool_str a b t
    | _ => exact absurd (show false = true from fx) Bool.false_ne_true
  | int a =>
    obtain ⟨t', rfl⟩ := ry
    cases x with
    | non => cases rx; exact SeqAt.EqAt.int_none a t'
    | bl b => cases rx; exact SeqAt.EqAt.int_bool a t' b
    | int b => obtain ⟨t, rfl⟩ := rx; exact SeqAt.EqAt.int_int a t' b t
    | str b => obtain ⟨t, rfl⟩ := rx; exact SeqAt.EqAt.int_str a t' b t
    | _ => exact absurd (show false = true from fx) Bool.false_ne_true
  | str a =>
    obtain ⟨t', rfl⟩ := ry
    cases x with
    | non => cases rx; exact SeqAt.EqAt.str_none a t'
    | bl b => cases rx; exact SeqAt.EqAt.str_bool a t' b
    | int b => obtain ⟨t, rfl⟩ := rx; exact SeqAt.EqAt.str_int a t' b t
    | str b => obtain ⟨t, rfl⟩ := rx; exact SeqAt.EqAt.str_str a t' b t
    | _ => exact absurd (show false = true from fx) Bool.false_ne_true
  | _ => exact absurd (show false = true from fy) Bool.false_ne_true
def eqU (x : V) (u : Value) : Bool := match u with
  | .none => eqV .non x
  | .bool b => eqV (.bl b) x
  | .int i _ => eqV (.int i) x
  | .str z _ => eqV (.str z) x
  | _ => false
theorem eqU_of {x y : V} {u : Value} (r : RelV y u) (f : flatV y = true) : eqU x u = eqV y x := by
  cases y with
  | non => cases r; rfl
  | bl b => cases r; rfl
  | int i => obtain ⟨t, rfl⟩ := r; rfl
  | str z => obtain ⟨t, rfl⟩ := r; rfl
  | _ => exact absurd (show false = true from f) Bool.false_ne_true
theorem any_eqU {x : V} : ∀ {xs : List V} {us : List Value}, Vals xs us → xs.all flatV = true → us.any (eqU x) = xs.any fun y => eqV y x
  | _, _, .nil, _ => rfl
  | y :: xs, u :: us, .cons r t, f => by
    rw [List.all_cons, Bool.and_eq_true] at f
    rw [List.any_cons, List.any_cons, eqU_of r f.1, any_eqU t f.2]
theorem mem_eqAt {A : Around} {s : Shared} {x : V} {v : Value} (rx : RelV x v) (fx : flatV x = true) : ∀ {xs : List V} {us : List Value}, Vals xs us → xs.all flatV = true → ∀ u ∈ us, SeqAt.EqAt A s u v (eqU x u)
  | _, _, .nil, _ => fun u hu => by cases hu
  | y :: xs, u :: us, .cons r t, f => fun u' hu => by
    rw [List.all_cons, Bool.and_eq_true] at f
    rcases List.mem_cons.mp hu with rfl | hu
    · rw [eqU_of r f.1]; exact eqAt_V r rx f.1 fx
    · exact mem_eqAt rx fx t f.2 u' hu
def inV (x : V) (xs : List V) : Bool := xs.any fun y => eqV y x
def rIn (K : PySem.W.Frag) (neg : Bool) : R2 := fun x y H Q => ∃ p xs, y = .ref p ∧ (SqL K H p xs ∨ SqT K H p xs) ∧ flatV x = true ∧ xs.all flatV = true ∧ Q (.bl (if neg then !inV x xs else inV x xs)) H
theorem op_in_seq : OpR X (compareOp .In) (rIn X.K false) := by
  intro pins s σ H x y v u Q I rx ry h
  obtain ⟨p, xs, rfl, hq, fx, fs, q⟩ := h
  cases ry
  rcases hq with hq | hq
  · obtain ⟨its, r, pl, hz⟩ := I.list hq
    refine SeqAt.in_listAt (eqU x) pl.isList (fun w hw => mem_eqAt rx fx r fs w (by simpa using hw)) ⟨.bl _, H, I, rfl, ?_⟩
    rw [show its.toArray.any (eqU x) = its.any (eqU x) by simp, any_eqU r fs]
    exact q
  · obtain ⟨its, r, pl, hz⟩ := I.tuple hq
    refine SeqAt.in_tupleAt (eqU x) pl (fun w hw => mem_eqAt rx fx r fs w (by simpa using hw)) ⟨.bl _, H, I, rfl, ?_⟩
    rw [show its.toArray.any (eqU x) = its.any (eqU x) by simp, any_eqU r fs]
    exact q
theorem CallR.or {f : Value} {r r' : List V → Hp → VK → Prop} (h : CallR X f r) (h' : CallR X f r') : CallR X f (fun xs H Q => r xs H Q ∨ r' xs H Q) := by
  intro pins s σ H xs us Q I rs q
  rcases q with q | q
  · exact h pins s σ H xs us Q I rs q
  · exact h' pins s σ H xs us Q I rs q
theorem call_list_of : CallR X (.type "list") (fun xs H Q => ∃ p ys, xs = [.ref p] ∧ (SqL X.K H p ys ∨ SqT X.K H p ys) ∧ ∀ l, H l = none → Q (.ref l) (upd H l (.lst ys))) := by
  intro pins s σ H xs us Q I r h
  obtain ⟨p, ys, rfl, hq, q⟩ := h
  obtain ⟨u, rfl, rx⟩ := vals1 r
  cases rx
  have fin : ∀ (its : List Value), Vals ys its → ys.length ≤ sizeLine → ∀ (h' : Heap) (c' : Nat), (∀ b o', s.heap.get? b = some o' → h'.get? b = some o') →
      h'.get? s.heap.objs.size = some { cls := .type "list", dict := none, data := .seq its.toArray c', slots := #[] } → EP X pins σ Q (.ref s.heap.objs.size) { s with heap := h' } := fun its r' hz h' c' kp e =>
    ⟨.ref s.heap.objs.size, _, I.laid (t' := s.toks) kp (Nat.le_refl _) (show ObjOk X.prog X.w _ h' _ (.lst ys) from ⟨hz, its, c', r', e⟩), rfl, q _ (I.hok.fresh (Nat.le_refl _))⟩
  rcases hq with hq | hq
  · obtain ⟨its, r', pl, hz⟩ := I.list hq
    have hlen := r'.length
    obtain ⟨o, ho, hc, n, hd⟩ := pl.isList
    exact call_list_seq p (.inl rfl) ho hc hd (fun h' c' kp e => fin its r' hz h' c' kp e) (by simp only [List.size_toArray] <;> omega)
  · obtain ⟨its, r', pl, hz⟩ := I.tuple hq
    have hlen := r'.length
    obtain ⟨o, ho, hc, n, hd⟩ := pl
    exact call_list_seq p (.inr rfl) ho hc hd (fun h' c' kp e => fin its r' hz h' c' kp e) (by simp only [List.size_toArray] <;> omega)
theorem call_tuple_of : CallR X (.type "tuple") (fun xs H Q => ∃ p ys, xs = [.ref p] ∧ ((SqL X.K H p ys ∧ ∀ l, H l = none → Q (.ref l) (upd H l (.tup ys))) ∨ (SqT X.K H p ys ∧ Q (.ref p) H))) := by
  intro pins s σ H xs us Q I r h
  obtain ⟨p, ys, rfl, h⟩ := h
  obtain ⟨u, rfl, rx⟩ := vals1 r
  cases rx
  rcases h with ⟨hq, q⟩ | ⟨hq, q⟩
  · obtain ⟨its, r', pl, hz⟩ := I.list hq
    have hlen := r'.length
    refine call_tuple_list pl.isList (fun h' kp => ?_) (by simp only [List.size_toArray] <;> omega)
    have I1 : Inv X pins σ H { s with heap := h' } := I.kept (t' := s.toks) kp
    have I2 : Inv X pins σ (upd H h'.objs.size (.tup ys)) { s with heap := h'.push { cls := .type "tuple", data := .seq its.toArray } } :=
      I1.laid (t' := s.toks) (fun b o e => Heap.get?_push_of_some _ e) (Nat.le_refl _) (show ObjOk X.prog X.w _ _ _ (.tup ys) from ⟨hz, its, r', IsTupP.new _ _⟩)
    exact ⟨.ref h'.objs.size, _, I2, rfl, q _ (I1.hok.fresh (Nat.le_refl _))⟩
  · obtain ⟨its, r', pl, hz⟩ := I.tuple hq
    exact call_tuple_same pl ⟨.ref p, H, I, rfl, q⟩
def tyV (K : PySem.W.Frag) (T : String) (x : V) (H : Hp) : Prop := match x with
  | .str _ => T = "str"
  | .int _ => T = "int"
  | .ref p => (T = "list" ∧ ∃ xs, SqL K H p xs) ∨ (T = "tuple" ∧ ∃ o, K.lookup p = some o ∧ o.cls = .type "tuple" ∧ o.dict = none) ∨
      (T = "dict" ∧ ((∃ kvs, H p = some (.dK kvs)) ∨ ∃ kvs, H p = some (.dT kvs))) ∨ (T = "set" ∧ ∃ S n, H p = some (.set S n))
  | _ => False
theorem tyV_is {pins : List (Addr × Obj)} {σ : St} {H : Hp} {s : Shared} {T : String} {x : V} {v : Value} (I : Inv X pins σ H s) (r : RelV x v) (ty : tyV X.K T x H) :
    s.TypeIs v T ∧ ∀ a, v = .ref a → ∃ ob, s.heap.get? a = some ob ∧ ob.dict = none := by
  cases x with
  | str z =>
    obtain ⟨t, rfl⟩ := r
    cases (show T = "str" from ty)
    exact ⟨typeIs_str s z t, fun _ e => nomatch e⟩
  | int i =>
    obtain ⟨t, rfl⟩ := r
    cases (show T = "int" from ty)
    exact ⟨typeIs_int s i t, fun _ e => nomatch e⟩
  | ref p =>
    cases r
    rcases ty with ⟨rfl, xs, hq⟩ | ⟨rfl, o, hk, hc, hd⟩ | ⟨rfl, hk⟩ | ⟨rfl, S, n, hk⟩
    · obtain ⟨its, _, pl, _⟩ := I.list hq
      refine ⟨pl.isList.typeIs, fun a e => ?_⟩
      cases e
      obtain ⟨o, n, e, c, hd, _⟩ := pl
      exact ⟨o, e, hd⟩
    · refine ⟨⟨o, I.kIn p o hk, hc⟩, fun a e => ?_⟩
      cases e
      exact ⟨o, I.kIn _ o hk, hd⟩
    · have z : ∃ o, s.heap.get? p = some o ∧ o.ExactDict := by
        rcases hk with ⟨kvs, hk⟩ | ⟨kvs, hk⟩
        · obtain ⟨_, _, _, _, o, _, _, e, ex, _⟩ := I.hok p _ hk
          exact ⟨o, e, ex⟩
        · obtain ⟨_, _, _, _, o, _, _, e, ex, _⟩ := I.hok p _ hk
          exact ⟨o, e, ex⟩
      obtain ⟨o, e, ex⟩ := z
      refine ⟨⟨o, e, ex.1⟩, fun a e2 => ?_⟩
      cases e2
      exact ⟨o, e, ex.2.1⟩
    · obtain ⟨o, _, _, _, e, ex, _⟩ := I.hok p _ hk
      refine ⟨⟨o, e, ex.1⟩, fun a e2 => ?_⟩
      cases e2
      exact ⟨o, e, ex.2.1⟩
  | _ => exact False.elim ty
def tBM0 (K : PySem.W.Frag) (T : String) (r : V → List V → Hp → VK → Prop) (to : TE) : TE := fun σ H Q => to σ H fun x H1 => tyV K T x H1 ∧ r x [] H1 Q
def tBM (K : PySem.W.Frag) (T : String) (r : V → List V → Hp → VK → Prop) (to : TE) (t : TA) : TE := fun σ H Q => to σ H fun x H1 => tyV K T x H1 ∧ t σ H1 fun xs H2 => r x xs H2 Q
variable {o e : Expr} {es : List Expr} {to : TE} {t : TA} {name : Str} {apos cpos : Pos} {T id : String} {r : V → List V → Hp → VK → Prop}
theorem pe_bm0 (pa : PlainAttrs T) (slot : Slot T name id) (hty : typeOf (.builtin id) = pure (.type "method_descriptor")) (hm : MtR X id r) (ho : PE X o to)
    (hbase : attributeBase o name X.env (eval o X.env) = eval o X.env := by rfl) (hline : (apos.endLine == cpos.line) = true := by rfl) : PE X (.Call (.Attribute o name apos) [] [] cpos) (tBM0 X.K T r to) := by
  intro pins s σ H Q I h
  refine wpAny_Call_method0_late hbase hline (thn (ho pins s σ H _ I h) fun v s1 ⟨x, H1, I1, r1, ty, q1⟩ => ?_)
  obtain ⟨h1, h2⟩ := tyV_is I1 r1 ty
  exact ⟨T, id, pa, slot, hty, h1, h2, Calls.callWith_builtin rfl (PySem.evalArgs_none (hm pins s1 σ H1 x [] v [] Q I1 r1 .nil q1))⟩
theorem pe_bm (pa : PlainAttrs T) (slot : Slot T name id) (hty : typeOf (.builtin id) = pure (.type "method_descriptor")) (hm : MtR X id r) (ho : PE X o to) (ha : PA X (e :: es) t)
    (hbase : attributeBase o name X.env (eval o X.env) = eval o X.env := by rfl)
    (hfew : ((backTo cpos (starEach (e :: es) X.env)).all (fun x => !x.1) && (backToKw cpos (keywordEach [] X.env)).all (fun x => x.1.isSome)
      && decide ((e :: es).length + ([] : List Keyword).length + (if ([] : List Keyword).isEmpty then 0 else 1) < 30)) = true := by rfl)
    (hline : (apos.endLine == cpos.line) = true := by rfl) (hs : starEach (e :: es) X.env = (false, eval e X.env) :: starEach es X.env := by rfl) (hplain : (backTo cpos (starEach es X.env)).any (·.1) = false := by rfl) :
    PE X (.Call (.Attribute o name apos) (e :: es) [] cpos) (tBM X.K T r to t) := by
  intro pins s σ H Q I h
  refine wpAny_Call_method_late hbase hfew hline rfl (thn (ho pins s σ H _ I h) fun v s1 ⟨x, H1, I1, r1, ty, q1⟩ => ?_)
  obtain ⟨h1, h2⟩ := tyV_is I1 r1 ty
  refine ⟨T, id, pa, slot, hty, h1, h2, ?_⟩
  have hA := ha cpos pins s1 σ H1 _ I1 q1
  rw [hs] at hA ⊢
  refine Calls.callWith_builtin (by show (false || (backTo cpos (starEach es X.env)).any (·.1)) = false; rw [hplain] <;> rfl) (Calls.evalArgs_plain ?_)
  exact thn hA fun us s2 ⟨vs, H2, I2, r2, q2⟩ => hm pins s2 σ H2 x vs v us Q I2 r1 r2 q2
/- xs.append(e), list.index on a module's tuple .. are MtR facts of 06m -/
end
def MtM (X : Cx) (id : String) (r : V → List V → Hp → VK → Prop) : Prop :=
  ∀ (pins : List (Addr × Obj)) (s : Shared) (σ : St) (H : Hp) (x : V) (xs : List V) (v : Value) (us : List Value) (Q : VK), Inv X pins σ H s → RelV x v → Vals xs us → r x xs H Q →
    wpAny (model X.prog X.w) X.A (call (.builtin id) (v :: us)) (EP X pins σ Q) X.xe s
theorem Vals.one : ∀ {x : V} {us : List Value}, Vals [x] us → ∃ u, us = [u] ∧ RelV x u
  | _, _, .cons r .nil => ⟨_, rfl, r⟩
theorem Vals.zero : ∀ {us : List Value}, Vals [] us → us = []
  | _, .nil => rfl
theorem Vals.dropLast {xs : List V} {us : List Value} (h : Vals xs us) : Vals xs.dropLast us.dropLast := by
  induction h with
  | nil => exact .nil
  | cons r t ih =>
    cases t with
    | nil => exact .nil
    | cons q t' => exact .cons r ih
theorem Vals.rep {xs : List V} {us : List Value} (h : Vals xs us) : ∀ k : Nat, Vals (List.replicate k xs).flatten (List.replicate k us).flatten
  | 0 => .nil
  | k + 1 => by
    rw [List.replicate_succ, List.replicate_succ, List.flatten_cons, List.flatten_cons]
    exact Vals.append h (Vals.rep h k)
theorem erase_last {α : Type} (l : List α) : l.eraseIdx (l.length - 1) = l.dropLast := by
  induction l with
  | nil => rfl
  | cons a r ih =>
    cases r with
    | nil => rfl
    | cons b r =>
      have e : (a :: b :: r).length - 1 = ((b :: r).length - 1) + 1 := by
        have h1 : (a :: b :: r).length = r.length + 2 := rfl
        have h2 : (b :: r).length = r.length + 1 := rfl
        omega
      rw [e, List.eraseIdx_cons_succ, ih]
      all_goals rfl
theorem foldl_rep (its : List Value) : ∀ (k : Nat) (acc : List Value),
    List.foldl (fun x1 x2 => x1 ++ x2) acc.toArray (List.replicate k its.toArray) = (acc ++ (List.replicate k its).flatten).toArray
  | 0, acc => by simp
  | k + 1, acc => by
    have e : acc.toArray ++ its.toArray = (acc ++ its).toArray := by simp
    have e2 : (acc ++ its) ++ (List.replicate k its).flatten = acc ++ (List.replicate (k + 1) its).flatten := by
      rw [List.replicate_succ, List.flatten_cons, List.append_assoc]
    rw [← e2, ← foldl_rep its k (acc ++ its), ← e, List.replicate_succ, List.foldl_cons]
section
variable {X : Cx} {pins : List (Addr × Obj)} {σ : St} {H : Hp} {s : Shared} {l b : Addr} {xs ys zs : List V}
theorem Inv.lset {its its' : List Value} {n : Nat} {f : Array Value → Array Value} {t' : Nat} (I : Inv X pins σ H s) (hH : H l = some (.lst xs))
    (e : s.heap.get? l = some { cls := .type "list", data := .seq its.toArray n }) (hf : f its.toArray = its'.toArray) (hv : Vals ys its') (hz : ys.length ≤ sizeLine) :
    Inv X pins σ (upd H l (.lst ys)) { s with heap := s.heap.update l (Obj.mapSeq f), toks := t' } := by
  have q := PySem.IsL.update e f
  rw [hf] at q
  refine I.write (x := l) (e := l) (by rw [hH]; exact trivial) (.inl rfl) (fun b' u hb hu => (Heap.get?_update_other s.heap (Obj.mapSeq f) (Ne.symm hb)).trans hu) ⟨_, q⟩ ?_
  exact ⟨hz, its', _, hv, q⟩
theorem Inv.lnew {its : List Value} {t' : Nat} (I : Inv X pins σ H s) (hv : Vals ys its) (hz : ys.length ≤ sizeLine) :
    Inv X pins σ (upd H s.heap.objs.size (.lst ys)) { s with heap := s.heap.push { cls := .type "list", data := .seq its.toArray }, toks := t' } :=
  I.laid (fun _ _ q => Heap.get?_push_of_some _ q) (Nat.le_refl _) ⟨hz, its, 0, hv, Heap.get?_push_size _ rfl⟩
theorem Inv.fresh (I : Inv X pins σ H s) : H s.heap.objs.size = none := I.hok.fresh (Nat.le_refl _)
theorem Inv.lstM (I : Inv X pins σ H s) (hH : H l = some (.lst xs)) : xs.length ≤ sizeLine ∧ ∃ (its : List Value) (n : Nat), Vals xs its ∧ xs.length = its.length ∧ s.heap.get? l = some { cls := .type "list", data := .seq its.toArray n } := by
  obtain ⟨z, its, n, r, e⟩ := I.hok l _ hH
  exact ⟨z, its, n, r, r.length, e⟩
theorem notLongL {n : Nat} (h : n ≤ sizeLine) : Builtin.List.listTooLong n = false := by
  unfold Builtin.List.listTooLong
  exact decide_eq_false (by omega)
end
section
variable {X : Cx}
def rAppend : V → List V → Hp → VK → Prop := fun x vs H Q => ∃ l xs y, x = .ref l ∧ vs = [y] ∧ H l = some (.lst xs) ∧ xs.length < sizeLine ∧ Q .non (upd H l (.lst (xs ++ [y])))
theorem mt_append : MtM X "list.append" rAppend := by
  intro pins s σ H x vs v us Q I rx rv h
  obtain ⟨l, xs, y, rfl, rfl, hH, hz, q⟩ := h
  cases rx
  obtain ⟨u, rfl, ru⟩ := rv.one
  obtain ⟨z, its, n, r, hl, e⟩ := I.lstM hH
  refine call_meets F.slot_list_append ⟨_, e, rfl⟩ F.entry_list_append (F.args_list_append_2 _ _) (PySem.list_append l its.toArray n u (by rw [List.size_toArray]; omega)) ⟨e, ?_⟩
  refine ⟨.non, _, I.lset (its' := its ++ [u]) hH e (by simp) (r.append (.cons ru .nil)) ?_, rfl, q⟩
  rw [List.length_append, List.length_singleton]
  omega
def rPop : V → List V → Hp → VK → Prop := fun x vs H Q => ∃ l xs y, x = .ref l ∧ vs = [] ∧ H l = some (.lst xs) ∧ xs[xs.length - 1]? = some y ∧ Q y (upd H l (.lst xs.dropLast))
theorem mt_pop : MtM X "list.pop" rPop := by
  intro pins s σ H x vs v us Q I rx rv h
  obtain ⟨l, xs, y, rfl, rfl, hH, hy, q⟩ := h
  cases rx
  have hus := rv.zero
  subst hus
  obtain ⟨z, its, n, r, hl, e⟩ := I.lstM hH
  obtain ⟨u, hu, ru⟩ := r.get hy
  have hy' : its.toArray[its.toArray.size - 1]? = some u := by
    show its.toArray[its.length - 1]? = some u
    rw [← Array.getElem?_toList, ← hl]
    exact hu
  refine call_meets F.slot_list_pop ⟨_, e, rfl⟩ F.entry_list_pop (F.args_list_pop_1 _) (MeetsSeq.list_pop_last l its.toArray n u hy' (by rw [List.size_toArray]; omega)) ⟨e, ?_⟩
  refine ⟨y, _, I.lset (its' := its.dropLast) hH e ?_ r.dropLast ?_, ru, q⟩
  · show its.toArray.eraseIdxIfInBounds (its.toArray.size - 1) = its.dropLast.toArray
    rw [List.size_toArray, List.eraseIdxIfInBounds_toArray, erase_last]
  · rw [List.length_dropLast]
    omega
def rRep : R2 := fun x y H Q => ∃ l k xs, x = .ref l ∧ y = .int k ∧ H l = some (.lst xs) ∧ -(2 ^ 63) ≤ k ∧ k < 2 ^ 63 ∧ xs.length * k.toNat ≤ sizeLine ∧
  ∀ p, H p = none → Q (.ref p) (upd H p (.lst (List.replicate k.toNat xs).flatten))
theorem len_rep {α : Type} (xs : List α) (k : Nat) : (List.replicate k xs).flatten.length = k * xs.length := by
  induction k with
  | zero => simp
  | succ k ih => rw [List.replicate_succ, List.flatten_cons, List.length_append, ih, Nat.succ_mul, Nat.add_comm]
theorem op_rep : OpR X (binaryOp .Mult) rRep := by
  intro pins s σ H x y v u Q I rx ry h
  obtain ⟨l, k, xs, rfl, rfl, hH, h1, h2, hz, q⟩ := h
  cases rx
  obtain ⟨t, rfl⟩ := ry
  obtain ⟨z, its, n, r, hl, e⟩ := I.lstM hH
  have hlen : its.toArray.size * k.toNat ≤ sizeLine := by rw [List.size_toArray, ← hl]; exact hz
  have hcap : ¬ its.toArray.size * k.toNat > (2 ^ 63 - 1) / 8 := by
    have : (sizeLine : Nat) ≤ (2 ^ 63 - 1) / 8 := by decide
    omega
  have hfit : ¬ (!Builtin.List.listFitsIndex k) = true := by
    rw [fitsIndex_both h1 h2]
    exact Bool.false_ne_true
  have hlong : ¬ Builtin.List.listTooLong (its.toArray.size * k.toNat) = true := by
    rw [notLongL hlen]
    exact Bool.false_ne_true
  have hnew : List.foldl (fun x1 x2 => x1 ++ x2) #[] (List.replicate (if its.toArray.isEmpty = true then 0 else k.toNat) its.toArray) = (List.replicate k.toNat its).flatten.toArray := by
    have f0 : ∀ m : Nat, List.foldl (fun x1 x2 => x1 ++ x2) #[] (List.replicate m its.toArray) = (List.replicate m its).flatten.toArray := fun m => by
      have := foldl_rep its m []
      rw [List.nil_append] at this
      exact this
    rw [f0]
    cases its with
    | nil => simp
    | cons a r' => rw [if_neg (by simp)]
  refine wpAny_binaryOp_repeat_ref (T := "list") (U := "int") (by decide) ⟨_, e, rfl⟩ (fun s' => typeIs_int s' k t) noFill_list_mul F.fills_int_mul F.slot_int_rmul repeat_list F.slot_int_index.lookup
    (call_meets F.slot_int_rmul (typeIs_int s k t) F.entry_int_rmul (F.args_int_rmul_2 _ _) (int___rmul___int_list k t l its.toArray n)
      ⟨e, rfl, ⟨_, e, rfl⟩, call_meets F.slot_list_mul ⟨_, e, rfl⟩ F.entry_list_mul (F.args_list_mul_2 _ _) (AutoListH.list___mul___list_int_3 l its.toArray n k t hfit hcap hlong) ⟨e, ?_⟩⟩)
  rw [hnew]
  exact ⟨.ref _, _, I.lnew (t' := s.toks) (r.rep k.toNat) (by rw [len_rep, Nat.mul_comm]; exact hz), rfl, q _ I.fresh⟩
end
section
variable {prog : Program} {w : World} {A : Around} {E : Value → Shared → Prop} {s : Shared}
end
section
variable {X : Cx}
end
end L2
namespace Att
open PySem PySem.W PySem.Calls PyProof.Rows
theorem ints_of_wellAll {P : Params} {h : Heap} : ∀ (ns : List Int) (vs : List Value), WellAll P h vs (ns.map WData.int) → IntsAre vs ns := by
  intro ns
  induction ns with
  | nil =>
    intro vs w
    rw [List.map_nil] at w
    cases w
    exact .nil
  | cons n ns ih =>
    intro vs w
    rw [List.map_cons] at w
    cases w with
    | cons a b =>
      cases a
      exact .cons _ _ (ih _ b)
theorem script_of {l : OpenLaw} {n : Nat} (hn : l.most = some n) {P : Params} {h : Heap} {args : List WData} {vals : List Value}
    (hpre : l.row.toRowW.claim.pre args = true) (hwl : WellAll P h vals args) :
    ∃ a vs ns, vals = [Value.ref a] ∧ args = [WData.list (ns.map WData.int)] ∧ h.get? a = some { cls := .type "list", data := .seq vs.toArray } ∧ IntsAre vs ns ∧ ns.length ≤ n := by
  have hsh : WShape.hasAll [] args [.list .int] = true := (pre_splitW hpre).1
  have hc : l.pre.holds [] { args := args } = true := (pre_splitW hpre).2
  obtain ⟨d, r, rfl, h1, h2⟩ := hasAllW_cons hsh
  obtain rfl := hasAllW_nil h2
  obtain ⟨xs, rfl, h3⟩ := hasW_list h1
  obtain ⟨ns, rfl⟩ := items_int h3
  have hlen : ns.length ≤ n := by
    unfold OpenLaw.pre at hc
    have h4 : (WTm.not (.lt (.lit (.int (n : Int))) (.len (.arg 0)))).holds [] { args := [.list (ns.map .int)] } = true := by
      have h4 := (holds_andW hc).1
      rw [hn] at h4
      exact h4
    have h5 := condW_of h4 (w_not (w_lt w_lit (w_len_list (w_arg rfl))))
    rw [List.length_map] at h5
    refine Nat.le_of_not_lt fun q => ?_
    have q' : (n : Int) < ((ns.length : Nat) : Int) := by omega
    first
      | (rw [decide_eq_true q'] at h5; exact absurd h5 (by decide))
      | (simp at h5; omega)
  cases hwl with
  | cons w1 w2 =>
    cases w2
    cases w1 with
    | list ho hall => exact ⟨_, _, ns, rfl, rfl, ho, ints_of_wellAll ns _ hall, hlen⟩
theorem post_true (l : OpenLaw) (args : List WData) : l.row.toRowW.claim.post args (.bool true) args = true :=
  postW_of (r := l.row.toRowW) (X := (true == true))
    (show WShape.has [] (.bool true) .bool = true by first | rfl | decide | simp [WShape.has, WShape.arms, WShape.armsAll])
    (show (WTm.eq .res (.lit (.bool true))).value [] { args := args, res := some (.bool true), after := args } = some (.bool (true == true)) from w_eq_bool (w_res rfl) w_lit) rfl
section
variable {prog : Program} {w : World} {A : Around} {E : Value → Shared → Prop} {s : Shared} {K : Frag}
end
end Att
namespace L2
open PySem PySem.Spec PyProof.Rows
theorem vals_ints : ∀ {vs : List Value} {ns : List Int}, IntsAre vs ns → Vals (ns.map V.int) vs
  | _, _, .nil => .nil
  | _, _, .cons n t h => .cons ⟨t, rfl⟩ (vals_ints h)
end L2
/- THE LAST THEOREM (shape; LID, My.* are yours):
   My.Adr: a structure of the addresses that your layer names (classes, functions); My.Txt K t: a structure (Prop) of the equations over K;
   My.txt_mk : {K} {implicit addresses ..} (e1 : nsIn K mainGlobals "law" = some (some (.ref f))) (e2 : K.lookup f = some ⟨oc, od, .func (fnOf "law" "law" params body scope dV kV doc pm an cdv ct), sl⟩) (e3 : codeIn K cdv "law" = true) .. : ∃ t, My.Txt K t
set_option maxRecDepth 100000 in
set_option maxHeartbeats 0 in
theorem PySem.Challenge.cw_LID_holds : PySem.Challenge.rw_LID.Holds := by
  w_on; o_law; k_head; (case hw => w_witness2)
  k_fill
  refine L2.walk_of (l := PySem.Challenge.rw_LID) (n := 63) (k := 40) (x := "script") (CX := fun w => ..) (sp := fun _ => My.sp_law) rfl (by decide) rfl ⟨rfl, by decide, by decide⟩ (fun w h Y => PySem.W.kIn_of Y) ?F ?S ?C
  case F =>
    intro w mg fa h KX G hmg
    have T : ∃ t, My.Txt (L2.KOf KX) t := by
      dsimp only [L2.KOf]                          -- K must stand as «<heap const> w.params» for k_is
      refine' My.txt_mk ?e1 ?e2 ?e3 ..
      (case e1 => PySem.W.k_is)                    -- in the order: a name -> its address -> its object -> its parts
      (case e2 => PySem.W.k_is)
      ..
    obtain ⟨t, T⟩ := T
    have e0 := hmg.symm.trans (PySem.W.mg_of KX G T.law)
    cases e0                                       -- fa is the law's own address
    exact ⟨_, fun s u => .of_eq rfl, fun base kb nb => My.law_fn T kb nb⟩     -- if «.of_eq rfl» comes too early: refine' ⟨_, ?b, fun base kb nb => My.law_fn T kb nb⟩; exact fun s u => .of_eq rfl
  case S => exact fun w H a ns hl hO hS => ..
  case C => exact ..
(the tactic k_is has no namespace: write k_is) -/
namespace L2
open PySem PySem.Spec PyProof.Rows
def defArgs (s : Stmt) : Arguments := match s with
  | .FunctionDef _ a _ _ _ _ _ _ _ _ => a
  | _ => { posonlyargs := [], args := [], vararg := none, kwonlyargs := [], kw_defaults := [], kwarg := none, defaults := [] }
def defBody (s : Stmt) : List Stmt := match s with
  | .FunctionDef _ _ b _ _ _ _ _ _ _ => b
  | _ => []
def defScope (s : Stmt) : Scope := match s with
  | .FunctionDef _ _ _ _ _ _ sc _ _ _ => sc
  | _ => { kind := .function, names := [], isGenerator := false, isCoroutine := false }
abbrev CX0 : CXT := fun _ _ _ _ _ _ => False
abbrev E0 : XK := fun _ _ _ => False
theorem pass0 {X : Cx} : Passes CX0 X E0 := fun _ _ _ _ _ _ _ h => h.elim
structure Fun (K : PySem.W.Frag) (x qual : Str) (st : Stmt) (f : Addr) (fd : FuncData) : Prop where
  ex : ∃ (oc : Value) (od : Option Addr) (kV doc pm : Value) (an : Option Addr) (cdv ct : Value) (osl : Array (Option Value)),
    fd = PySem.W.fnOf x qual (defArgs st) (defBody st) (defScope st) .none kV doc pm an cdv ct ∧ K.lookup f = some ⟨oc, od, .func fd, osl⟩ ∧ PySem.W.codeIn K cdv qual = true
  kp : PySem.W.keepIn K (.ref f) = true
section
variable {P : Program} {w : World} {K : PySem.W.Frag} {mg : Str → Option Value} {base : Heap}
theorem Fun.ok {x qual : Str} {st : Stmt} {f : Addr} {fd : FuncData} {N ps : List Str} {k : Nat} {sp : Sp} (F : Fun K x qual st f fd) (S : FnScope N ps (defScope st)) (len : ∀ vs H Q E, sp vs H Q E → vs.length = ps.length)
    (hbody : ∀ (cdv : Value) (A : Around) (outer : List Env) (s : Shared) (H : Hp) (vs : List V) (Q : VK) (E : XK), Room k (A.deeper (envOfC qual (defScope st) s.heap.objs.size f cdv)) → sp vs H Q E →
      ∃ t, PSs (cxOf CX0 P w K mg base N qual (defScope st) f cdv A outer s H E).nox (defBody st) t ∧ t { nx := fun _ H' => Q .non H', rt := Q } (start N vs) H) : FnOk P w K mg base CX0 (k + 1) f fd ps sp := by
  obtain ⟨oc, od, kV, doc, pm, an, cdv, ct, osl, rfl, lk, hcd⟩ := F.ex
  refine fn_of lk hcd S len fun A outer s H vs Q E hr hsp => ?_
  obtain ⟨t, h, q⟩ := hbody cdv A outer s H vs Q E hr hsp
  exact ⟨t, h.nox, q⟩
theorem Fun.binds {x qual : Str} {st : Stmt} {f : Addr} {fd : FuncData} {ps : List Str} (F : Fun K x qual st f fd)
    (h : ∀ (kV doc pm : Value) (an : Option Addr) (cdv ct : Value) (us : List Value), us.length = ps.length → bindArgs (PySem.W.fnOf x qual (defArgs st) (defBody st) (defScope st) .none kV doc pm an cdv ct) ⟨us, []⟩ = pure (ps.zip us)) : Binds K fd ps [] := by
  obtain ⟨oc, od, kV, doc, pm, an, cdv, ct, osl, rfl, lk, hcd⟩ := F.ex
  exact .all (h kV doc pm an cdv ct)
theorem fun_mk {x qual : Str} {st : Stmt} {f : Addr} {oc : Value} {od an : Option Addr} {osl : Array (Option Value)} {kV doc pm cdv ct : Value} (l : K.lookup f = some ⟨oc, od, .func (PySem.W.fnOf x qual (defArgs st) (defBody st) (defScope st) .none kV doc pm an cdv ct), osl⟩)
    (c : PySem.W.codeIn K cdv qual = true) (k : PySem.W.keepIn K (.ref f) = true) : Fun K x qual st f (PySem.W.fnOf x qual (defArgs st) (defBody st) (defScope st) .none kV doc pm an cdv ct) := ⟨⟨oc, od, kV, doc, pm, an, cdv, ct, osl, rfl, l, c⟩, k⟩
end
section
variable {X : Cx}
end
theorem ite2 {c A B : Prop} [Decidable c] (h1 : c → A) (h2 : ¬ c → B) : if c then A else B := by
  by_cases h : c
  · rw [if_pos h]
    exact h1 h
  · rw [if_neg h]
    exact h2 h
end L2
namespace U2
open PySem L2
inductive U where
  | non | bl (b : Bool) | int (i : Int) | str (x : Str) | tup (us : List U) | lst (us : List U) | ref (a : Addr) | ty (n : String) | dic (ks : List (List Key)) (tk : Bool) (us : List U)
inductive MO where
  | lst (us : List U) | dK (kvs : List (Key × U)) | dT (kvs : List (List Key × U)) | dN (kvs : List ((List Key × Key) × U)) | tbl (q : Str) | cap (ps : Array Value) (vs : List V) (us : List U)
abbrev MHp := Addr → Option MO
def mup (M : MHp) (a : Addr) (o : MO) : MHp := fun b => if b = a then some o else M b
theorem mup_same {M : MHp} {a : Addr} {o : MO} : mup M a o a = some o := by unfold mup; rw [if_pos rfl]
theorem mup_ne {M : MHp} {a b : Addr} {o : MO} (h : b ≠ a) : mup M a o b = M b := by unfold mup; rw [if_neg h]
theorem mup_mup {M : MHp} {a : Addr} {o u : MO} : mup (mup M a o) a u = mup M a u := by
  funext b; unfold mup; split <;> rfl
def KT (K : PySem.W.Frag) (a : Addr) (xs : List V) : Prop :=
  ∃ (o : Obj) (its : Array Value) (n : Nat), K.lookup a = some o ∧ o.cls = .type "tuple" ∧ o.dict = none ∧ o.data = .seq its n ∧ its.size ≤ sizeLine ∧ Vals xs its.toList
def KL (K : PySem.W.Frag) (a : Addr) (xs : List V) : Prop :=
  ∃ (o : Obj) (its : Array Value) (n : Nat), K.lookup a = some o ∧ o.cls = .type "list" ∧ o.dict = none ∧ o.data = .seq its n ∧ its.size ≤ sizeLine ∧ Vals xs its.toList
def DicAt (H : Hp) (a : Addr) (ks : List (List Key)) (tk : Bool) (vs : List V) : Prop := match tk with
  | true => ∃ ws, Rd H a (.dT ws) ∧ ks = ws.map (·.1) ∧ vs = ws.map (·.2)
  | false => ∃ ws, Rd H a (.dK ws) ∧ ks = ws.map (fun p => [p.1]) ∧ vs = ws.map (·.2)
mutual
def RelU (K : PySem.W.Frag) (H : Hp) (M : MHp) : U → V → Prop
  | .non, v => v = .non
  | .bl b, v => v = .bl b
  | .int i, v => v = .int i
  | .str x, v => v = .str x
  | .ty n, v => v = .ty n
  | .ref a, v => v = .ref a
  | .tup us, v => ∃ a vs, v = .ref a ∧ (M a = none ∧ H a = some (.tup vs)) ∧ RelUs K H M us vs
  | .dic ks tk us, v => ∃ a vs, v = .ref a ∧ M a = none ∧ DicAt H a ks tk vs ∧ RelUs K H M us vs
  | .lst us, v => ∃ a vs, v = .ref a ∧ ((M a = none ∧ Rd H a (.lst vs)) ∨ KL K a vs) ∧ RelUs K H M us vs
def RelUs (K : PySem.W.Frag) (H : Hp) (M : MHp) : List U → List V → Prop
  | [], vs => vs = []
  | u :: us, vs => ∃ v vs', vs = v :: vs' ∧ RelU K H M u v ∧ RelUs K H M us vs'
end
def isDk : HO → Bool
  | .dK _ => true
  | .dT _ => true
  | _ => false
def Stp (H : Hp) (M : MHp) (H1 : Hp) (M1 : MHp) : Prop := ∀ b o, H b = some o → M b = none → (H1 b = some o ∨ (isDk o = true ∧ ∃ ob, H1 b = some (.frz ob o))) ∧ M1 b = none
theorem Stp.by' {H H1 : Hp} {M M1 : MHp} (h : ∀ b o, H b = some o → M b = none → H1 b = some o ∧ M1 b = none) : Stp H M H1 M1 := fun b o e m => ⟨.inl (h b o e m).1, (h b o e m).2⟩
theorem Stp.to {H H1 : Hp} {M M1 : MHp} (st : Stp H M H1 M1) {b : Addr} {o : HO} (e : H b = some o) (m : M b = none) (n : isDk o = false := by rfl) : H1 b = some o ∧ M1 b = none := by
  obtain ⟨h | ⟨h, _⟩, m1⟩ := st b o e m
  · exact ⟨h, m1⟩
  · rw [n] at h; cases h
theorem Stp.refl (H : Hp) (M : MHp) : Stp H M H M := .by' fun _ _ h m => ⟨h, m⟩
theorem Stp.trans {H H1 H2 : Hp} {M M1 M2 : MHp} (a : Stp H M H1 M1) (b : Stp H1 M1 H2 M2) : Stp H M H2 M2 := fun c o h m => by
  obtain ⟨h1 | ⟨d, ob, h1⟩, m1⟩ := a c o h m
  · exact b c o h1 m1
  · obtain ⟨h2, m2⟩ := b.to h1 m1
    exact ⟨.inr ⟨d, ob, h2⟩, m2⟩
theorem Rd.stp {H H1 : Hp} {M M1 : MHp} {a : Addr} {u : HO} (st : Stp H M H1 M1) (m : M a = none) (h : Rd H a u) : M1 a = none ∧ Rd H1 a u := by
  rcases h with h | ⟨o, h⟩
  · obtain ⟨x | ⟨_, ob, x⟩, y⟩ := st a _ h m
    · exact ⟨y, .inl x⟩
    · exact ⟨y, .inr ⟨ob, x⟩⟩
  · obtain ⟨x, y⟩ := st.to h m; exact ⟨y, .inr ⟨o, x⟩⟩
theorem DicAt.stp {H H1 : Hp} {M M1 : MHp} {a : Addr} {ks : List (List Key)} {tk : Bool} {vs : List V} (st : Stp H M H1 M1) (m : M a = none) (h : DicAt H a ks tk vs) : M1 a = none ∧ DicAt H1 a ks tk vs := by
  cases tk with
  | true => obtain ⟨ws, e, r⟩ := h; exact ⟨(Rd.stp st m e).1, ws, (Rd.stp st m e).2, r⟩
  | false => obtain ⟨ws, e, r⟩ := h; exact ⟨(Rd.stp st m e).1, ws, (Rd.stp st m e).2, r⟩
mutual
theorem RelU.stp {K : PySem.W.Frag} {H H1 : Hp} {M M1 : MHp} (st : Stp H M H1 M1) : ∀ {u : U} {v : V}, RelU K H M u v → RelU K H1 M1 u v
  | .non, _, h => by simpa only [RelU] using h
  | .bl _, _, h => by simpa only [RelU] using h
  | .int _, _, h => by simpa only [RelU] using h
  | .str _, _, h => by simpa only [RelU] using h
  | .ty _, _, h => by simpa only [RelU] using h
  | .ref _, _, h => by simpa only [RelU] using h
  | .tup us, _, h => by
    simp only [RelU] at h ⊢
    obtain ⟨a, vs, e, h1, h2⟩ := h
    refine ⟨a, vs, e, ?_, RelUs.stp st h2⟩
    obtain ⟨m, r⟩ := h1
    exact ⟨(st.to r m).2, (st.to r m).1⟩
  | .dic ks tk us, _, h => by
    simp only [RelU] at h ⊢
    obtain ⟨a, vs, e, m, h1, h2⟩ := h
    have q := DicAt.stp st m h1
    exact ⟨a, vs, e, q.1, q.2, RelUs.stp st h2⟩
  | .lst us, _, h => by
    simp only [RelU] at h ⊢
    obtain ⟨a, vs, e, h1, h2⟩ := h
    refine ⟨a, vs, e, ?_, RelUs.stp st h2⟩
    rcases h1 with ⟨m, r⟩ | k
    · exact .inl (Rd.stp st m r)
    · exact .inr k
theorem RelUs.stp {K : PySem.W.Frag} {H H1 : Hp} {M M1 : MHp} (st : Stp H M H1 M1) : ∀ {us : List U} {vs : List V}, RelUs K H M us vs → RelUs K H1 M1 us vs
  | [], _, h => by simpa only [RelUs] using h
  | u :: us, _, h => by
    simp only [RelUs] at h ⊢
    obtain ⟨v, vs', e, h1, h2⟩ := h
    exact ⟨v, vs', e, RelU.stp st h1, RelUs.stp st h2⟩
end
theorem Stp.less {H : Hp} {M M1 : MHp} (h : ∀ b, M b = none → M1 b = none) : Stp H M H M1 := .by' fun b o e m => ⟨e, h b m⟩
def RelKv {κ : Type} (K : PySem.W.Frag) (H : Hp) (M : MHp) : List (κ × U) → List (κ × V) → Prop := Paired fun p q => p.1 = q.1 ∧ RelU K H M p.2 q.2
theorem RelKv.stp {κ : Type} {K : PySem.W.Frag} {H H1 : Hp} {M M1 : MHp} (st : Stp H M H1 M1) : ∀ {us : List (κ × U)} {vs : List (κ × V)}, RelKv K H M us vs → RelKv K H1 M1 us vs
  | _, _, .nil => .nil
  | _, _, .cons h t => .cons ⟨h.1, h.2.stp st⟩ (RelKv.stp st t)
def RelMO (K : PySem.W.Frag) (H : Hp) (M : MHp) (a : Addr) : MO → Prop
  | .lst us => ∃ vs, H a = some (.lst vs) ∧ RelUs K H M us vs
  | .dK kvs => ∃ ws, H a = some (.dK ws) ∧ RelKv K H M kvs ws
  | .dT kvs => ∃ ws, H a = some (.dT ws) ∧ RelKv K H M kvs ws
  | .dN kvs => ∃ ws, H a = some (.dN ws) ∧ RelKv K H M kvs ws
  | .cap ps vs us => H a = some (.tbl ps) ∧ RelUs K H M us vs
  | .tbl q => (∀ b, M b = some (.tbl q) → b = a) ∧ ∃ ps, H a = some (.tbl ps) ∧ TriplesOk ps.toList ∧ ∀ pos c, codeAmong pos ps.toList = some c → ∃ c' oc vs t, c = .ref c' ∧ H c' = some (.frz oc (.own 0)) ∧ M c' = none ∧ oc.data = .fields vs ∧ vs[1]? = some (.str q t)
def RelM (K : PySem.W.Frag) (H : Hp) (M : MHp) : Prop := ∀ a mo, M a = some mo → RelMO K H M a mo
theorem RelMO.stp {K : PySem.W.Frag} {H H1 : Hp} {M M1 : MHp} {a : Addr} {mo : MO} (hu : ∀ b q, M1 b = some (.tbl q) → M b = some (.tbl q)) (st : Stp H M H1 M1) (e : H1 a = H a) (h : RelMO K H M a mo) : RelMO K H1 M1 a mo := by
  cases mo with
  | lst us => obtain ⟨vs, x, y⟩ := h; exact ⟨vs, e.trans x, y.stp st⟩
  | dK us => obtain ⟨vs, x, y⟩ := h; exact ⟨vs, e.trans x, y.stp st⟩
  | dT us => obtain ⟨vs, x, y⟩ := h; exact ⟨vs, e.trans x, y.stp st⟩
  | dN us => obtain ⟨vs, x, y⟩ := h; exact ⟨vs, e.trans x, y.stp st⟩
  | cap ps vs us => exact ⟨e.trans h.1, h.2.stp st⟩
  | tbl q =>
    obtain ⟨un, ps, x, y, z⟩ := h
    refine ⟨fun b hb => un b (hu b q hb), ps, e.trans x, y, fun pos c hc => ?_⟩
    obtain ⟨c', oc, vs, t, h1, h2, h3, h4⟩ := z pos c hc
    exact ⟨c', oc, vs, t, h1, (st.to h2 h3).1, (st.to h2 h3).2, h4⟩
theorem RelM.ex {K : PySem.W.Frag} {H : Hp} {M : MHp} (r : RelM K H M) {a : Addr} {mo : MO} (h : M a = some mo) : ∃ o, H a = some o := by
  have := r a mo h
  cases mo with
  | lst us => obtain ⟨vs, x, y⟩ := this; exact ⟨_, x⟩
  | dK us => obtain ⟨vs, x, y⟩ := this; exact ⟨_, x⟩
  | dT us => obtain ⟨vs, x, y⟩ := this; exact ⟨_, x⟩
  | dN us => obtain ⟨vs, x, y⟩ := this; exact ⟨_, x⟩
  | cap ps vs us => exact ⟨_, this.1⟩
  | tbl q => obtain ⟨_, ps, x, _⟩ := this; exact ⟨_, x⟩
theorem RelM.no {K : PySem.W.Frag} {H : Hp} {M : MHp} (r : RelM K H M) {a : Addr} (h : H a = none) : M a = none := by
  cases e : M a with
  | none => rfl
  | some mo => obtain ⟨o, q⟩ := r.ex e; rw [h] at q; cases q
theorem Stp.laid {K : PySem.W.Frag} {H : Hp} {M : MHp} {p : Addr} {o : HO} (r : RelM K H M) (h : H p = none) : Stp H M (upd H p o) M := .by' fun b u e m => ⟨by rw [upd_ne (ne_of_none e h)]; exact e, m⟩
theorem RelM.laid {K : PySem.W.Frag} {H : Hp} {M : MHp} {p : Addr} {o : HO} (r : RelM K H M) (h : H p = none) : RelM K (upd H p o) M := fun a mo e => by
  obtain ⟨u, q⟩ := r.ex e
  exact (r a mo e).stp (fun _ _ z => z) (Stp.laid r h) (upd_ne (ne_of_none q h))
theorem Stp.own {K : PySem.W.Frag} {H : Hp} {M : MHp} {p : Addr} {o : HO} {mo : MO} (r : RelM K H M) (h : H p = none) : Stp H M (upd H p o) (mup M p mo) := .by' fun b u e m => by
  have n := ne_of_none e h
  exact ⟨by rw [upd_ne n]; exact e, by rw [mup_ne n]; exact m⟩
theorem RelM.put {K : PySem.W.Frag} {H : Hp} {M : MHp} {p : Addr} {o : HO} {mo : MO} (r : RelM K H M) (st : Stp H M (upd H p o) (mup M p mo)) (new : RelMO K (upd H p o) (mup M p mo) p mo) (hm : ∀ q, mo ≠ .tbl q := by intro q z; cases z) : RelM K (upd H p o) (mup M p mo) := fun a m e => by
  by_cases ha : a = p
  · subst ha; rw [mup_same] at e; cases e; exact new
  · rw [mup_ne ha] at e
    refine (r a m e).stp (fun b q z => ?_) st (upd_ne ha)
    by_cases hb : b = p
    · subst hb; rw [mup_same] at z; exact absurd (Option.some.inj z) (hm q)
    · rw [mup_ne hb] at z; exact z
theorem Stp.write {H : Hp} {M : MHp} {p : Addr} {o : HO} {mo m0 : MO} (h : M p = some m0) : Stp H M (upd H p o) (mup M p mo) := .by' fun b u e m => by
  have n : b ≠ p := fun z => by subst z; rw [h] at m; cases m
  exact ⟨by rw [upd_ne n]; exact e, by rw [mup_ne n]; exact m⟩
section
variable {K : PySem.W.Frag} {H : Hp} {M : MHp}
theorem RelUs.nil : RelUs K H M [] [] := by simp only [RelUs]
theorem RelUs.cons {u : U} {v : V} {us : List U} {vs : List V} (h : RelU K H M u v) (t : RelUs K H M us vs) : RelUs K H M (u :: us) (v :: vs) := by simp only [RelUs]; exact ⟨v, vs, rfl, h, t⟩
theorem RelUs.length : ∀ {us : List U} {vs : List V}, RelUs K H M us vs → us.length = vs.length
  | [], _, h => by simp only [RelUs] at h; subst h; rfl
  | u :: us, _, h => by
    simp only [RelUs] at h
    obtain ⟨v, vs', rfl, _, t⟩ := h
    simp [RelUs.length t]
theorem RelUs.inv_cons {u : U} {us : List U} {vs : List V} (h : RelUs K H M (u :: us) vs) : ∃ v vs', vs = v :: vs' ∧ RelU K H M u v ∧ RelUs K H M us vs' := by simpa only [RelUs] using h
theorem RelUs.inv_nil {vs : List V} (h : RelUs K H M [] vs) : vs = [] := by simpa only [RelUs] using h
theorem RelUs.append : ∀ {us ws : List U} {vs zs : List V}, RelUs K H M us vs → RelUs K H M ws zs → RelUs K H M (us ++ ws) (vs ++ zs)
  | [], _, _, _, h, t => by cases h.inv_nil; exact t
  | u :: us, _, _, _, h, t => by
    obtain ⟨v, vs', rfl, a, b⟩ := h.inv_cons
    exact .cons a (RelUs.append b t)
theorem RelUs.get : ∀ {us : List U} {vs : List V} {i : Nat} {u : U}, RelUs K H M us vs → us[i]? = some u → ∃ v, vs[i]? = some v ∧ RelU K H M u v
  | [], _, _, _, _, e => by simp at e
  | u :: us, _, 0, _, h, e => by
    obtain ⟨v, vs', rfl, a, b⟩ := h.inv_cons
    simp at e; subst e; exact ⟨v, rfl, a⟩
  | u :: us, _, i + 1, _, h, e => by
    obtain ⟨v, vs', rfl, a, b⟩ := h.inv_cons
    simp at e
    obtain ⟨w, x, y⟩ := RelUs.get b e
    exact ⟨w, by simpa using x, y⟩
theorem RelUs.drop : ∀ {us : List U} {vs : List V} (n : Nat), RelUs K H M us vs → RelUs K H M (us.drop n) (vs.drop n)
  | _, _, 0, h => h
  | [], _, _ + 1, h => by cases h.inv_nil; exact .nil
  | u :: us, _, n + 1, h => by
    obtain ⟨v, vs', rfl, a, b⟩ := h.inv_cons
    exact RelUs.drop n b
theorem RelUs.take : ∀ {us : List U} {vs : List V} (n : Nat), RelUs K H M us vs → RelUs K H M (us.take n) (vs.take n)
  | _, _, 0, _ => by simp only [List.take_zero]; exact .nil
  | [], _, _ + 1, h => by cases h.inv_nil; exact .nil
  | u :: us, _, n + 1, h => by
    obtain ⟨v, vs', rfl, a, b⟩ := h.inv_cons
    exact .cons a (RelUs.take n b)
theorem RelUs.dropLast {us : List U} {vs : List V} (h : RelUs K H M us vs) : RelUs K H M us.dropLast vs.dropLast := by
  rw [List.dropLast_eq_take, List.dropLast_eq_take, h.length]; exact h.take _
end
abbrev SU := List (Option U)
abbrev UK := U → MHp → Prop
abbrev UE := SU → MHp → UK → Prop
abbrev UT := SU → MHp → (Bool → MHp → Prop) → Prop
abbrev UA := SU → MHp → (List U → MHp → Prop) → Prop
structure UEnds where
  nx : SU → MHp → Prop
  rt : UK
  bk : SU → MHp → Prop := fun _ _ => False
  ct : SU → MHp → Prop := fun _ _ => False
abbrev US := UEnds → SU → MHp → Prop
def RelS (K : PySem.W.Frag) (H : Hp) (M : MHp) (σ : St) (τ : SU) : Prop := τ.length = σ.length ∧ ∀ (i : Nat) u, τ[i]? = some (some u) → ∃ v, σ[i]? = some (some v) ∧ RelU K H M u v
theorem RelS.stp {K : PySem.W.Frag} {H H1 : Hp} {M M1 : MHp} {σ : St} {τ : SU} (st : Stp H M H1 M1) (r : RelS K H M σ τ) : RelS K H1 M1 σ τ := ⟨r.1, fun i u e => let ⟨v, a, b⟩ := r.2 i u e; ⟨v, a, b.stp st⟩⟩
theorem RelS.set {K : PySem.W.Frag} {H : Hp} {M : MHp} {σ : St} {τ : SU} {i : Nat} {u : U} {v : V} (r : RelS K H M σ τ) (h : RelU K H M u v) : RelS K H M (σ.set i (some v)) (τ.set i (some u)) := by
  refine ⟨by simp [r.1], fun j w e => ?_⟩
  rw [List.getElem?_set] at e ⊢
  split at e
  · rename_i hij
    subst hij
    split at e
    · rename_i hl
      cases e
      rw [if_pos rfl, if_pos (by rw [← r.1]; exact hl)]
      exact ⟨v, rfl, h⟩
    · cases e
  · rename_i hij
    rw [if_neg hij]
    exact r.2 j w e
def SimE (K : PySem.W.Frag) (t : TE) (t' : UE) : Prop := ∀ (σ : St) (τ : SU) (H : Hp) (M : MHp) (Q' : UK), RelS K H M σ τ → RelM K H M → t' τ M Q' →
  ∀ Q : VK, (∀ u v M1 H1, Stp H M H1 M1 → RelM K H1 M1 → RelU K H1 M1 u v → Q' u M1 → Q v H1) → t σ H Q
def SimT (K : PySem.W.Frag) (t : TT) (t' : UT) : Prop := ∀ (σ : St) (τ : SU) (H : Hp) (M : MHp) (Q' : Bool → MHp → Prop), RelS K H M σ τ → RelM K H M → t' τ M Q' →
  ∀ Q : Bool → Hp → Prop, (∀ b M1 H1, Stp H M H1 M1 → RelM K H1 M1 → Q' b M1 → Q b H1) → t σ H Q
def SimA (K : PySem.W.Frag) (t : TA) (t' : UA) : Prop := ∀ (σ : St) (τ : SU) (H : Hp) (M : MHp) (Q' : List U → MHp → Prop), RelS K H M σ τ → RelM K H M → t' τ M Q' →
  ∀ Q : List V → Hp → Prop, (∀ us vs M1 H1, Stp H M H1 M1 → RelM K H1 M1 → RelUs K H1 M1 us vs → Q' us M1 → Q vs H1) → t σ H Q
structure SimD (K : PySem.W.Frag) (H : Hp) (M : MHp) (D : Ends) (D' : UEnds) : Prop where
  nx : ∀ σ τ H1 M1, Stp H M H1 M1 → RelM K H1 M1 → RelS K H1 M1 σ τ → D'.nx τ M1 → D.nx σ H1
  rt : ∀ u v H1 M1, Stp H M H1 M1 → RelM K H1 M1 → RelU K H1 M1 u v → D'.rt u M1 → D.rt v H1
  bk : ∀ σ τ H1 M1, Stp H M H1 M1 → RelM K H1 M1 → RelS K H1 M1 σ τ → D'.bk τ M1 → D.bk σ H1
  ct : ∀ σ τ H1 M1, Stp H M H1 M1 → RelM K H1 M1 → RelS K H1 M1 σ τ → D'.ct τ M1 → D.ct σ H1
theorem SimD.stp {K : PySem.W.Frag} {H H1 : Hp} {M M1 : MHp} {D : Ends} {D' : UEnds} (d : SimD K H M D D') (st : Stp H M H1 M1) : SimD K H1 M1 D D' :=
  ⟨fun σ τ H2 M2 s => d.nx σ τ H2 M2 (st.trans s), fun u v H2 M2 s => d.rt u v H2 M2 (st.trans s), fun σ τ H2 M2 s => d.bk σ τ H2 M2 (st.trans s), fun σ τ H2 M2 s => d.ct σ τ H2 M2 (st.trans s)⟩
def SimS (K : PySem.W.Frag) (t : TS) (t' : US) : Prop := ∀ (σ : St) (τ : SU) (H : Hp) (M : MHp) (D' : UEnds), RelS K H M σ τ → RelM K H M → t' D' τ M → ∀ D : Ends, SimD K H M D D' → t D σ H
end U2
namespace U2
open PySem L2
abbrev UR2 := U → U → MHp → UK → Prop
def Cont (K : PySem.W.Frag) (H : Hp) (M : MHp) (Q' : UK) (Q : VK) : Prop := ∀ u v M1 H1, Stp H M H1 M1 → RelM K H1 M1 → RelU K H1 M1 u v → Q' u M1 → Q v H1
theorem Cont.stp {K : PySem.W.Frag} {H H1 : Hp} {M M1 : MHp} {Q' : UK} {Q : VK} (c : Cont K H M Q' Q) (st : Stp H M H1 M1) : Cont K H1 M1 Q' Q := fun u v M2 H2 s => c u v M2 H2 (st.trans s)
theorem Cont.here {K : PySem.W.Frag} {H : Hp} {M : MHp} {Q' : UK} {Q : VK} {u : U} {v : V} (c : Cont K H M Q' Q) (rm : RelM K H M) (r : RelU K H M u v) (q : Q' u M) : Q v H := c u v M H (Stp.refl H M) rm r q
def SimR2 (K : PySem.W.Frag) (r : R2) (r' : UR2) : Prop := ∀ (x y : V) (u w : U) (H : Hp) (M : MHp) (Q' : UK), RelM K H M → RelU K H M u x → RelU K H M w y → r' u w M Q' → ∀ Q : VK, Cont K H M Q' Q → r x y H Q
def SimU1 (K : PySem.W.Frag) (r : V → Hp → VK → Prop) (r' : U → MHp → UK → Prop) : Prop := ∀ (x : V) (u : U) (H : Hp) (M : MHp) (Q' : UK), RelM K H M → RelU K H M u x → r' u M Q' → ∀ Q : VK, Cont K H M Q' Q → r x H Q
def SimCl (K : PySem.W.Frag) (r : List V → Hp → VK → Prop) (r' : List U → MHp → UK → Prop) : Prop := ∀ (xs : List V) (us : List U) (H : Hp) (M : MHp) (Q' : UK), RelM K H M → RelUs K H M us xs → r' us M Q' → ∀ Q : VK, Cont K H M Q' Q → r xs H Q
def SimMt (K : PySem.W.Frag) (r : V → List V → Hp → VK → Prop) (r' : U → List U → MHp → UK → Prop) : Prop := ∀ (x : V) (xs : List V) (u : U) (us : List U) (H : Hp) (M : MHp) (Q' : UK), RelM K H M → RelU K H M u x → RelUs K H M us xs → r' u us M Q' → ∀ Q : VK, Cont K H M Q' Q → r x xs H Q
section
variable {K : PySem.W.Frag} {H : Hp} {M : MHp} {v : V}
theorem RelU.non (h : RelU K H M .non v) : v = .non := by simpa only [RelU] using h
theorem RelU.bl {b : Bool} (h : RelU K H M (.bl b) v) : v = .bl b := by simpa only [RelU] using h
theorem RelU.int {i : Int} (h : RelU K H M (.int i) v) : v = .int i := by simpa only [RelU] using h
theorem RelU.str {x : Str} (h : RelU K H M (.str x) v) : v = .str x := by simpa only [RelU] using h
theorem RelU.ty {n : String} (h : RelU K H M (.ty n) v) : v = .ty n := by simpa only [RelU] using h
theorem RelU.ref {a : Addr} (h : RelU K H M (.ref a) v) : v = .ref a := by simpa only [RelU] using h
theorem RelU.tup {us : List U} (h : RelU K H M (.tup us) v) : ∃ a vs, v = .ref a ∧ SqT K H a vs ∧ RelUs K H M us vs := by
  simp only [RelU] at h
  obtain ⟨a, vs, e, h1, h2⟩ := h
  refine ⟨a, vs, e, ?_, h2⟩
  exact .inl (.inl h1.2)
theorem RelU.lst {us : List U} (h : RelU K H M (.lst us) v) : ∃ a vs, v = .ref a ∧ SqL K H a vs ∧ RelUs K H M us vs := by
  simp only [RelU] at h
  obtain ⟨a, vs, e, h1, h2⟩ := h
  refine ⟨a, vs, e, ?_, h2⟩
  rcases h1 with ⟨_, r⟩ | k
  · exact .inl r
  · exact .inr k
theorem relU_non : RelU K H M .non .non := by simp only [RelU]
theorem relU_bl {b : Bool} : RelU K H M (.bl b) (.bl b) := by simp only [RelU]
theorem relU_int {i : Int} : RelU K H M (.int i) (.int i) := by simp only [RelU]
theorem relU_str {x : Str} : RelU K H M (.str x) (.str x) := by simp only [RelU]
theorem relU_ty {n : String} : RelU K H M (.ty n) (.ty n) := by simp only [RelU]
theorem relU_ref {a : Addr} : RelU K H M (.ref a) (.ref a) := by simp only [RelU]
theorem relU_tup {a : Addr} {us : List U} {vs : List V} (m : M a = none) (h : H a = some (.tup vs)) (r : RelUs K H M us vs) : RelU K H M (.tup us) (.ref a) := by
  simp only [RelU]; exact ⟨a, vs, rfl, ⟨m, h⟩, r⟩
theorem relU_lst {a : Addr} {us : List U} {vs : List V} (m : M a = none) (h : H a = some (.lst vs)) (r : RelUs K H M us vs) : RelU K H M (.lst us) (.ref a) := by
  simp only [RelU]; exact ⟨a, vs, rfl, .inl ⟨m, .inl h⟩, r⟩
theorem Cont.tup {Q' : UK} {Q : VK} {us : List U} {vs : List V} {p : Addr} (c : Cont K H M Q' Q) (rm : RelM K H M) (r : RelUs K H M us vs) (hp : H p = none) (q : Q' (.tup us) M) : Q (.ref p) (upd H p (.tup vs)) :=
  c _ _ M _ (Stp.laid rm hp) (rm.laid hp) (relU_tup (rm.no hp) upd_same (r.stp (Stp.laid rm hp))) q
def mkL (o : Bool) (us : List U) (M : MHp) (Q : UK) : Prop := match o with
  | true => ∀ p, M p = none → Q (.ref p) (mup M p (.lst us))
  | false => Q (.lst us) M
theorem Cont.lst {o : Bool} {Q' : UK} {Q : VK} {us : List U} {vs : List V} {p : Addr} (c : Cont K H M Q' Q) (rm : RelM K H M) (r : RelUs K H M us vs) (hp : H p = none) (q : mkL o us M Q') : Q (.ref p) (upd H p (.lst vs)) := by
  cases o with
  | false => exact c _ _ M _ (Stp.laid rm hp) (rm.laid hp) (relU_lst (rm.no hp) upd_same (r.stp (Stp.laid rm hp))) q
  | true =>
    have st : Stp H M (upd H p (.lst vs)) (mup M p (.lst us)) := Stp.own rm hp
    exact c (.ref p) _ _ _ st (rm.put st ⟨vs, upd_same, r.stp st⟩) relU_ref (q p (rm.no hp))
end
def view (M : MHp) : U → U
  | .ref a => match M a with
    | some (.lst us) => .lst us
    | _ => .ref a
  | u => u
theorem view_ref {M : MHp} {a : Addr} {us : List U} (h : M a = some (.lst us)) : view M (.ref a) = .lst us := by simp only [view, h]
theorem view_lst {K : PySem.W.Frag} {H : Hp} {M : MHp} {u : U} {v : V} {us : List U} (rm : RelM K H M) (r : RelU K H M u v) (h : view M u = .lst us) : ∃ a vs, v = .ref a ∧ SqL K H a vs ∧ RelUs K H M us vs := by
  cases u with
  | lst ws => simp only [view] at h; cases h; exact r.lst
  | ref a =>
    simp only [view] at h
    split at h
    · rename_i ws e
      cases h
      obtain ⟨vs, h1, h2⟩ := rm a _ e
      exact ⟨a, vs, r.ref, .inl (.inl h1), h2⟩
    · cases h
  | _ => simp [view] at h
section
variable {K : PySem.W.Frag} {t ta tb tc : TE} {t' ta' tb' tc' : UE}
def uVar (i : Nat) : UE := fun τ M Q => match τ[i]? with
  | some (some u) => Q u M
  | _ => False
theorem sim_var (i : Nat) : SimE K (tVar i) (uVar i) := fun σ τ H M Q' rs rm h Q c => by
  unfold uVar at h
  split at h
  · rename_i u e
    obtain ⟨v, e2, r⟩ := rs.2 i u e
    exact ⟨v, e2, c u v M H (Stp.refl _ _) rm r h⟩
  · exact h.elim
def uC (u : U) : UE := fun _ M Q => Q u M
theorem sim_c {u : U} {v : V} (h : ∀ H M, RelU K H M u v) : SimE K (tC v) (uC u) := fun σ τ H M Q' rs rm q Q c => c u v M H (Stp.refl _ _) rm (h H M) q
theorem sim_int {i : Int} : SimE K (tC (.int i)) (uC (.int i)) := sim_c fun _ _ => relU_int
theorem sim_bl {i : Bool} : SimE K (tC (.bl i)) (uC (.bl i)) := sim_c fun _ _ => relU_bl
theorem sim_str {i : Str} : SimE K (tC (.str i)) (uC (.str i)) := sim_c fun _ _ => relU_str
theorem sim_non : SimE K (tC .non) (uC .non) := sim_c fun _ _ => relU_non
theorem sim_ty {n : String} : SimE K (tC (.ty n)) (uC (.ty n)) := sim_c fun _ _ => relU_ty
theorem sim_ref {a : Addr} : SimE K (tC (.ref a)) (uC (.ref a)) := sim_c fun _ _ => relU_ref
def uOp (r : UR2) (ta tb : UE) : UE := fun τ M Q => ta τ M fun x M1 => tb τ M1 fun y M2 => r x y M2 Q
theorem sim_op {r : R2} {r' : UR2} (hr : SimR2 K r r') (ha : SimE K ta ta') (hb : SimE K tb tb') : SimE K (tOp r ta tb) (uOp r' ta' tb') := fun σ τ H M Q' rs rm h Q c =>
  ha σ τ H M _ rs rm h _ fun u v M1 H1 s1 rm1 ru h1 => hb σ τ H1 M1 _ (rs.stp s1) rm1 h1 _ fun w x M2 H2 s2 rm2 rw h2 => hr v x u w H2 M2 Q' rm2 (ru.stp s2) rw h2 Q (Cont.stp c (s1.trans s2))
def uUn (r : U → MHp → UK → Prop) (ta : UE) : UE := fun τ M Q => ta τ M fun x M1 => r x M1 Q
theorem sim_un {r : V → Hp → VK → Prop} {r' : U → MHp → UK → Prop} (hr : SimU1 K r r') (ha : SimE K ta ta') : SimE K (tUn r ta) (uUn r' ta') := fun σ τ H M Q' rs rm h Q c =>
  ha σ τ H M _ rs rm h _ fun u v M1 H1 s1 rm1 ru h1 => hr v u H1 M1 Q' rm1 ru h1 Q (Cont.stp c s1)
def uTest (t : UE) : UT := fun τ M Q => t τ M fun u M1 => match u with
  | .bl b => Q b M1
  | _ => False
theorem sim_test (h : SimE K t t') : SimT K (tTest t) (uTest t') := fun σ τ H M Q' rs rm q Q c => h σ τ H M _ rs rm q _ fun u v M1 H1 s1 rm1 ru h1 => by
  cases u with
  | bl b => exact ⟨b, ru.bl, c b M1 H1 s1 rm1 h1⟩
  | _ => exact h1.elim
def uTru (t : UE) : UT := fun τ M Q => t τ M fun u M1 => match view M1 u with
  | .non => Q false M1
  | .bl b => Q b M1
  | .int i => Q (i != 0) M1
  | .str x => x.length ≤ sizeLine ∧ Q ((x.length : Int) != 0) M1
  | .tup us => Q (!us.isEmpty) M1
  | .lst us => Q (!us.isEmpty) M1
  | _ => False
theorem isEmpty_rel {H : Hp} {M : MHp} {us : List U} {vs : List V} (r : RelUs K H M us vs) : us.isEmpty = vs.isEmpty := by
  have := r.length
  cases us <;> cases vs <;> simp_all
theorem sim_tru (h : SimE K t t') : SimT K (fun σ H Q => t σ H fun x H' => ∃ k, TruV K x H' k ∧ Q k H') (uTru t') := fun σ τ H M Q' rs rm q Q c => h σ τ H M _ rs rm q _ fun u v M1 H1 s1 rm1 ru h1 => by
  split at h1
  · rename_i e
    cases u with
    | non => exact ⟨false, by rw [ru.non]; rfl, c _ M1 H1 s1 rm1 h1⟩
    | ref a => simp only [view] at e; split at e <;> cases e
    | _ => simp [view] at e
  · rename_i b e
    cases u with
    | bl b' => simp only [view] at e; cases e; exact ⟨b, by rw [ru.bl]; rfl, c _ M1 H1 s1 rm1 h1⟩
    | ref a => simp only [view] at e; split at e <;> cases e
    | _ => simp [view] at e
  · rename_i b e
    cases u with
    | int b' => simp only [view] at e; cases e; exact ⟨b != 0, by rw [ru.int]; rfl, c _ M1 H1 s1 rm1 h1⟩
    | ref a => simp only [view] at e; split at e <;> cases e
    | _ => simp [view] at e
  · rename_i b e
    cases u with
    | str b' => simp only [view] at e; cases e; exact ⟨(b.length : Int) != 0, by rw [ru.str]; exact ⟨h1.1, rfl⟩, c _ M1 H1 s1 rm1 h1.2⟩
    | ref a => simp only [view] at e; split at e <;> cases e
    | _ => simp [view] at e
  · rename_i us e
    cases u with
    | tup us' =>
      simp only [view] at e; cases e
      obtain ⟨a, vs, rfl, r1, r2⟩ := ru.tup
      exact ⟨!vs.isEmpty, .inr (.inl ⟨vs, r1, rfl⟩), c _ M1 H1 s1 rm1 (by rw [← isEmpty_rel r2]; exact h1)⟩
    | ref a => simp only [view] at e; split at e <;> cases e
    | _ => simp [view] at e
  · rename_i us e
    obtain ⟨a, vs, rfl, r1, r2⟩ := view_lst rm1 ru e
    exact ⟨!vs.isEmpty, .inl ⟨vs, r1, rfl⟩, c _ M1 H1 s1 rm1 (by rw [← isEmpty_rel r2]; exact h1)⟩
  · exact h1.elim
def uAnd (t u : UT) : UT := fun τ M Q => t τ M fun c M1 => if c = true then u τ M1 Q else Q false M1
def uOr (t u : UT) : UT := fun τ M Q => t τ M fun c M1 => if c = true then Q true M1 else u τ M1 Q
def uNot (t : UT) : UT := fun τ M Q => t τ M fun c M1 => Q (!c) M1
theorem sim_and {t u : TT} {t' u' : UT} (h : SimT K t t') (k : SimT K u u') : SimT K (tAnd t u) (uAnd t' u') := fun σ τ H M Q' rs rm q Q c => h σ τ H M _ rs rm q _ fun b M1 H1 s1 rm1 h1 => by
  cases b with
  | true => exact k σ τ H1 M1 Q' (rs.stp s1) rm1 h1 Q fun b M2 H2 s2 => c b M2 H2 (s1.trans s2)
  | false => exact c _ M1 H1 s1 rm1 h1
theorem sim_or {t u : TT} {t' u' : UT} (h : SimT K t t') (k : SimT K u u') : SimT K (tOr t u) (uOr t' u') := fun σ τ H M Q' rs rm q Q c => h σ τ H M _ rs rm q _ fun b M1 H1 s1 rm1 h1 => by
  cases b with
  | false => exact k σ τ H1 M1 Q' (rs.stp s1) rm1 h1 Q fun b M2 H2 s2 => c b M2 H2 (s1.trans s2)
  | true => exact c _ M1 H1 s1 rm1 h1
theorem sim_not {t : TT} {t' : UT} (h : SimT K t t') : SimT K (tNot t) (uNot t') := fun σ τ H M Q' rs rm q Q c => h σ τ H M _ rs rm q _ fun b M1 H1 s1 rm1 h1 => c _ M1 H1 s1 rm1 h1
def uAndV (ta tb : UE) : UE := fun τ M Q => ta τ M fun x M1 => match x with
  | .bl c => if c = true then tb τ M1 Q else Q (.bl false) M1
  | _ => False
def uOrV (ta tb : UE) : UE := fun τ M Q => ta τ M fun x M1 => match x with
  | .bl c => if c = true then Q (.bl true) M1 else tb τ M1 Q
  | _ => False
def uNotV (ta : UE) : UE := fun τ M Q => ta τ M fun x M1 => match x with
  | .bl c => Q (.bl (!c)) M1
  | _ => False
theorem sim_andV (h : SimE K ta ta') (k : SimE K tb tb') : SimE K (tAndV ta tb) (uAndV ta' tb') := fun σ τ H M Q' rs rm q Q c => h σ τ H M _ rs rm q _ fun u v M1 H1 s1 rm1 ru h1 => by
  cases u with
  | bl b =>
    refine ⟨b, ru.bl, ?_⟩
    cases b with
    | true => exact k σ τ H1 M1 Q' (rs.stp s1) rm1 h1 Q (Cont.stp c s1)
    | false => exact c _ _ M1 H1 s1 rm1 relU_bl h1
  | _ => exact h1.elim
theorem sim_orV (h : SimE K ta ta') (k : SimE K tb tb') : SimE K (tOrV ta tb) (uOrV ta' tb') := fun σ τ H M Q' rs rm q Q c => h σ τ H M _ rs rm q _ fun u v M1 H1 s1 rm1 ru h1 => by
  cases u with
  | bl b =>
    refine ⟨b, ru.bl, ?_⟩
    cases b with
    | false => exact k σ τ H1 M1 Q' (rs.stp s1) rm1 h1 Q (Cont.stp c s1)
    | true => exact c _ _ M1 H1 s1 rm1 relU_bl h1
  | _ => exact h1.elim
theorem sim_notV (h : SimE K ta ta') : SimE K (tNotV ta) (uNotV ta') := fun σ τ H M Q' rs rm q Q c => h σ τ H M _ rs rm q _ fun u v M1 H1 s1 rm1 ru h1 => by
  cases u with
  | bl b => exact ⟨b, ru.bl, c _ _ M1 H1 s1 rm1 relU_bl h1⟩
  | _ => exact h1.elim
def uIf (t : UT) (ta tb : UE) : UE := fun τ M Q => t τ M fun c M1 => if c = true then ta τ M1 Q else tb τ M1 Q
theorem sim_if {t : TT} {t' : UT} (h : SimT K t t') (k : SimE K ta ta') (l : SimE K tb tb') : SimE K (tIf t ta tb) (uIf t' ta' tb') := fun σ τ H M Q' rs rm q Q c => h σ τ H M _ rs rm q _ fun b M1 H1 s1 rm1 h1 => by
  cases b with
  | true => exact k σ τ H1 M1 Q' (rs.stp s1) rm1 h1 Q (Cont.stp c s1)
  | false => exact l σ τ H1 M1 Q' (rs.stp s1) rm1 h1 Q (Cont.stp c s1)
def uChain (r r' : UR2) (ta tb tc : UE) : UE := fun τ M Q => ta τ M fun x M1 => tb τ M1 fun y M2 => r x y M2 fun z M3 => match z with
  | .bl k => if k = true then tc τ M3 fun w M4 => r' y w M4 Q else Q (.bl false) M3
  | _ => False
theorem sim_chain {r r' : R2} {s s' : UR2} (hr : SimR2 K r s) (hr' : SimR2 K r' s') (ha : SimE K ta ta') (hb : SimE K tb tb') (hc : SimE K tc tc') : SimE K (tChain r r' ta tb tc) (uChain s s' ta' tb' tc') := fun σ τ H M Q' rs rm h Q c =>
  ha σ τ H M _ rs rm h _ fun u v M1 H1 s1 rm1 ru h1 => hb σ τ H1 M1 _ (rs.stp s1) rm1 h1 _ fun w x M2 H2 s2 rm2 rw h2 =>
    hr v x u w H2 M2 _ rm2 (ru.stp s2) rw h2 _ fun z zv M3 H3 s3 rm3 rz h3 => by
      cases z with
      | bl k =>
        refine ⟨k, rz.bl, ?_⟩
        cases k with
        | true => exact hc σ τ H3 M3 _ ((rs.stp s1).stp (s2.trans s3)) rm3 h3 _ fun w2 x2 M4 H4 s4 rm4 rw4 h4 => hr' x x2 w w2 H4 M4 Q' rm4 (rw.stp (s3.trans s4)) rw4 h4 Q (Cont.stp c (((s1.trans s2).trans s3).trans s4))
        | false => exact c _ _ M3 H3 ((s1.trans s2).trans s3) rm3 relU_bl h3
      | _ => exact h3.elim
def uNil : UA := fun _ M Q => Q [] M
def uCons (ta : UE) (tr : UA) : UA := fun τ M Q => ta τ M fun x M1 => tr τ M1 fun xs M2 => Q (x :: xs) M2
theorem sim_nil : SimA K tNil uNil := fun σ τ H M Q' rs rm q Q c => c [] [] M H (Stp.refl _ _) rm .nil q
theorem sim_cons {tr : TA} {tr' : UA} (ha : SimE K ta ta') (hr : SimA K tr tr') : SimA K (tCons ta tr) (uCons ta' tr') := fun σ τ H M Q' rs rm h Q c =>
  ha σ τ H M _ rs rm h _ fun u v M1 H1 s1 rm1 ru h1 => hr σ τ H1 M1 _ (rs.stp s1) rm1 h1 _ fun us vs M2 H2 s2 rm2 rus h2 => c (u :: us) (v :: vs) M2 H2 (s1.trans s2) rm2 (.cons (ru.stp s2) rus) h2
def uTup (t : UA) : UE := fun τ M Q => t τ M fun us M1 => us.length ≤ sizeLine ∧ Q (.tup us) M1
def uLst (o : Bool) (t : UA) : UE := fun τ M Q => t τ M fun us M1 => us.length ≤ sizeLine ∧ mkL o us M1 Q
theorem sim_tup {t : TA} {t' : UA} (h : SimA K t t') : SimE K (tTup t) (uTup t') := fun σ τ H M Q' rs rm q Q c =>
  h σ τ H M _ rs rm q _ fun us vs M1 H1 s1 rm1 r h1 => ⟨by rw [← r.length]; exact h1.1, fun p hp => (Cont.stp c s1).tup rm1 r hp h1.2⟩
theorem sim_lst {o : Bool} {t : TA} {t' : UA} (h : SimA K t t') : SimE K (tLst t) (uLst o t') := fun σ τ H M Q' rs rm q Q c =>
  h σ τ H M _ rs rm q _ fun us vs M1 H1 s1 rm1 r h1 => ⟨by rw [← r.length]; exact h1.1, fun p hp => (Cont.stp c s1).lst rm1 r hp h1.2⟩
def uCB (r : List U → MHp → UK → Prop) (t : UA) : UE := fun τ M Q => t τ M fun us M1 => r us M1 Q
theorem sim_cb {r : List V → Hp → VK → Prop} {r' : List U → MHp → UK → Prop} {t : TA} {t' : UA} (hr : SimCl K r r') (h : SimA K t t') : SimE K (tCB r t) (uCB r' t') := fun σ τ H M Q' rs rm q Q c =>
  h σ τ H M _ rs rm q _ fun us vs M1 H1 s1 rm1 ru h1 => hr vs us H1 M1 Q' rm1 ru h1 Q (Cont.stp c s1)
end
end U2
namespace U2
open PySem L2
section
variable {K : PySem.W.Frag}
def uI0 (g : Int → Int → U) : UR2 := fun x y M Q => match x, y with
  | .int i, .int j => Q (g i j) M
  | _, _ => False
def uI (C : Int → Int → Prop) (g : Int → Int → U) : UR2 := fun x y M Q => match x, y with
  | .int i, .int j => C i j ∧ Q (g i j) M
  | _, _ => False
theorem sim_I0 {g : Int → Int → V} {g' : Int → Int → U} (hg : ∀ H M i j, RelU K H M (g' i j) (g i j)) : SimR2 K (rI0 g) (uI0 g') := fun x y u w H M Q' rm ru rw h Q c => by
  cases u with
  | int i => cases w with
    | int j => exact ⟨i, j, ru.int, rw.int, c _ _ M H (Stp.refl _ _) rm (hg H M i j) h⟩
    | _ => exact h.elim
  | _ => exact h.elim
theorem sim_I {C : Int → Int → Prop} {g : Int → Int → V} {g' : Int → Int → U} (hg : ∀ H M i j, RelU K H M (g' i j) (g i j)) : SimR2 K (rI C g) (uI C g') := fun x y u w H M Q' rm ru rw h Q c => by
  cases u with
  | int i => cases w with
    | int j => exact ⟨i, j, ru.int, rw.int, h.1, c _ _ M H (Stp.refl _ _) rm (hg H M i j) h.2⟩
    | _ => exact h.elim
  | _ => exact h.elim
theorem sim_int2 {f : Int → Int → Int} : SimR2 K (rI0 fun i j => .int (f i j)) (uI0 fun i j => .int (f i j)) := sim_I0 fun _ _ _ _ => relU_int
theorem sim_bool2 {f : Int → Int → Bool} : SimR2 K (rI0 fun i j => .bl (f i j)) (uI0 fun i j => .bl (f i j)) := sim_I0 fun _ _ _ _ => relU_bl
theorem sim_int2c {C : Int → Int → Prop} {f : Int → Int → Int} : SimR2 K (rI C fun i j => .int (f i j)) (uI C fun i j => .int (f i j)) := sim_I fun _ _ _ _ => relU_int
def uAddS : UR2 := fun x y M Q => match x, y with
  | .str i, .str j => i.length + j.length ≤ sizeLine ∧ Q (.str (i ++ j)) M
  | _, _ => False
theorem sim_addS : SimR2 K (fun x y H Q => ∃ i j, x = .str i ∧ y = .str j ∧ i.length + j.length ≤ sizeLine ∧ Q (.str (i ++ j)) H) uAddS := fun x y u w H M Q' rm ru rw h Q c => by
  cases u with
  | str i => cases w with
    | str j => exact ⟨i, j, ru.str, rw.str, h.1, c _ _ M H (Stp.refl _ _) rm relU_str h.2⟩
    | _ => exact h.elim
  | _ => exact h.elim
def rCatTA (K : PySem.W.Frag) : R2 := fun x y H Q => ∃ a b xs ys, x = .ref a ∧ y = .ref b ∧ SqT K H a xs ∧ SqT K H b ys ∧ xs.length + ys.length ≤ sizeLine ∧
  (xs = [] → Q (.ref b) H) ∧ (xs ≠ [] → ys = [] → Q (.ref a) H) ∧ (xs ≠ [] → ys ≠ [] → ∀ p, H p = none → Q (.ref p) (upd H p (.tup (xs ++ ys))))
def uAddT : UR2 := fun x y M Q => match x, y with
  | .tup us, .tup ws => us.length + ws.length ≤ sizeLine ∧ Q (.tup (us ++ ws)) M
  | _, _ => False
theorem sim_addT : SimR2 K (rCatTA K) uAddT := fun x y u w H M Q' rm ru rw h Q c => by
  cases u with
  | tup us => cases w with
    | tup ws =>
      obtain ⟨h2, h3⟩ := h
      obtain ⟨a, xs, rfl, s1, r1⟩ := ru.tup
      obtain ⟨b, ys, rfl, s2, r2⟩ := rw.tup
      refine ⟨a, b, xs, ys, rfl, rfl, s1, s2, by rw [← r1.length, ← r2.length]; exact h2, fun e => ?_, fun _ e => ?_, fun _ _ p hp => c.tup rm (r1.append r2) hp h3⟩
      · subst e
        have e2 : us = [] := List.length_eq_zero_iff.mp r1.length
        subst e2
        exact c _ _ M H (Stp.refl _ _) rm rw h3
      · subst e
        have e2 : ws = [] := List.length_eq_zero_iff.mp r2.length
        subst e2
        exact c _ _ M H (Stp.refl _ _) rm ru (by rw [List.append_nil] at h3; exact h3)
    | _ => exact h.elim
  | _ => exact h.elim
def uAddL (o : Bool) : UR2 := fun x y M Q => match view M x, view M y with
  | .lst us, .lst ws => us.length + ws.length ≤ sizeLine ∧ mkL o (us ++ ws) M Q
  | _, _ => False
def rCatL (K : PySem.W.Frag) : R2 := fun x y H Q => ∃ l b xs zs, x = .ref l ∧ y = .ref b ∧ SqL K H l xs ∧ SqL K H b zs ∧ xs.length + zs.length ≤ sizeLine ∧ ∀ p, H p = none → Q (.ref p) (upd H p (.lst (xs ++ zs)))
theorem sim_addL {o : Bool} : SimR2 K (rCatL K) (uAddL o) := fun x y u w H M Q' rm ru rw h Q c => by
  unfold uAddL at h
  split at h
  · rename_i us ws e1 e2
    obtain ⟨a, xs, rfl, s1, r1⟩ := view_lst rm ru e1
    obtain ⟨b, ys, rfl, s2, r2⟩ := view_lst rm rw e2
    exact ⟨a, b, xs, ys, rfl, rfl, s1, s2, by rw [← r1.length, ← r2.length]; exact h.1, fun p hp => c.lst rm (r1.append r2) hp h.2⟩
  · exact h.elim
theorem atI_rel {H : Hp} {M : MHp} {us : List U} {vs : List V} {i : Int} {u : U} (r : RelUs K H M us vs) (h : atI us i = some u) : ∃ v, atI vs i = some v ∧ RelU K H M u v := by
  unfold atI at h ⊢
  rw [← r.length]
  cases e : ixN us.length i with
  | none => rw [e] at h; cases h
  | some j => rw [e] at h; exact r.get h
def uIx : UR2 := fun x y M Q => match view M x, y with
  | .lst us, .int i => ∃ u, atI us i = some u ∧ Q u M
  | .tup us, .int i => ∃ u, atI us i = some u ∧ Q u M
  | .str z, .int i => z.length ≤ sizeLine ∧ ∃ c, atI z.cps.toList i = some c ∧ Q (.str ⟨#[c]⟩) M
  | _, _ => False
theorem view_tup {M : MHp} {u : U} {us : List U} (h : view M u = .tup us) : u = .tup us := by
  cases u with
  | ref a => simp only [view] at h; split at h <;> cases h
  | _ => simpa [view] using h
theorem view_str {M : MHp} {u : U} {x : Str} (h : view M u = .str x) : u = .str x := by
  cases u with
  | ref a => simp only [view] at h; split at h <;> cases h
  | _ => simpa [view] using h
theorem sim_ix : SimR2 K (rIx K) uIx := fun x y u w H M Q' rm ru rw h Q c => by
  unfold uIx at h
  split at h
  · rename_i us i e
    obtain ⟨z, h1, h2⟩ := h
    obtain ⟨a, xs, rfl, s1, r1⟩ := view_lst rm ru e
    obtain ⟨v, h3, h4⟩ := atI_rel r1 h1
    exact .inl ⟨a, xs, i, v, rfl, rw.int, s1, h3, c _ _ M H (Stp.refl _ _) rm h4 h2⟩
  · rename_i us i e
    obtain ⟨z, h1, h2⟩ := h
    have e' := view_tup e
    subst e'
    obtain ⟨a, xs, rfl, s1, r1⟩ := ru.tup
    obtain ⟨v, h3, h4⟩ := atI_rel r1 h1
    exact .inr (.inl ⟨a, xs, i, v, rfl, rw.int, s1, h3, c _ _ M H (Stp.refl _ _) rm h4 h2⟩)
  · rename_i z i e
    obtain ⟨h0, d, h1, h2⟩ := h
    have e' := view_str e
    subst e'
    exact .inr (.inr ⟨z, i, d, ru.str, rw.int, h0, h1, c _ _ M H (Stp.refl _ _) rm relU_str h2⟩)
  · exact h.elim
abbrev UO := SU → MHp → (Option Int → MHp → Prop) → Prop
def SimO (K : PySem.W.Frag) (t : TO) (t' : UO) : Prop := ∀ (σ : St) (τ : SU) (H : Hp) (M : MHp) (Q' : Option Int → MHp → Prop), RelS K H M σ τ → RelM K H M → t' τ M Q' →
  ∀ Q : Option Int → Hp → Prop, (∀ o M1 H1, Stp H M H1 M1 → RelM K H1 M1 → Q' o M1 → Q o H1) → t σ H Q
def uNoPart : UO := fun _ M Q => Q none M
def uPart (t : UE) : UO := fun τ M Q => t τ M fun x M1 => match x with
  | .int i => Q (some i) M1
  | _ => False
theorem sim_noPart : SimO K tNoPart uNoPart := fun σ τ H M Q' rs rm q Q c => c none M H (Stp.refl _ _) rm q
theorem sim_part {t : TE} {t' : UE} (h : SimE K t t') : SimO K (tPart t) (uPart t') := fun σ τ H M Q' rs rm q Q c => h σ τ H M _ rs rm q _ fun u v M1 H1 s1 rm1 ru h1 => by
  cases u with
  | int i => exact ⟨i, ru.int, c _ M1 H1 s1 rm1 h1⟩
  | _ => exact h1.elim
def cutU {α : Type} (xs : List α) (lo hi : Option Int) : List α := (xs.drop (HT.sIx xs.length 0 lo)).take (HT.sIx xs.length xs.length hi - HT.sIx xs.length 0 lo)
theorem cut_rel {H : Hp} {M : MHp} {us : List U} {vs : List V} (r : RelUs K H M us vs) (lo hi : Option Int) : RelUs K H M (cutU us lo hi) (cutV vs lo hi) := by
  unfold cutU cutV
  rw [r.length]
  exact (r.drop _).take _
def rSlA (K : PySem.W.Frag) : V → Option Int → Option Int → Hp → VK → Prop := fun x lo hi H Q =>
  (∃ a xs, x = .ref a ∧ SqL K H a xs ∧ ∀ p, H p = none → Q (.ref p) (upd H p (.lst (cutV xs lo hi)))) ∨
  (∃ a xs, x = .ref a ∧ SqT K H a xs ∧ ¬ (HT.sIx xs.length 0 lo = 0 ∧ HT.sIx xs.length xs.length hi = xs.length) ∧ ∀ p, H p = none → Q (.ref p) (upd H p (.tup (cutV xs lo hi)))) ∨
  (∃ z : Str, x = .str z ∧ z.length ≤ sizeLine ∧ Q (.str (Txt.slice z lo hi)) H)
def uSl (o : Bool) (te : UE) (tl th : UO) : UE := fun τ M Q => te τ M fun x M1 => tl τ M1 fun l M2 => th τ M2 fun h M3 => match view M3 x with
  | .lst us => mkL o (cutU us l h) M3 Q
  | .tup us => ¬ (HT.sIx us.length 0 l = 0 ∧ HT.sIx us.length us.length h = us.length) ∧ Q (.tup (cutU us l h)) M3
  | .str z => z.length ≤ sizeLine ∧ Q (.str (Txt.slice z l h)) M3
  | _ => False
end
section
variable {K : PySem.W.Frag} {t u : TS} {t' u' : US} {te : TE} {te' : UE}
def uNext : US := fun D τ M => D.nx τ M
def uSeq (t u : US) : US := fun D τ M => t { D with nx := u D } τ M
def uBreak : US := fun D τ M => D.bk τ M
def uCont : US := fun D τ M => D.ct τ M
def uDrop (te : UE) : US := fun D τ M => te τ M fun _ M1 => D.nx τ M1
def uRet (te : UE) : US := fun D τ M => te τ M D.rt
def uRetN : US := fun D _ M => D.rt .non M
def uIfS (c : UT) (t u : US) : US := fun D τ M => c τ M fun b M1 => if b = true then t D τ M1 else u D τ M1
theorem sim_next : SimS K tNext uNext := fun σ τ H M D' rs rm h D d => d.nx σ τ H M (Stp.refl _ _) rm rs h
theorem sim_seq (h1 : SimS K t t') (h2 : SimS K u u') : SimS K (tSeq t u) (uSeq t' u') := fun σ τ H M D' rs rm h D d =>
  h1 σ τ H M _ rs rm h _ ⟨fun σ1 τ1 H1 M1 s rm1 rs1 q => h2 σ1 τ1 H1 M1 D' rs1 rm1 q D (d.stp s), d.rt, d.bk, d.ct⟩
theorem sim_drop (h1 : SimE K te te') : SimS K (tDrop te) (uDrop te') := fun σ τ H M D' rs rm h D d => h1 σ τ H M _ rs rm h _ fun u v M1 H1 s rm1 ru q => d.nx σ τ H1 M1 s rm1 (rs.stp s) q
theorem sim_ret (h1 : SimE K te te') : SimS K (tRet te) (uRet te') := fun σ τ H M D' rs rm h D d => h1 σ τ H M _ rs rm h _ fun u v M1 H1 s rm1 ru q => d.rt u v H1 M1 s rm1 ru q
theorem sim_ifS {c : TT} {c' : UT} (hc : SimT K c c') (h1 : SimS K t t') (h2 : SimS K u u') : SimS K (tIfS c t u) (uIfS c' t' u') := fun σ τ H M D' rs rm h D d => hc σ τ H M _ rs rm h _ fun b M1 H1 s rm1 q => by
  cases b with
  | true => exact h1 σ τ H1 M1 D' (rs.stp s) rm1 q D (d.stp s)
  | false => exact h2 σ τ H1 M1 D' (rs.stp s) rm1 q D (d.stp s)
abbrev UG := U → SU → MHp → (SU → MHp → Prop) → Prop
abbrev UGs := List U → SU → MHp → (SU → MHp → Prop) → Prop
def SimG (K : PySem.W.Frag) (g : TG) (g' : UG) : Prop := ∀ (u : U) (v : V) (σ : St) (τ : SU) (H : Hp) (M : MHp) (Q' : SU → MHp → Prop), RelU K H M u v → RelS K H M σ τ → RelM K H M → g' u τ M Q' →
  ∀ Q : St → Hp → Prop, (∀ σ1 τ1 H1 M1, Stp H M H1 M1 → RelM K H1 M1 → RelS K H1 M1 σ1 τ1 → Q' τ1 M1 → Q σ1 H1) → g v σ H Q
def SimGs (K : PySem.W.Frag) (g : TGs) (g' : UGs) : Prop := ∀ (us : List U) (vs : List V) (σ : St) (τ : SU) (H : Hp) (M : MHp) (Q' : SU → MHp → Prop), RelUs K H M us vs → RelS K H M σ τ → RelM K H M → g' us τ M Q' →
  ∀ Q : St → Hp → Prop, (∀ σ1 τ1 H1 M1, Stp H M H1 M1 → RelM K H1 M1 → RelS K H1 M1 σ1 τ1 → Q' τ1 M1 → Q σ1 H1) → g vs σ H Q
def hName (i : Nat) : UG := fun u τ M Q => Q (τ.set i (some u)) M
theorem sim_gname (i : Nat) : SimG K (gName i) (hName i) := fun u v σ τ H M Q' ru rs rm h Q c => c _ _ H M (Stp.refl _ _) rm (rs.set ru) h
def hNil : UGs := fun us τ M Q => match us with
  | [] => Q τ M
  | _ => False
def hCons (g : UG) (r : UGs) : UGs := fun us τ M Q => match us with
  | u :: us => g u τ M fun τ1 M1 => r us τ1 M1 Q
  | _ => False
theorem sim_gnil : SimGs K gNil hNil := fun us vs σ τ H M Q' ru rs rm h Q c => by
  cases us with
  | nil => exact ⟨ru.inv_nil, c σ τ H M (Stp.refl _ _) rm rs h⟩
  | cons _ _ => exact h.elim
theorem sim_gcons {g : TG} {g' : UG} {r : TGs} {r' : UGs} (h1 : SimG K g g') (h2 : SimGs K r r') : SimGs K (gCons g r) (hCons g' r') := fun us vs σ τ H M Q' ru rs rm h Q c => by
  cases us with
  | nil => exact h.elim
  | cons u us =>
    obtain ⟨v, vs', rfl, a, b⟩ := ru.inv_cons
    exact ⟨v, vs', rfl, h1 u v σ τ H M _ a rs rm h _ fun σ1 τ1 H1 M1 s rm1 rs1 q => h2 us vs' σ1 τ1 H1 M1 Q' (b.stp s) rs1 rm1 q Q fun σ2 τ2 H2 M2 s2 => c σ2 τ2 H2 M2 (s.trans s2)⟩
def hTup (n : Nat) (r : UGs) : UG := fun u τ M Q => match u with
  | .tup us => us.length = n ∧ r us τ M Q
  | _ => False
theorem sim_gtup {n : Nat} {r : TGs} {r' : UGs} (h2 : SimGs K r r') : SimG K (gTup K n r) (hTup n r') := fun u v σ τ H M Q' ru rs rm h Q c => by
  cases u with
  | tup us =>
    obtain ⟨a, vs, rfl, s1, r1⟩ := ru.tup
    exact ⟨a, vs, rfl, s1, by rw [← r1.length]; exact h.1, h2 us vs σ τ H M Q' r1 rs rm h.2 Q c⟩
  | _ => exact h.elim
def uAsg (te : UE) (g : UG) : US := fun D τ M => te τ M fun x M1 => g x τ M1 D.nx
theorem sim_asg {g : TG} {g' : UG} (h1 : SimE K te te') (h2 : SimG K g g') : SimS K (tAsg te g) (uAsg te' g') := fun σ τ H M D' rs rm h D d =>
  h1 σ τ H M _ rs rm h _ fun u v M1 H1 s rm1 ru q => h2 u v σ τ H1 M1 _ ru (rs.stp s) rm1 q _ fun σ1 τ1 H2 M2 s2 rm2 rs2 q2 => d.nx σ1 τ1 H2 M2 (s.trans s2) rm2 rs2 q2
def uWhile (c : UT) (tb : US) : US := fun D τ M => ∃ (P : SU → MHp → Prop) (μ : SU → MHp → Nat), P τ M ∧ ∀ τ M, P τ M → c τ M fun b M1 => if b = true then tb { D with nx := fun τ' M' => P τ' M' ∧ μ τ' M' < μ τ M, ct := fun τ' M' => P τ' M' ∧ μ τ' M' < μ τ M, bk := D.nx } τ M1 else D.nx τ M1
theorem sim_while {c : TT} {c' : UT} (hc : SimT K c c') (h1 : SimS K t t') : SimS K (tWhile c t) (uWhile c' t') := fun σ τ H M D' rs rm h D d => by
  obtain ⟨P, μ, p0, turn⟩ := h
  refine ⟨fun m σ1 H1 => ∃ τ1 M1, Stp H M H1 M1 ∧ RelM K H1 M1 ∧ RelS K H1 M1 σ1 τ1 ∧ P τ1 M1 ∧ m = μ τ1 M1, ⟨_, τ, M, Stp.refl _ _, rm, rs, p0, rfl⟩, ?_⟩
  rintro m σ1 H1 ⟨τ1, M1, s1, rm1, rs1, p1, rfl⟩
  refine hc σ1 τ1 H1 M1 _ rs1 rm1 (turn τ1 M1 p1) _ fun b M2 H2 s2 rm2 q => ?_
  cases b with
  | true =>
    refine ⟨fun σ3 H3 => ∃ τ3 M3, Stp H M H3 M3 ∧ RelM K H3 M3 ∧ RelS K H3 M3 σ3 τ3 ∧ P τ3 M3 ∧ μ τ3 M3 < μ τ1 M1, ?_, ?_⟩
    · rintro σ3 H3 ⟨τ3, M3, s3, rm3, rs3, p3, lt⟩
      exact ⟨_, lt, τ3, M3, s3, rm3, rs3, p3, rfl⟩
    · have d2 := d.stp (s1.trans s2)
      exact h1 σ1 τ1 H2 M2 _ (rs1.stp s2) rm2 q _ ⟨fun σ3 τ3 H3 M3 s3 rm3 rs3 q3 => ⟨τ3, M3, (s1.trans s2).trans s3, rm3, rs3, q3.1, q3.2⟩, d2.rt, d2.nx, fun σ3 τ3 H3 M3 s3 rm3 rs3 q3 => ⟨τ3, M3, (s1.trans s2).trans s3, rm3, rs3, q3.1, q3.2⟩⟩
  | false => exact d.nx σ1 τ1 H2 M2 (s1.trans s2) rm2 (rs1.stp s2) q
structure Src where
  own : Option Addr
  xs : List U
def Src.ok (S : Src) (M : MHp) : Prop := ∀ a, S.own = some a → M a = some (.lst S.xs)
structure Walk (K : PySem.W.Frag) (J : It) (S : Src) (H : Hp) (M : MHp) : Prop where
  step : ∀ H1 M1, Stp H M H1 M1 → RelM K H1 M1 → S.ok M1 → ∀ (i : Nat) u, S.xs[i]? = some u → J.go i H1 ∧ ∀ x H2, J.yld i H1 x H2 → Stp H1 M1 H2 M1 ∧ RelM K H2 M1 ∧ RelU K H2 M1 u x
  stop : ∀ H1 M1, Stp H M H1 M1 → RelM K H1 M1 → S.ok M1 → J.stop S.xs.length H1
abbrev UI := SU → MHp → (Src → MHp → Prop) → Prop
def SimI (K : PySem.W.Frag) (t : TI) (t' : UI) : Prop := ∀ (σ : St) (τ : SU) (H : Hp) (M : MHp) (R' : Src → MHp → Prop), RelS K H M σ τ → RelM K H M → t' τ M R' →
  ∀ R : It → Hp → Prop, (∀ J S M1 H1, Stp H M H1 M1 → RelM K H1 M1 → Walk K J S H1 M1 → R' S M1 → R J H1) → t σ H R
def uFor (wi : UI) (g : UG) (tb : US) : US := fun D τ M => wi τ M fun S M1 => ∃ P : Nat → SU → MHp → Prop, P 0 τ M1 ∧ (∀ i τ M, P i τ M → S.ok M) ∧
  (∀ i x τ M, S.xs[i]? = some x → P i τ M → g x τ M fun τ2 M2 => tb { D with nx := P (i + 1), ct := P (i + 1), bk := D.nx } τ2 M2) ∧ ∀ τ M, P S.xs.length τ M → D.nx τ M
theorem sim_for {wi : TI} {wi' : UI} {g : TG} {g' : UG} (hi : SimI K wi wi') (hg : SimG K g g') (h1 : SimS K t t') : SimS K (tFor wi g t) (uFor wi' g' t') := fun σ τ H M D' rs rm h D d => by
  refine hi σ τ H M _ rs rm h _ fun J S M0 H0 s0 rm0 w h => ?_
  obtain ⟨P, p0, hok, turn, fin⟩ := h
  refine ⟨fun i m σ1 H1 => ∃ τ1 M1, Stp H0 M0 H1 M1 ∧ RelM K H1 M1 ∧ RelS K H1 M1 σ1 τ1 ∧ P i τ1 M1 ∧ i ≤ S.xs.length ∧ m = S.xs.length - i, ⟨_, τ, M0, Stp.refl _ _, rm0, rs.stp s0, p0, Nat.zero_le _, rfl⟩, ?_⟩
  rintro i m σ1 H1 ⟨τ1, M1, s1, rm1, rs1, p1, hle, rfl⟩
  have ok1 := hok i τ1 M1 p1
  by_cases hlt : i < S.xs.length
  · obtain ⟨go, yl⟩ := w.step H1 M1 s1 rm1 ok1 i S.xs[i] (by simp [hlt])
    refine .inr ⟨go, fun σ3 H3 => ∃ τ3 M3, Stp H0 M0 H3 M3 ∧ RelM K H3 M3 ∧ RelS K H3 M3 σ3 τ3 ∧ P (i + 1) τ3 M3, ?_, fun x H2 y => ?_⟩
    · rintro σ3 H3 ⟨τ3, M3, s3, rm3, rs3, p3⟩
      exact ⟨S.xs.length - (i + 1), by omega, τ3, M3, s3, rm3, rs3, p3, hlt, rfl⟩
    · obtain ⟨s2, rm2, ru⟩ := yl x H2 y
      refine hg _ x σ1 τ1 H2 M1 _ ru (rs1.stp s2) rm2 (turn i S.xs[i] τ1 M1 (by simp [hlt]) p1) _ fun σ3 τ3 H3 M3 s3 rm3 rs3 q3 => ?_
      have d3 := d.stp (((s0.trans s1).trans s2).trans s3)
      exact h1 σ3 τ3 H3 M3 _ rs3 rm3 q3 _ ⟨fun σ4 τ4 H4 M4 s4 rm4 rs4 q4 => ⟨τ4, M4, ((s1.trans s2).trans s3).trans s4, rm4, rs4, q4⟩, d3.rt, d3.nx, fun σ4 τ4 H4 M4 s4 rm4 rs4 q4 => ⟨τ4, M4, ((s1.trans s2).trans s3).trans s4, rm4, rs4, q4⟩⟩
  · have e : i = S.xs.length := by omega
    subst e
    exact .inl ⟨w.stop H1 M1 s1 rm1 ok1, d.nx σ1 τ1 H1 M1 (s0.trans s1) rm1 rs1 (fin τ1 M1 p1)⟩
end
end U2
namespace U2
open PySem L2
section
variable {K : PySem.W.Frag}
theorem walk_list {a : Addr} {us : List U} {vs : List V} {H : Hp} {M : MHp} (m : (M a = none ∧ Rd H a (.lst vs)) ∨ KL K a vs) (r : RelUs K H M us vs) : Walk K (Itl K a) ⟨none, us⟩ H M := by
  have sq : ∀ H1 M1, Stp H M H1 M1 → SqL K H1 a vs := fun H1 M1 s => by
    rcases m with ⟨m, h⟩ | k
    · exact .inl (Rd.stp s m h).2
    · exact .inr k
  refine ⟨fun H1 M1 s rm _ i u e => ?_, fun H1 M1 s rm _ => ⟨vs, sq H1 M1 s, by rw [r.length]; exact Nat.le_refl _⟩⟩
  obtain ⟨v, e2, ru⟩ := r.get e
  refine ⟨⟨vs, v, sq H1 M1 s, e2⟩, fun x H2 y => ?_⟩
  obtain ⟨rfl, y⟩ := y
  have := y vs (sq _ M1 s)
  rw [e2] at this; cases this
  exact ⟨Stp.refl _ _, rm, ru.stp s⟩
theorem walk_tup {a : Addr} {us : List U} {vs : List V} {H : Hp} {M : MHp} (m : M a = none ∧ H a = some (.tup vs)) (r : RelUs K H M us vs) : Walk K (Itt K a) ⟨none, us⟩ H M := by
  have sq : ∀ H1 M1, Stp H M H1 M1 → SqT K H1 a vs := fun H1 M1 s => by
    exact .inl (.inl (s.to m.2 m.1).1)
  refine ⟨fun H1 M1 s rm _ i u e => ?_, fun H1 M1 s rm _ => ⟨vs, sq H1 M1 s, by rw [r.length]; exact Nat.le_refl _⟩⟩
  obtain ⟨v, e2, ru⟩ := r.get e
  refine ⟨⟨vs, v, sq H1 M1 s, e2⟩, fun x H2 y => ?_⟩
  obtain ⟨rfl, y⟩ := y
  have := y vs (sq _ M1 s)
  rw [e2] at this; cases this
  exact ⟨Stp.refl _ _, rm, ru.stp s⟩
theorem walk_own {a : Addr} {us : List U} {H : Hp} {M : MHp} : Walk K (Itl K a) ⟨some a, us⟩ H M := by
  refine ⟨fun H1 M1 s rm ok i u e => ?_, fun H1 M1 s rm ok => ?_⟩
  · obtain ⟨vs, h1, r⟩ := rm a _ (ok a rfl)
    obtain ⟨v, e2, ru⟩ := r.get e
    refine ⟨⟨vs, v, .inl (.inl h1), e2⟩, fun x H2 y => ?_⟩
    obtain ⟨rfl, y⟩ := y
    have := y vs (.inl (.inl h1))
    rw [e2] at this; cases this
    exact ⟨Stp.refl _ _, rm, ru⟩
  · obtain ⟨vs, h1, r⟩ := rm a _ (ok a rfl)
    exact ⟨vs, .inl (.inl h1), by rw [r.length]; exact Nat.le_refl _⟩
def Its (z : Str) : It := ⟨fun i _ => i < z.cps.size, fun i H x H' => H' = H ∧ ∃ c, z.cps[i]? = some c ∧ x = .str ⟨#[c]⟩, fun i _ => i = z.cps.size⟩
def chars (z : Str) : List U := z.cps.toList.map fun c => .str ⟨#[c]⟩
theorem walk_str {z : Str} {H : Hp} {M : MHp} : Walk K (Its z) ⟨none, chars z⟩ H M := by
  refine ⟨fun H1 M1 s rm _ i u e => ?_, fun H1 M1 s rm _ => ?_⟩
  · have hi : i < z.cps.size := by
      have := (List.getElem?_eq_some_iff.mp e).1
      simpa [chars] using this
    refine ⟨hi, fun x H2 y => ?_⟩
    obtain ⟨rfl, c, h1, rfl⟩ := y
    have : u = .str ⟨#[c]⟩ := by
      simp only [chars, List.getElem?_map, Array.getElem?_toList, h1, Option.map_some] at e
      exact (Option.some.inj e).symm
    subst this
    exact ⟨Stp.refl _ _, rm, relU_str⟩
  · show (chars z).length = z.cps.size
    simp [chars]
def iSeq (K : PySem.W.Frag) (tl : TE) : TI := fun σ H R => tl σ H fun x H1 =>
  (∃ a, x = .ref a ∧ (∃ xs, SqL K H1 a xs) ∧ R (Itl K a) H1) ∨ (∃ a, x = .ref a ∧ (∃ xs, SqT K H1 a xs) ∧ R (Itt K a) H1) ∨ (∃ z, x = .str z ∧ R (Its z) H1)
def uIter (te : UE) : UI := fun τ M R => te τ M fun u M1 => match u with
  | .lst us => R ⟨none, us⟩ M1
  | .tup us => R ⟨none, us⟩ M1
  | .str z => R ⟨none, chars z⟩ M1
  | .ref a => match M1 a with
    | some (.lst us) => R ⟨some a, us⟩ M1
    | _ => False
  | _ => False
theorem sim_iter {te : TE} {te' : UE} (h : SimE K te te') : SimI K (iSeq K te) (uIter te') := fun σ τ H M R' rs rm q R c => h σ τ H M _ rs rm q _ fun u v M1 H1 s1 rm1 ru h1 => by
  cases u with
  | lst us =>
    simp only [RelU] at ru
    obtain ⟨a, vs, rfl, m, r⟩ := ru
    refine .inl ⟨a, rfl, ⟨vs, ?_⟩, c _ _ M1 H1 s1 rm1 (walk_list m r) h1⟩
    rcases m with ⟨_, m⟩ | k
    · exact .inl m
    · exact .inr k
  | tup us =>
    simp only [RelU] at ru
    obtain ⟨a, vs, rfl, m, r⟩ := ru
    refine .inr (.inl ⟨a, rfl, ⟨vs, ?_⟩, c _ _ M1 H1 s1 rm1 (walk_tup m r) h1⟩)
    exact .inl (.inl m.2)
  | str z => exact .inr (.inr ⟨z, ru.str, c _ _ M1 H1 s1 rm1 walk_str h1⟩)
  | ref a =>
    dsimp only at h1
    split at h1
    · rename_i us e
      obtain ⟨vs, h2, r⟩ := rm1 a _ e
      exact .inl ⟨a, ru.ref, ⟨vs, .inl (.inl h2)⟩, c _ _ M1 H1 s1 rm1 walk_own h1⟩
    · exact h1.elim
  | _ => exact h1.elim
def rangeU (lo : Int) (n : Nat) : List U := (List.range n).map fun (k : Nat) => U.int (lo + (k : Int))
theorem walk_range {lo : Int} {n : Nat} {H : Hp} {M : MHp} : Walk K (Itr lo n) ⟨none, rangeU lo n⟩ H M := by
  refine ⟨fun H1 M1 s rm _ i u e => ?_, fun H1 M1 s rm _ => ?_⟩
  · have hi : i < n := by
      have := (List.getElem?_eq_some_iff.mp e).1
      simpa [rangeU] using this
    refine ⟨hi, fun x H2 y => ?_⟩
    obtain ⟨rfl, rfl⟩ := y
    have : u = .int (lo + i) := by
      simp only [rangeU, List.getElem?_map, List.getElem?_range hi, Option.map_some] at e
      exact (Option.some.inj e).symm
    subst this
    exact ⟨Stp.refl _ _, rm, relU_int⟩
  · show n ≤ (rangeU lo n).length
    simp [rangeU]
def uRng1 (ta : UA) : UI := fun τ M R => ta τ M fun us M1 => match us with
  | [.int j] => -(2 ^ 62) ≤ j ∧ j < 2 ^ 62 ∧ R ⟨none, rangeU 0 j.toNat⟩ M1
  | _ => False
def uRng2 (ta : UA) : UI := fun τ M R => ta τ M fun us M1 => match us with
  | [.int i, .int j] => (-(2 ^ 62) ≤ i ∧ i < 2 ^ 62 ∧ -(2 ^ 62) ≤ j ∧ j < 2 ^ 62) ∧ R ⟨none, rangeU i (j - i).toNat⟩ M1
  | _ => False
theorem sim_rng1 {ta : TA} {ta' : UA} (h : SimA K ta ta') : SimI K (iRng1 ta) (uRng1 ta') := fun σ τ H M R' rs rm q R c => h σ τ H M _ rs rm q _ fun us vs M1 H1 s1 rm1 ru h1 => by
  split at h1
  · rename_i j
    obtain ⟨v, vs', rfl, a, b⟩ := ru.inv_cons
    cases b.inv_nil
    cases a.int
    exact ⟨j, rfl, h1.1, h1.2.1, c _ _ M1 H1 s1 rm1 walk_range h1.2.2⟩
  · exact h1.elim
abbrev USp := List U → MHp → UK → Prop
def liftSp (K : PySem.W.Frag) (sp : USp) : Sp := fun vs H Q _ => ∃ us M Q', RelM K H M ∧ RelUs K H M us vs ∧ sp us M Q' ∧ Cont K H M Q' Q
def uCall (sp : USp) (dus : List U) (t : UA) : UE := fun τ M Q => t τ M fun us M1 => sp (us ++ dus) M1 Q
theorem sim_call {sp : USp} {dus : List U} {dvs : List V} {E : XK} {t : TA} {t' : UA} (hd : ∀ H M, RelUs K H M dus dvs) (h : SimA K t t') : SimE K (tCall (liftSp K sp) dvs E t) (uCall sp dus t') := fun σ τ H M Q' rs rm q Q c =>
  h σ τ H M _ rs rm q _ fun us vs M1 H1 s1 rm1 ru h1 => ⟨us ++ dus, M1, Q', rm1, ru.append (hd _ _), h1, Cont.stp c s1⟩
def Sub (M' M1 : MHp) : Prop := ∀ b mo, M' b = some mo → M1 b = some mo
theorem Sub.refl (M : MHp) : Sub M M := fun _ _ h => h
theorem Sub.mup {M M1 : MHp} {p : Addr} {o : MO} (h : Sub M M1) (hp : M p = none) : Sub M (mup M1 p o) := fun b mo e => by
  have : b ≠ p := fun z => by subst z; rw [hp] at e; cases e
  rw [mup_ne this]; exact h b mo e
theorem Sub.less {M M1 : MHp} (h : Sub M M1) {H : Hp} : Stp H M1 H M := Stp.less fun b e => by
  cases q : M b with
  | none => rfl
  | some mo => rw [h b mo q] at e; cases e
theorem RelM.sub {H : Hp} {M M1 : MHp} (rm : RelM K H M1) (h : Sub M M1) : RelM K H M := fun a mo e => (rm a mo (h a mo e)).stp (fun b q z => h b _ z) (h.less) rfl
def Out (M1 M' : MHp) (u u' : U) : Prop := u' = u ∨ ∃ a us, u = .ref a ∧ M1 a = some (.lst us) ∧ M' a = none ∧ u' = .lst us
def rtU (Q : UK) : UK := fun u M1 => ∃ u' M', Sub M' M1 ∧ Out M1 M' u u' ∧ Q u' M'
theorem rtU.ok {H H1 : Hp} {M M1 : MHp} {Q' : UK} {Q : VK} {u : U} {v : V} (c : Cont K H M Q' Q) (s : Stp H M H1 M1) (rm : RelM K H1 M1) (ru : RelU K H1 M1 u v) (h : rtU Q' u M1) : Q v H1 := by
  obtain ⟨u', M', sb, o, q⟩ := h
  have s' : Stp H1 M1 H1 M' := sb.less
  refine c u' v M' H1 (s.trans s') (rm.sub sb) ?_ q
  rcases o with rfl | ⟨a, us, rfl, h1, h2, rfl⟩
  · exact ru.stp s'
  · obtain ⟨vs, h3, h4⟩ := rm a _ h1
    cases ru.ref
    exact relU_lst h2 h3 (h4.stp s')
def startU (N : List Str) (us : List U) : SU := us.map some ++ List.replicate (N.length - us.length) none
def isL (M : MHp) (x : U) : Prop := ∃ us, view M x = .lst us
def uBM (r : U → List U → MHp → UK → Prop) (to : UE) (t : UA) : UE := fun τ M Q => to τ M fun x M1 => isL M1 x ∧ t τ M1 fun xs M2 => r x xs M2 Q
def uBM0 (r : U → List U → MHp → UK → Prop) (to : UE) : UE := fun τ M Q => to τ M fun x M1 => isL M1 x ∧ r x [] M1 Q
theorem isL.ty {H : Hp} {M : MHp} {u : U} {v : V} (rm : RelM K H M) (ru : RelU K H M u v) (h : isL M u) : tyV K "list" v H := by
  obtain ⟨us, h⟩ := h
  obtain ⟨a, vs, rfl, s, _⟩ := view_lst rm ru h
  exact .inl ⟨rfl, vs, s⟩
theorem sim_bm {r : V → List V → Hp → VK → Prop} {r' : U → List U → MHp → UK → Prop} {to : TE} {to' : UE} {t : TA} {t' : UA} (hr : SimMt K r r') (ho : SimE K to to') (h : SimA K t t') :
    SimE K (tBM K "list" r to t) (uBM r' to' t') := fun σ τ H M Q' rs rm q Q c =>
  ho σ τ H M _ rs rm q _ fun u v M1 H1 s1 rm1 ru h1 => ⟨h1.1.ty rm1 ru, h σ τ H1 M1 _ (rs.stp s1) rm1 h1.2 _ fun us vs M2 H2 s2 rm2 rus h2 => hr v vs u us H2 M2 Q' rm2 (ru.stp s2) rus h2 Q (Cont.stp c (s1.trans s2))⟩
theorem sim_bm0 {r : V → List V → Hp → VK → Prop} {r' : U → List U → MHp → UK → Prop} {to : TE} {to' : UE} (hr : SimMt K r r') (ho : SimE K to to') :
    SimE K (tBM0 K "list" r to) (uBM0 r' to') := fun σ τ H M Q' rs rm q Q c =>
  ho σ τ H M _ rs rm q _ fun u v M1 H1 s1 rm1 ru h1 => ⟨h1.1.ty rm1 ru, hr v [] u [] H1 M1 Q' rm1 ru .nil h1.2 Q (Cont.stp c s1)⟩
theorem Cont.write {H : Hp} {M : MHp} {Q' : UK} {Q : VK} {a : Addr} {us us' : List U} {xs' : List V} {r : U} {v : V} (c : Cont K H M Q' Q) (rm : RelM K H M) (e : M a = some (.lst us)) (r1 : RelUs K H M us' xs') (r2 : RelU K H M r v) (q : Q' r (mup M a (.lst us'))) : Q v (upd H a (.lst xs')) := by
  have st : Stp H M (upd H a (.lst xs')) (mup M a (.lst us')) := Stp.write e
  exact c _ _ _ _ st (rm.put st ⟨xs', upd_same, r1.stp st⟩) (r2.stp st) q
def mAppend : U → List U → MHp → UK → Prop := fun x ws M Q => match x, ws with
  | .ref a, [w] => match M a with
    | some (.lst us) => us.length < sizeLine ∧ Q .non (mup M a (.lst (us ++ [w])))
    | _ => False
  | _, _ => False
theorem sim_append : SimMt K rAppend mAppend := fun x xs u us H M Q' rm ru rus h Q c => by
  unfold mAppend at h
  split at h
  · rename_i a w
    split at h
    · rename_i ws e
      obtain ⟨vs, h1, r⟩ := rm a _ e
      obtain ⟨v, vs', rfl, a1, b⟩ := rus.inv_cons
      cases b.inv_nil
      cases ru.ref
      exact ⟨a, vs, v, rfl, rfl, h1, by rw [← r.length]; exact h.1, c.write rm e (r.append (.cons a1 .nil)) relU_non h.2⟩
    · exact h.elim
  · exact h.elim
def mPop : U → List U → MHp → UK → Prop := fun x ws M Q => match x, ws with
  | .ref a, [] => match M a with
    | some (.lst us) => match us.getLast? with
      | some w => Q w (mup M a (.lst us.dropLast))
      | none => False
    | _ => False
  | _, _ => False
theorem sim_pop : SimMt K rPop mPop := fun x xs u us H M Q' rm ru rus h Q c => by
  unfold mPop at h
  split at h
  · rename_i a
    split at h
    · rename_i ws e
      split at h
      · rename_i w e2
        obtain ⟨vs, h1, r⟩ := rm a _ e
        cases rus.inv_nil
        cases ru.ref
        rw [List.getLast?_eq_getElem?] at e2
        obtain ⟨v, h3, h4⟩ := r.get e2
        exact ⟨a, vs, v, rfl, rfl, h1, by rw [← r.length]; exact h3, c.write rm e r.dropLast h4 h⟩
      · exact h.elim
    · exact h.elim
  · exact h.elim
def rExtendL (K : PySem.W.Frag) : V → List V → Hp → VK → Prop := fun x vs H Q => ∃ l b xs zs, x = .ref l ∧ vs = [.ref b] ∧ H l = some (.lst xs) ∧ SqL K H b zs ∧ xs.length + zs.length ≤ sizeLine ∧ Q .non (upd H l (.lst (xs ++ zs)))
def mExtend : U → List U → MHp → UK → Prop := fun x ws M Q => match x, ws with
  | .ref a, [w] => match M a, view M w with
    | some (.lst us), .lst zs => us.length + zs.length ≤ sizeLine ∧ Q .non (mup M a (.lst (us ++ zs)))
    | _, _ => False
  | _, _ => False
theorem sim_extend : SimMt K (rExtendL K) mExtend := fun x xs u us H M Q' rm ru rus h Q c => by
  unfold mExtend at h
  split at h
  · rename_i a w
    split at h
    · rename_i ws zs e e2
      obtain ⟨vs, h1, r⟩ := rm a _ e
      obtain ⟨v, vs', rfl, a1, b⟩ := rus.inv_cons
      cases b.inv_nil
      cases ru.ref
      obtain ⟨b, zvs, rfl, s2, r2⟩ := view_lst rm a1 e2
      exact ⟨a, b, vs, zvs, rfl, rfl, h1, s2, by rw [← r.length, ← r2.length]; exact h.1, c.write rm e (r.append r2) relU_non h.2⟩
    · exact h.elim
  · exact h.elim
def mClear : U → List U → MHp → UK → Prop := fun x ws M Q => match x, ws with
  | .ref a, [] => match M a with
    | some (.lst us) => Q .non (mup M a (.lst []))
    | _ => False
  | _, _ => False
def bLen : List U → MHp → UK → Prop := fun us M Q => match us with
  | [x] => match view M x with
    | .lst ws => Q (.int ws.length) M
    | .tup ws => Q (.int ws.length) M
    | .str z => z.length ≤ sizeLine ∧ Q (.int z.length) M
    | _ => False
  | _ => False
theorem sim_len : SimCl K (fun xs H Q => ∃ x n, xs = [x] ∧ LenV K x H n ∧ Q (.int n) H) bLen := fun xs us H M Q' rm rus h Q c => by
  unfold bLen at h
  split at h
  · rename_i x
    obtain ⟨v, vs', rfl, a1, b⟩ := rus.inv_cons
    cases b.inv_nil
    split at h
    · rename_i ws e
      obtain ⟨b, zvs, rfl, s2, r2⟩ := view_lst rm a1 e
      exact ⟨_, zvs.length, rfl, .inl ⟨zvs, s2, rfl⟩, c.here rm relU_int (by rw [← r2.length]; exact h)⟩
    · rename_i ws e
      have e' := view_tup e
      subst e'
      obtain ⟨b, zvs, rfl, s2, r2⟩ := a1.tup
      exact ⟨_, zvs.length, rfl, .inr ⟨zvs, s2, rfl⟩, c.here rm relU_int (by rw [← r2.length]; exact h)⟩
    · rename_i z e
      have e' := view_str e
      subst e'
      cases a1.str
      exact ⟨_, z.length, rfl, ⟨h.1, rfl⟩, c.here rm relU_int h.2⟩
    · exact h.elim
  · exact h.elim
def bInt1 (C : Int → Prop) (g : Int → U) : List U → MHp → UK → Prop := fun us M Q => match us with
  | [.int i] => C i ∧ Q (g i) M
  | _ => False
def bInt2 (g : Int → Int → U) : List U → MHp → UK → Prop := fun us M Q => match us with
  | [.int i, .int j] => Q (g i j) M
  | _ => False
theorem RelUs.one {H : Hp} {M : MHp} {u : U} {vs : List V} (h : RelUs K H M [u] vs) : ∃ v, vs = [v] ∧ RelU K H M u v := by
  obtain ⟨v, vs', rfl, a1, b⟩ := h.inv_cons
  cases b.inv_nil
  exact ⟨v, rfl, a1⟩
theorem RelUs.two {H : Hp} {M : MHp} {u w : U} {vs : List V} (h : RelUs K H M [u, w] vs) : ∃ v z, vs = [v, z] ∧ RelU K H M u v ∧ RelU K H M w z := by
  obtain ⟨v, vs', rfl, a1, b⟩ := h.inv_cons
  obtain ⟨z, rfl, b1⟩ := b.one
  exact ⟨v, z, rfl, a1, b1⟩
theorem sim_abs : SimCl K (fun xs H Q => ∃ i, xs = [.int i] ∧ Q (.int (if i < 0 then -i else i)) H) (bInt1 (fun _ => True) fun i => .int (if i < 0 then -i else i)) := fun xs us H M Q' rm rus h Q c => by
  unfold bInt1 at h
  split at h
  · rename_i i
    obtain ⟨v, rfl, a⟩ := rus.one
    cases a.int
    exact ⟨i, rfl, c.here rm relU_int h.2⟩
  · exact h.elim
theorem sim_strInt : SimCl K (fun xs H Q => ∃ i, xs = [.int i] ∧ i.natAbs.log2 < 1920 ∧ Q (.str (toString i)) H) (bInt1 (fun i => i.natAbs.log2 < 1920) fun i => .str (toString i)) := fun xs us H M Q' rm rus h Q c => by
  unfold bInt1 at h
  split at h
  · rename_i i
    obtain ⟨v, rfl, a⟩ := rus.one
    cases a.int
    exact ⟨i, rfl, h.1, c.here rm relU_str h.2⟩
  · exact h.elim
def bList (o : Bool) : List U → MHp → UK → Prop := fun us M Q => match us with
  | [x] => match view M x with
    | .lst ws => mkL o ws M Q
    | .tup ws => mkL o ws M Q
    | _ => False
  | _ => False
def bTuple : List U → MHp → UK → Prop := fun us M Q => match us with
  | [x] => match view M x with
    | .lst ws => Q (.tup ws) M
    | .tup ws => Q (.tup ws) M
    | _ => False
  | _ => False
theorem sim_list {o : Bool} : SimCl K (fun xs H Q => ∃ p ys, xs = [.ref p] ∧ (SqL K H p ys ∨ SqT K H p ys) ∧ ∀ l, H l = none → Q (.ref l) (upd H l (.lst ys))) (bList o) := fun xs us H M Q' rm rus h Q c => by
  unfold bList at h
  split at h
  · rename_i x
    obtain ⟨v, rfl, a1⟩ := rus.one
    split at h
    · rename_i ws e
      obtain ⟨b, zvs, rfl, s2, r2⟩ := view_lst rm a1 e
      exact ⟨b, zvs, rfl, .inl s2, fun l hl => c.lst rm r2 hl h⟩
    · rename_i ws e
      have e' := view_tup e
      subst e'
      obtain ⟨b, zvs, rfl, s2, r2⟩ := a1.tup
      exact ⟨b, zvs, rfl, .inr s2, fun l hl => c.lst rm r2 hl h⟩
    · exact h.elim
  · exact h.elim
theorem sim_tuple : SimCl K (fun xs H Q => ∃ p ys, xs = [.ref p] ∧ ((SqL K H p ys ∧ ∀ l, H l = none → Q (.ref l) (upd H l (.tup ys))) ∨ (SqT K H p ys ∧ Q (.ref p) H))) bTuple := fun xs us H M Q' rm rus h Q c => by
  unfold bTuple at h
  split at h
  · rename_i x
    obtain ⟨v, rfl, a1⟩ := rus.one
    split at h
    · rename_i ws e
      obtain ⟨b, zvs, rfl, s2, r2⟩ := view_lst rm a1 e
      exact ⟨b, zvs, rfl, .inl ⟨s2, fun l hl => c.tup rm r2 hl h⟩⟩
    · rename_i ws e
      have e' := view_tup e
      subst e'
      have a2 := a1
      obtain ⟨b, zvs, rfl, s2, r2⟩ := a1.tup
      exact ⟨b, zvs, rfl, .inr ⟨s2, c.here rm a2 h⟩⟩
    · exact h.elim
  · exact h.elim
def typU (M : MHp) (x : U) : Option String := match x with
  | .non => some "NoneType"
  | .bl _ => some "bool"
  | .int _ => some "int"
  | .str _ => some "str"
  | .tup _ => some "tuple"
  | .lst _ => some "list"
  | .ref a => match M a with
    | some (.lst _) => some "list"
    | some (.dK _) => some "dict"
    | some (.dT _) => some "dict"
    | _ => none
  | .dic _ _ _ => some "dict"
  | .ty _ => none
def eqS : U → U → Option Bool
  | .non, .non => some true
  | .non, .int _ => some false | .int _, .non => some false | .non, .bl _ => some false | .bl _, .non => some false | .non, .str _ => some false | .str _, .non => some false
  | .int i, .int j => some (decide (i = j))
  | .bl i, .bl j => some (decide (i = j))
  | .str i, .str j => some (decide (i = j))
  | .int _, .str _ => some false | .str _, .int _ => some false | .bl _, .str _ => some false | .str _, .bl _ => some false
  | _, _ => none
def uEqS : UR2 := fun x y M Q => match eqS x y with
  | some b => Q (.bl b) M
  | none => False
def uNeS : UR2 := fun x y M Q => match eqS x y with
  | some b => Q (.bl (!b)) M
  | none => False
theorem eqS_rel {H : Hp} {M : MHp} {x y : V} {u w : U} {b : Bool} (ru : RelU K H M u x) (rw : RelU K H M w y) (h : eqS u w = some b) : scal x y = true ∧ decide (x = y) = b := by
  cases u <;> cases w <;> simp only [eqS, Option.some.injEq, reduceCtorEq] at h <;> subst h <;>
    (first
      | (cases ru.non) | (cases ru.bl) | (cases ru.int) | (cases ru.str)) <;>
    (first
      | (cases rw.non) | (cases rw.bl) | (cases rw.int) | (cases rw.str)) <;> simp [scal]
def isNon : U → Bool
  | .non => true
  | _ => false
def uIsN : UR2 := fun x y M Q => match y with
  | .non => Q (.bl (isNon x)) M
  | _ => False
def uNotN : UR2 := fun x y M Q => match y with
  | .non => Q (.bl (!isNon x)) M
  | _ => False
theorem isN_rel {H : Hp} {M : MHp} {x : V} {u : U} (ru : RelU K H M u x) : decide (x = .non) = isNon u := by
  cases u with
  | non => cases ru.non; simp [isNon]
  | bl b => cases ru.bl; simp [isNon]
  | int b => cases ru.int; simp [isNon]
  | str b => cases ru.str; simp [isNon]
  | ty b => cases ru.ty; simp [isNon]
  | ref b => cases ru.ref; simp [isNon]
  | tup b => obtain ⟨a, vs, rfl, _⟩ := ru.tup; simp [isNon]
  | lst b => obtain ⟨a, vs, rfl, _⟩ := ru.lst; simp [isNon]
  | dic ks tk us => simp only [RelU] at ru; obtain ⟨a, vs, rfl, _⟩ := ru; simp [isNon]
def inS (neg : Bool) : UR2 := fun x y M Q => match x, y with
  | .str i, .str j => Q (.bl (if neg then !(!(Builtin.Str.occurrences j i 0 j.length 1).isEmpty) else !(Builtin.Str.occurrences j i 0 j.length 1).isEmpty)) M
  | _, _ => False
end
end U2
namespace U2
open PySem L2
def capt {α : Type} (k : Nat) (ix : List Nat) (σ : List (Option α)) : List (Option α) := List.replicate k none ++ ix.map fun i => (σ[i]?).getD none
def tComp (k : Nat) (ix : List Nat) (wi : TI) (g : TG) (tc : TT) (te : TE) : TE := fun σ H Q => wi σ H fun J H1 => ∀ D, H1 D = none → ∃ W : Nat → Nat → Hp → Prop, (∃ m, W 0 m (upd H1 D (.lst []))) ∧ ∀ i m H, W i m H →
  (J.stop i H ∧ Q (.ref D) H) ∨ (J.go i H ∧ ∀ x H', J.yld i H x H' → g x (capt k ix σ) H' fun σ2 H2 => tc σ2 H2 fun ok H3 =>
    if ok = true then te σ2 H3 fun y H4 => ∃ ys, H4 D = some (.lst ys) ∧ ys.length < sizeLine ∧ ∃ m', m' < m ∧ W (i + 1) m' (upd H4 D (.lst (ys ++ [y]))) else ∃ m', m' < m ∧ W (i + 1) m' H3)
def endC (o : Bool) (Q : UK) (D : Addr) (ys : List U) (M : MHp) : Prop := match o with
  | true => Q (.ref D) M
  | false => ∃ M', Sub M' M ∧ M' D = none ∧ Q (.lst ys) M'
def uComp (o : Bool) (k : Nat) (ix : List Nat) (wi : UI) (g : UG) (tc : UT) (te : UE) : UE := fun τ M Q => wi τ M fun S M1 => S.xs.length ≤ sizeLine ∧ ∀ D, M1 D = none → ∃ P : Nat → List U → MHp → Prop, P 0 [] (mup M1 D (.lst [])) ∧
  (∀ i ys M, P i ys M → S.ok M ∧ M D = some (.lst ys) ∧ ys.length ≤ i) ∧
  (∀ i x ys M, S.xs[i]? = some x → P i ys M → g x (capt k ix τ) M fun τ2 M2 => tc τ2 M2 fun ok M3 => if ok = true then te τ2 M3 fun y M4 => M4 D = some (.lst ys) ∧ P (i + 1) (ys ++ [y]) (mup M4 D (.lst (ys ++ [y]))) else P (i + 1) ys M3) ∧
  ∀ ys M, P S.xs.length ys M → endC o Q D ys M
section
variable {K : PySem.W.Frag}
theorem capt_rel {H : Hp} {M : MHp} {σ : St} {τ : SU} (k : Nat) (ix : List Nat) (r : RelS K H M σ τ) : RelS K H M (capt k ix σ) (capt k ix τ) := by
  refine ⟨by simp [capt], fun i u e => ?_⟩
  unfold capt at e ⊢
  by_cases hi : i < k
  · rw [List.getElem?_append_left (by simpa using hi), List.getElem?_replicate] at e
    split at e <;> cases e
  · rw [List.getElem?_append_right (by simpa using Nat.le_of_not_lt hi), List.getElem?_map] at e ⊢
    simp only [List.length_replicate] at e ⊢
    cases q : ix[i - k]? with
    | none => rw [q] at e; cases e
    | some j =>
      rw [q] at e
      simp only [Option.map_some, Option.some.injEq] at e ⊢
      cases z : τ[j]? with
      | none => rw [z] at e; cases e
      | some w =>
        rw [z] at e
        simp only [Option.getD_some] at e
        subst e
        obtain ⟨v, h1, h2⟩ := r.2 j u z
        exact ⟨v, by rw [h1]; rfl, h2⟩
theorem sim_comp {o : Bool} {k : Nat} {ix : List Nat} {wi : TI} {wi' : UI} {g : TG} {g' : UG} {tc : TT} {tc' : UT} {te : TE} {te' : UE} (hi : SimI K wi wi') (hg : SimG K g g') (hc : SimT K tc tc') (he : SimE K te te') :
    SimE K (tComp k ix wi g tc te) (uComp o k ix wi' g' tc' te') := fun σ τ H M Q' rs rm h Q c => by
  refine hi σ τ H M _ rs rm h _ fun J S M1 H1 s1 rm1 w h => ?_
  obtain ⟨hz, h⟩ := h
  intro D hD
  obtain ⟨P, p0, inv, turn, fin⟩ := h D (rm1.no hD)
  have sD : Stp H1 M1 (upd H1 D (.lst [])) (mup M1 D (.lst [])) := Stp.own rm1 hD
  have rmD : RelM K (upd H1 D (.lst [])) (mup M1 D (.lst [])) := rm1.put sD ⟨[], upd_same, .nil⟩
  refine ⟨fun i m H2 => ∃ M2 ys, Stp H1 M1 H2 M2 ∧ RelM K H2 M2 ∧ P i ys M2 ∧ i ≤ S.xs.length ∧ m = S.xs.length - i, ⟨_, _, [], sD, rmD, p0, Nat.zero_le _, rfl⟩, ?_⟩
  rintro i m H2 ⟨M2, ys, s2, rm2, p2, hle, rfl⟩
  obtain ⟨ok2, d2, l2⟩ := inv i ys M2 p2
  by_cases hlt : i < S.xs.length
  · obtain ⟨go, yl⟩ := w.step H2 M2 s2 rm2 ok2 i S.xs[i] (by simp [hlt])
    refine .inr ⟨go, fun x H3 y => ?_⟩
    obtain ⟨s3, rm3, ru⟩ := yl x H3 y
    have rs3 : RelS K H3 M2 (capt k ix σ) (capt k ix τ) := capt_rel k ix (((rs.stp s1).stp s2).stp s3)
    refine hg _ x _ _ H3 M2 _ ru rs3 rm3 (turn i S.xs[i] ys M2 (by simp [hlt]) p2) _ fun σ4 τ4 H4 M4 s4 rm4 rs4 q4 => ?_
    refine hc σ4 τ4 H4 M4 _ rs4 rm4 q4 _ fun b M5 H5 s5 rm5 q5 => ?_
    have s25 : Stp H1 M1 H5 M5 := ((s2.trans s3).trans s4).trans s5
    cases b with
    | false =>
      exact ⟨S.xs.length - (i + 1), by omega, M5, ys, s25, rm5, q5, hlt, rfl⟩
    | true =>
      refine he σ4 τ4 H5 M5 _ (rs4.stp s5) rm5 q5 _ fun u v M6 H6 s6 rm6 ru6 q6 => ?_
      obtain ⟨d6, p6⟩ := q6
      obtain ⟨vs, h6, r6⟩ := rm6 D _ d6
      have l6 : vs.length < sizeLine := by rw [← r6.length]; omega
      have s7 : Stp H6 M6 (upd H6 D (.lst (vs ++ [v]))) (mup M6 D (.lst (ys ++ [u]))) := Stp.write d6
      exact ⟨vs, h6, l6, S.xs.length - (i + 1), by omega, _, ys ++ [u], (s25.trans s6).trans s7, rm6.put s7 ⟨_, upd_same, (r6.append (.cons ru6 .nil)).stp s7⟩, p6, hlt, rfl⟩
  · have e : i = S.xs.length := by omega
    subst e
    refine .inl ⟨w.stop H2 M2 s2 rm2 ok2, ?_⟩
    have q := fin ys M2 p2
    cases o with
    | true => exact c _ _ M2 H2 (s1.trans s2) rm2 relU_ref q
    | false =>
      obtain ⟨M', sb, n, q⟩ := q
      obtain ⟨vs, h6, r6⟩ := rm2 D _ d2
      have s' : Stp H2 M2 H2 M' := sb.less
      exact c _ _ M' H2 ((s1.trans s2).trans s') (rm2.sub sb) (relU_lst n h6 (r6.stp s')) q
end
theorem comp_pure {o : Bool} {k : Nat} {ix : List Nat} {wi : UI} {g : UG} {tc : UT} {te : UE} {τ : SU} {M1 : MHp} {Q : UK} {S : Src} (f : U → Option U) (hz : S.xs.length ≤ sizeLine) (hs : S.ok M1)
    (h : ∀ x ∈ S.xs, ∀ M, Sub M1 M → ∀ R : Option U → MHp → Prop, R (f x) M → g x (capt k ix τ) M fun τ2 M2 => tc τ2 M2 fun ok M3 => if ok = true then te τ2 M3 fun y M4 => R (some y) M4 else R none M3)
    (q : mkL o (S.xs.filterMap f) M1 Q) : S.xs.length ≤ sizeLine ∧ ∀ D, M1 D = none → ∃ P : Nat → List U → MHp → Prop, P 0 [] (mup M1 D (.lst [])) ∧
  (∀ i ys M, P i ys M → S.ok M ∧ M D = some (.lst ys) ∧ ys.length ≤ i) ∧
  (∀ i x ys M, S.xs[i]? = some x → P i ys M → g x (capt k ix τ) M fun τ2 M2 => tc τ2 M2 fun ok M3 => if ok = true then te τ2 M3 fun y M4 => M4 D = some (.lst ys) ∧ P (i + 1) (ys ++ [y]) (mup M4 D (.lst (ys ++ [y]))) else P (i + 1) ys M3) ∧
  ∀ ys M, P S.xs.length ys M → endC o Q D ys M := by
  refine ⟨hz, fun D hD => ⟨fun i ys M => ys = (S.xs.take i).filterMap f ∧ M = mup M1 D (.lst ys) ∧ i ≤ S.xs.length, ⟨by simp, rfl, Nat.zero_le _⟩, ?_, ?_, ?_⟩⟩
  · rintro i ys M ⟨rfl, rfl, hi⟩
    refine ⟨fun a e => ?_, mup_same, ?_⟩
    · have := hs a e
      rw [mup_ne (fun z => by subst z; rw [hD] at this; cases this)]
      exact this
    · refine Nat.le_trans (List.length_filterMap_le _ _) ?_
      rw [List.length_take]; omega
  · rintro i x ys M e ⟨rfl, rfl, hi⟩
    have hlt : i < S.xs.length := (List.getElem?_eq_some_iff.mp e).1
    have hx : x ∈ S.xs := List.mem_of_getElem? e
    have tk : (S.xs.take (i + 1)).filterMap f = (S.xs.take i).filterMap f ++ (f x).toList := by
      rw [List.take_add_one, e, List.filterMap_append]
      cases q : f x <;> simp [q]
    refine h x hx (mup M1 D (.lst ((S.xs.take i).filterMap f))) ((Sub.refl M1).mup hD) (fun r M4 => match r with
      | some y => M4 D = some (.lst ((S.xs.take i).filterMap f)) ∧ ((S.xs.take i).filterMap f ++ [y] = (S.xs.take (i + 1)).filterMap f ∧ mup M4 D (.lst ((S.xs.take i).filterMap f ++ [y])) = mup M1 D (.lst ((S.xs.take i).filterMap f ++ [y])) ∧ i + 1 ≤ S.xs.length)
      | none => (S.xs.take i).filterMap f = (S.xs.take (i + 1)).filterMap f ∧ M4 = mup M1 D (.lst ((S.xs.take i).filterMap f)) ∧ i + 1 ≤ S.xs.length) ?_
    rw [tk]
    cases f x with
    | none => exact ⟨by simp, rfl, hlt⟩
    | some y => exact ⟨mup_same, rfl, mup_mup, hlt⟩
  · rintro ys M ⟨rfl, rfl, hi⟩
    rw [List.take_length]
    cases o with
    | true => exact q D hD
    | false => exact ⟨M1, (Sub.refl M1).mup hD, hD, q⟩
end U2
namespace U2
open PySem PySem.Spec PyProof.Rows L2
theorem turn_str {P : Program} {w : World} {K : PySem.W.Frag} {tg : Expr} {ty : String} (z : Str) (t : Tok) (it : Addr)
    (W : ∀ A' : Around, A'.handled = none → Walks P w A' it [it] [it] z.cps.size (SignAt z) (fun i h => h.IsStrIter it ty z t i))
    (hty : ["enumerate", "zip", "dict_itemiterator", "dict_reverseitemiterator", "odict_iterator", "itertools.zip_longest", "itertools.pairwise"].contains ty = false)
    (self : ∀ (A : Around) (i : Nat) (s : Shared) (Q : Value → Shared → Prop) (E : Value → Shared → Prop), s.heap.IsStrIter it ty z t i → Q (.ref it) s → wpAny (model P w) A (pyIter (.ref it)) Q E s) :
    Turn P w K tg (Its z) [it] it (fun i h => h.IsStrIter it ty z t i) where
  mem := by simp
  obj := fun i h st b hb => by
    have e : b = it := by simpa using hb
    subst e
    obtain ⟨o, e, c, d⟩ := st
    exact ⟨o, e, fun v z => by rw [d] at z; cases z⟩
  keep := fun i h h' st k => let ⟨o, ho, r⟩ := st; ⟨o, k it (by simp) o ho, r⟩
  item := by
    intro X hP hw hK hc i pins s σ H E I hf st hg
    subst hP hw hK
    obtain ⟨f0, f1, f2, f3, f4, f5⟩ := hf it (by simp)
    refine (W X.A (I.ok.hd hc)).item i s _ E hg st fun v h' tk hv st' k => ?_
    obtain ⟨c, u, hc', rfl⟩ := hv
    have I1 : Inv X pins σ H { s with heap := h', toks := tk } := I.turned (t' := tk) (fun b o hb e => k b o (by simpa using hb) e) f0 f1 f3 f4 f5
    obtain ⟨o, e, cl, d⟩ := id st'
    exact ⟨_, rfl, go_of (s := { s with heap := h', toks := tk }) e cl d hty ⟨.str ⟨#[c]⟩, H, I1, ⟨_, rfl⟩, ⟨rfl, c, hc', rfl⟩, st', fun b hb => (hf b hb).1⟩⟩
  done := by
    intro X hP hw hK hc i pins s σ H E I hf st hg
    subst hP hw hK
    have hg' : i = z.cps.size := hg
    subst hg'
    obtain ⟨f0, f1, f2, f3, f4, f5⟩ := hf it (by simp)
    exact (W X.A (I.ok.hd hc)).done s _ E st fun h' tk k => ⟨rfl, I.turned (t' := tk) (fun b o hb e => k b o (by simpa using hb) e) f0 f1 f3 f4 f5⟩
  self := self
section
variable {X : Cx} {tg : Expr}
theorem pi_seq {l : Expr} {tl : TE} (hl : PE X l tl) : PI X tg l (iSeq X.K tl) := by
  intro pins s σ H R I h
  refine thn (hl pins s σ H _ I h) fun v s1 ⟨x, H1, I1, r1, q1⟩ => ?_
  have fp : ∀ b ∈ [s1.heap.objs.size], FpOk X pins H1 b := fun b hb => by
    have e : b = s1.heap.objs.size := by simpa using hb
    subst e
    exact I1.fpOk (Nat.le_refl _) (I1.hok.fresh (Nat.le_refl _))
  rcases q1 with ⟨a, rfl, ⟨xs, hq⟩, q⟩ | ⟨a, rfl, ⟨xs, hq⟩, q⟩ | ⟨z, rfl, q⟩
  · cases r1
    obtain ⟨its, rv, p, hz⟩ := I1.list hq
    refine wpAny_pyIter_list p.isList ?_
    exact ⟨s1.heap.objs.size, [s1.heap.objs.size], _, _, H1, rfl, I1.kept (t' := s1.toks) fun b o e => Heap.get?_push_of_some _ e, turn_list a _, ⟨_, Heap.get?_push_size _ rfl, rfl, rfl⟩, fp, q⟩
  · cases r1
    obtain ⟨its, rv, p, hz⟩ := I1.tuple hq
    refine wpAny_pyIter_tuple (show s1.heap.IsTuple a its.toArray from p) ?_
    exact ⟨s1.heap.objs.size, [s1.heap.objs.size], _, _, H1, rfl, I1.kept (t' := s1.toks) fun b o e => Heap.get?_push_of_some _ e, turn_tuple a _, ⟨_, Heap.get?_push_size _ rfl, rfl, rfl⟩, fp, q⟩
  · obtain ⟨t, rfl⟩ := r1
    cases ha : z.cps.all (· < 128)
    · refine wpAny_pyIter_wide ha ?_
      exact ⟨s1.heap.objs.size, [s1.heap.objs.size], _, _, H1, rfl, I1.kept (t' := s1.toks) fun b o e => Heap.get?_push_of_some _ e,
        turn_str z t _ (fun A' hA => Walks.strWide hA _ z t) (by decide) (fun A i s Q E st h => wpAny_pyIter_striter_wide st h), ⟨_, Heap.get?_push_size _ rfl, rfl, rfl⟩, fp, q⟩
    · refine wpAny_pyIter_ascii ha ?_
      exact ⟨s1.heap.objs.size, [s1.heap.objs.size], _, _, H1, rfl, I1.kept (t' := s1.toks) fun b o e => Heap.get?_push_of_some _ e,
        turn_str z t _ (fun A' hA => Walks.strAscii hA _ z t) (by decide) (fun A i s Q E st h => wpAny_pyIter_striter_ascii st h), ⟨_, Heap.get?_push_size _ rfl, rfl, rfl⟩, fp, q⟩
end
section
variable {prog : Program} {w : World} {A : Around} {R : Result → Shared → Prop} {s : Shared}
theorem compLoop_tg {elt target iter : Expr} {ifs : List Expr} {scope : Scope} {pos : Pos} {it acc : Value} {env : Env} (I : Nat → Shared → Prop)
    (turn : ∀ n s, I n s → wpAny (model prog w) A (pyNext it) (fun r s₁ => match r with
      | none => R (.ok .next) s₁
      | some v => wpAny (model prog w) A (letOwnedTupleGo target it v) (fun _ s₀ => wpAny (model prog w) A (assign target env v) (fun _ s₂ =>
          wpAny (model prog w) A (forIn ifs true fun c r => if r = true then do let ok ← isTrue c env (eval c env); pure (ForInStep.yield ok) else pure (ForInStep.yield r)) (fun ok s₃ =>
            if ok = true then wpAny (model prog w) A (eval elt env) (fun x s₄ =>
              wpAny (model prog w) A (call (.builtin "list.append") [acc, x]) (fun _ s₅ => ∃ m, m < n ∧ I m s₅) (fun _ _ => False) s₄) (fun _ _ => False) s₃
            else ∃ m, m < n ∧ I m s₃) (fun _ _ => False) s₂) (fun _ _ => False) s₀) (fun _ _ => False) s₁) (fun _ _ => False) s)
    (n : Nat) (h : I n s) :
    codeAny (model prog w) A (.compLoop (.ListComp elt [⟨target, iter, ifs, 0⟩] scope pos) 0 it acc env) R s := by
  refine codeAny_loop rfl I (fun n s hI => ?_) n h
  show wpAny _ A ((compTurn (.ListComp elt [⟨target, iter, ifs, 0⟩] scope pos) 0 it acc env).onRaise (fun x => do noteFrame x env; theTreesLotGoes x)) _ _ s
  refine wpAny_noted ?_
  rw [compTurn_list]
  refine wpAny_bind (wpAny_standAt (wpAny_bind (wpAny_mono (turn n s hI) (fun r s₁ h₁ => ?_) fun _ _ h' => h'.elim)))
  cases r with
  | none => exact wpAny_pure h₁
  | some v =>
    refine wpAny_bind (wpAny_mono h₁ (fun _ s₀ h₀ => ?_) fun _ _ h' => h'.elim)
    refine wpAny_bind (wpAny_mono h₀ (fun _ s₂ h₂ => wpAny_bind (wpAny_mono h₂ (fun ok s₃ h₃ => ?_) fun _ _ h' => h'.elim)) fun _ _ h' => h'.elim)
    cases ok with
    | false => exact wpAny_pure ⟨rfl, h₃⟩
    | true =>
      exact wpAny_bind (wpAny_bind (wpAny_mono h₃ (fun x s₄ h₄ => wpAny_bind (wpAny_mono h₄ (fun _ s₅ h₅ => wpAny_pure (wpAny_pure ⟨rfl, h₅⟩)) fun _ _ h' => h'.elim)) fun _ _ h' => h'.elim))
theorem closure_go {env : Env} : ∀ (names : List (Str × NameKind)) (cs : List (Str × Addr)), (∀ x ∈ names, x.2 = .free → ∃ c, env.cells.lookup x.1 = some c) →
    (∀ x c, cs.lookup x = some c → env.cells.lookup x = some c) →
    ∃ cl, (forIn names cs fun (x : Str × NameKind) (cs : List (Str × Addr)) => (if (x.2 == NameKind.free) = true then do let c ← cellOf env x.1; pure (ForInStep.yield ((x.1, c) :: cs)) else pure (ForInStep.yield cs) : Sem (ForInStep (List (Str × Addr))))) = pure cl ∧
      (∀ x c, cl.lookup x = some c → env.cells.lookup x = some c) ∧ (∀ x, (∃ c, cs.lookup x = some c) ∨ (x, NameKind.free) ∈ names → ∃ c, cl.lookup x = some c)
  | [], cs, _, h => ⟨cs, rfl, h, fun x hx => by rcases hx with hx | hx; exact hx; cases hx⟩
  | (n, k) :: r, cs, hf, h => by
    rw [List.forIn_cons]
    by_cases hk : k = .free
    · subst hk
      obtain ⟨c, hc⟩ := hf (n, .free) List.mem_cons_self rfl
      have e : cellOf env n = pure c := by unfold cellOf; rw [hc]
      simp only [beq_self_eq_true, if_true, e, pure_bind]
      obtain ⟨cl, h1, h2, h3⟩ := closure_go r ((n, c) :: cs) (fun x hx => hf x (List.mem_cons_of_mem _ hx)) (fun x d q => by
        rw [List.lookup_cons] at q
        split at q
        · rename_i e; cases q; rw [beq_iff_eq.mp e]; exact hc
        · exact h x d q)
      refine ⟨cl, h1, h2, fun x hx => h3 x ?_⟩
      rcases hx with ⟨d, hd⟩ | hx
      · left
        rw [List.lookup_cons]
        split
        · exact ⟨_, rfl⟩
        · exact ⟨d, hd⟩
      · rcases List.mem_cons.mp hx with e | hx
        · left; cases e; exact ⟨c, by simp [List.lookup_cons]⟩
        · exact .inr hx
    · have hb : (k == NameKind.free) = false := by simpa using hk
      simp only [hb, Bool.false_eq_true, if_false, pure_bind]
      obtain ⟨cl, h1, h2, h3⟩ := closure_go r cs (fun x hx => hf x (List.mem_cons_of_mem _ hx)) h
      refine ⟨cl, h1, h2, fun x hx => h3 x ?_⟩
      rcases hx with hx | hx
      · exact .inl hx
      · rcases List.mem_cons.mp hx with e | hx
        · cases e; exact absurd rfl hk
        · exact .inr hx
theorem closure_of {env : Env} {scope : Scope} (hf : ∀ x ∈ scope.names, x.2 = .free → ∃ c, env.cells.lookup x.1 = some c) :
    ∃ cl, closureFor scope env = pure cl ∧ (∀ x c, cl.lookup x = some c → env.cells.lookup x = some c) ∧ (∀ x, (x, NameKind.free) ∈ scope.names → ∃ c, cl.lookup x = some c) := by
  obtain ⟨cl, h1, h2, h3⟩ := closure_go (env := env) scope.names [] hf (fun x c h => by cases h)
  refine ⟨cl, ?_, h2, fun x hx => h3 x (.inr hx)⟩
  unfold closureFor
  first
    | exact h1
    | (have : _ := h1; simpa using this)
end
def compCx (X : Cx) (N : List Str) (scope : Scope) (cl : List (Str × Addr)) (C : Addr) (s : Shared) (H : Hp) (fp : List Addr) : Cx where
  prog := X.prog
  w := X.w
  K := X.K
  mg := X.mg
  base := X.base
  A := X.A
  N := N
  s₀ := s
  H₀ := H
  env := compEnvC scope cl C X.env
  outer := X.stack
  stack := X.stack
  ex := fp
  fn := fun _ => false
  calm := X.calm
  pn := []
  xe := fun _ _ => False
def PIf (X : Cx) (ifs : List Expr) (t : TT) : Prop :=
  ∀ (pins : List (Addr × Obj)) (s : Shared) (σ : L2.St) (H : Hp) (Q : Bool → Hp → Prop), Inv X pins σ H s → t σ H Q →
    wpAny (model X.prog X.w) X.A (forIn ifs true fun c r => if r = true then do let ok ← isTrue c X.env (eval c X.env); pure (ForInStep.yield ok) else pure (ForInStep.yield r)) (TP X pins σ Q) X.xe s
def tYes : TT := fun _ H Q => Q true H
theorem pif_nil {X : Cx} : PIf X [] tYes := fun pins s σ H Q I h => wpAny_tests_nil ⟨H, I, h⟩
theorem pif_one {X : Cx} {c : Expr} {t : TT} (h : PT X c t) : PIf X [c] t := fun pins s σ H Q I q => wpAny_tests_one (h pins s σ H Q I q)
def GK (k : Nat) (g : TG) : Prop := ∀ x σ H Q, g x σ H Q → g x σ H (fun σ2 H2 => (∀ j, k ≤ j → σ2[j]? = σ[j]?) ∧ Q σ2 H2)
def GKs (k : Nat) (g : TGs) : Prop := ∀ xs σ H Q, g xs σ H Q → g xs σ H (fun σ2 H2 => (∀ j, k ≤ j → σ2[j]? = σ[j]?) ∧ Q σ2 H2)
theorem gk_name {k i : Nat} (h : i < k) : GK k (gName i) := fun x σ H Q q => ⟨fun j hj => by rw [List.getElem?_set, if_neg (by omega)], q⟩
theorem gk_nil {k : Nat} : GKs k gNil := fun xs σ H Q q => ⟨q.1, fun j _ => rfl, q.2⟩
theorem gk_cons {k : Nat} {g : TG} {r : TGs} (h1 : GK k g) (h2 : GKs k r) (m2 : ∀ xs σ H Q Q', (∀ σ2 H2, Q σ2 H2 → Q' σ2 H2) → r xs σ H Q → r xs σ H Q') (m1 : ∀ x σ H Q Q', (∀ σ2 H2, Q σ2 H2 → Q' σ2 H2) → g x σ H Q → g x σ H Q') : GKs k (gCons g r) := fun xs σ H Q q => by
  obtain ⟨v, r', rfl, q⟩ := q
  refine ⟨v, r', rfl, m1 _ _ _ _ _ (fun σ2 H2 z => ?_) (h1 _ _ _ _ q)⟩
  exact m2 _ _ _ _ _ (fun σ3 H3 y => ⟨fun j hj => (y.1 j hj).trans (z.1 j hj), y.2⟩) (h2 _ _ _ _ z.2)
theorem m_name {i : Nat} : ∀ x σ H (Q Q' : L2.St → Hp → Prop), (∀ σ2 H2, Q σ2 H2 → Q' σ2 H2) → gName i x σ H Q → gName i x σ H Q' := fun x σ H Q Q' h q => h _ _ q
theorem m_nil : ∀ xs σ H (Q Q' : L2.St → Hp → Prop), (∀ σ2 H2, Q σ2 H2 → Q' σ2 H2) → gNil xs σ H Q → gNil xs σ H Q' := fun x σ H Q Q' h q => ⟨q.1, h _ _ q.2⟩
theorem m_cons {g : TG} {r : TGs} (m1 : ∀ x σ H Q Q', (∀ σ2 H2, Q σ2 H2 → Q' σ2 H2) → g x σ H Q → g x σ H Q') (m2 : ∀ xs σ H Q Q', (∀ σ2 H2, Q σ2 H2 → Q' σ2 H2) → r xs σ H Q → r xs σ H Q') :
    ∀ xs σ H (Q Q' : L2.St → Hp → Prop), (∀ σ2 H2, Q σ2 H2 → Q' σ2 H2) → gCons g r xs σ H Q → gCons g r xs σ H Q' := fun xs σ H Q Q' h q => by
  obtain ⟨v, r', rfl, q⟩ := q
  exact ⟨v, r', rfl, m1 _ _ _ _ _ (fun σ2 H2 z => m2 _ _ _ _ _ h z) q⟩
theorem gk_tup {K : PySem.W.Frag} {k n : Nat} {r : TGs} (h : GKs k r) : GK k (gTup K n r) := fun x σ H Q q => by
  obtain ⟨a, xs, rfl, h1, h2, q⟩ := q
  exact ⟨a, xs, rfl, h1, h2, h _ _ _ _ q⟩
theorem m_tup {K : PySem.W.Frag} {n : Nat} {r : TGs} (m2 : ∀ xs σ H Q Q', (∀ σ2 H2, Q σ2 H2 → Q' σ2 H2) → r xs σ H Q → r xs σ H Q') :
    ∀ x σ H (Q Q' : L2.St → Hp → Prop), (∀ σ2 H2, Q σ2 H2 → Q' σ2 H2) → gTup K n r x σ H Q → gTup K n r x σ H Q' := fun x σ H Q Q' h q => by
  obtain ⟨a, xs, rfl, h1, h2, q⟩ := q
  exact ⟨a, xs, rfl, h1, h2, m2 _ _ _ _ _ h q⟩
theorem comp_core {X : Cx} {tg elt iter : Expr} {ifs : List Expr} {scope : Scope} {pos : Pos} {N : List Str} {k : Nat} {ix : List Nat} {wi : TI} {g : TG} {tc : TT} {te : TE}
    (hc : X.calm = true) (hi : PI X tg iter wi) (gk : GK k g)
    (hk : scope.kind = .function) (hcell : ∀ y ∈ scope.names, y.2 ≠ .cell) (hnames : ∀ y ∈ scope.names, y.2 = .local → scope.names.lookup y.1 = some .local)
    (hfree : ∀ y ∈ scope.names, y.2 = .free → X.env.kindOf y.1 = some .cell ∨ X.env.kindOf y.1 = some .free)
    (hone : ∀ y ∈ scope.names, y.2 = .free → scope.names.lookup y.1 = some .free)
    (hN : ∀ (j : Nat) x, N[k + j]? = some x → ∃ i, ix[j]? = some i ∧ X.N[i]? = some x)
    (hcap : ∀ (j : Nat) x, N[k + j]? = some x → scope.names.lookup x = some .free)
    (hlen : N.length = k + ix.length)
    (hg : ∀ cl C s H fp, PG (compCx X N scope cl C s H fp) tg g)
    (hif : ∀ cl C s H fp, PIf (compCx X N scope cl C s H fp) ifs tc)
    (he : ∀ cl C s H fp, PE (compCx X N scope cl C s H fp) elt te)
    (hs : ∀ x, foldedSetIterable iter X.env x = pure x) {pins : List (Addr × Obj)} {s : Shared} {σ : L2.St} {H : Hp} {Q : VK} (I : L2.Inv X pins σ H s) (h : tComp k ix wi g tc te σ H Q) {pos' : Pos} {use : Option (Value → Sem Unit)} {QQ : Value → Shared → Prop}
    (end_ : ∀ (D C : Addr) (H3 : Hp) (s4 : Shared), L2.Inv X pins σ H3 s4 → (∃ m, s4.heap.Ns C m) → H3 C = none → C ≠ X.env.locals → X.s₀.heap.objs.size ≤ C → (∀ x c, X.env.cells.lookup x = some c → c ≠ C) → (∀ p ∈ X.pn ++ pins, p.1 ≠ C) →
      (∀ h' : Heap, Heap.SameBut C s4.heap h' → L2.Inv X pins σ H3 { s4 with heap := h' }) → Q (.ref D) H3 → compPost (model X.prog X.w) X.A X.xe use QQ (.ref D) C (.ok .next) s4) :
    wpAny (model X.prog X.w) X.A (comprehension (.ListComp elt [⟨tg, iter, ifs, 0⟩] scope pos) scope X.env pos' (newList []) false (eval iter X.env) use) QQ X.xe s := by
  obtain ⟨cl, hclos, hcl, hcl2⟩ := closure_of (env := X.env) (scope := scope) (fun x hx e => I.ok.has x.1 (hfree x hx e))
  refine wpAny_comprehension_free (use := use) rfl hs hclos hk hnames (thn (hi pins s σ H _ I h) fun v s1 h1 => thn h1 fun itv s2 h2 => ?_)
  obtain ⟨it, fp, tn, J, H2, rfl, I2, T, st2, f2, h2⟩ := h2
  refine wpAny_newObj_type (wpAny_newFunctionEnv hcell (by intro y hy; simp at hy) (fun h₁ hns₁ hsb₁ => ?_) hk)
  dsimp only at hns₁ hsb₁ ⊢
  generalize hP : s2.heap.push { cls := .type "list", dict := none, data := .seq ([] : List Value).toArray } = P2 at hns₁ hsb₁ ⊢
  have hCs : P2.objs.size = s2.heap.objs.size + 1 := by rw [← hP, Heap.size_push]
  have below : ∀ b, b < s2.heap.objs.size → b ≠ P2.objs.size := fun b hb => by rw [hCs]; omega
  have old : ∀ b o, s2.heap.get? b = some o → h₁.get? b = some o := fun b o e => hsb₁.extBut b o (below b (Heap.lt_size e)) (Heap.get?_push_of_some _ (hP ▸ Heap.get?_push_of_some _ e))
  have hacc : h₁.get? s2.heap.objs.size = some { cls := .type "list", dict := none, data := .seq ([] : List Value).toArray } := hsb₁.extBut _ _ (show s2.heap.objs.size ≠ P2.objs.size by rw [hCs]; exact Nat.ne_of_lt (Nat.lt_succ_self _)) (Heap.get?_push_of_some _ (hP ▸ Heap.get?_push_size _ rfl))
  obtain ⟨W, ⟨m0, w0⟩, turn⟩ := h2 s2.heap.objs.size (I2.hok.fresh (Nat.le_refl _))
  have fpl : ∀ b ∈ fp, b < s2.heap.objs.size := fun b hb => let ⟨o, e, _⟩ := T.obj _ _ st2 b hb; Heap.lt_size e
  have σl : (capt k ix σ).length = N.length := by rw [hlen]; simp [capt]
  have i2 := I2.ok
  -- the block's context is in order
  have ok' : (compCx X N scope cl P2.objs.size s2 H2 fp).Ok := by
    refine ⟨i2.mod, hk, i2.glob, i2.blt, (by show s2.heap.objs.size ≤ P2.objs.size; rw [hCs]; exact Nat.le_succ _), fun x y c e1 e2 => i2.inj x y c (hcl x c e1) (hcl y c e2), fun x hx => ?_, (fun x c e => by cases e), i2.hd, i2.frames, .inl rfl, fun b hb => ?_, fun b o e => I2.bs b o e, Nat.le_trans i2.bsz I2.sz, fun b o e hb => ?_, fun b hb hb2 => ?_, I2.stack, I2.stkFree⟩
    · -- a cell of the block's
      have hx' : (relabel scope X.env).names.lookup x = some .cell ∨ (relabel scope X.env).names.lookup x = some .free := hx
      have key : ∀ (names : List (Str × NameKind)), (∀ y ∈ names, y.2 ≠ .cell) → ((names.map fun (n, k) => if (k == NameKind.free && X.env.scope.kind == .function && X.env.kindOf n == some .cell) then (n, NameKind.cell) else (n, k)).lookup x = some .cell ∨
          (names.map fun (n, k) => if (k == NameKind.free && X.env.scope.kind == .function && X.env.kindOf n == some .cell) then (n, NameKind.cell) else (n, k)).lookup x = some .free) → (x, NameKind.free) ∈ names := by
        intro names
        induction names with
        | nil => intro _ h; rcases h with h | h <;> cases h
        | cons y r ih =>
          obtain ⟨n, kd⟩ := y
          intro hnc h
          by_cases hxn : x = n
          · subst hxn
            have hkc : kd ≠ .cell := hnc (x, kd) List.mem_cons_self
            by_cases hkf : kd = .free
            · subst hkf; exact List.mem_cons_self
            · exfalso
              have hb : (kd == NameKind.free) = false := by simpa using hkf
              simp only [List.map_cons, hb, Bool.false_and, Bool.false_eq_true, if_false, List.lookup_cons, beq_self_eq_true] at h
              rcases h with h | h
              · exact hkc (Option.some.inj h)
              · exact hkf (Option.some.inj h)
          · have hb : (x == n) = false := by simpa using hxn
            refine List.mem_cons_of_mem _ (ih (fun y hy => hnc y (List.mem_cons_of_mem _ hy)) ?_)
            have e1 : ∀ z : NameKind, List.lookup x (((n, z)) :: (r.map fun (n, k) => if (k == NameKind.free && X.env.scope.kind == .function && X.env.kindOf n == some .cell) then (n, NameKind.cell) else (n, k))) = List.lookup x (r.map fun (n, k) => if (k == NameKind.free && X.env.scope.kind == .function && X.env.kindOf n == some .cell) then (n, NameKind.cell) else (n, k)) := fun z => by rw [List.lookup_cons, hb]
            rw [List.map_cons] at h
            dsimp only at h
            split at h
            · rw [e1] at h; exact h
            · rw [e1] at h; exact h
      exact hcl2 x (key scope.names hcell hx')
    · exact ⟨below b (fpl b hb), fun x c e => (f2 b hb).2.2.2.2.1 x c (hcl x c e)⟩
    · rcases (f2 b hb).2.2.2.1 with z | z
      · exact i2.noex b o e z
      · exact absurd (Nat.lt_of_lt_of_le (Heap.lt_size e) (Nat.le_trans i2.bsz z)) (Nat.lt_irrefl _)
    · rcases List.mem_cons.mp (I2.stkSub b hb2) with z | z
      · exact (f2 b hb).2.1 z
      · exact (f2 b hb).2.2.1 z
  have stat : ∀ {H' : Hp}, (∀ b ∈ fp, H' b = none) → ∀ b ∈ fp, FpOk (compCx X N scope cl P2.objs.size s2 H2 fp) [] H' b := fun hn b hb =>
    ⟨hn b hb, below b (fpl b hb), fun z => ok'.exfs b hb z, .inl hb, fun x c e => (f2 b hb).2.2.2.2.1 x c (hcl x c e), (fun p hp => by cases hp)⟩
  have hD : H2 s2.heap.objs.size = none := I2.hok.fresh (Nat.le_refl _)
  have relf : ∀ x, scope.names.lookup x = some .free → (X.env.kindOf x = some .cell ∨ X.env.kindOf x = some .free) → ((relabel scope X.env).names.lookup x = some .cell ∨ (relabel scope X.env).names.lookup x = some .free) := by
    intro x hx hkx
    have key : ∀ (names : List (Str × NameKind)), names.lookup x = some .free → ((names.map fun (n, k) => if (k == NameKind.free && X.env.scope.kind == .function && X.env.kindOf n == some .cell) then (n, NameKind.cell) else (n, k)).lookup x = some .cell ∨
        (names.map fun (n, k) => if (k == NameKind.free && X.env.scope.kind == .function && X.env.kindOf n == some .cell) then (n, NameKind.cell) else (n, k)).lookup x = some .free) := by
      intro names
      induction names with
      | nil => intro h; cases h
      | cons y r ih =>
        obtain ⟨n, kd⟩ := y
        intro h
        rw [List.lookup_cons] at h
        by_cases hxn : x = n
        · subst hxn
          simp only [beq_self_eq_true] at h
          cases h
          rw [List.map_cons]
          dsimp only
          split
          · left; simp [List.lookup_cons]
          · right; simp [List.lookup_cons]
        · have hb : (x == n) = false := by simpa using hxn
          rw [hb] at h
          have := ih h
          rw [List.map_cons]
          dsimp only
          split
          · rw [List.lookup_cons, hb]; exact this
          · rw [List.lookup_cons, hb]; exact this
    exact key scope.names hx
  have Istart : ∀ tk, Inv (compCx X N scope cl P2.objs.size s2 H2 fp) [] (capt k ix σ) (upd H2 s2.heap.objs.size (.lst [])) { s2 with heap := h₁, toks := tk } := fun tk => by
    refine ⟨ok', rfl, I2.bare, Un.laid old (Nat.le_refl _) hD, ⟨_, hns₁, fun i x v e1 e2 e3 => ?_⟩, fun x c e => ?_, ?_, fun x c e => ?_, (fun p hp => by cases hp), I2.hok.laid old (Nat.le_refl _) ⟨Nat.zero_le _, [], _, .nil, hacc⟩, σl⟩
    · by_cases hik : i < k
      · exfalso
        unfold capt at e2
        rw [List.getElem?_append_left (by simpa using hik), List.getElem?_replicate] at e2
        split at e2 <;> cases e2
      · have ej : i = k + (i - k) := by omega
        have e1' : N[k + (i - k)]? = some x := by rw [← ej]; exact e1
        obtain ⟨i0, hi0, hXN⟩ := hN (i - k) x e1'
        have hfx := hcap (i - k) x e1'
        have hmem : (x, NameKind.free) ∈ scope.names := PySem.mem_of_lookup hfx
        have hkx := hfree _ hmem rfl
        have e4 : σ[i0]? = some (some v) := by
          unfold capt at e2
          rw [List.getElem?_append_right (by simpa using Nat.le_of_not_lt hik), List.getElem?_map] at e2
          simp only [List.length_replicate, hi0, Option.map_some, Option.some.injEq] at e2
          cases z : σ[i0]? with
          | none => rw [z] at e2; cases e2
          | some y => rw [z] at e2; simp only [Option.getD_some] at e2; rw [e2]
        obtain ⟨m2, hn2, hl2⟩ := I2.loc
        obtain ⟨u, ru, lk⟩ := hl2 i0 x v hXN e4 (by rcases hkx with z | z; exact .inr (.inl z); exact .inr (.inr z))
        rcases lk with ⟨z, _⟩ | ⟨_, c, hc1, hc2⟩
        · exfalso
          have z' : X.env.kindOf x = some .local := z
          rcases hkx with y | y <;> (rw [z'] at y; cases y)
        · obtain ⟨c', hc'⟩ := hcl2 x hmem
          have e5 := hcl x c' hc'
          rw [hc1] at e5; cases e5
          obtain ⟨o, ho, hd⟩ := hc2
          exact ⟨u, ru, .inr ⟨relf x hfx hkx, c, hc', o, old _ _ ho, hd⟩⟩
    · obtain ⟨v, o, ho, hd⟩ := I2.cell x c (hcl x c e)
      exact ⟨v, o, old _ _ ho, hd⟩
    · show upd H2 s2.heap.objs.size (.lst []) P2.objs.size = none
      rw [upd_ne (show P2.objs.size ≠ s2.heap.objs.size by rw [hCs]; exact Nat.succ_ne_self _)]
      exact I2.hok.fresh (show s2.heap.objs.size ≤ P2.objs.size by rw [hCs]; exact Nat.le_succ _)
    · have e' := hcl x c e
      obtain ⟨v, o, ho, hd⟩ := I2.cell x c e'
      rw [upd_ne (Nat.ne_of_lt (Heap.lt_size ho))]
      exact I2.freeC x c e'
  have st1 : tn 0 h₁ := T.keep 0 _ _ st2 fun b hb o e => old b o e
  have fr1 : ∀ b ∈ fp, upd H2 s2.heap.objs.size (.lst []) b = none := fun b hb => by rw [upd_ne (Nat.ne_of_lt (fpl b hb))]; exact (f2 b hb).1
  -- behind the block
  have fin : ∀ (H3 : Hp) (s4 : Shared), Inv (compCx X N scope cl P2.objs.size s2 H2 fp) [] (capt k ix σ) H3 s4 → ∀ h' : Heap, Heap.SameBut P2.objs.size s4.heap h' → Inv X pins σ H3 { s4 with heap := h' } := fun H3 s4 I4 h' sb => by
    have kp : ∀ b o, b < s2.heap.objs.size → s4.heap.get? b = some o → h'.get? b = some o := fun b o hb e => sb.extBut b o (below b hb) e
    have u : Un (frs X.stack) fp H2 H3 s2.heap s4.heap := I4.base
    refine I2.call' (ch := fp) (H' := H3) I4.os ⟨fun b o q n hb hx => kp b o (Heap.lt_size q) (u.keep b o q n hb hx), fun b o q n hb hx => ?_, u.free, fun b o q hx => ?_, u.tups, u.frzs, u.tbls⟩ (fun a o e => ?_) I4.bare fun b hb => ⟨(f2 b hb).2.2.2.1, (f2 b hb).2.1, (f2 b hb).2.2.2.2.1, (f2 b hb).2.2.2.2.2⟩
    · obtain ⟨sl, e⟩ := u.slot b o q n hb hx
      exact ⟨sl, kp b _ (Heap.lt_size q) e⟩
    · obtain ⟨o', e⟩ := u.there b o q hx
      exact ⟨o', kp b _ (Heap.lt_size q) e⟩
    · have nC : H3 P2.objs.size = none := I4.free
      refine (I4.hok a o e).stay (fun b z hb q => sb.extBut b z ?_ q) (fun _ q => q) fun _ _ q => q
      rcases hb with rfl | hb
      · exact ne_of_none e nC
      · exact ne_of_none hb nC
  have loop : ∀ tk, codeAny (model X.prog X.w) X.A (.compLoop (.ListComp elt [⟨tg, iter, ifs, 0⟩] scope pos) 0 (.ref it) (.ref s2.heap.objs.size) (compEnvC scope cl P2.objs.size X.env))
      (compPost (model X.prog X.w) X.A X.xe use QQ (.ref s2.heap.objs.size) P2.objs.size) { s2 with heap := h₁, toks := tk } := fun tk => by
    refine compLoop_tg (fun n s' => ∃ i H', Inv (compCx X N scope cl P2.objs.size s2 H2 fp) [] (capt k ix σ) H' s' ∧ tn i s'.heap ∧ (∀ b ∈ fp, H' b = none) ∧ W i n H') ?_ m0 ⟨0, _, Istart tk, st1, fr1, w0⟩
    rintro n s3 ⟨i, H3, I3, st3, fr3, w3⟩
    rcases turn i n H3 w3 with ⟨stop, q⟩ | ⟨go, step⟩
    · refine thn (T.done (compCx X N scope cl P2.objs.size s2 H2 fp) rfl rfl rfl hc i [] s3 _ H3 (fun _ _ => False) I3 (stat fr3) st3 stop) fun r s4 ⟨hr, I4⟩ => ?_
      subst hr
      obtain ⟨m, hn, _⟩ := I4.loc
      refine end_ s2.heap.objs.size P2.objs.size H3 s4 (fin H3 s4 I4 s4.heap (Heap.SameBut.refl ..)) ⟨m, hn⟩ I4.free (Ne.symm (below _ I2.lt)) (Nat.le_trans I2.sz (show s2.heap.objs.size ≤ P2.objs.size by rw [hCs]; exact Nat.le_succ _)) (fun x c e => ?_) (fun p hp => below _ (Heap.lt_size (I2.pin p hp).1)) (fin H3 s4 I4) q
      obtain ⟨v, o, ho, _⟩ := I2.cell x c e
      exact below _ (Heap.lt_size ho)
    · refine thn (T.item (compCx X N scope cl P2.objs.size s2 H2 fp) rfl rfl rfl hc i [] s3 _ H3 (fun _ _ => False) I3 (stat fr3) st3 go) fun r s4 ⟨u, hr, h4⟩ => ?_
      subst hr
      refine thn h4 fun _ s5 ⟨x, H5, I5, r5, y5, st5, fr5⟩ => ?_
      have I5' := I5.pinned (stat fr5) (T.obj _ _ st5)
      refine thn (hg cl P2.objs.size s2 H2 fp _ s5 _ H5 x u _ I5' r5 (gk _ _ _ _ (step x H5 y5))) fun _ s6 ⟨σ6, H6, I6, ag, q6⟩ => ?_
      have again : ∀ {s7 : Shared} {H7 : Hp} {m' : Nat}, Inv (compCx X N scope cl P2.objs.size s2 H2 fp) ([] ++ pinsAt fp s5.heap) σ6 H7 s7 → m' < n → W (i + 1) m' H7 → ∃ m, m < n ∧ ∃ i H', Inv (compCx X N scope cl P2.objs.size s2 H2 fp) [] (capt k ix σ) H' s7 ∧ tn i s7.heap ∧ (∀ b ∈ fp, H' b = none) ∧ W i m H' := fun {s7 H7 m'} I7 hm w7 => by
        refine ⟨m', hm, i + 1, H7, (I7.unpinned).weak (by rw [σl]; exact (I7.len).symm) (fun j v e => ?_), T.keep _ _ _ st5 fun b hb o e => (I7.pin (b, o) (List.mem_append_right _ (List.mem_append_right _ (mem_pinsAt hb e)))).1, fun b hb => ?_, w7⟩
        · by_cases hj : j < k
          · exfalso
            unfold capt at e
            rw [List.getElem?_append_left (by simpa using hj), List.getElem?_replicate] at e
            split at e <;> cases e
          · rw [ag j (by omega)]; exact e
        · obtain ⟨o, e, d⟩ := T.obj _ _ st5 b hb
          exact (I7.pin (b, o) (List.mem_append_right _ (List.mem_append_right _ (mem_pinsAt hb e)))).2.1
      refine thn (hif cl P2.objs.size s2 H2 fp _ s6 σ6 H6 _ I6 q6) fun ok s7 ⟨H7, I7, q7⟩ => ?_
      cases ok with
      | false =>
        obtain ⟨m', hm, w7⟩ := q7
        exact again I7 hm w7
      | true =>
        refine thn (he cl P2.objs.size s2 H2 fp _ s7 σ6 H7 _ I7 q7) fun y s8 ⟨yv, H8, I8, r8, ys, hD8, hz8, m', hm, w8⟩ => ?_
        refine thn (mt_append _ s8 σ6 H8 (.ref s2.heap.objs.size) [yv] (.ref s2.heap.objs.size) [y] (fun v H9 => H9 = upd H8 s2.heap.objs.size (.lst (ys ++ [yv]))) I8 rfl (.cons r8 .nil) ⟨_, ys, yv, rfl, rfl, hD8, hz8, rfl⟩) fun _ s9 ⟨_, H9, I9, _, e9⟩ => ?_
        subst e9
        exact again I9 hm w8
  exact codeAny_compStart_list (loop _) (T.self _ 0 _ _ _ st1 (loop _))
theorem pe_comp {X : Cx} {tg elt iter : Expr} {ifs : List Expr} {scope : Scope} {pos : Pos} {N : List Str} {k : Nat} {ix : List Nat} {wi : TI} {g : TG} {tc : TT} {te : TE}
    (hc : X.calm = true) (hi : PI X tg iter wi) (gk : GK k g)
    (hk : scope.kind = .function) (hcell : ∀ y ∈ scope.names, y.2 ≠ .cell) (hnames : ∀ y ∈ scope.names, y.2 = .local → scope.names.lookup y.1 = some .local)
    (hfree : ∀ y ∈ scope.names, y.2 = .free → X.env.kindOf y.1 = some .cell ∨ X.env.kindOf y.1 = some .free)
    (hone : ∀ y ∈ scope.names, y.2 = .free → scope.names.lookup y.1 = some .free)
    (hN : ∀ (j : Nat) x, N[k + j]? = some x → ∃ i, ix[j]? = some i ∧ X.N[i]? = some x)
    (hcap : ∀ (j : Nat) x, N[k + j]? = some x → scope.names.lookup x = some .free)
    (hlen : N.length = k + ix.length)
    (hg : ∀ cl C s H fp, PG (compCx X N scope cl C s H fp) tg g)
    (hif : ∀ cl C s H fp, PIf (compCx X N scope cl C s H fp) ifs tc)
    (he : ∀ cl C s H fp, PE (compCx X N scope cl C s H fp) elt te)
    (hs : ∀ x, foldedSetIterable iter X.env x = pure x := by intro _; rfl) :
    PE X (.ListComp elt [⟨tg, iter, ifs, 0⟩] scope pos) (tComp k ix wi g tc te) := by
  intro pins s σ H Q I h
  rw [eval_ListComp]
  refine comp_core (use := none) hc hi gk hk hcell hnames hfree hone hN hcap hlen hg hif he hs I h fun D C H3 s4 I4 ⟨m, hn⟩ _ _ _ _ _ fin q => ?_
  exact ⟨m, hn, fun h' sb => ⟨.ref D, H3, fin h' sb, rfl, q⟩⟩
theorem ps_comp {X : Cx} {tg elt iter : Expr} {ifs : List Expr} {scope : Scope} {pos spos py : Pos} {N : List Str} {k : Nat} {ix : List Nat} {wi : TI} {g : TG} {tc : TT} {te : TE} {i : Nat} {y : Str}
    (hc : X.calm = true) (hi : PI X tg iter wi) (gk : GK k g)
    (hk : scope.kind = .function) (hcell : ∀ y ∈ scope.names, y.2 ≠ .cell) (hnames : ∀ y ∈ scope.names, y.2 = .local → scope.names.lookup y.1 = some .local)
    (hfree : ∀ y ∈ scope.names, y.2 = .free → X.env.kindOf y.1 = some .cell ∨ X.env.kindOf y.1 = some .free)
    (hone : ∀ y ∈ scope.names, y.2 = .free → scope.names.lookup y.1 = some .free)
    (hN : ∀ (j : Nat) x, N[k + j]? = some x → ∃ i, ix[j]? = some i ∧ X.N[i]? = some x)
    (hcap : ∀ (j : Nat) x, N[k + j]? = some x → scope.names.lookup x = some .free)
    (hlen : N.length = k + ix.length)
    (hg : ∀ cl C s H fp, PG (compCx X N scope cl C s H fp) tg g)
    (hif : ∀ cl C s H fp, PIf (compCx X N scope cl C s H fp) ifs tc)
    (he : ∀ cl C s H fp, PE (compCx X N scope cl C s H fp) elt te)
    (hs : ∀ x, foldedSetIterable iter X.env x = pure x) (hsw : swapsWith (.ListComp elt [⟨tg, iter, ifs, 0⟩] scope pos) (some (.Name y py)) spos.line X.env = pure true)
    (hNd : X.N.Nodup) (hiy : X.N[i]? = some y) (hy : Loc X.env.scope y) (hf : X.fn y = true ∨ X.env.scope.names.lookup y = some .local) :
    PS X (.Assign [.Name y py] (.ListComp elt [⟨tg, iter, ifs, 0⟩] scope pos) spos) (tAsg (tComp k ix wi g tc te) (gName i)) := by
  intro pins s σ H D I h
  rw [exec_Assign_Name_used _ _ _ _ hsw]
  refine wpAny_bind (wpAny_standAt (wpAny_bind ?_))
  show wpAny _ X.A (do let _ ← comprehension (.ListComp elt [⟨tg, iter, ifs, 0⟩] scope pos) scope X.env _ (newList []) false (eval iter X.env) (some (assign (.Name y py) X.env))) _ _ s
  refine wpAny_bind (wpAny_mono (comp_core (use := some (assign (.Name y py) X.env)) (QQ := fun _ s' => SP X pins D .next s') hc hi gk hk hcell hnames hfree hone hN hcap hlen hg hif he hs I h fun A C H3 s4 I4 hn nC nL sC cC pC fin q => ?_) (fun _ s' hq => wpAny_pure (wpAny_pure hq)) fun _ _ e => e)
  show wpAny _ X.A (assign (.Name y py) X.env (.ref A)) _ _ _
  refine wpAny_assign_Name (store_ok2 (i := i) (v := .ref A) I4 hNd hiy hy rfl (fun s5 I5 ⟨a, sb, ha⟩ => ?_) hf)
  obtain ⟨m, hn⟩ := hn
  have aC : C ≠ a := by
    rcases ha with z | z
    · rw [z]; exact nL
    · exact fun e => cC y a z e.symm
  refine ⟨m, hn.at' fun o e => sb.extBut C o aC e, fun h' sb' => ?_⟩
  exact ⟨_, H3, I5.turned (t' := s5.toks) (fun b o hb e => sb'.extBut b o hb e) nC nL (.inr sC) cC pC, q⟩
section
variable {X : Cx}
theorem op_catL : OpR X (binaryOp .Add) (rCatL X.K) := by
  intro pins s σ H x y v u Q I rx ry h
  obtain ⟨l, b, xs, zs, rfl, rfl, hH, hB, hz, q⟩ := h
  cases rx
  cases ry
  obtain ⟨its, r, p, hl⟩ := I.list hH
  obtain ⟨its2, r2, p2, hl2⟩ := I.list hB
  obtain ⟨⟨cls, dd, data, sl⟩, n, ho, hc, _, hd⟩ := p
  obtain ⟨⟨cls2, dd2, data2, sl2⟩, n2, ho2, hc2, _, hd2⟩ := p2
  simp only at hc hd hc2 hd2
  subst hc hd hc2 hd2
  have q1 := r.length
  have q2 := r2.length
  have e : its.toArray ++ its2.toArray = (its ++ its2).toArray := by simp
  refine concat_meets ⟨_, ho, rfl⟩ ⟨_, ho2, rfl⟩ noFill_list_add seq_list_add PySem.F.slot_list_add PySem.F.entry_list_add (PySem.F.args_list_add_2 _ _) (list_addW l b its.toArray its2.toArray n n2 dd dd2 sl sl2 (by rw [List.size_toArray, List.size_toArray]; omega)) ⟨ho, ho2, ?_⟩
  rw [e]
  exact ⟨.ref _, _, I.lnew (t' := s.toks) (r.append r2) (by rw [List.length_append]; omega), rfl, q _ I.fresh⟩
theorem op_catTA : OpR X (binaryOp .Add) (rCatTA X.K) := by
  intro pins s σ H x y v u Q I rx ry h
  obtain ⟨a, b, xs, ys, rfl, rfl, ha, hb, hz, q0, q1, q2⟩ := h
  by_cases hx : xs = []
  · cases rx
    cases ry
    obtain ⟨its, r1, p1, _⟩ := I.tuple ha
    obtain ⟨its2, r2, p2, _⟩ := I.tuple hb
    obtain ⟨⟨cls, dd, data, sl⟩, ho, hc, n, hd⟩ := p1
    obtain ⟨⟨cls2, dd2, data2, sl2⟩, ho2, hc2, n2, hd2⟩ := p2
    simp only at hc hd hc2 hd2
    subst hc hd hc2 hd2
    have e : its = [] := r1.nil_iff.mpr hx
    exact concat_meets ⟨_, ho, rfl⟩ ⟨_, ho2, rfl⟩ noFill_tuple_add seq_tuple_add PySem.F.slot_tuple_add PySem.F.entry_tuple_add (PySem.F.args_tuple_add_2 _ _) (tuple_addW0 a b its.toArray its2.toArray n n2 dd dd2 sl sl2 (by rw [e]; rfl)) ⟨ho, ho2, .ref b, H, I, rfl, q0 hx⟩
  · exact op_catT pins s σ H _ _ v u Q I rx ry ⟨a, b, xs, ys, rfl, rfl, ha, hb, hx, hz, q1 hx, q2 hx⟩
theorem sl_str : SlR X (fun x lo hi H Q => ∃ z : Str, x = .str z ∧ z.length ≤ sizeLine ∧ Q (.str (Txt.slice z lo hi)) H) := by
  intro pins s σ H x v vl vu lo hi sl Q I rx hs pl pu h
  obtain ⟨z, rfl, hz, q⟩ := h
  obtain ⟨t, rfl⟩ := rx
  refine ⟨"str", _, F.slot_str_getitem.lookup, typeIs_str _ _ _, ?_⟩
  have fin : ∀ t' k, EP X pins σ Q (.str (Txt.slice z lo hi) t') { s with toks := k } := fun t' k => ⟨.str (Txt.slice z lo hi), H, I.tok k, ⟨t', rfl⟩, q⟩
  cases pl with
  | none => cases pu with
    | none => exact wpAny_getItem_str_slice (l := none) (u := none) (st := none) hs rfl (post_val_or_str ⟨Nat.le_trans (Txt.slice_le z _ _) hz, fun t' k => fin t' k⟩)
    | int j uj => exact wpAny_getItem_str_slice (l := none) (u := some (j, uj)) (st := none) hs rfl (post_val_or_str ⟨Nat.le_trans (Txt.slice_le z _ _) hz, fun t' k => fin t' k⟩)
  | int i ui => cases pu with
    | none => exact wpAny_getItem_str_slice (l := some (i, ui)) (u := none) (st := none) hs rfl (post_val_or_str ⟨Nat.le_trans (Txt.slice_le z _ _) hz, fun t' k => fin t' k⟩)
    | int j uj => exact wpAny_getItem_str_slice (l := some (i, ui)) (u := some (j, uj)) (st := none) hs rfl (post_val_or_str ⟨Nat.le_trans (Txt.slice_le z _ _) hz, fun t' k => fin t' k⟩)
theorem sl_any : SlR X (rSlA X.K) := sl_list.or (sl_tup.or sl_str)
theorem call_allB (hc : X.calm = true) : CallR X (.builtin "all") (fun xs H Q => ∃ (p : Addr) (bs : List Bool), xs = [.ref p] ∧ SqL X.K H p (bs.map V.bl) ∧ Q (.bl (bs.all fun b => b)) H) := by
  intro pins s σ H xs us Q I r h
  obtain ⟨a, bs, rfl, ha, q⟩ := h
  obtain ⟨u, rfl, ru⟩ := vals1 r
  cases ru
  obtain ⟨its, rv, p, hz⟩ := I.list ha
  have hl := rv.length
  have hne : a ≠ s.heap.objs.size := by
    obtain ⟨o, n, e, _⟩ := p
    exact Nat.ne_of_lt (Heap.lt_size e)
  refine call_all_walk (wpAny_pyIter_list p.isList ?_)
  refine ⟨s.heap.objs.size, _, _, _, _, _, fun i => (bs[i]?).getD false, rfl, Walks.list (show X.A.in1.handled = none from I.ok.hd hc) s.heap.objs.size a hne its.toArray, ⟨⟨_, Heap.get?_push_size _ rfl, rfl, rfl⟩, ?_⟩, ?_, fun h' tk k => ?_⟩
  · obtain ⟨o, n, e, c, d, z⟩ := p
    exact ⟨o, Heap.get?_push_of_some _ e, c, n, z⟩
  · intro i v s' Q' E' hP hQ
    have hv : its[i]? = some v := by simpa using hP
    have hi : i < bs.length := by
      have := (List.getElem?_eq_some_iff.mp hv).1
      rw [← hl] at this; simpa using this
    obtain ⟨u, hu, ru⟩ := rv.get (i := i) (x := .bl bs[i]) (by simp [hi])
    rw [hv] at hu; cases hu
    cases ru
    refine wpAny_truthy_bool ?_
    have : (bs[i]?).getD false = bs[i] := by simp [hi]
    rw [← this]; exact hQ
  · have e : (List.range its.toArray.size).all (fun i => (bs[i]?).getD false) = bs.all fun b => b := by
      have : its.toArray.size = bs.length := by rw [List.size_toArray, ← hl, List.length_map]
      rw [this]
      clear this hl rv p hz k
      rw [Bool.eq_iff_iff]
      simp only [List.all_eq_true, List.mem_range]
      constructor
      · intro h b hb
        obtain ⟨i, hi, rfl⟩ := List.mem_iff_getElem.mp hb
        have := h i hi
        simpa [hi] using this
      · intro h i hi
        have := h bs[i] (List.getElem_mem hi)
        simpa [hi] using this
    rw [e]
    exact ⟨.bl _, H, I.kept (t' := tk) (fun b o e => k b o (fun z => Nat.lt_irrefl _ (Nat.lt_of_lt_of_le (Heap.lt_size e) (Nat.le_of_eq (show s.heap.objs.size = b from (List.mem_singleton.mp z).symm)))) (Heap.get?_push_of_some _ e)), rfl, q⟩
end
end U2
namespace U2
open PySem PySem.Spec PyProof.Rows L2
structure Dat where
  prog : Program
  w : World
  K : PySem.W.Frag
  mg : Str → Option Value
  base : Heap
  N : List Str
  sc : Scope
  k : Nat
  fn : Bool
  cod : Value := .none
  qual : Str := ""
structure Has (D : Dat) (X : Cx) : Prop where
  prog : X.prog = D.prog
  w : X.w = D.w
  K : X.K = D.K
  mg : X.mg = D.mg
  base : X.base = D.base
  N : X.N = D.N
  sc : X.env.scope = D.sc
  room : Room D.k X.A
  calm : X.calm = true
  xe : X.xe = fun _ _ => False
  fn : D.fn = true → ∀ x, X.fn x = true
  cod : D.cod ≠ .none → X.env.code = D.cod ∧ X.env.qual = D.qual
  dl : D.fn = true → X.ex = [] ∧ X.stack = X.env :: X.outer ∧ X.env.frame = some X.env.locals
def PEU (D : Dat) (e : Expr) (t' : UE) : Prop := ∃ t, (∀ X, Has D X → PE X e t) ∧ SimE D.K t t'
def PTU (D : Dat) (e : Expr) (t' : UT) : Prop := ∃ t, (∀ X, Has D X → PT X e t) ∧ SimT D.K t t'
def PWU (D : Dat) (e : Expr) (t' : UT) : Prop := ∃ t, (∀ X, Has D X → PW X e t) ∧ SimT D.K t t'
def PAU (D : Dat) (es : List Expr) (t' : UA) : Prop := ∃ t, (∀ X, Has D X → PA X es t) ∧ SimA D.K t t'
def PSU (D : Dat) (s : Stmt) (t' : US) : Prop := ∃ t, (∀ X, Has D X → PS X s t) ∧ SimS D.K t t'
def PSsU (D : Dat) (s : List Stmt) (t' : US) : Prop := ∃ t, (∀ X, Has D X → PSs X s t) ∧ SimS D.K t t'
def PGU (D : Dat) (k : Nat) (e : Expr) (g' : UG) : Prop := ∃ g, (∀ X, Has D X → PG X e g) ∧ SimG D.K g g' ∧ GK k g ∧ ∀ x σ H Q Q', (∀ σ2 H2, Q σ2 H2 → Q' σ2 H2) → g x σ H Q → g x σ H Q'
def PGsU (D : Dat) (k : Nat) (es : List Expr) (g' : UGs) : Prop := ∃ g, (∀ X, Has D X → PGs X es g) ∧ SimGs D.K g g' ∧ GKs k g ∧ ∀ x σ H Q Q', (∀ σ2 H2, Q σ2 H2 → Q' σ2 H2) → g x σ H Q → g x σ H Q'
def PIU (D : Dat) (tg e : Expr) (t' : UI) : Prop := ∃ t, (∀ X, Has D X → PI X tg e t) ∧ SimI D.K t t'
def POU (D : Dat) (e : Option Expr) (t' : UO) : Prop := ∃ t, (∀ X, Has D X → PO X e t) ∧ SimO D.K t t'
def PIfU (D : Dat) (es : List Expr) (t' : UT) : Prop := ∃ t, (∀ X, Has D X → PIf X es t) ∧ SimT D.K t t'
section
variable {D : Dat} {a b c e o : Expr} {ta tb tc te : UE} {pos : Pos}
theorem uv (i : Nat) {x : Str} (hN : D.N[i]? = some x := by rfl) (hv : Vis D.sc x := by first | exact Or.inl rfl | exact Or.inr (Or.inl rfl) | exact Or.inr (Or.inr rfl)) (hd : (x == ("__debug__" : Str)) = false := by decide)
    (hcd : (x == ("__classdict__" : Str)) = false := by decide) : PEU D (.Name x pos) (uVar i) :=
  ⟨_, fun X h => pe_var (by rw [h.N]; exact hN) (by rw [h.sc]; exact hv) hd hcd, sim_var i⟩
theorem un_ {i j} : PEU D (.Constant (.int i) j pos) (uC (.int i)) := ⟨_, fun X h => pe_int, sim_int⟩
theorem ub_ {i j} : PEU D (.Constant (.bool i) j pos) (uC (.bl i)) := ⟨_, fun X h => pe_bl, sim_bl⟩
theorem us_ {i j} : PEU D (.Constant (.str i) j pos) (uC (.str i)) := ⟨_, fun X h => pe_str, sim_str⟩
theorem uo_ {j} : PEU D (.Constant .none j pos) (uC .non) := ⟨_, fun X h => pe_non, sim_non⟩
theorem ug_int {x : Str} {i : Int} {t : Tok} (hm : D.mg x = some (.int i t)) (hg : D.sc.names.lookup x = some .globalImplicit := by rfl) (hd : (x == ("__debug__" : Str)) = false := by decide) : PEU D (.Name x pos) (uC (.int i)) :=
  ⟨_, fun X h => pe_glob (v := .int i) (by show X.env.scope.names.lookup x = _; rw [h.sc]; exact hg) (by rw [h.mg]; exact hm) ⟨t, rfl⟩ hd, sim_int⟩
theorem ug_str {x : Str} {i : Str} {t : Tok} (hm : D.mg x = some (.str i t)) (hg : D.sc.names.lookup x = some .globalImplicit := by rfl) (hd : (x == ("__debug__" : Str)) = false := by decide) : PEU D (.Name x pos) (uC (.str i)) :=
  ⟨_, fun X h => pe_glob (v := .str i) (by show X.env.scope.names.lookup x = _; rw [h.sc]; exact hg) (by rw [h.mg]; exact hm) ⟨t, rfl⟩ hd, sim_str⟩
theorem ug_ref {x : Str} {f : Addr} (hm : D.mg x = some (.ref f)) (hg : D.sc.names.lookup x = some .globalImplicit := by rfl) (hd : (x == ("__debug__" : Str)) = false := by decide) : PEU D (.Name x pos) (uC (.ref f)) :=
  ⟨_, fun X h => pe_glob (v := .ref f) (by show X.env.scope.names.lookup x = _; rw [h.sc]; exact hg) (by rw [h.mg]; exact hm) rfl hd, sim_ref⟩
theorem ug_ty {x : Str} {n : String} (hm : D.mg x = none) (hv : bootBuiltins x = some (.type n) := by kernel_rfl) (hg : D.sc.names.lookup x = some .globalImplicit := by rfl) (hn : x ≠ "__name__" := by decide) (hd : (x == ("__debug__" : Str)) = false := by decide) : PEU D (.Name x pos) (uC (.ty n)) :=
  ⟨_, fun X h => pe_bltn (v := .ty n) (by show X.env.scope.names.lookup x = _; rw [h.sc]; exact hg) (by rw [h.mg]; exact hm) hv rfl hn hd, sim_ty⟩
theorem ue_op {op : Operator} {r : R2} {r' : UR2} (ho : ∀ X, Has D X → OpR X (binaryOp op) r) (hr : SimR2 D.K r r') (ha : PEU D a ta) (hb : PEU D b tb) : PEU D (.BinOp a op b pos) (uOp r' ta tb) := by
  obtain ⟨x, p, s⟩ := ha; obtain ⟨y, q, r⟩ := hb
  exact ⟨_, fun X h => pe_op (ho X h) (p X h) (q X h), sim_op hr s r⟩
theorem ue_sub (ha : PEU D a ta) (hb : PEU D b tb) : PEU D (.BinOp a .Sub b pos) (uOp (uI0 fun i j => .int (i - j)) ta tb) := ue_op (fun _ _ => op_sub) sim_int2 ha hb
theorem ue_mod (ha : PEU D a ta) (hb : PEU D b tb) : PEU D (.BinOp a .Mod b pos) (uOp (uI (fun _ j => 0 < j) fun i j => .int (i % j)) ta tb) := ue_op (fun _ _ => op_mod) sim_int2c ha hb
theorem ue_pow (ha : PEU D a ta) (hb : PEU D b tb) : PEU D (.BinOp a .Pow b pos) (uOp (uI CPow fun i j => .int (i ^ j.toNat)) ta tb) := ue_op (fun _ _ => op_pow) sim_int2c ha hb
def uAdd (o : Bool) : UR2 := fun x y M Q => match x, y with
  | .int i, .int j => Q (.int (i + j)) M
  | .str i, .str j => i.length + j.length ≤ sizeLine ∧ Q (.str (i ++ j)) M
  | .tup us, .tup ws => us.length + ws.length ≤ sizeLine ∧ Q (.tup (us ++ ws)) M
  | x, y => uAddL o x y M Q
def rAddA (K : PySem.W.Frag) : R2 := fun x y H Q => rI0 (fun i j => .int (i + j)) x y H Q ∨ ((∃ i j, x = .str i ∧ y = .str j ∧ i.length + j.length ≤ sizeLine ∧ Q (.str (i ++ j)) H) ∨ (rCatTA K x y H Q ∨ rCatL K x y H Q))
theorem sim_add {K : PySem.W.Frag} {o : Bool} : SimR2 K (rAddA K) (uAdd o) := fun x y u w H M Q' rm ru rw h Q c => by
  unfold uAdd at h
  split at h
  · exact .inl (sim_int2 x y _ _ H M Q' rm ru rw h Q c)
  · exact .inr (.inl (sim_addS x y _ _ H M Q' rm ru rw h Q c))
  · exact .inr (.inr (.inl (sim_addT x y _ _ H M Q' rm ru rw h Q c)))
  · exact .inr (.inr (.inr (sim_addL x y _ _ H M Q' rm ru rw h Q c)))
theorem ue_add (own : Bool := false) (ha : PEU D a ta) (hb : PEU D b tb) : PEU D (.BinOp a .Add b pos) (uOp (uAdd own) ta tb) :=
  ue_op (r := rAddA D.K) (fun X h => by have := op_add.or (op_add_str.or ((op_catTA (X := X)).or (op_catL (X := X)))); rw [h.K] at this; exact this) sim_add ha hb
theorem ue_neg (ha : PEU D a ta) : PEU D (.UnaryOp .USub a pos) (uUn (fun x M Q => match x with | .int i => Q (.int (-i)) M | _ => False) ta) := by
  obtain ⟨x, p, s⟩ := ha
  refine ⟨_, fun X h => pe_un un_neg (p X h), sim_un (fun x u H M Q' rm ru h Q c => ?_) s⟩
  cases u with
  | int i => exact ⟨i, ru.int, c.here rm relU_int h⟩
  | _ => exact h.elim
theorem ue_cmp {op : CmpOp} {r : R2} {r' : UR2} (ho : ∀ X, Has D X → OpR X (compareOp op) r) (hr : SimR2 D.K r r') (ha : PEU D a ta) (hb : PEU D b tb) (hm : behindInMarks op b = false) : PEU D (.Compare a [op] [b] pos) (uOp r' ta tb) := by
  obtain ⟨x, p, s⟩ := ha; obtain ⟨y, q, r⟩ := hb
  exact ⟨_, fun X h => pe_cmpR (ho X h) (p X h) (q X h) hm, sim_op hr s r⟩
theorem ut_cmp {op : CmpOp} {r : R2} {r' : UR2} (ho : ∀ X, Has D X → OpR X (compareOp op) r) (hr : SimR2 D.K r r') (ha : PEU D a ta) (hb : PEU D b tb) (hm : behindInMarks op b = false) : PTU D (.Compare a [op] [b] pos) (uTest (uOp r' ta tb)) := by
  obtain ⟨x, p, s⟩ := ha; obtain ⟨y, q, r⟩ := hb
  exact ⟨_, fun X h => pt_cmpR (ho X h) (p X h) (q X h) hm, sim_test (sim_op hr s r)⟩
abbrev cLt : UR2 := uI0 fun i j => .bl (decide (i < j))
abbrev cLe : UR2 := uI0 fun i j => .bl (decide (i ≤ j))
abbrev cGt : UR2 := uI0 fun i j => .bl (decide (j < i))
abbrev cGe : UR2 := uI0 fun i j => .bl (decide (j ≤ i))
structure Cmp (D : Dat) (op : CmpOp) (r' : UR2) : Prop where
  ex : ∃ r : R2, (∀ X, Has D X → OpR X (compareOp op) r) ∧ SimR2 D.K r r'
theorem k_le : Cmp D .LtE cLe := ⟨⟨_, fun _ _ => op_le, sim_bool2⟩⟩
theorem k_gt : Cmp D .Gt cGt := ⟨⟨_, fun _ _ => op_gt, sim_bool2⟩⟩
theorem k_ge : Cmp D .GtE cGe := ⟨⟨_, fun _ _ => op_ge, sim_bool2⟩⟩
def inSt (neg : Bool) : UR2 := fun x y M Q => match x, y with
  | .str i, .str j => Q (.bl (if neg then !(!(Builtin.Str.occurrences j i 0 j.length 1).isEmpty) else !(Builtin.Str.occurrences j i 0 j.length 1).isEmpty)) M
  | _, _ => False
theorem k_inS : Cmp D .In (inSt false) := ⟨⟨_, fun _ _ => op_in_str, fun x y u w H M Q' rm ru rw h Q c => by
  cases u with
  | str i => cases w with
    | str j => exact ⟨i, j, ru.str, rw.str, c.here rm relU_bl h⟩
    | _ => exact h.elim
  | _ => exact h.elim⟩⟩
theorem ue_c {op : CmpOp} {r' : UR2} (k : Cmp D op r') (ha : PEU D a ta) (hb : PEU D b tb) (hm : behindInMarks op b = false := by first | exact nomark _ | with_unfolding_all rfl) : PEU D (.Compare a [op] [b] pos) (uOp r' ta tb) :=
  let ⟨_, h1, h2⟩ := k.ex; ue_cmp h1 h2 ha hb hm
theorem ut_c {op : CmpOp} {r' : UR2} (k : Cmp D op r') (ha : PEU D a ta) (hb : PEU D b tb) (hm : behindInMarks op b = false := by first | exact nomark _ | with_unfolding_all rfl) : PTU D (.Compare a [op] [b] pos) (uTest (uOp r' ta tb)) :=
  let ⟨_, h1, h2⟩ := k.ex; ut_cmp h1 h2 ha hb hm
theorem ue_ch {op op' : CmpOp} {r r' : UR2} (k : Cmp D op r) (k' : Cmp D op' r') (ha : PEU D a ta) (hb : PEU D b tb) (hc : PEU D c tc) (hm : lastMarks [op, op'] [b, c] = false := by with_unfolding_all rfl) :
    PEU D (.Compare a [op, op'] [b, c] pos) (uChain r r' ta tb tc) := by
  obtain ⟨x, p, s⟩ := ha; obtain ⟨y, q, r⟩ := hb; obtain ⟨z, u, v⟩ := hc
  obtain ⟨_, h1, h2⟩ := k.ex
  obtain ⟨_, h3, h4⟩ := k'.ex
  exact ⟨_, fun X h => pe_chain (h1 X h) (h3 X h) (p X h) (q X h) (u X h) hm, sim_chain h2 h4 s r v⟩
theorem ut_ch {op op' : CmpOp} {r r' : UR2} (k : Cmp D op r) (k' : Cmp D op' r') (ha : PEU D a ta) (hb : PEU D b tb) (hc : PEU D c tc) (hm : lastMarks [op, op'] [b, c] = false := by with_unfolding_all rfl) :
    PTU D (.Compare a [op, op'] [b, c] pos) (uTest (uChain r r' ta tb tc)) := by
  obtain ⟨x, p, s⟩ := ha; obtain ⟨y, q, r⟩ := hb; obtain ⟨z, u, v⟩ := hc
  obtain ⟨_, h1, h2⟩ := k.ex
  obtain ⟨_, h3, h4⟩ := k'.ex
  exact ⟨_, fun X h => pt_chain (h1 X h) (h3 X h) (p X h) (q X h) (u X h) hm, sim_test (sim_chain h2 h4 s r v)⟩
theorem ut_val (ha : PEU D a ta) (he : ∀ env whole, isTrue a env whole = (do let v ← whole; standAt a.pos; holding [v] (truthy v)) := by intro _ _; rfl) : PTU D a (uTru ta) := by
  obtain ⟨x, p, s⟩ := ha
  refine ⟨_, fun X h => ?_, sim_tru s⟩
  have := pt_truth (p X h) (he X.env)
  rw [h.K] at this
  exact this
theorem PWU.pt {t : UT} (h : PWU D a t) : PTU D a t := let ⟨_, p, s⟩ := h; ⟨_, fun X h => (p X h).pt, s⟩
variable {rest : List Expr} {tA tB' : UT}
theorem uw_and1 (ha : PTU D a tA) : PWU D (.BoolOp .And [a] pos) tA := let ⟨_, p, s⟩ := ha; ⟨_, fun X h => pw_and1 (p X h), s⟩
theorem uw_or1 (ha : PTU D a tA) : PWU D (.BoolOp .Or [a] pos) tA := let ⟨_, p, s⟩ := ha; ⟨_, fun X h => pw_or1 (p X h), s⟩
theorem uw_and (ha : PTU D a tA) (hb : PWU D (.BoolOp .And (b :: rest) pos) tB') : PWU D (.BoolOp .And (a :: b :: rest) pos) (uAnd tA tB') := let ⟨_, p, s⟩ := ha; let ⟨_, q, r⟩ := hb; ⟨_, fun X h => pw_and (p X h) (q X h), sim_and s r⟩
theorem uw_or (ha : PTU D a tA) (hb : PWU D (.BoolOp .Or (b :: rest) pos) tB') : PWU D (.BoolOp .Or (a :: b :: rest) pos) (uOr tA tB') := let ⟨_, p, s⟩ := ha; let ⟨_, q, r⟩ := hb; ⟨_, fun X h => pw_or (p X h) (q X h), sim_or s r⟩
theorem ut_not (ha : PTU D a tA) : PTU D (.UnaryOp .Not a pos) (uNot tA) := let ⟨_, p, s⟩ := ha; ⟨_, fun X h => pt_not (p X h), sim_not s⟩
theorem ue_one {op} (ha : PEU D a ta) : PEU D (.BoolOp op [a] pos) ta := let ⟨_, p, s⟩ := ha; ⟨_, fun X h => pe_one (p X h), s⟩
theorem ue_and (ha : PEU D a ta) (hb : PEU D (.BoolOp .And (b :: rest) pos) tb) : PEU D (.BoolOp .And (a :: b :: rest) pos) (uAndV ta tb) := let ⟨_, p, s⟩ := ha; let ⟨_, q, r⟩ := hb; ⟨_, fun X h => pe_and (p X h) (q X h), sim_andV s r⟩
theorem ue_or (ha : PEU D a ta) (hb : PEU D (.BoolOp .Or (b :: rest) pos) tb) : PEU D (.BoolOp .Or (a :: b :: rest) pos) (uOrV ta tb) := let ⟨_, p, s⟩ := ha; let ⟨_, q, r⟩ := hb; ⟨_, fun X h => pe_or (p X h) (q X h), sim_orV s r⟩
theorem ue_not (ha : PEU D a ta) : PEU D (.UnaryOp .Not a pos) (uNotV ta) := let ⟨_, p, s⟩ := ha; ⟨_, fun X h => pe_not (p X h), sim_notV s⟩
theorem ue_if (hc : PTU D c tA) (ha : PEU D a ta) (hb : PEU D b tb) : PEU D (.IfExp c a b pos) (uIf tA ta tb) := let ⟨_, p, s⟩ := ha; let ⟨_, q, r⟩ := hb; let ⟨_, u, v⟩ := hc; ⟨_, fun X h => pe_ifExp (u X h) (p X h) (q X h), sim_if v s r⟩
variable {es : List Expr} {tas : UA}
theorem ua_nil : PAU D [] uNil := ⟨_, fun X h => pa_nil, sim_nil⟩
theorem ua_cons (ha : PEU D e te) (hr : PAU D es tas) (hs : ∀ env, starEach (e :: es) env = (false, eval e env) :: starEach es env := by intro _; rfl) : PAU D (e :: es) (uCons te tas) := let ⟨_, p, s⟩ := ha; let ⟨_, q, r⟩ := hr; ⟨_, fun X h => pa_cons (p X h) (q X h) (hs _), sim_cons s r⟩
theorem ue_tup {x1} (h : PAU D es tas) : PEU D (.Tuple es x1 pos) (uTup tas) := let ⟨_, p, s⟩ := h; ⟨_, fun X h => pe_tup (p X h), sim_tup s⟩
theorem ue_lst (own : Bool := false) (h : PAU D es tas) : PEU D (.List es pos) (uLst own tas) := let ⟨_, p, s⟩ := h; ⟨_, fun X h => pe_lst (p X h), sim_lst s⟩
theorem ue_ix (ha : PEU D a ta) (hb : PEU D b tb) (hs : PlainIx b := by intro _ _; rfl) : PEU D (.Subscript a b pos) (uOp uIx ta tb) := by
  obtain ⟨x, p, s⟩ := ha; obtain ⟨y, q, r⟩ := hb
  refine ⟨_, fun X h => ?_, sim_op sim_ix s r⟩
  have := pe_ix (pos := pos) ix_seq (p X h) (q X h) hs
  rw [h.K] at this
  exact this
theorem uo_none : POU D none uNoPart := ⟨_, fun X h => po_none, sim_noPart⟩
theorem uo_some (h : PEU D e te) : POU D (some e) (uPart te) := let ⟨_, p, s⟩ := h; ⟨_, fun X h => po_some (p X h), sim_part s⟩
variable {st : Stmt} {sts body body2 : List Stmt} {t u : US}
theorem uss_nil : PSsU D [] uNext := ⟨_, fun X h => pss_nil, sim_next⟩
theorem uss_cons (h1 : PSU D st t) (h2 : PSsU D sts u) : PSsU D (st :: sts) (uSeq t u) := let ⟨_, p, s⟩ := h1; let ⟨_, q, r⟩ := h2; ⟨_, fun X h => pss_cons (p X h) (q X h), sim_seq s r⟩
theorem uss_one (h1 : PSU D st t) : PSsU D [st] t := let ⟨_, p, s⟩ := h1; ⟨_, fun X h => pss_one (p X h), s⟩
theorem us_expr (he : PEU D e te) (hs : ∀ env, swapsWith e none pos.line env = pure false := by intro _; rfl) : PSU D (.Expr e pos) (uDrop te) := let ⟨_, p, s⟩ := he; ⟨_, fun X h => ps_expr (p X h) (hs _), sim_drop s⟩
theorem us_ret (he : PEU D e te) : PSU D (.Return (some e) pos) (uRet te) := let ⟨_, p, s⟩ := he; ⟨_, fun X h => ps_ret (p X h), sim_ret s⟩
theorem us_if {c : Expr} {tc : UT} (hc : PTU D c tc) (ha : PSsU D body t) (hb : PSsU D body2 u) : PSU D (.If c body body2 pos) (uIfS tc t u) := let ⟨_, p, s⟩ := ha; let ⟨_, q, r⟩ := hb; let ⟨_, x, y⟩ := hc; ⟨_, fun X h => ps_if (x X h) (p X h) (q X h), sim_ifS y s r⟩
theorem us_while {c : Expr} {tc : UT} (hc : PTU D c tc) (hb : PSsU D body t) : PSU D (.While c body [] pos) (uWhile tc t) := by
  obtain ⟨_, p, s⟩ := hb; obtain ⟨_, x, y⟩ := hc
  exact ⟨_, fun X h => ps_while (by rw [h.xe]; exact PassesOwn.never) (x X h) (p X h), sim_while y s⟩
variable {k : Nat} {g : UG} {gs : UGs}
theorem ug_name (i : Nat) {x : Str} (hN : D.N.Nodup) (hi : D.N[i]? = some x := by rfl) (hx : Loc D.sc x := by first | exact Or.inl rfl | exact Or.inr rfl) (hik : i < k := by decide) (hf : D.fn = true ∨ D.sc.names.lookup x = some .local := by first | exact .inl rfl | exact .inr rfl) : PGU D k (.Name x pos) (hName i) :=
  ⟨_, fun X h => pg_name (i := i) (by rw [h.N]; exact hN) (by rw [h.N]; exact hi) (by rw [h.sc]; exact hx) (by rcases hf with z | z; exact .inl (h.fn z x); exact .inr (by rw [h.sc]; exact z)), sim_gname i, gk_name hik, m_name⟩
theorem ugs_nil : PGsU D k [] hNil := ⟨_, fun X h => pgs_nil, sim_gnil, gk_nil, m_nil⟩
theorem ugs_cons (h1 : PGU D k e g) (h2 : PGsU D k es gs) (hs : ∀ env, (assignEach (e :: es) env).map (·.2) = assign e env :: (assignEach es env).map (·.2) := by intro _; rfl) : PGsU D k (e :: es) (hCons g gs) :=
  let ⟨_, p, s, x, y⟩ := h1; let ⟨_, q, r, z, w⟩ := h2; ⟨_, fun X h => pgs_cons (p X h) (q X h) (hs _), sim_gcons s r, gk_cons x z w y, m_cons y w⟩
theorem ug_tup {kk : Nat} {n : Nat} (h : PGsU D k es gs) (hn : ∀ env, (assignEach es env).length = n := by intro _; rfl) (hst : ∀ env, (assignEach es env).findIdx? (·.1) = none := by intro _; rfl) : PGU D k (.Tuple es kk pos) (hTup n gs) := by
  obtain ⟨_, p, s, x, y⟩ := h
  refine ⟨_, fun X h => ?_, sim_gtup s, gk_tup x, m_tup y⟩
  have := pg_tup (pos := pos) (k := kk) h.calm (p X h) (hn _) (hst _)
  rw [h.K] at this
  exact this
theorem us_asg {tg : Expr} (he : PEU D e te) (hg : PGU D k tg g) (hs : ∀ env, swapsWithSole [tg] e pos.line env = pure false := by intro _; rfl) (hw : ∀ env, swappedStores [tg] e env = pure none := by intro _; rfl)
    (h1 : ∀ env, (assignEach [tg] env).map (·.2) = [assign tg env] := by intro _; rfl) : PSU D (.Assign [tg] e pos) (uAsg te g) := let ⟨_, p, s⟩ := he; let ⟨_, q, r, _⟩ := hg; ⟨_, fun X h => ps_asg (p X h) (q X h) (hs _) (hw _) (h1 _), sim_asg s r⟩
theorem us_set (i : Nat) {x : Str} {pos' : Pos} (hN : D.N.Nodup) (he : PEU D e te) (hi : D.N[i]? = some x := by rfl) (hx : Loc D.sc x := by first | exact Or.inl rfl | exact Or.inr rfl) (hs : ∀ env, swapsWith e (some (.Name x pos')) pos.line env = pure false := by intro _; rfl)
    (hf : D.fn = true ∨ D.sc.names.lookup x = some .local := by first | exact .inl rfl | exact .inr rfl) : PSU D (.Assign [.Name x pos'] e pos) (uAsg te (hName i)) := by
  obtain ⟨_, p, s⟩ := he
  exact ⟨_, fun X h => ps_set (i := i) (by rw [h.N]; exact hN) (by rw [h.N]; exact hi) (by rw [h.sc]; exact hx) (p X h) (hs _) (by rcases hf with z | z; exact .inl (h.fn z x); exact .inr (by rw [h.sc]; exact z)), sim_asg s (sim_gname i)⟩
variable {tg iter : Expr} {wi : UI}
theorem ui_seq (h : PEU D e te) : PIU D tg e (uIter te) := by
  obtain ⟨_, p, s⟩ := h
  refine ⟨_, fun X h => ?_, sim_iter s⟩
  have := pi_seq (tg := tg) (p X h)
  rw [h.K] at this
  exact this
theorem ui_rng1 {p : Pos} {ta : UA} (hm : D.mg "range" = none) (ha : PAU D [a] ta) (hg : D.sc.names.lookup ("range" : Str) = some .globalImplicit := by rfl) (hs : ∀ env, starEach [a] env = [(false, eval a env)] := by intro _; rfl) : PIU D tg (.Call (.Name "range" p) [a] [] pos) (uRng1 ta) := by
  obtain ⟨_, q, s⟩ := ha
  exact ⟨_, fun X h => pi_range1 (by show X.env.scope.names.lookup _ = _; rw [h.sc]; exact hg) (by rw [h.mg]; exact hm) (q X h) (hs _), sim_rng1 s⟩
theorem us_for (hi : PIU D tg iter wi) (hg : PGU D k tg g) (hb : PSsU D body t) (hs : ∀ env x, foldedSetIterable iter env x = pure x := by intro _ _; rfl) : PSU D (.For tg iter body [] pos) (uFor wi g t) := by
  obtain ⟨_, p, s⟩ := hi; obtain ⟨_, q, r, _⟩ := hg; obtain ⟨_, x, y⟩ := hb
  exact ⟨_, fun X h => ps_for (by rw [h.xe]; exact PassesOwn.never) h.calm (p X h) (q X h) (x X h) (hs _), sim_for s r y⟩
end
end U2
namespace U2
open PySem PySem.Spec PyProof.Rows L2
structure Callee (P : Program) (w : World) (K : PySem.W.Frag) (mg : Str → Option Value) (base : Heap) (j : Nat) (x : Str) (sp : USp) (dus : List U) : Prop where
  ex : ∃ f fd ps dvs ds, FnOk P w K mg base CX0 j f fd ps (liftSp K sp) ∧ mg x = some (.ref f) ∧ PySem.W.keepIn K (.ref f) = true ∧ Binds K fd ps ds ∧ Vals dvs ds ∧ ∀ H M, RelUs K H M dus dvs
abbrev Cal (D : Dat) := Callee D.prog D.w D.K D.mg D.base
section
variable {D : Dat} {a b c e o : Expr} {ta tb tc te : UE} {pos p : Pos} {es : List Expr} {tas : UA} {x : Str}
theorem ue_call {sp : USp} {dus : List U} {j : Nat} (F : Cal D j x sp dus) (ha : PAU D (e :: es) tas) (hj : j ≤ D.k := by first | exact Nat.le_refl _ | (dsimp only; omega) | omega | (dsimp only [compD]; omega)) (hg : D.sc.names.lookup x = some .globalImplicit := by rfl) (hdb : (x == ("__debug__" : Str)) = false := by decide)
    (he : ∀ env, starEach (e :: es) env = (false, eval e env) :: starEach es env := by intro _; rfl) (hpl : ∀ env, (backTo pos (starEach es env)).any (·.1) = false := by intro _; rfl) : PEU D (.Call (.Name x p) (e :: es) [] pos) (uCall sp dus tas) := by
  obtain ⟨f, fd, ps, dvs, ds, F, hm, kp, hb, hd, hr⟩ := F.ex
  obtain ⟨_, q, s⟩ := ha
  refine ⟨tCall (liftSp D.K sp) dvs E0 _, fun X h => ?_, sim_call hr s⟩
  have F' : FnOk X.prog X.w X.K X.mg X.base CX0 j f fd ps (liftSp D.K sp) := by rw [h.prog, h.w, h.K, h.mg, h.base]; exact F
  exact pe_call F' (h.room.mono hj) (by show X.env.scope.names.lookup x = _; rw [h.sc]; exact hg) (by rw [h.mg]; exact hm) (by rw [h.K]; exact kp) (by rw [h.K]; exact hb) hd pass0 (q X h) hdb (he _) (hpl _)
structure Blt (D : Dat) (f : Value) (r' : List U → MHp → UK → Prop) : Prop where
  ex : ∃ r, (∀ X, Has D X → CallR X f r) ∧ SimCl D.K r r'
theorem ue_b {id : String} {r' : List U → MHp → UK → Prop} (k : Blt D (.builtin id) r') (hm : D.mg x = none) (ha : PAU D (e :: es) tas) (hv : bootBuiltins x = some (.builtin id) := by kernel_rfl) (hg : D.sc.names.lookup x = some .globalImplicit := by rfl) (hn : x ≠ "__name__" := by decide) (hdb : (x == ("__debug__" : Str)) = false := by decide)
    (he : ∀ env, starEach (e :: es) env = (false, eval e env) :: starEach es env := by intro _; rfl) (hpl : ∀ env, (backTo pos (starEach es env)).any (·.1) = false := by intro _; rfl) : PEU D (.Call (.Name x p) (e :: es) [] pos) (uCB r' tas) := by
  obtain ⟨r, h1, h2⟩ := k.ex
  obtain ⟨_, q, s⟩ := ha
  exact ⟨_, fun X h => pe_callB (h1 X h) (by show X.env.scope.names.lookup x = _; rw [h.sc]; exact hg) (by rw [h.mg]; exact hm) hv (q X h) hn hdb (he _) (hpl _), sim_cb h2 s⟩
theorem ue_t {T : String} {r' : List U → MHp → UK → Prop} (k : Blt D (.type T) r') (hm : D.mg x = none) (ha : PAU D (e :: es) tas) (hv : bootBuiltins x = some (.type T) := by kernel_rfl) (hg : D.sc.names.lookup x = some .globalImplicit := by rfl) (hn : x ≠ "__name__" := by decide) (hdb : (x == ("__debug__" : Str)) = false := by decide)
    (he : ∀ env, starEach (e :: es) env = (false, eval e env) :: starEach es env := by intro _; rfl) (hpl : ∀ env, (backTo pos (starEach es env)).any (·.1) = false := by intro _; rfl) : PEU D (.Call (.Name x p) (e :: es) [] pos) (uCB r' tas) := by
  obtain ⟨r, h1, h2⟩ := k.ex
  obtain ⟨_, q, s⟩ := ha
  exact ⟨_, fun X h => pe_callTy (h1 X h) (by show X.env.scope.names.lookup x = _; rw [h.sc]; exact hg) (by rw [h.mg]; exact hm) hv (q X h) hn hdb (he _) (hpl _), sim_cb h2 s⟩
theorem b_len : Blt D (.builtin "len") bLen := ⟨⟨_, fun X h => by have := call_len (X := X); rw [h.K] at this; exact this, sim_len⟩⟩
theorem b_abs : Blt D (.builtin "abs") (bInt1 (fun _ => True) fun i => .int (if i < 0 then -i else i)) := ⟨⟨_, fun X h => call_abs, sim_abs⟩⟩
theorem b_str : Blt D (.type "str") (bInt1 (fun i => i.natAbs.log2 < 1920) fun i => .str (toString i)) := ⟨⟨_, fun X h => call_str_int, sim_strInt⟩⟩
theorem b_list (own : Bool := false) : Blt D (.type "list") (bList own) := ⟨⟨_, fun X h => by have := call_list_of (X := X); rw [h.K] at this; exact this, sim_list⟩⟩
theorem b_tuple : Blt D (.type "tuple") bTuple := ⟨⟨_, fun X h => by have := call_tuple_of (X := X); rw [h.K] at this; exact this, sim_tuple⟩⟩
def rIsi (K : PySem.W.Frag) : List V → Hp → VK → Prop := fun xs H Q => ∃ x T t b, xs = [x, .ty T] ∧ (TyOf K H x (.type t) ∨ (t = "tuple" ∧ ∃ p vs ob, x = .ref p ∧ H p = some (.frz ob (.tup vs))) ∨ (t = "tuple" ∧ ∃ p vs, x = .ref p ∧ KT K p vs) ∨ (t = "list" ∧ ∃ p vs, x = .ref p ∧ KL K p vs) ∨ (t = "dict" ∧ ∃ p ob u, x = .ref p ∧ H p = some (.frz ob u) ∧ isDk u = true)) ∧ PySem.W.kitOne K (.type t) (.type T) = some b ∧ Q (.bl b) H
theorem call_isi {X : Cx} : CallR X (.builtin "isinstance") (rIsi X.K) := by
  intro pins s σ H xs us Q I r h
  obtain ⟨x, T, t, b, rfl, ty, e, q⟩ := h
  obtain ⟨u, w', rfl, ru, rw'⟩ := vals2 r
  cases rw'
  rcases ty with ty | ⟨rfl, p, vs, ob, rfl, m⟩ | ⟨rfl, p, vs, rfl, o, its, n, hk, hc, hd, _, _⟩ | ⟨rfl, p, vs, rfl, o, its, n, hk, hc, _, hd, _, _⟩ | ⟨rfl, p, ob, du, rfl, m, dk⟩
  · exact isinst_ok I ru ty e fun tk => ⟨.bl b, H, I.tok tk, rfl, q⟩
  · cases ru
    obtain ⟨_, _, _, _, o, h1, h2, _⟩ := (show ObjOk X.prog X.w H s.heap p (.frz ob (.tup vs)) from I.hok p _ m)
    exact PySem.W.kia_one PySem.W.kitx_tuple I.kIn ⟨o, h1, h2⟩ e (fun z => nomatch z) fun tk => ⟨.bl b, H, I.tok tk, rfl, q⟩
  · cases ru
    exact PySem.W.kia_one PySem.W.kitx_tuple I.kIn ⟨o, I.kIn _ _ hk, hc⟩ e (fun z => nomatch z) fun tk => ⟨.bl b, H, I.tok tk, rfl, q⟩
  · cases ru
    exact PySem.W.kia_one PySem.W.kitx_list I.kIn ⟨o, I.kIn _ _ hk, hc⟩ e (fun z => nomatch z) fun tk => ⟨.bl b, H, I.tok tk, rfl, q⟩
  · cases ru
    obtain ⟨hg, ho⟩ := (show ObjOk X.prog X.w H s.heap p (.frz ob du) from I.hok p _ m)
    have hx : ∃ o, s.heap.get? p = some o ∧ o.cls = .type "dict" := by
      cases du with
      | dK kvs => obtain ⟨_, _, _, _, o, _, _, h1, h2, _⟩ := ho; exact ⟨o, h1, h2.1⟩
      | dT kvs => obtain ⟨_, _, _, _, o, _, _, h1, h2, _⟩ := ho; exact ⟨o, h1, h2.1⟩
      | _ => cases dk
    exact PySem.W.kia_one PySem.W.kitx_dict I.kIn hx e (fun z => nomatch z) fun tk => ⟨.bl b, H, I.tok tk, rfl, q⟩
def isiTab : List (String × String × Bool) := [("NoneType", "bool", false), ("NoneType", "int", false), ("NoneType", "str", false), ("NoneType", "tuple", false), ("NoneType", "list", false), ("NoneType", "dict", false), ("bool", "bool", true), ("bool", "int", true), ("bool", "str", false), ("bool", "tuple", false), ("bool", "list", false), ("bool", "dict", false), ("int", "bool", false), ("int", "int", true), ("int", "str", false), ("int", "tuple", false), ("int", "list", false), ("int", "dict", false), ("str", "bool", false), ("str", "int", false), ("str", "str", true), ("str", "tuple", false), ("str", "list", false), ("str", "dict", false), ("tuple", "bool", false), ("tuple", "int", false), ("tuple", "str", false), ("tuple", "tuple", true), ("tuple", "list", false), ("tuple", "dict", false), ("list", "bool", false), ("list", "int", false), ("list", "str", false), ("list", "tuple", false), ("list", "list", true), ("list", "dict", false), ("dict", "bool", false), ("dict", "int", false), ("dict", "str", false), ("dict", "tuple", false), ("dict", "list", false), ("dict", "dict", true)]
theorem isiTab_ok {K : PySem.W.Frag} : ∀ r ∈ isiTab, PySem.W.kitOne K (.type r.1) (.type r.2.1) = some r.2.2 := by
  intro r hr
  simp only [isiTab, List.mem_cons, List.not_mem_nil, or_false] at hr
  rcases hr with rfl | rfl | rfl | rfl | rfl | rfl | rfl | rfl | rfl | rfl | rfl | rfl | rfl | rfl | rfl | rfl | rfl | rfl | rfl | rfl | rfl | rfl | rfl | rfl | rfl | rfl | rfl | rfl | rfl | rfl | rfl | rfl | rfl | rfl | rfl | rfl | rfl | rfl | rfl | rfl | rfl | rfl <;> first | rfl | kernel_rfl
def under2 (t T : String) : Option Bool := (isiTab.find? fun r => r.1 == t && r.2.1 == T).map (·.2.2)
theorem under2_ok {K : PySem.W.Frag} {t T : String} {b : Bool} (h : under2 t T = some b) : PySem.W.kitOne K (.type t) (.type T) = some b := by
  unfold under2 at h
  cases e : isiTab.find? fun r => r.1 == t && r.2.1 == T with
  | none => rw [e] at h; cases h
  | some r =>
    rw [e] at h
    cases h
    have h1 := List.find?_some e
    have h2 := isiTab_ok (K := K) r (List.mem_of_find?_eq_some e)
    simp only [Bool.and_eq_true, beq_iff_eq] at h1
    rw [h1.1, h1.2] at h2
    exact h2
def bIsi2 : List U → MHp → UK → Prop := fun us M Q => match us with
  | [x, .ty T] => match typU M x with
    | some t => match under2 t T with
      | some b => Q (.bl b) M
      | none => False
    | none => False
  | _ => False
theorem sim_isi {K : PySem.W.Frag} : SimCl K (rIsi K) bIsi2 := fun xs us H M Q' rm rus h Q c => by
  unfold bIsi2 at h
  split at h
  · rename_i x T
    split at h
    · rename_i t e
      split at h
      · rename_i b e2
        obtain ⟨v, z, rfl, a1, a2⟩ := rus.two
        cases a2.ty
        refine ⟨v, T, t, b, rfl, ?_, under2_ok e2, c.here rm relU_bl h⟩
        cases x with
        | non => cases a1.non; cases e; exact .inl .non
        | bl y => cases a1.bl; cases e; exact .inl (.bl y)
        | int y => cases a1.int; cases e; exact .inl (.int y)
        | str y => cases a1.str; cases e; exact .inl (.str y)
        | ty y => cases e
        | tup y =>
          cases e
          simp only [RelU] at a1
          obtain ⟨a, vs, rfl, m, r⟩ := a1
          exact .inl (.tup m.2)
        | lst y =>
          cases e
          simp only [RelU] at a1
          obtain ⟨a, vs, rfl, m, r⟩ := a1
          rcases m with ⟨_, m | ⟨ob, m⟩⟩ | k
          · exact .inl (.lst m)
          · exact .inl (.frz m)
          · exact .inr (.inr (.inr (.inl ⟨rfl, a, vs, rfl, k⟩)))
        | dic ks tk y =>
          cases e
          simp only [RelU] at a1
          obtain ⟨a, vs, rfl, m, r, _⟩ := a1
          cases tk with
          | true =>
            obtain ⟨ws, h1 | ⟨ob, h1⟩, _⟩ := r
            · exact .inl (.dT h1)
            · exact .inr (.inr (.inr (.inr ⟨rfl, a, ob, _, rfl, h1, rfl⟩)))
          | false =>
            obtain ⟨ws, h1 | ⟨ob, h1⟩, _⟩ := r
            · exact .inl (.dK h1)
            · exact .inr (.inr (.inr (.inr ⟨rfl, a, ob, _, rfl, h1, rfl⟩)))
        | ref y =>
          cases a1.ref
          simp only [typU] at e
          split at e
          · rename_i ws e3
            cases e
            obtain ⟨vs, h1, _⟩ := rm y _ e3
            exact .inl (.lst h1)
          · rename_i ws e4
            cases e
            obtain ⟨vs, h1, _⟩ := rm y _ e4; exact .inl (.dK h1)
          · rename_i ws e4
            cases e
            obtain ⟨vs, h1, _⟩ := rm y _ e4; exact .inl (.dT h1)
          · cases e
      · exact h.elim
    · exact h.elim
  · exact h.elim
theorem b_isi : Blt D (.builtin "isinstance") bIsi2 := ⟨⟨_, fun X h => by have := call_isi (X := X); rw [h.K] at this; exact this, sim_isi⟩⟩
def blsU : List U → Option (List Bool)
  | [] => some []
  | .bl b :: r => (blsU r).map (b :: ·)
  | _ => none
def bAll : List U → MHp → UK → Prop := fun us M Q => match us with
  | [x] => match view M x with
    | .lst ws => match blsU ws with
      | some bs => Q (.bl (bs.all fun b => b)) M
      | none => False
    | _ => False
  | _ => False
theorem blsU_rel {K : PySem.W.Frag} {H : Hp} {M : MHp} : ∀ {us : List U} {vs : List V} {bs : List Bool}, RelUs K H M us vs → blsU us = some bs → vs = bs.map V.bl
  | [], _, _, r, h => by cases h; exact r.inv_nil
  | u :: us, _, bs, r, h => by
    obtain ⟨v, vs', rfl, a, b⟩ := r.inv_cons
    cases u with
    | bl y =>
      simp only [blsU] at h
      cases e : blsU us with
      | none => rw [e] at h; cases h
      | some cs =>
        rw [e] at h
        cases h
        rw [blsU_rel b e, a.bl]; rfl
    | _ => cases h
theorem b_all : Blt D (.builtin "all") bAll := ⟨⟨_, fun X h => by have := call_allB (X := X) h.calm; rw [h.K] at this; exact this, fun xs us H M Q' rm rus h Q c => by
  unfold bAll at h
  split at h
  · rename_i x
    obtain ⟨v, rfl, a1⟩ := rus.one
    split at h
    · rename_i ws e
      split at h
      · rename_i bs e2
        obtain ⟨b, zvs, rfl, s2, r2⟩ := view_lst rm a1 e
        rw [blsU_rel r2 e2] at s2
        exact ⟨b, bs, rfl, s2, c.here rm relU_bl h⟩
      · exact h.elim
    · exact h.elim
  · exact h.elim⟩⟩
theorem ue_append {apos : Pos} (ho : PEU D o ta) (ha : PAU D [e] tas) (hbase : ∀ env, attributeBase o "append" env (eval o env) = eval o env := by intro _; rfl)
    (hfew : ∀ env, ((backTo pos (starEach [e] env)).all (fun x => !x.1) && (backToKw pos (keywordEach [] env)).all (fun x => x.1.isSome) && decide ([e].length + ([] : List Keyword).length + (if ([] : List Keyword).isEmpty then 0 else 1) < 30)) = true := by intro _; rfl)
    (hline : (apos.endLine == pos.line) = true := by rfl) (hs : ∀ env, starEach [e] env = [(false, eval e env)] := by intro _; rfl) : PEU D (.Call (.Attribute o "append" apos) [e] [] pos) (uBM mAppend ta tas) := by
  obtain ⟨_, p, s⟩ := ho; obtain ⟨_, q, r⟩ := ha
  refine ⟨_, fun X h => ?_, sim_bm sim_append s r⟩
  have := pe_bm (cpos := pos) (apos := apos) PySem.F.plainAttrs_list PySem.F.slot_list_append PySem.F.type_list_append mt_append (p X h) (q X h) (hbase _) (hfew _) hline (hs _) (by rfl)
  rw [h.K] at this
  exact this
theorem ue_pop {apos : Pos} (ho : PEU D o ta) (hbase : ∀ env, attributeBase o "pop" env (eval o env) = eval o env := by intro _; rfl)
    (hline : (apos.endLine == pos.line) = true := by rfl) : PEU D (.Call (.Attribute o "pop" apos) [] [] pos) (uBM0 mPop ta) := by
  obtain ⟨_, p, s⟩ := ho
  refine ⟨_, fun X h => ?_, sim_bm0 sim_pop s⟩
  have := pe_bm0 (cpos := pos) (apos := apos) PySem.F.plainAttrs_list PySem.F.slot_list_pop PySem.F.type_list_pop mt_pop (p X h) (hbase _) hline
  rw [h.K] at this
  exact this
def relabelSc (scope sc : Scope) : Scope :=
  { scope with names := scope.names.map fun (n, k) => if (k == .free && sc.kind == .function && sc.names.lookup n == some .cell) then (n, .cell) else (n, k) }
def compD (D : Dat) (N : List Str) (scope : Scope) : Dat := { D with N := N, sc := relabelSc scope D.sc, fn := false, cod := .none }
theorem Has.comp {X : Cx} (h : Has D X) (N : List Str) (scope : Scope) (cl : List (Str × Addr)) (C : Addr) (s : Shared) (H : Hp) (fp : List Addr) : Has (compD D N scope) (compCx X N scope cl C s H fp) :=
  ⟨h.prog, h.w, h.K, h.mg, h.base, rfl, by show relabelSc scope X.env.scope = relabelSc scope D.sc; rw [h.sc], h.room, h.calm, rfl, (fun z => by cases z), (fun z => absurd rfl z), (fun z => by cases z)⟩
theorem uif_nil : PIfU D [] (fun _ M Q => Q true M) := ⟨tYes, fun X h => pif_nil, fun σ τ H M Q' rs rm q Q c => c true M H (Stp.refl _ _) rm q⟩
theorem uif_one {t : UT} (h : PTU D c t) : PIfU D [c] t := let ⟨_, p, s⟩ := h; ⟨_, fun X h => pif_one (p X h), s⟩
theorem ue_comp (own : Bool) (N : List Str) (k : Nat) (ix : List Nat) {scope : Scope} {tg iter elt : Expr} {ifs : List Expr} {wi : UI} {g : UG} {tcs : UT} (hi : PIU D tg iter wi) (hg : PGU (compD D N scope) k tg g) (hif : PIfU (compD D N scope) ifs tcs) (he : PEU (compD D N scope) elt te)
    (hk : scope.kind = .function := by rfl) (hcell : ∀ y ∈ scope.names, y.2 ≠ .cell := by first | decide +kernel | (dsimp only; decide +kernel) | (dsimp only [compD, relabelSc]; decide +kernel)) (hnames : ∀ y ∈ scope.names, y.2 = .local → scope.names.lookup y.1 = some .local := by first | decide +kernel | (dsimp only; decide +kernel) | (dsimp only [compD, relabelSc]; decide +kernel))
    (hfree : ∀ y ∈ scope.names, y.2 = .free → D.sc.names.lookup y.1 = some .cell ∨ D.sc.names.lookup y.1 = some .free := by first | decide +kernel | (dsimp only; decide +kernel) | (dsimp only [compD, relabelSc]; decide +kernel)) (hone : ∀ y ∈ scope.names, y.2 = .free → scope.names.lookup y.1 = some .free := by first | decide +kernel | (dsimp only; decide +kernel) | (dsimp only [compD, relabelSc]; decide +kernel))
    (hN : ix.map (fun i => D.N[i]?) = (N.drop k).map some := by rfl) (hcap : ∀ x ∈ N.drop k, scope.names.lookup x = some .free := by first | decide +kernel | (dsimp only; decide +kernel) | (dsimp only [compD, relabelSc]; decide +kernel)) (hlen : N.length = k + ix.length := by rfl)
    (hs : ∀ env x, foldedSetIterable iter env x = pure x := by intro _ _; rfl) : PEU D (.ListComp elt [⟨tg, iter, ifs, 0⟩] scope pos) (uComp own k ix wi g tcs te) := by
  obtain ⟨_, p1, s1⟩ := hi; obtain ⟨_, p2, s2, gk, _⟩ := hg; obtain ⟨_, p3, s3⟩ := hif; obtain ⟨_, p4, s4⟩ := he
  have hN' : ∀ (j : Nat) x, N[k + j]? = some x → ∃ i, ix[j]? = some i ∧ D.N[i]? = some x := fun j x e => by
    have e1 : ((N.drop k).map some)[j]? = some (some x) := by rw [List.getElem?_map, List.getElem?_drop, e]; rfl
    rw [← hN, List.getElem?_map] at e1
    cases q : ix[j]? with
    | none => rw [q] at e1; cases e1
    | some i => rw [q] at e1; exact ⟨i, rfl, Option.some.inj e1⟩
  have hcap' : ∀ (j : Nat) x, N[k + j]? = some x → scope.names.lookup x = some .free := fun j x e => hcap x (List.mem_of_getElem? (i := j) (by rw [List.getElem?_drop]; exact e))
  refine ⟨_, fun X h => pe_comp (N := N) (k := k) (ix := ix) h.calm (p1 X h) gk hk hcell hnames (fun y hy e => by show X.env.scope.names.lookup y.1 = _ ∨ X.env.scope.names.lookup y.1 = _; rw [h.sc]; exact hfree y hy e) hone (fun j x e => by rw [h.N]; exact hN' j x e) hcap' hlen
    (fun cl C s H fp => p2 _ (h.comp N scope cl C s H fp)) (fun cl C s H fp => p3 _ (h.comp N scope cl C s H fp)) (fun cl C s H fp => p4 _ (h.comp N scope cl C s H fp)) (hs _), sim_comp s1 s2 s3 s4⟩
theorem swaps_of {elt : Expr} {gens : List Comprehension} {scope : Scope} {pos py : Pos} {y : Str} {line : Nat} {env : Env} (h1 : env.scope.kind = .function) (h2 : env.scope.names.lookup y = some .local) (h3 : (py.line == pos.line && !(scope.names.any fun (n, k) => n == y && (k == .local || k == .cell))) = true) :
    swapsWith (.ListComp elt gens scope pos) (some (.Name y py)) line env = pure true := by
  have e1 : (env.blockKind == .function) = true := by first | (unfold Env.blockKind; rw [h1]; rfl) | (unfold Env.blockKind; simp [h1])
  have e2 : (env.kindOf y == some .local) = true := by unfold Env.kindOf; rw [h2]; rfl
  show pure (env.blockKind == .function && env.kindOf y == some .local && py.line == pos.line && !(scope.names.any fun (n, k) => n == y && (k == .local || k == .cell))) = pure true
  rw [e1, e2]
  simp only [Bool.and_eq_true] at h3
  rw [h3.1, h3.2]
  rfl
theorem us_setC (i : Nat) {y : Str} {spos py : Pos} (hNd : D.N.Nodup) (own : Bool) (N : List Str) (k : Nat) (ix : List Nat) {scope : Scope} {tg iter elt : Expr} {ifs : List Expr} {wi : UI} {g : UG} {tcs : UT} (hi : PIU D tg iter wi) (hg : PGU (compD D N scope) k tg g) (hif : PIfU (compD D N scope) ifs tcs) (he : PEU (compD D N scope) elt te)
    (hk : scope.kind = .function := by rfl) (hcell : ∀ y ∈ scope.names, y.2 ≠ .cell := by first | decide +kernel | (dsimp only; decide +kernel) | (dsimp only [compD, relabelSc]; decide +kernel)) (hnames : ∀ y ∈ scope.names, y.2 = .local → scope.names.lookup y.1 = some .local := by first | decide +kernel | (dsimp only; decide +kernel) | (dsimp only [compD, relabelSc]; decide +kernel))
    (hfree : ∀ y ∈ scope.names, y.2 = .free → D.sc.names.lookup y.1 = some .cell ∨ D.sc.names.lookup y.1 = some .free := by first | decide +kernel | (dsimp only; decide +kernel) | (dsimp only [compD, relabelSc]; decide +kernel)) (hone : ∀ y ∈ scope.names, y.2 = .free → scope.names.lookup y.1 = some .free := by first | decide +kernel | (dsimp only; decide +kernel) | (dsimp only [compD, relabelSc]; decide +kernel))
    (hN : ix.map (fun i => D.N[i]?) = (N.drop k).map some := by rfl) (hcap : ∀ x ∈ N.drop k, scope.names.lookup x = some .free := by first | decide +kernel | (dsimp only; decide +kernel) | (dsimp only [compD, relabelSc]; decide +kernel)) (hlen : N.length = k + ix.length := by rfl)
    (hs : ∀ env x, foldedSetIterable iter env x = pure x := by intro _ _; rfl) (hl1 : D.sc.kind = .function := by rfl) (hl2 : D.sc.names.lookup y = some .local := by rfl) (hl3 : (py.line == pos.line && !(scope.names.any fun (n, k) => n == y && (k == .local || k == .cell))) = true := by decide +kernel)
    (hiy : D.N[i]? = some y := by rfl) (hy : Loc D.sc y := by first | exact Or.inl rfl | exact Or.inr rfl) (hf : D.fn = true ∨ D.sc.names.lookup y = some .local := by first | exact .inl rfl | exact .inr rfl) : PSU D (.Assign [.Name y py] (.ListComp elt [⟨tg, iter, ifs, 0⟩] scope pos) spos) (uAsg (uComp own k ix wi g tcs te) (hName i)) := by
  obtain ⟨_, p1, s1⟩ := hi; obtain ⟨_, p2, s2, gk, _⟩ := hg; obtain ⟨_, p3, s3⟩ := hif; obtain ⟨_, p4, s4⟩ := he
  have hN' : ∀ (j : Nat) x, N[k + j]? = some x → ∃ i, ix[j]? = some i ∧ D.N[i]? = some x := fun j x e => by
    have e1 : ((N.drop k).map some)[j]? = some (some x) := by rw [List.getElem?_map, List.getElem?_drop, e]; rfl
    rw [← hN, List.getElem?_map] at e1
    cases q : ix[j]? with
    | none => rw [q] at e1; cases e1
    | some i => rw [q] at e1; exact ⟨i, rfl, Option.some.inj e1⟩
  have hcap' : ∀ (j : Nat) x, N[k + j]? = some x → scope.names.lookup x = some .free := fun j x e => hcap x (List.mem_of_getElem? (i := j) (by rw [List.getElem?_drop]; exact e))
  refine ⟨_, fun X h => ps_comp (i := i) (N := N) (k := k) (ix := ix) h.calm (p1 X h) gk hk hcell hnames (fun y hy e => by show X.env.scope.names.lookup y.1 = _ ∨ X.env.scope.names.lookup y.1 = _; rw [h.sc]; exact hfree y hy e) hone (fun j x e => by rw [h.N]; exact hN' j x e) hcap' hlen
    (fun cl C s H fp => p2 _ (h.comp N scope cl C s H fp)) (fun cl C s H fp => p3 _ (h.comp N scope cl C s H fp)) (fun cl C s H fp => p4 _ (h.comp N scope cl C s H fp)) (hs _) (swaps_of (by rw [h.sc]; exact hl1) (by rw [h.sc]; exact hl2) hl3) (by rw [h.N]; exact hNd) (by rw [h.N]; exact hiy) (by rw [h.sc]; exact hy) (by rcases hf with z | z; exact .inl (h.fn z y); exact .inr (by rw [h.sc]; exact z)), sim_asg (sim_comp s1 s2 s3 s4) (sim_gname i)⟩
end
section
variable {P : Program} {w : World} {K : PySem.W.Frag} {mg : Str → Option Value} {base : Heap}
theorem start_rel {H : Hp} {M : MHp} {N : List Str} {us : List U} {vs : List V} (r : RelUs K H M us vs) : RelS K H M (L2.start N vs) (startU N us) := by
  have hl := r.length
  refine ⟨by simp [L2.start, startU, hl], fun i u e => ?_⟩
  unfold startU at e
  unfold L2.start
  by_cases hi : i < us.length
  · rw [List.getElem?_append_left (by simpa using hi), List.getElem?_map] at e
    cases q : us[i]? with
    | none => rw [q] at e; cases e
    | some u' =>
      rw [q] at e
      cases e
      obtain ⟨v, h1, h2⟩ := r.get q
      exact ⟨v, by rw [List.getElem?_append_left (by rw [List.length_map]; omega), List.getElem?_map, h1]; rfl, h2⟩
  · rw [List.getElem?_append_right (by simpa using hi), List.getElem?_replicate] at e
    split at e <;> cases e
theorem fnok_of {x : Str} {st : Stmt} {f : Addr} {fd : FuncData} {N ps : List Str} {k : Nat} {sp : USp} {t : US} (F : Fun K x x st f fd) (S : FnScope N ps (defScope st))
    (len : ∀ us M Q, sp us M Q → us.length = ps.length)
    (h : PSsU ⟨P, w, K, mg, base, N, defScope st, k, true, .none, ""⟩ (defBody st) t)
    (q : ∀ us M Q, sp us M Q → t { nx := fun _ M' => rtU Q .non M', rt := rtU Q } (startU N us) M) : FnOk P w K mg base CX0 (k + 1) f fd ps (liftSp K sp) := by
  obtain ⟨t0, h1, h2⟩ := h
  refine F.ok S (fun vs H Q E ⟨us, M, Q', _, r, hs, _⟩ => by rw [← r.length]; exact len us M Q' hs) (fun cdv A outer s H vs Q E hr ⟨us, M, Q', rm, r, hs, c⟩ => ?_)
  refine ⟨t0, h1 _ ⟨rfl, rfl, rfl, rfl, rfl, rfl, rfl, hr, rfl, rfl, fun _ _ => rfl, fun h => absurd rfl h, fun _ => ⟨rfl, rfl, rfl⟩⟩, ?_⟩
  refine h2 _ (startU N us) H M _ (start_rel r) rm (q us M Q' hs) _ ⟨fun σ τ H1 M1 s1 rm1 rs1 q1 => ?_, fun u v H1 M1 s1 rm1 ru q1 => rtU.ok c s1 rm1 ru q1, fun _ _ _ _ _ _ _ z => z.elim, fun _ _ _ _ _ _ _ z => z.elim⟩
  exact rtU.ok c s1 rm1 relU_non q1
theorem callee_of {x : Str} {st : Stmt} {f : Addr} {fd : FuncData} {N ps : List Str} {k : Nat} {sp : USp} {t : US} (F : Fun K x x st f fd) (hm : mg x = some (.ref f)) (S : FnScope N ps (defScope st))
    (bind : ∀ (kV doc pm : Value) (an : Option Addr) (cdv ct : Value) (us : List Value), us.length = ps.length → bindArgs (PySem.W.fnOf x x (defArgs st) (defBody st) (defScope st) .none kV doc pm an cdv ct) ⟨us, []⟩ = pure (ps.zip us))
    (len : ∀ us M Q, sp us M Q → us.length = ps.length)
    (h : PSsU ⟨P, w, K, mg, base, N, defScope st, k, true, .none, ""⟩ (defBody st) t)
    (q : ∀ us M Q, sp us M Q → t { nx := fun _ M' => rtU Q .non M', rt := rtU Q } (startU N us) M) : Callee P w K mg base (k + 1) x sp [] := by
  obtain ⟨t0, h1, h2⟩ := h
  refine ⟨f, fd, ps, [], [], F.ok S (fun vs H Q E ⟨us, M, Q', _, r, hs, _⟩ => by rw [← r.length]; exact len us M Q' hs) (fun cdv A outer s H vs Q E hr ⟨us, M, Q', rm, r, hs, c⟩ => ?_), hm, F.kp, F.binds bind, .nil, fun H M => .nil⟩
  refine ⟨t0, h1 _ ⟨rfl, rfl, rfl, rfl, rfl, rfl, rfl, hr, rfl, rfl, fun _ _ => rfl, fun h => absurd rfl h, fun _ => ⟨rfl, rfl, rfl⟩⟩, ?_⟩
  refine h2 _ (startU N us) H M _ (start_rel r) rm (q us M Q' hs) _ ⟨fun σ τ H1 M1 s1 rm1 rs1 q1 => ?_, fun u v H1 M1 s1 rm1 ru q1 => rtU.ok c s1 rm1 ru q1, fun _ _ _ _ _ _ _ z => z.elim, fun _ _ _ _ _ _ _ z => z.elim⟩
  exact rtU.ok c s1 rm1 relU_non q1
end
end U2
namespace U2
open PySem L2
theorem isi_NoneType_bool : under2 "NoneType" "bool" = some false := by decide +kernel
theorem isi_NoneType_int : under2 "NoneType" "int" = some false := by decide +kernel
theorem isi_NoneType_str : under2 "NoneType" "str" = some false := by decide +kernel
theorem isi_NoneType_tuple : under2 "NoneType" "tuple" = some false := by decide +kernel
theorem isi_NoneType_list : under2 "NoneType" "list" = some false := by decide +kernel
theorem isi_NoneType_dict : under2 "NoneType" "dict" = some false := by decide +kernel
theorem isi_bool_bool : under2 "bool" "bool" = some true := by decide +kernel
theorem isi_bool_int : under2 "bool" "int" = some true := by decide +kernel
theorem isi_bool_str : under2 "bool" "str" = some false := by decide +kernel
theorem isi_bool_tuple : under2 "bool" "tuple" = some false := by decide +kernel
theorem isi_bool_list : under2 "bool" "list" = some false := by decide +kernel
theorem isi_bool_dict : under2 "bool" "dict" = some false := by decide +kernel
theorem isi_int_bool : under2 "int" "bool" = some false := by decide +kernel
theorem isi_int_int : under2 "int" "int" = some true := by decide +kernel
theorem isi_int_str : under2 "int" "str" = some false := by decide +kernel
theorem isi_int_tuple : under2 "int" "tuple" = some false := by decide +kernel
theorem isi_int_list : under2 "int" "list" = some false := by decide +kernel
theorem isi_int_dict : under2 "int" "dict" = some false := by decide +kernel
theorem isi_str_bool : under2 "str" "bool" = some false := by decide +kernel
theorem isi_str_int : under2 "str" "int" = some false := by decide +kernel
theorem isi_str_str : under2 "str" "str" = some true := by decide +kernel
theorem isi_str_tuple : under2 "str" "tuple" = some false := by decide +kernel
theorem isi_str_list : under2 "str" "list" = some false := by decide +kernel
theorem isi_str_dict : under2 "str" "dict" = some false := by decide +kernel
theorem isi_tuple_bool : under2 "tuple" "bool" = some false := by decide +kernel
theorem isi_tuple_int : under2 "tuple" "int" = some false := by decide +kernel
theorem isi_tuple_str : under2 "tuple" "str" = some false := by decide +kernel
theorem isi_tuple_tuple : under2 "tuple" "tuple" = some true := by decide +kernel
theorem isi_tuple_list : under2 "tuple" "list" = some false := by decide +kernel
theorem isi_tuple_dict : under2 "tuple" "dict" = some false := by decide +kernel
theorem isi_list_bool : under2 "list" "bool" = some false := by decide +kernel
theorem isi_list_int : under2 "list" "int" = some false := by decide +kernel
theorem isi_list_str : under2 "list" "str" = some false := by decide +kernel
theorem isi_list_tuple : under2 "list" "tuple" = some false := by decide +kernel
theorem isi_list_list : under2 "list" "list" = some true := by decide +kernel
theorem isi_list_dict : under2 "list" "dict" = some false := by decide +kernel
theorem isi_dict_bool : under2 "dict" "bool" = some false := by decide +kernel
theorem isi_dict_int : under2 "dict" "int" = some false := by decide +kernel
theorem isi_dict_str : under2 "dict" "str" = some false := by decide +kernel
theorem isi_dict_tuple : under2 "dict" "tuple" = some false := by decide +kernel
theorem isi_dict_list : under2 "dict" "list" = some false := by decide +kernel
theorem isi_dict_dict : under2 "dict" "dict" = some true := by decide +kernel
theorem rt_same {Q : UK} {u : U} {M : MHp} (q : Q u M) : rtU Q u M := ⟨u, M, Sub.refl M, .inl rfl, q⟩
theorem uComp_pure {o : Bool} {k : Nat} {ix : List Nat} {wi : UI} {g : UG} {tc : UT} {te : UE} {τ : SU} {M M1 : MHp} {Q : UK} {S : Src} (f : U → Option U) (hw : ∀ R : Src → MHp → Prop, R S M1 → wi τ M R) (hz : S.xs.length ≤ sizeLine) (hs : S.ok M1)
    (h : ∀ x ∈ S.xs, ∀ M, Sub M1 M → ∀ R : Option U → MHp → Prop, R (f x) M → g x (capt k ix τ) M fun τ2 M2 => tc τ2 M2 fun ok M3 => if ok = true then te τ2 M3 fun y M4 => R (some y) M4 else R none M3)
    (q : mkL o (S.xs.filterMap f) M1 Q) : uComp o k ix wi g tc te τ M Q := hw _ (comp_pure (wi := wi) f hz hs h q)
theorem for_by {wi : UI} {g : UG} {tb : US} {D : UEnds} {τ : SU} {M M1 : MHp} {S : Src} (hw : ∀ R : Src → MHp → Prop, R S M1 → wi τ M R) (P : Nat → SU → MHp → Prop) (h0 : P 0 τ M1) (hok : ∀ i τ M, P i τ M → S.ok M)
    (turn : ∀ i x τ M, S.xs[i]? = some x → P i τ M → g x τ M fun τ2 M2 => tb { D with nx := P (i + 1), ct := P (i + 1), bk := D.nx } τ2 M2) (fin : ∀ τ M, P S.xs.length τ M → D.nx τ M) : uFor wi g tb D τ M := hw _ ⟨P, h0, hok, turn, fin⟩
theorem while_by {c : UT} {tb : US} {D : UEnds} {τ : SU} {M : MHp} (P : SU → MHp → Prop) (μ : SU → MHp → Nat) (h0 : P τ M)
    (turn : ∀ τ M, P τ M → c τ M fun b M1 => if b = true then tb { D with nx := fun τ' M' => P τ' M' ∧ μ τ' M' < μ τ M, ct := fun τ' M' => P τ' M' ∧ μ τ' M' < μ τ M, bk := D.nx } τ M1 else D.nx τ M1) : uWhile c tb D τ M := ⟨P, μ, h0, turn⟩
theorem rangeU_get {lo : Int} {n i : Nat} {x : U} (h : (rangeU lo n)[i]? = some x) : x = .int (lo + i) ∧ i < n := by
  have hi : i < n := by
    have := (List.getElem?_eq_some_iff.mp h).1
    simpa [rangeU] using this
  simp only [rangeU, List.getElem?_map, List.getElem?_range hi, Option.map_some] at h
  exact ⟨(Option.some.inj h).symm, hi⟩
theorem rangeU_len (lo : Int) (n : Nat) : (rangeU lo n).length = n := by simp [rangeU]
end U2
namespace U2
open PySem PySem.Spec PyProof.Rows L2
inductive Fl where
  | int (i : Int) | str (x : Str)
def Fl.d : Fl → PyData
  | .int i => .int i
  | .str x => .str x
def Fl.u : Fl → U
  | .int i => .int i
  | .str x => .str x
def Fl.v : Fl → V
  | .int i => .int i
  | .str x => .str x
def tabD (T : List (Str × Fl)) : List (PyData × PyData) := T.map fun p => (PyData.str p.1, p.2.d)
def tabGet : List (Str × Fl) → Str → Option Fl
  | [], _ => none
  | (a, b) :: r, z => if a = z then some b else tabGet r z
structure IsTab (P : Program) (w : World) (K : PySem.W.Frag) (d : Addr) (T : List (Str × Fl)) : Prop where
  at_ : ∀ h : Heap, K.In h → StrTab P w h d (tabD T)
theorem sameS (a b : Str) : same (.str a) (.str b) = decide (a = b) := by
  by_cases h : a = b <;> simp [same, h]
theorem lookup_tab : ∀ (T : List (Str × Fl)) (z : Str), PySem.Spec.lookup (.str z) (tabD T) = (tabGet T z).map Fl.d
  | [], _ => rfl
  | (a, b) :: r, z => by
    have ih := lookup_tab r z
    show (if same (.str a) (.str z) = true then some b.d else PySem.Spec.lookup (.str z) (tabD r)) = ((if a = z then some b else tabGet r z).map Fl.d)
    rw [sameS]
    by_cases e : a = z
    · rw [if_pos (decide_eq_true e), if_pos e]; rfl
    · rw [if_neg (by simpa using e), if_neg e, ih]
def tabP (T : List (Str × Fl)) : List (Str × PyData) := T.map fun p => (p.1, p.2.d)
theorem tab_of {P : Program} {w : World} {K : PySem.W.Frag} {d : Addr} {T : List (Str × Fl)} (n : ((tabP T).map (·.1)).Nodup) (e : KTD.tabLook KTD.flatLooks (fun b => K.lookup b) d (tabP T) = true) (q : KTD.hashesOf (fun b => K.lookup b) d = (tabP T).map fun p => (PySem.strKind P w).hash p.1) : IsTab P w K d T := ⟨fun h hK => by
  have := PySem.W.kt_tab_in P w hK e n q
  unfold tabP at this
  rw [List.map_map] at this
  exact this⟩
section
variable {X : Cx} {d : Addr} {T : List (Str × Fl)}
theorem op_inTab (t : IsTab X.prog X.w X.K d T) : OpR X (compareOp .In) (fun x y H Q => ∃ z, x = .str z ∧ y = .ref d ∧ Q (.bl (tabGet T z).isSome) H) := by
  intro pins s σ H x y v u Q I rx ry h
  obtain ⟨z, rfl, rfl, q⟩ := h
  obtain ⟨tk, rfl⟩ := rx
  cases ry
  refine in_strTab (t.at_ _ I.kIn) ?_
  rw [lookup_tab, Option.isSome_map]
  exact ⟨.bl _, H, I.tok _, rfl, q⟩
theorem flat_fl {f : Fl} {v : Value} (h : PyProof.V.Flat v f.d) : RelV f.v v := by
  have := h default
  cases f with
  | int i => cases this; exact ⟨_, rfl⟩
  | str i => cases this; exact ⟨_, rfl⟩
theorem pe_dix {x : Str} {px pos : Pos} {b : Expr} {ta tb : TE} (t : IsTab X.prog X.w X.K d T) (ha : PE X (.Name x px) ta) (hb : PE X b tb) (hs : PlainIx b) :
    PE X (.Subscript (.Name x px) b pos) (tOp (fun x y H Q => ∃ z f, x = .ref d ∧ y = .str z ∧ tabGet T z = some f ∧ Q f.v H) ta tb) := by
  intro pins s σ H Q I h
  refine Subscript_ (binT ha hb I h fun v u s2 x' y H2 I2 rx ry q => ?_)
  obtain ⟨z, f, rfl, rfl, e, q⟩ := q
  cases rx
  obtain ⟨tk, rfl⟩ := ry
  exact item_strTab (t.at_ _ I2.kIn) (dv := f.d) (by rw [lookup_tab, e]; rfl) (fun v hv => ⟨f.v, H2, I2.tok _, flat_fl hv, q⟩) (hs _ _) (fun r => rfl)
end
section
variable {D : Dat} {d : Addr} {T : List (Str × Fl)}
abbrev Tab (D : Dat) := IsTab D.prog D.w D.K
def inTab (d : Addr) (T : List (Str × Fl)) (neg : Bool) : UR2 := fun x y M Q => match x with
  | .str z => y = .ref d ∧ Q (.bl (if neg then !(tabGet T z).isSome else (tabGet T z).isSome)) M
  | _ => False
theorem k_inTab (t : Tab D d T) : Cmp D .In (inTab d T false) := ⟨⟨_, fun X h => op_inTab (by rw [h.prog, h.w, h.K]; exact t), fun x y u w H M Q' rm ru rw h Q c => by
  cases u with
  | str z => obtain ⟨rfl, h⟩ := h; exact ⟨z, ru.str, rw.ref, c.here rm relU_bl h⟩
  | _ => exact h.elim⟩⟩
def ixTab (d : Addr) (T : List (Str × Fl)) : UR2 := fun x y M Q => match y with
  | .str z => x = .ref d ∧ match tabGet T z with
    | some f => Q f.u M
    | none => False
  | _ => False
theorem fl_rel {K : PySem.W.Frag} {H : Hp} {M : MHp} (f : Fl) : RelU K H M f.u f.v := by cases f; exact relU_int; exact relU_str
theorem ue_dix {x : Str} {px pos : Pos} {b : Expr} {ta tb : UE} (t : Tab D d T) (ha : PEU D (.Name x px) ta) (hb : PEU D b tb) (hs : PlainIx b := by intro _ _; rfl) : PEU D (.Subscript (.Name x px) b pos) (uOp (ixTab d T) ta tb) := by
  obtain ⟨_, p, s⟩ := ha; obtain ⟨_, q, r⟩ := hb
  refine ⟨_, fun X h => pe_dix (d := d) (T := T) (by rw [h.prog, h.w, h.K]; exact t) (p X h) (q X h) hs, sim_op (fun x y u w H M Q' rm ru rw h Q c => ?_) s r⟩
  cases w with
  | str z =>
    obtain ⟨rfl, h⟩ := h
    cases e : tabGet T z with
    | none => rw [e] at h; exact h.elim
    | some f => rw [e] at h; exact ⟨z, f, ru.ref, rw.str, e, c.here rm (fl_rel f) h⟩
  | _ => exact h.elim
def tCallV (i : Nat) (f : Addr) (sp : Sp) (t : TA) : TE := fun σ H Q => tVar i σ H fun v H1 => v = .ref f ∧ t σ H1 fun vs H2 => sp vs H2 Q E0
def uCallV (i : Nat) (f : Addr) (sp : USp) (t : UA) : UE := fun τ M Q => uVar i τ M fun v M1 => v = .ref f ∧ t τ M1 fun us M2 => sp us M2 Q
end
end U2
namespace U2
open PySem PySem.Spec PyProof.Rows L2
def half (j : Int) : Nat := ((j + 1) / 2).toNat
theorem size_two {j : Int} (h : 0 ≤ j) : Builtin.Range.rangeSize 0 j 2 = (half j : Nat) := by
  unfold Builtin.Range.rangeSize half
  simp only [show (2 : Int) > 0 by decide, if_true]
  split <;> omega
def rangeU2 (n : Nat) : List U := (List.range n).map fun (k : Nat) => U.int ((k : Int) * 2)
theorem rangeU2_len (n : Nat) : (rangeU2 n).length = n := by simp [rangeU2]
end U2
namespace U2
open PySem PySem.Spec PyProof.Rows L2
def strsU : List U → Option (List Str)
  | [] => some []
  | .str b :: r => (strsU r).map (b :: ·)
  | _ => none
theorem strsU_rel {K : PySem.W.Frag} {H : Hp} {M : MHp} : ∀ {us : List U} {vs : List V} {bs : List Str}, RelUs K H M us vs → strsU us = some bs → vs = bs.map V.str
  | [], _, _, r, h => by cases h; exact r.inv_nil
  | u :: us, _, bs, r, h => by
    obtain ⟨v, vs', rfl, a, b⟩ := r.inv_cons
    cases u with
    | str y =>
      simp only [strsU] at h
      cases e : strsU us with
      | none => rw [e] at h; cases h
      | some cs =>
        rw [e] at h
        cases h
        rw [strsU_rel b e, a.str]; rfl
    | _ => cases h
end U2
namespace U2
open PySem L2
theorem at0 {α : Type} {a : α} {r : List α} : atI (a :: r) 0 = some a := atI_nat (j := 0) rfl
theorem at1 {α : Type} {a b : α} {r : List α} : atI (a :: b :: r) 1 = some b := atI_nat (j := 1) rfl
theorem at2 {α : Type} {a b c : α} {r : List α} : atI (a :: b :: c :: r) 2 = some c := atI_nat (j := 2) rfl
theorem at3 {α : Type} {a b c d : α} {r : List α} : atI (a :: b :: c :: d :: r) 3 = some d := atI_nat (j := 3) rfl
theorem atI_ex {α : Type} (l : List α) (i : Int) (h0 : 0 ≤ i) (h1 : i < l.length) : ∃ c, atI l i = some c := by
  have hl : i.toNat < l.length := by omega
  refine ⟨l[i.toNat], ?_⟩
  have e : ((i.toNat : Nat) : Int) = i := by omega
  have q := atI_nat (xs := l) (j := i.toNat) (v := l[i.toNat]) (by simp [hl])
  rw [e] at q
  exact q
theorem atI_m1 {α : Type} (l : List α) (a : α) : atI (l ++ [a]) (-1) = some a := atI_last l a
theorem atI_m2 {α : Type} (l : List α) (a b : α) : atI (l ++ [a, b]) (-2) = some a := by
  have e : (l ++ [a, b]).length = l.length + 2 := by simp
  unfold atI ixN
  rw [e]
  rw [if_neg (by decide), if_pos (by omega)]
  have h : ((-2 : Int) + ((l.length + 2 : Nat) : Int)).toNat = l.length := by omega
  rw [h]
  simp
theorem atI_p1 {α : Type} (l : List α) (a b : α) : atI (l ++ [a, b]) (-1) = some b := by
  have := atI_last (l ++ [a]) b
  rw [List.append_assoc] at this
  exact this
theorem atI_s1 {α : Type} (a : α) : atI [a] (-1) = some a := atI_last [] a
theorem gl_p {α : Type} (l : List α) (a b : α) : (l ++ [a, b]).getLast? = some b := by simp
theorem dl_p {α : Type} (l : List α) (a b : α) : (l ++ [a, b]).dropLast = l ++ [a] := by
  rw [show l ++ [a, b] = (l ++ [a]) ++ [b] by simp]; exact List.dropLast_concat
theorem gl_1 {α : Type} (l : List α) (a : α) : (l ++ [a]).getLast? = some a := by simp
theorem dl_1 {α : Type} (l : List α) (a : α) : (l ++ [a]).dropLast = l := List.dropLast_concat
theorem gl_s {α : Type} (a : α) : [a].getLast? = some a := rfl
theorem dl_s {α : Type} (a : α) : [a].dropLast = [] := rfl
theorem cut1 {α : Type} (a : α) (r : List α) : cutU (a :: r) (some 1) none = r := by
  unfold cutU
  simp [HT.sIx]
  try omega
theorem vw_non {M : MHp} : view M .non = .non := rfl
theorem vw_bl {M : MHp} {x : Bool} : view M (.bl x) = .bl x := rfl
theorem vw_int {M : MHp} {x : Int} : view M (.int x) = .int x := rfl
theorem vw_str {M : MHp} {x : Str} : view M (.str x) = .str x := rfl
theorem vw_tup {M : MHp} {x : List U} : view M (.tup x) = .tup x := rfl
theorem vw_lst {M : MHp} {x : List U} : view M (.lst x) = .lst x := rfl
theorem vw_own {M : MHp} {p : Addr} {us : List U} : view (mup M p (.lst us)) (.ref p) = .lst us := view_ref mup_same
theorem isL_own {M : MHp} {p : Addr} {us : List U} : isL (mup M p (.lst us)) (.ref p) := ⟨us, vw_own⟩
theorem uComp_list {o : Bool} {k : Nat} {ix : List Nat} {wi : UI} {g : UG} {te : UE} {τ : SU} {M M1 : MHp} {Q : UK} {S : Src} (zs : List U) (hw : ∀ R : Src → MHp → Prop, R S M1 → wi τ M R) (hl : zs.length = S.xs.length) (hz : S.xs.length ≤ sizeLine) (hs : S.ok M1)
    (h : ∀ (i : Nat) x y, S.xs[i]? = some x → zs[i]? = some y → ∀ M, Sub M1 M → ∀ R : UK, R y M → g x (capt k ix τ) M fun τ2 M2 => te τ2 M2 R)
    (q : mkL o zs M1 Q) : uComp o k ix wi g (fun _ M Q => Q true M) te τ M Q := by
  refine hw _ ⟨hz, fun D hD => ⟨fun i ys M => ys = zs.take i ∧ M = mup M1 D (.lst ys) ∧ i ≤ S.xs.length, ⟨by simp, rfl, Nat.zero_le _⟩, ?_, ?_, ?_⟩⟩
  · rintro i ys M ⟨rfl, rfl, hi⟩
    refine ⟨fun a e => ?_, mup_same, ?_⟩
    · have := hs a e
      rw [mup_ne (fun z => by subst z; rw [hD] at this; cases this)]
      exact this
    · rw [List.length_take]; omega
  · rintro i x ys M e ⟨rfl, rfl, hi⟩
    have hlt : i < S.xs.length := (List.getElem?_eq_some_iff.mp e).1
    have hy : zs[i]? = some zs[i] := by simp [show i < zs.length by omega]
    have tk : zs.take (i + 1) = zs.take i ++ [zs[i]] := by rw [List.take_add_one, hy]; rfl
    refine h i x zs[i] e hy (mup M1 D (.lst (zs.take i))) ((Sub.refl M1).mup hD) (fun y M4 => M4 D = some (.lst (zs.take i)) ∧ (zs.take i ++ [y] = zs.take (i + 1) ∧ mup M4 D (.lst (zs.take i ++ [y])) = mup M1 D (.lst (zs.take i ++ [y])) ∧ i + 1 ≤ S.xs.length)) ?_
    exact ⟨mup_same, tk.symm, mup_mup, hlt⟩
  · rintro ys M ⟨rfl, rfl, hi⟩
    rw [show zs.take S.xs.length = zs by rw [← hl]; exact List.take_length]
    cases o with
    | true => exact q D hD
    | false => exact ⟨M1, (Sub.refl M1).mup hD, hD, q⟩
end U2
namespace U2
open PySem PySem.Spec PyProof.Rows L2
section
variable {prog : Program} {w : World} {A : Around} {E : Value → Shared → Prop} {s : Shared}
theorem nextOf_tuple_item {it t : Addr} {i : Nat} {items} {x : Value} {Q : Value → Shared → Prop} (hit : s.heap.IsTupleIter it t i)
    (ht : s.heap.IsTuple t items) (hx : items[i]? = some x)
    (hQ : ∀ h', h'.IsTupleIter it t (i + 1) → Heap.SameBut it s.heap h' → Q x { s with heap := h' }) :
    wpAny (model prog w) A (Builtin.SmallTypes.nextOf (.ref it)) Q E s := by
  obtain ⟨o, ho, hc, hd⟩ := id hit
  obtain ⟨ol, hol, _, nl, hdl⟩ := ht
  unfold Builtin.SmallTypes.nextOf
  refine wpAny_bind (wpAny_callSpecial?_slot (name := Str.ofString "__next__") hit.typeIs PySem.F.slot_tuple_iterator_next
    (wpAny_call_entry PySem.F.slot_tuple_iterator_next hit.typeIs PySem.F.entry_tuple_iterator_next ?_ (PySem.F.args_tuple_iterator_next_1 _)))
  show wpAny _ _ (field (.ref it) 0 >>= _) _ _ s
  refine wpAny_bind (wpAny_field ho hd (x := .ref t) rfl ?_)
  show wpAny _ _ (if (Value.ref t == Value.none) = true then _ else _) _ _ s
  rw [if_neg (show ¬ ((Value.ref t == Value.none) = true) from Bool.false_ne_true)]
  show wpAny _ _ (field (.ref it) 1 >>= _) _ _ s
  refine wpAny_bind (wpAny_field ho hd (x := .int i 0) rfl ?_)
  show wpAny _ _ (seqItems? (.ref t) >>= _) _ _ s
  refine wpAny_bind (wpAny_seqItems hol hdl ?_)
  simp only [Int.toNat_natCast, hx]
  refine wpAny_bind (wpAny_setField ho hd (by simp) (wpAny_pure ⟨x, rfl, wpAny_pure (hQ _ ?_ (Heap.SameBut.update ..))⟩))
  exact ⟨_, Heap.get?_update_self _ ho (Obj.isFreed_of_fields (Obj.data_mapFields hd _)), (Obj.cls_mapFields ..).trans hc, by
    rw [Obj.data_mapFields hd]; simp [rawInt]⟩
theorem nextOf_tuple_end {it t : Addr} {i : Nat} {items} {Q : Value → Shared → Prop} (hh : A.handled = none)
    (hit : s.heap.IsTupleIter it t i) (ht : s.heap.IsTuple t items) (hx : items[i]? = none)
    (hE : ∀ h' e, Heap.ExtBut it s.heap h' → (∃ o, h'.get? e = some o ∧ o.cls = .type "StopIteration") → E (.ref e) { s with heap := h' }) :
    wpAny (model prog w) A (Builtin.SmallTypes.nextOf (.ref it)) Q E s := by
  obtain ⟨o, ho, hc, hd⟩ := id hit
  obtain ⟨ol, hol, _, nl, hdl⟩ := ht
  unfold Builtin.SmallTypes.nextOf
  refine wpAny_bind (wpAny_callSpecial?_slot (name := Str.ofString "__next__") hit.typeIs PySem.F.slot_tuple_iterator_next
    (wpAny_call_entry PySem.F.slot_tuple_iterator_next hit.typeIs PySem.F.entry_tuple_iterator_next ?_ (PySem.F.args_tuple_iterator_next_1 _)))
  show wpAny _ _ (field (.ref it) 0 >>= _) _ _ s
  refine wpAny_bind (wpAny_field ho hd (x := .ref t) rfl ?_)
  show wpAny _ _ (if (Value.ref t == Value.none) = true then _ else _) _ _ s
  rw [if_neg (show ¬ ((Value.ref t == Value.none) = true) from Bool.false_ne_true)]
  show wpAny _ _ (field (.ref it) 1 >>= _) _ _ s
  refine wpAny_bind (wpAny_field ho hd (x := .int i 0) rfl ?_)
  show wpAny _ _ (seqItems? (.ref t) >>= _) _ _ s
  refine wpAny_bind (wpAny_seqItems hol hdl ?_)
  simp only [Int.toNat_natCast, hx]
  refine wpAny_bind (wpAny_rule (wpAny_bind (wpAny_setField ho hd (by simp) ?_)))
  show wpAny _ _ (newExc (.type "StopIteration") [] >>= _) _ _ _
  refine wpAny_bind ?_
  simp only [newExc, newTuple]
  refine wpAny_bind (wpAny_newObj_type ?_ (by size_fits))
  refine wpAny_bind (m := firstArgMember _ _) (wpAny_of_eq (a := Value.none) (by first | rfl | (simp only [firstArgMember]; rfl)) ?_)
  refine wpAny_newObj_type ?_ (by size_fits)
  simp only [raiseNew]
  refine wpAny_bind (wpAny_handled ?_)
  first | rw [show A.in1.handled = none from hh] | rw [hh]
  refine wpAny_bind (wpAny_pure (wpAny_throw ?_))
  exact hE _ _ (((Heap.SameBut.update ..).extBut.push _).push _) ⟨_, Heap.get?_push_size _ rfl, rfl⟩
theorem draws_tuple {prog : Program} {w : World} {A : Around} (hh : A.handled = none) (it l : Addr) (hne : l ≠ it) (items : Array Value) :
    Draws prog w A it [it, l] items.size (fun i v => items[i]? = some v) (fun i h => h.IsTupleIter it l i ∧ h.IsTuple l items) where
  live := fun _ _ st => let ⟨o, ho, _⟩ := st.1; ⟨o, ho⟩
  frame := fun _ _ _ st hk => ⟨st.1.at fun o e => hk it (by simp) o e, let ⟨o, ho, r⟩ := st.2; ⟨o, hk l (by simp) o ho, r⟩⟩
  item := fun i s Q E hi st hQ => by
    refine nextOf_tuple_item st.1 st.2 (x := items[i]) (by simp [hi]) fun h' hit' hs' => ?_
    exact hQ _ h' s.toks (by simp [hi]) ⟨hit', let ⟨o, ho, r⟩ := st.2; ⟨o, hs'.extBut l o hne ho, r⟩⟩ hs'
  done := fun s Q E st hE => nextOf_tuple_end hh st.1 st.2 (by simp) hE
end
def SqB (b : Bool) (K : PySem.W.Frag) (H : Hp) (a : Addr) (xs : List V) : Prop := match b with
  | true => SqL K H a xs
  | false => SqT K H a xs
def IsB (b : Bool) (h : Heap) (a : Addr) (xs : Array Value) : Prop := match b with
  | true => h.IsList a xs
  | false => h.IsTuple a xs
def ItB (b : Bool) (h : Heap) (it a : Addr) (i : Nat) : Prop := match b with
  | true => h.IsListIter it a i
  | false => h.IsTupleIter it a i
def cnB : Bool → String
  | true => "list"
  | false => "tuple"
def inB : Bool → String
  | true => "list_iterator"
  | false => "tuple_iterator"
theorem cls_ne {h : Heap} {b b' : Addr} {o o' : Obj} {n n' : String} (x : h.get? b = some o) (y : h.get? b' = some o') (p : o.cls = .type n) (q : o'.cls = .type n') (ne : n ≠ n') : b ≠ b' := fun z => by
  subst z; rw [x] at y; cases y; rw [p] at q; exact ne (Value.type.inj q)
theorem IsB.obj {b : Bool} {h : Heap} {a : Addr} {xs : Array Value} (p : IsB b h a xs) : ∃ o n, h.get? a = some o ∧ o.cls = .type (cnB b) ∧ o.data = .seq xs n := by
  cases b <;> (obtain ⟨o, e, c, n, d⟩ := p; exact ⟨o, n, e, c, d⟩)
theorem ItB.obj {b : Bool} {h : Heap} {it a : Addr} {i : Nat} (p : ItB b h it a i) : ∃ o, h.get? it = some o ∧ o.cls = .type (inB b) ∧ o.data = .fields #[.ref a, .int i 0] := by
  cases b <;> exact p
theorem ItB.of {b : Bool} {h : Heap} {it a : Addr} {i : Nat} {o : Obj} (e : h.get? it = some o) (c : o.cls = .type (inB b)) (d : o.data = .fields #[.ref a, .int i 0]) : ItB b h it a i := by
  cases b <;> exact ⟨o, e, c, d⟩
theorem ItB.at {b : Bool} {h h' : Heap} {it a : Addr} {i : Nat} (p : ItB b h it a i) (k : ∀ o, h.get? it = some o → h'.get? it = some o) : ItB b h' it a i :=
  let ⟨o, e, c, d⟩ := p.obj; .of (k o e) c d
theorem IsB.ne {b b' : Bool} {h : Heap} {a it c : Addr} {xs : Array Value} {i : Nat} (p : IsB b h a xs) (q : ItB b' h it c i) : a ≠ it :=
  let ⟨_, _, e, c, _⟩ := p.obj; let ⟨_, e', c', _⟩ := q.obj; cls_ne e e' c c' (by cases b <;> cases b' <;> decide)
theorem sqI {X : Cx} {pins : List (Addr × Obj)} {σ : L2.St} {H : Hp} {s : Shared} {b : Bool} {a : Addr} {xs : List V} (I : L2.Inv X pins σ H s) (h : SqB b X.K H a xs) : ∃ its : List Value, Vals xs its ∧ IsB b s.heap a its.toArray ∧ xs.length ≤ sizeLine := by
  cases b
  · exact I.tuple h
  · obtain ⟨its, r, p, z⟩ := I.list h; exact ⟨its, r, p.isList, z⟩
theorem sqJ {X : Cx} {pins : List (Addr × Obj)} {σ : L2.St} {H : Hp} {s : Shared} {b : Bool} {a : Addr} {xs ys : List V} (I : L2.Inv X pins σ H s) (h : SqB b X.K H a xs) (h' : SqB b X.K H a ys) : xs = ys := by
  cases b
  · exact I.tuple_inj h h'
  · exact I.list_inj h h'
theorem draws_B {prog : Program} {w : World} {A : Around} (b : Bool) (hh : A.handled = none) (it l : Addr) (hne : l ≠ it) (items : Array Value) :
    Draws prog w A it [it, l] items.size (fun i v => items[i]? = some v) (fun i h => ItB b h it l i ∧ IsB b h l items) := by
  cases b
  · exact draws_tuple hh it l hne items
  · exact Draws.list hh it l hne items
def StB (b : Bool) (K : PySem.W.Frag) (H : Hp) (M : MHp) (a : Addr) (vs : List V) : Prop := ∀ H1 M1, Stp H M H1 M1 → SqB b K H1 a vs
theorem stT {K : PySem.W.Frag} {H : Hp} {M : MHp} {a : Addr} {vs : List V} (m : M a = none ∧ H a = some (.tup vs)) : StB false K H M a vs := fun _ _ s => .inl (.inl (s.to m.2 m.1).1)
section
variable {prog : Program} {w : World} {A : Around} {E : Value → Shared → Prop} {s : Shared}
theorem meets_enum_tuple (l : Addr) (items : Array Value) (n : Nat) (dd : Option Addr) (sl : Array (Option Value)) :
    Meets (Builtin.«enumerate.__new__» ⟨[.type "enumerate", .ref l], []⟩) (fun _ R s => s.heap.get? l = some { cls := .type "tuple", dict := dd, data := .seq items n, slots := sl } ∧
      R (.ok (.ret (.ref (s.heap.push { cls := .type "tuple_iterator", data := .fields #[.ref l, .int 0 0] }).objs.size)))
        { s with heap := (s.heap.push { cls := .type "tuple_iterator", data := .fields #[.ref l, .int 0 0] }).push { cls := .type "enumerate", data := .fields #[.none, .bool false, .ref s.heap.objs.size, rawInt 0, .none, .none] } }) :=
  .of_wp fun prog w A R s h => by
    obtain ⟨hp, g, d, tk, os⟩ := s; obtain ⟨hl, h⟩ := h
    have hsub := PySem.sub_enumerate
    have hL : Heap.IsTuple (Shared.heap ⟨hp, g, d, tk, os⟩) l items := ⟨_, hl, rfl, n, rfl⟩
    wp_walk using wpAny_loadPart' hl
    refine wpAny_stack_any fun st => wpAny_pure ?_
    split
    · rename_i c _ _ _ _ _
      cases (c == Value.type "enumerate")
      · wp_walk using wpAny_loadPart' hl, wpAny_pyIter_tuple hL
        exact ⟨_, rfl, h⟩
      · wp_walk using wpAny_loadPart' hl, wpAny_pyIter_tuple hL
        exact ⟨_, rfl, h⟩
    · wp_walk using wpAny_loadPart' hl, wpAny_pyIter_tuple hL
      exact ⟨_, rfl, h⟩
theorem meets_enum_list (l : Addr) (items : Array Value) (n : Nat) (dd : Option Addr) (sl : Array (Option Value)) :
    Meets (Builtin.«enumerate.__new__» ⟨[.type "enumerate", .ref l], []⟩) (fun _ R s => s.heap.get? l = some { cls := .type "list", dict := dd, data := .seq items n, slots := sl } ∧
      R (.ok (.ret (.ref (s.heap.push { cls := .type "list_iterator", data := .fields #[.ref l, .int 0 0] }).objs.size)))
        { s with heap := (s.heap.push { cls := .type "list_iterator", data := .fields #[.ref l, .int 0 0] }).push { cls := .type "enumerate", data := .fields #[.none, .bool false, .ref s.heap.objs.size, rawInt 0, .none, .none] } }) :=
  .of_wp fun prog w A R s h => by
    obtain ⟨hp, g, d, tk, os⟩ := s; obtain ⟨hl, h⟩ := h
    have hsub := PySem.sub_enumerate
    have hL : Heap.IsList (Shared.heap ⟨hp, g, d, tk, os⟩) l items := ⟨_, hl, rfl, n, rfl⟩
    wp_walk using wpAny_loadPart' hl
    refine wpAny_stack_any fun st => wpAny_pure ?_
    split
    · rename_i c _ _ _ _ _
      cases (c == Value.type "enumerate")
      · wp_walk using wpAny_loadPart' hl, wpAny_pyIter_list hL
        exact ⟨_, rfl, h⟩
      · wp_walk using wpAny_loadPart' hl, wpAny_pyIter_list hL
        exact ⟨_, rfl, h⟩
    · wp_walk using wpAny_loadPart' hl, wpAny_pyIter_list hL
      exact ⟨_, rfl, h⟩
end
theorem inv_turnedLaid {X : Cx} {pins : List (Addr × Obj)} {σ : L2.St} {H : Hp} {s : Shared} {h' : Heap} {ch : List Addr} {T : Addr} {o : HO} {tk : Nat} (I : L2.Inv X pins σ H s) (hf : ∀ b ∈ ch, FpOk X pins H b)
    (k : ∀ b o, b ∉ ch → s.heap.get? b = some o → h'.get? b = some o) (hT : s.heap.objs.size ≤ T) (new : ObjOk X.prog X.w (upd H T o) h' T o) : L2.Inv X pins σ (upd H T o) { s with heap := h', toks := tk } := by
  have hn : H T = none := I.hok.fresh hT
  refine I.call' (ch := ch) (H' := upd H T o) rfl ⟨fun b u q n hb hx => k b u hx q, fun b u q n hb hx => ⟨u.slots, k b u hx q⟩, fun b u q n hx => ?_, fun b u q hx => ⟨u, k b u hx q⟩, fun b xs q => by rw [upd_ne (ne_of_none q hn)]; exact q, fun b u xs q => by rw [upd_ne (ne_of_none q hn)]; exact q,
    fun b ps q => ⟨#[], by rw [upd_ne (ne_of_none q hn), q]; simp⟩⟩ (fun a u e => ?_) I.bare fun b hb => ⟨(hf b hb).2.2.2.1, (hf b hb).2.1, (hf b hb).2.2.2.2.1, (hf b hb).2.2.2.2.2⟩
  · rw [upd_ne (Nat.ne_of_lt (Nat.lt_of_lt_of_le (Heap.lt_size q) hT))]; exact n
  · by_cases ha : a = T
    · subst ha; rw [upd_same] at e; cases e; exact new
    · rw [upd_ne ha] at e
      refine (I.hok a u e).stay (fun b z hb q => k b z (fun hc => ?_) q) (fun c q => by rw [upd_ne (ne_of_none q hn)]; exact q) fun c xs q => by rw [upd_ne (ne_of_none q hn)]; exact q
      have hnone := (hf b hc).1
      rcases hb with rfl | hb
      · rw [hnone] at e; cases e
      · rw [hnone] at hb; cases hb
def Ite (f : Bool) (K : PySem.W.Frag) (a : Addr) : It :=
  ⟨fun i H => ∃ xs x, SqB f K H a xs ∧ xs[i]? = some x, fun i H x H' => ∃ p v, (∀ xs, SqB f K H a xs → xs[i]? = some v) ∧ H p = none ∧ x = .ref p ∧ H' = upd H p (.tup [.int i, v]), fun i H => ∃ xs, SqB f K H a xs ∧ xs.length = i⟩
theorem turn_enum {P : Program} {w : World} {K : PySem.W.Frag} {elts : List Expr} {kk : Nat} {pos : Pos} (f : Bool) (a it e : Addr) : Turn P w K (.Tuple elts kk pos) (Ite f K a) [e, it] e (fun i h => (∃ old, IsEnum h e it i old) ∧ ItB f h it a i) where
  mem := by simp
  obj := fun i h st b hb => by
    obtain ⟨⟨old, he⟩, hi⟩ := st
    obtain ⟨o, ho, hc, hd⟩ := hi.obj
    have : b = e ∨ b = it := by simpa using hb
    rcases this with rfl | rfl
    · exact ⟨_, he, fun v z => by
        have z' : Data.fields _ = Data.cell v := z
        cases z'⟩
    · exact ⟨o, ho, fun v z => by rw [hd] at z; cases z⟩
  keep := fun i h h' st k => let ⟨⟨old, he⟩, hi⟩ := st; ⟨⟨old, k e (by simp) _ he⟩, hi.at fun o q => k it (by simp) o q⟩
  item := by
    intro X hP hw hK hc i pins s σ H E I hf st hg
    subst hP hw hK
    obtain ⟨⟨old, he⟩, hit⟩ := st
    obtain ⟨xs, x, hq, hx⟩ := hg
    obtain ⟨its, rv, p, hz⟩ := sqI I hq
    obtain ⟨u, hu, ru⟩ := rv.get hx
    have p' : IsB f s.heap a its.toArray := p
    obtain ⟨oi, hoi, hci, hdi⟩ := hit.obj
    obtain ⟨oa, na, hoa, hca, hda⟩ := p'.obj
    have n1 : a ≠ it := p'.ne hit
    have n2 : e ≠ it := cls_ne he hoi rfl hci (by cases f <;> decide)
    have n3 : e ≠ a := cls_ne he hoa rfl hca (by cases f <;> decide)
    have W := WalksT.enumerateD (prog := X.prog) (w := X.w) (A := X.A) (draws_B f (A := X.A.in1) (show X.A.in1.handled = none from I.ok.hd hc) it a n1 its.toArray) e n2 (by simp [n2, n3]) (by simp)
    have hlt : i < its.toArray.size := by
      have := (List.getElem?_eq_some_iff.mp hu).1
      simpa using this
    have hD := draws_B f (prog := X.prog) (w := X.w) (A := X.A.in1) (show X.A.in1.handled = none from I.ok.hd hc) it a n1 its.toArray
    refine wpAny_pyNext_enum_itemD hD he ⟨hit, p'⟩ hlt n2 (by simp [n2, n3]) fun y h' tk hy ho0 hs0 hT0 hsz0 hk0 => ?_
    have helt : e < s.heap.objs.size := Heap.lt_size he
    have hilt : it < s.heap.objs.size := Heap.lt_size hoi
    have hTup : IsTupP h' s.heap.objs.size #[Value.int i tk, y] := ⟨_, hT0, rfl, rfl, _, rfl⟩
    have hk : ∀ b o, b ∉ [e, it] → s.heap.get? b = some o → h'.get? b = some o := fun b o hb z => hk0 b o (fun e' => hb (by simp [e'])) (fun e' => hb (by simp [e'])) z
    have hMid := (⟨⟨_, ho0⟩, hs0, Nat.ne_of_gt helt, Nat.ne_of_gt hilt⟩ : (∃ x, IsEnumOut h' e it ((i : Int) + 1) x s.heap.objs.size) ∧ _ ∧ s.heap.objs.size ≠ e ∧ s.heap.objs.size ≠ it)
    obtain ⟨T, hTe⟩ : ∃ T, T = s.heap.objs.size := ⟨_, rfl⟩
    rw [← hTe] at hTup hMid ⊢
    have hT : s.heap.objs.size ≤ T := Nat.le_of_eq hTe.symm
    refine ⟨.ref T, rfl, W.go elts kk pos i T _ _ E hMid fun h'' hSt hk2 => ?_⟩
    have hy' : y = u := by
      have h3 : its[i]? = some y := by simpa using hy
      rw [hu] at h3; exact (Option.some.inj h3).symm
    subst hy'
    have hTT : IsTupP h'' T #[.int i tk, y] := let ⟨o, ho, r⟩ := hTup; ⟨o, hk2 T o (W.apart i T _ hMid) ho, r⟩
    refine ⟨.ref T, upd H T (.tup [.int i, x]), inv_turnedLaid (s := s) (h' := h'') (tk := tk + 1) (ch := [e, it]) I hf (fun b o hb q => hk2 b o (by simpa using hb) (hk b o (by simpa using hb) q)) hT ⟨by show 2 ≤ sizeLine; decide, [.int i tk, y], .cons ⟨tk, rfl⟩ (.cons ru .nil), hTT⟩, rfl, ⟨T, x, fun ys hy => by rw [← sqJ I hq hy]; exact hx, I.hok.fresh hT, rfl, rfl⟩, ⟨by simpa using hSt.1, hSt.2.1⟩, fun b hb => ?_⟩
    have hn := (hf b hb).1
    rw [upd_ne (Nat.ne_of_lt (Nat.lt_of_lt_of_le ?_ hT))]
    · exact hn
    · have : b = e ∨ b = it := by simpa using hb
      rcases this with rfl | rfl
      · exact Heap.lt_size he
      · exact Heap.lt_size hoi
  done := by
    intro X hP hw hK hc i pins s σ H E I hf st hg
    subst hP hw hK
    obtain ⟨⟨old, he⟩, hit⟩ := st
    obtain ⟨xs, hq, hx⟩ := hg
    obtain ⟨its, rv, p, hz⟩ := sqI I hq
    have p' : IsB f s.heap a its.toArray := p
    obtain ⟨oi, hoi, hci, hdi⟩ := hit.obj
    obtain ⟨oa, na, hoa, hca, hda⟩ := p'.obj
    have n1 : a ≠ it := p'.ne hit
    have n2 : e ≠ it := cls_ne he hoi rfl hci (by cases f <;> decide)
    have n3 : e ≠ a := cls_ne he hoa rfl hca (by cases f <;> decide)
    have W := WalksT.enumerateD (prog := X.prog) (w := X.w) (A := X.A) (draws_B f (A := X.A.in1) (show X.A.in1.handled = none from I.ok.hd hc) it a n1 its.toArray) e n2 (by simp [n2, n3]) (by simp)
    have hi : i = its.toArray.size := by rw [List.size_toArray, ← rv.length]; exact hx.symm
    subst hi
    refine W.done s _ E ⟨⟨old, he⟩, hit, p'⟩ fun h' tk hk => ⟨rfl, ?_⟩
    have := I.call' (ch := [e, it]) (H' := H) (s' := { s with heap := h', toks := tk }) rfl ⟨fun b u q n hb hx => hk b u (by simpa using hx) q, fun b u q n hb hx => ⟨u.slots, hk b u (by simpa using hx) q⟩, fun b u q n hx => n, fun b u q hx => ⟨u, hk b u (by simpa using hx) q⟩, fun b xs q => q, fun b u xs q => q, fun b ps q => ⟨#[], by rw [q]; simp⟩⟩
      (fun a u e' => ?_) I.bare fun b hb => ⟨(hf b hb).2.2.2.1, (hf b hb).2.1, (hf b hb).2.2.2.2.1, (hf b hb).2.2.2.2.2⟩
    · exact this
    · refine (I.hok a u e').stay (fun b z hb q => hk b z (fun hc => ?_) q) (fun _ q => q) fun _ _ q => q
      have hnone := (hf b (by simpa using hc)).1
      rcases hb with rfl | hb
      · rw [hnone] at e'; cases e'
      · rw [hnone] at hb; cases hb
  self := fun _ _ _ _ _ st h => let ⟨⟨old, he⟩, _⟩ := st; wpAny_pyIter_enum he h
theorem call_enumB {prog : Program} {w : World} {A : Around} {E : Value → Shared → Prop} {s : Shared} {f : Bool} {l : Addr} {items : Array Value} {Q : Value → Shared → Prop}
    (hl : IsB f s.heap l items)
    (h : ∀ h', IsEnum h' (s.heap.objs.size + 1) s.heap.objs.size 0 .none → ItB f h' s.heap.objs.size l 0 → h'.objs.size = s.heap.objs.size + 2 →
      (∀ b o, s.heap.get? b = some o → h'.get? b = some o) → Q (.ref (s.heap.objs.size + 1)) { s with heap := h' }) :
    wpAny (model prog w) A (call (.type "enumerate") [.ref l]) Q E s := by
  have fin : Q (.ref (s.heap.push { cls := .type (inB f), data := .fields #[.ref l, .int 0 0] }).objs.size)
      { s with heap := (s.heap.push { cls := .type (inB f), data := .fields #[.ref l, .int 0 0] }).push { cls := .type "enumerate", data := .fields #[.none, .bool false, .ref s.heap.objs.size, rawInt 0, .none, .none] } } ∧
      ((s.heap.push { cls := .type (inB f), data := .fields #[.ref l, .int 0 0] }).push { cls := .type "enumerate", data := .fields #[.none, .bool false, .ref s.heap.objs.size, rawInt 0, .none, .none] }).get? (s.heap.push { cls := .type (inB f), data := .fields #[.ref l, .int 0 0] }).objs.size = some { cls := .type "enumerate", data := .fields #[.none, .bool false, .ref s.heap.objs.size, rawInt 0, .none, .none] } := by
    have hz : (s.heap.push { cls := .type (inB f), data := .fields #[.ref l, .int 0 0] }).objs.size = s.heap.objs.size + 1 := Heap.size_push ..
    have he := Heap.get?_push_size (s.heap.push { cls := .type (inB f), data := .fields #[.ref l, .int 0 0] })
      (o := { cls := .type "enumerate", data := .fields #[.none, .bool false, .ref s.heap.objs.size, rawInt 0, .none, .none] }) rfl
    refine ⟨?_, he⟩
    rw [hz] at he
    rw [hz]
    exact h _ he (.of (Heap.get?_push_of_some _ (Heap.get?_push_size _ rfl)) rfl rfl) (by rw [Heap.size_push, hz]) fun b o x => Heap.get?_push_of_some _ (Heap.get?_push_of_some _ x)
  obtain ⟨⟨oc, od, odt, osl⟩, n, ho, hc, hd⟩ := hl.obj
  have hc' : oc = .type (cnB f) := hc
  have hd' : odt = .seq items n := hd
  subst hc' hd'
  cases f
  · exact callType_new F.called_enumerate (by decide) (F.typeCall_enumerate_1 _) (F.newCall_enumerate_1 _) (fun obj => F.args_object_init_2 obj _) F.entry_enumerate_new
      (meets_enum_tuple l items n od osl) ⟨ho, ⟨_, fin.2, rfl⟩, fin.1⟩
  · exact callType_new F.called_enumerate (by decide) (F.typeCall_enumerate_1 _) (F.newCall_enumerate_1 _) (fun obj => F.args_object_init_2 obj _) F.entry_enumerate_new
      (meets_enum_list l items n od osl) ⟨ho, ⟨_, fin.2, rfl⟩, fin.1⟩
def iEnum (f : Bool) (K : PySem.W.Frag) (ta : TA) : TI := fun σ H R => ta σ H fun vs H1 => ∃ a, vs = [.ref a] ∧ (∃ xs, SqB f K H1 a xs) ∧ R (Ite f K a) H1
theorem pi_enum {f : Bool} {X : Cx} {elts : List Expr} {kk : Nat} {tpos : Pos} {a : Expr} {ta : TA} {p pos : Pos} (hg : Gl X "enumerate") (hm : X.mg "enumerate" = none) (ha : PA X [a] ta) (hs : starEach [a] X.env = [(false, eval a X.env)]) :
    PI X (.Tuple elts kk tpos) (.Call (.Name "enumerate" p) [a] [] pos) (iEnum f X.K ta) := by
  intro pins s σ H R I h
  refine Call_ (ld_blt I hg hm boot_enumerate (PyProof.Rows.callWith_type1 (thn (ha pos pins s σ H _ I h) fun us s1 ⟨vs, H1, I1, r1, q1⟩ => ?_) hs rfl))
  obtain ⟨a, e, ⟨xs, hq⟩, q⟩ := q1
  subst e
  cases r1 with
  | cons r rr =>
    cases rr
    cases r
    obtain ⟨its, rv, p, hz⟩ := sqI I1 hq
    refine call_enumB p fun h' he hit hsz hk => ?_
    refine wpAny_pyIter_enum (s := { s1 with heap := h' }) he ?_
    have I2 : L2.Inv X pins σ H1 { s1 with heap := h', toks := s1.toks } := I1.kept hk
    refine ⟨s1.heap.objs.size + 1, [s1.heap.objs.size + 1, s1.heap.objs.size], _, _, H1, rfl, I2, turn_enum f a s1.heap.objs.size (s1.heap.objs.size + 1), ⟨⟨_, he⟩, hit⟩, fun b hb => ?_, q⟩
    have e : b = s1.heap.objs.size + 1 ∨ b = s1.heap.objs.size := by simpa using hb
    rcases e with rfl | rfl
    · exact I1.fpOk (Nat.le_succ _) (I1.hok.fresh (Nat.le_succ _))
    · exact I1.fpOk (Nat.le_refl _) (I1.hok.fresh (Nat.le_refl _))
def numbered (us : List U) : List U := us.zipIdx.map fun p => .tup [.int (p.2 : Nat), p.1]
theorem numbered_len (us : List U) : (numbered us).length = us.length := by simp [numbered]
theorem numbered_get {us : List U} {i : Nat} {x : U} (h : (numbered us)[i]? = some x) : ∃ u, us[i]? = some u ∧ x = .tup [.int i, u] := by
  simp only [numbered, List.getElem?_map, List.getElem?_zipIdx] at h
  cases e : us[i]? with
  | none => rw [e] at h; simp at h
  | some u => rw [e] at h; simp at h; exact ⟨u, rfl, h.symm⟩
theorem walk_enum {f : Bool} {K : PySem.W.Frag} {a : Addr} {us : List U} {vs : List V} {H : Hp} {M : MHp} (sq : StB f K H M a vs) (r : RelUs K H M us vs) : Walk K (Ite f K a) ⟨none, numbered us⟩ H M := by
  refine ⟨fun H1 M1 s rm _ i u e => ?_, fun H1 M1 s rm _ => ⟨vs, sq H1 M1 s, by show vs.length = (numbered us).length; rw [numbered_len, r.length]⟩⟩
  obtain ⟨w, e1, rfl⟩ := numbered_get e
  obtain ⟨v, e2, ru⟩ := r.get e1
  refine ⟨⟨vs, v, sq H1 M1 s, e2⟩, fun x H2 y => ?_⟩
  obtain ⟨p, v', y, hp, rfl, rfl⟩ := y
  have := y vs (sq _ M1 s)
  rw [e2] at this; cases this
  have st := Stp.laid (o := .tup [.int i, v]) rm hp
  have rr : RelUs K H1 M1 [.int i, w] [.int i, v] := by
    simp only [RelUs]
    exact ⟨_, _, rfl, relU_int, _, _, rfl, ru.stp s, rfl⟩
  exact ⟨st, rm.laid hp, relU_tup (rm.no hp) upd_same (rr.stp st)⟩
def uEnum (ta : UA) : UI := fun τ M R => ta τ M fun us M1 => match us with
  | [.tup us] => R ⟨none, numbered us⟩ M1
  | _ => False
theorem sim_enum {K : PySem.W.Frag} {ta : TA} {ta' : UA} (h : SimA K ta ta') : SimI K (iEnum false K ta) (uEnum ta') := fun σ τ H M R' rs rm q R c => h σ τ H M _ rs rm q _ fun us vs M1 H1 s1 rm1 ru h1 => by
  split at h1
  · rename_i xs
    obtain ⟨v, rfl, a⟩ := ru.one
    simp only [RelU] at a
    obtain ⟨a, vs, rfl, m, r⟩ := a
    refine ⟨a, rfl, ⟨vs, ?_⟩, c _ _ M1 H1 s1 rm1 (walk_enum (stT m) r) h1⟩
    exact .inl (.inl m.2)
  · exact h1.elim
theorem ui_enumerate {D : Dat} {elts : List Expr} {kk : Nat} {tpos : Pos} {a : Expr} {p pos : Pos} {ta : UA} (hm : D.mg "enumerate" = none) (ha : PAU D [a] ta) (hg : D.sc.names.lookup ("enumerate" : Str) = some .globalImplicit := by rfl) (hs : ∀ env, starEach [a] env = [(false, eval a env)] := by intro _; rfl) : PIU D (.Tuple elts kk tpos) (.Call (.Name "enumerate" p) [a] [] pos) (uEnum ta) := by
  obtain ⟨_, q, s⟩ := ha
  exact ⟨_, fun X h => h.K ▸ pi_enum (by show X.env.scope.names.lookup _ = _; rw [h.sc]; exact hg) (by rw [h.mg]; exact hm) (q X h) (hs _), sim_enum s⟩
def uEnumL (ta : UA) : UI := fun τ M R => ta τ M fun us M1 => match us with
  | [.lst us] => R ⟨none, numbered us⟩ M1
  | _ => False
end U2
namespace U2
open PySem PySem.Spec PyProof.Rows L2
mutual
def DatV (K : PySem.W.Frag) (H : Hp) : PyData → V → Prop
  | .none, v => v = .non
  | .bool b, v => v = .bl b
  | .int i, v => v = .int i
  | .str z, v => v = .str z
  | .list ds, v => ∃ a xs, v = .ref a ∧ SqL K H a xs ∧ DatVs K H ds xs
  | .tuple ds, v => ∃ a xs, v = .ref a ∧ SqT K H a xs ∧ DatVs K H ds xs
  | .dict _, _ => False
def DatVs (K : PySem.W.Frag) (H : Hp) : List PyData → List V → Prop
  | [], vs => vs = []
  | d :: ds, vs => ∃ v vs', vs = v :: vs' ∧ DatV K H d v ∧ DatVs K H ds vs'
end
mutual
theorem DatV.reads {X : Cx} {pins : List (Addr × Obj)} {σ : L2.St} {H : Hp} {s : Shared} (I : L2.Inv X pins σ H s) : ∀ {d : PyData} {v : V} {u : Value}, DatV X.K H d v → RelV v u → ∃ as, Reads s.heap u d as
  | .none, v, u, h, r => by simp only [DatV] at h; subst h; cases r; exact ⟨_, .none⟩
  | .bool b, v, u, h, r => by simp only [DatV] at h; subst h; cases r; exact ⟨_, .bool b⟩
  | .int i, v, u, h, r => by simp only [DatV] at h; subst h; obtain ⟨t, rfl⟩ := r; exact ⟨_, .int i t⟩
  | .str z, v, u, h, r => by simp only [DatV] at h; subst h; obtain ⟨t, rfl⟩ := r; exact ⟨_, .str z t⟩
  | .list ds, v, u, h, r => by
    simp only [DatV] at h
    obtain ⟨a, xs, rfl, q, hs⟩ := h
    cases r
    obtain ⟨its, rv, p, hz⟩ := I.list q
    obtain ⟨as, ra⟩ := DatVs.reads I hs rv
    obtain ⟨o, h1, h2, n, h3⟩ := p.isList
    exact ⟨_, .list h1 h2 h3 (by simpa using ra)⟩
  | .tuple ds, v, u, h, r => by
    simp only [DatV] at h
    obtain ⟨a, xs, rfl, q, hs⟩ := h
    cases r
    obtain ⟨its, rv, p, hz⟩ := I.tuple q
    obtain ⟨as, ra⟩ := DatVs.reads I hs rv
    obtain ⟨o, h1, h2, n, h3⟩ := (show s.heap.IsTuple a its.toArray from p)
    exact ⟨_, .tuple h1 h2 h3 (by simpa using ra)⟩
  | .dict _, v, u, h, r => by simp only [DatV] at h
theorem DatVs.reads {X : Cx} {pins : List (Addr × Obj)} {σ : L2.St} {H : Hp} {s : Shared} (I : L2.Inv X pins σ H s) : ∀ {ds : List PyData} {vs : List V} {us : List Value}, DatVs X.K H ds vs → Vals vs us → ∃ as, ReadsAll s.heap us ds as
  | [], vs, us, h, r => by simp only [DatVs] at h; subst h; cases r; exact ⟨_, .nil⟩
  | d :: ds, vs, us, h, r => by
    simp only [DatVs] at h
    obtain ⟨v, vs', rfl, h1, h2⟩ := h
    cases r with
    | cons r rr =>
      obtain ⟨as, ra⟩ := DatV.reads I h1 r
      obtain ⟨bs, rb⟩ := DatVs.reads I h2 rr
      exact ⟨_, .cons ra rb⟩
end
def rEqD (K : PySem.W.Frag) (neg : Bool) : R2 := fun x y H Q => ∃ d d', DatV K H d x ∧ DatV K H d' y ∧ d.canLay0 = true ∧ d'.canLay0 = true ∧ min d.depth d'.depth ≤ 64 ∧ Q (.bl (if neg then !PyData.eqv d d' else PyData.eqv d d')) H
theorem op_eqD {X : Cx} {k : Nat} (hr : Room k X.A) : OpR X (compareOp .Eq) (rEqD X.K false) := by
  intro pins s σ H x y v u Q I rx ry h
  obtain ⟨d, d', h1, h2, c1, c2, hd, q⟩ := h
  obtain ⟨as, ra⟩ := h1.reads I rx
  obtain ⟨bs, rb⟩ := h2.reads I ry
  exact SeqAt.compareEq_reads ra rb c1 c2 (by have := hr.units; omega) ⟨.bl _, H, I, rfl, q⟩
theorem op_neD {X : Cx} {k : Nat} (hr : Room k X.A) : OpR X (compareOp .NotEq) (rEqD X.K true) := by
  intro pins s σ H x y v u Q I rx ry h
  obtain ⟨d, d', h1, h2, c1, c2, hd, q⟩ := h
  obtain ⟨as, ra⟩ := h1.reads I rx
  obtain ⟨bs, rb⟩ := h2.reads I ry
  exact SeqAt.compareNe_reads ra rb c1 c2 (by have := hr.units; omega) ⟨.bl _, H, I, rfl, q⟩
mutual
def toD : U → Option PyData
  | .non => some .none
  | .bl b => some (.bool b)
  | .int i => some (.int i)
  | .str z => some (.str z)
  | .tup us => (toDs us).map .tuple
  | .lst us => (toDs us).map .list
  | .ty _ => none
  | .ref _ => none
  | .dic _ _ _ => none
def toDs : List U → Option (List PyData)
  | [] => some []
  | u :: us => match toD u, toDs us with
    | some d, some ds => some (d :: ds)
    | _, _ => none
end
def topD (M : MHp) (u : U) : Option PyData := match u with
  | .ref a => match M a with
    | some (.lst us) => (toDs us).map .list
    | _ => none
  | u => toD u
mutual
theorem toD_rel {K : PySem.W.Frag} {H : Hp} {M : MHp} : ∀ {u : U} {v : V} {d : PyData}, RelU K H M u v → toD u = some d → DatV K H d v
  | .non, v, d, r, e => by simp only [toD, Option.some.injEq] at e; subst e; simp only [DatV]; exact r.non
  | .bl b, v, d, r, e => by simp only [toD, Option.some.injEq] at e; subst e; simp only [DatV]; exact r.bl
  | .int i, v, d, r, e => by simp only [toD, Option.some.injEq] at e; subst e; simp only [DatV]; exact r.int
  | .str i, v, d, r, e => by simp only [toD, Option.some.injEq] at e; subst e; simp only [DatV]; exact r.str
  | .tup us, v, d, r, e => by
    simp only [toD] at e
    cases e2 : toDs us with
    | none => rw [e2] at e; simp at e
    | some ds =>
      rw [e2] at e; simp at e; subst e
      obtain ⟨a, vs, rfl, q, rs⟩ := r.tup
      simp only [DatV]
      exact ⟨a, vs, rfl, q, toDs_rel rs e2⟩
  | .lst us, v, d, r, e => by
    simp only [toD] at e
    cases e2 : toDs us with
    | none => rw [e2] at e; simp at e
    | some ds =>
      rw [e2] at e; simp at e; subst e
      obtain ⟨a, vs, rfl, q, rs⟩ := r.lst
      simp only [DatV]
      exact ⟨a, vs, rfl, q, toDs_rel rs e2⟩
  | .ty _, v, d, r, e => by simp [toD] at e
  | .ref _, v, d, r, e => by simp [toD] at e
  | .dic _ _ _, v, d, r, e => by simp [toD] at e
theorem toDs_rel {K : PySem.W.Frag} {H : Hp} {M : MHp} : ∀ {us : List U} {vs : List V} {ds : List PyData}, RelUs K H M us vs → toDs us = some ds → DatVs K H ds vs
  | [], vs, ds, r, e => by simp only [toDs, Option.some.injEq] at e; subst e; simp only [DatVs]; exact r.inv_nil
  | u :: us, vs, ds, r, e => by
    obtain ⟨v, vs', rfl, a, b⟩ := r.inv_cons
    simp only [toDs] at e
    cases e1 : toD u with
    | none => rw [e1] at e; simp at e
    | some d =>
      cases e2 : toDs us with
      | none => rw [e1, e2] at e; simp at e
      | some ds' =>
        rw [e1, e2] at e; simp at e; subst e
        simp only [DatVs]
        exact ⟨v, vs', rfl, toD_rel a e1, toDs_rel b e2⟩
end
theorem topD_rel {K : PySem.W.Frag} {H : Hp} {M : MHp} {u : U} {v : V} {d : PyData} (rm : RelM K H M) (r : RelU K H M u v) (e : topD M u = some d) : DatV K H d v := by
  cases u with
  | ref a =>
    simp only [topD] at e
    split at e
    · rename_i us hM
      cases e2 : toDs us with
      | none => rw [e2] at e; simp at e
      | some ds =>
        rw [e2] at e; simp at e; subst e
        obtain ⟨vs, h1, rs⟩ := rm a _ hM
        cases r.ref
        simp only [DatV]
        exact ⟨a, vs, rfl, .inl (.inl h1), toDs_rel rs e2⟩
    · cases e
  | _ => exact toD_rel r (by simpa only [topD] using e)
def uEqD (neg : Bool) : UR2 := fun x y M Q => ∃ d d', topD M x = some d ∧ topD M y = some d' ∧ d.canLay0 = true ∧ d'.canLay0 = true ∧ min d.depth d'.depth ≤ 64 ∧ Q (.bl (if neg then !PyData.eqv d d' else PyData.eqv d d')) M
theorem sim_eqD {K : PySem.W.Frag} {neg : Bool} : SimR2 K (rEqD K neg) (uEqD neg) := fun x y u w H M Q' rm ru rw h Q c => by
  obtain ⟨d, d', e1, e2, c1, c2, hd, q⟩ := h
  exact ⟨d, d', topD_rel rm ru e1, topD_rel rm rw e2, c1, c2, hd, c.here rm relU_bl q⟩
variable {D : Dat}
def flatU : U → Bool
  | .non => true
  | .bl _ => true
  | .int _ => true
  | .str _ => true
  | _ => false
def eqF : U → U → Bool
  | .non, .non => true
  | .bl a, .bl b => a == b
  | .bl a, .int j => (if a then 1 else 0) == j
  | .int i, .bl b => i == (if b then 1 else 0)
  | .int i, .int j => i == j
  | .str x, .str y => x == y
  | _, _ => false
def items (M : MHp) : U → Option (List U)
  | .tup us => some us
  | .lst us => some us
  | .ref a => match M a with
    | some (.lst us) => some us
    | _ => none
  | _ => none
def uIn (neg : Bool) : UR2 := fun x y M Q => match items M y with
  | some us => flatU x = true ∧ us.all flatU = true ∧ Q (.bl (if neg then !us.any (fun u => eqF u x) else us.any (fun u => eqF u x))) M
  | none => False
theorem flat_rel {K : PySem.W.Frag} {H : Hp} {M : MHp} {u : U} {v : V} (r : RelU K H M u v) (f : flatU u = true) : flatV v = true := by
  cases u with
  | non => cases r.non; rfl
  | bl b => cases r.bl; rfl
  | int b => cases r.int; rfl
  | str b => cases r.str; rfl
  | _ => exact absurd (show false = true from f) Bool.false_ne_true
theorem eqF_rel {K : PySem.W.Frag} {H : Hp} {M : MHp} {u w : U} {v x : V} (r : RelU K H M u v) (r' : RelU K H M w x) (f : flatU u = true) (f' : flatU w = true) : eqV v x = eqF u w := by
  cases u <;> (first | (cases r.non) | (cases r.bl) | (cases r.int) | (cases r.str) | exact absurd (show false = true from f) Bool.false_ne_true) <;> cases w <;>
    (first | (cases r'.non) | (cases r'.bl) | (cases r'.int) | (cases r'.str) | exact absurd (show false = true from f') Bool.false_ne_true) <;> rfl
theorem flats_rel {K : PySem.W.Frag} {H : Hp} {M : MHp} : ∀ {us : List U} {vs : List V}, RelUs K H M us vs → us.all flatU = true → vs.all flatV = true
  | [], vs, r, _ => by cases r.inv_nil; rfl
  | u :: us, vs, r, f => by
    obtain ⟨v, vs', rfl, a, b⟩ := r.inv_cons
    rw [List.all_cons, Bool.and_eq_true] at f ⊢
    exact ⟨flat_rel a f.1, flats_rel b f.2⟩
theorem inV_rel {K : PySem.W.Frag} {H : Hp} {M : MHp} {w : U} {x : V} (r' : RelU K H M w x) (f' : flatU w = true) : ∀ {us : List U} {vs : List V}, RelUs K H M us vs → us.all flatU = true → inV x vs = us.any fun u => eqF u w
  | [], vs, r, _ => by cases r.inv_nil; rfl
  | u :: us, vs, r, f => by
    obtain ⟨v, vs', rfl, a, b⟩ := r.inv_cons
    rw [List.all_cons, Bool.and_eq_true] at f
    have := inV_rel r' f' b f.2
    unfold inV at this ⊢
    rw [List.any_cons, List.any_cons, this, eqF_rel a r' f.1 f']
theorem items_rel {K : PySem.W.Frag} {H : Hp} {M : MHp} {u : U} {v : V} {us : List U} (rm : RelM K H M) (r : RelU K H M u v) (e : items M u = some us) : ∃ p xs, v = .ref p ∧ (SqL K H p xs ∨ SqT K H p xs) ∧ RelUs K H M us xs := by
  cases u with
  | tup us' => cases e; obtain ⟨a, vs, rfl, q, rs⟩ := r.tup; exact ⟨a, vs, rfl, .inr q, rs⟩
  | lst us' => cases e; obtain ⟨a, vs, rfl, q, rs⟩ := r.lst; exact ⟨a, vs, rfl, .inl q, rs⟩
  | ref a =>
    simp only [items] at e
    split at e
    · rename_i us' hM
      cases e
      obtain ⟨vs, h1, rs⟩ := rm a _ hM
      exact ⟨a, vs, r.ref, .inl (.inl (.inl h1)), rs⟩
    · cases e
  | _ => cases e
theorem sim_in {K : PySem.W.Frag} {neg : Bool} : SimR2 K (rIn K neg) (uIn neg) := fun x y u w H M Q' rm ru rw h Q c => by
  unfold uIn at h
  split at h
  · rename_i us e
    obtain ⟨f, fs, q⟩ := h
    obtain ⟨p, xs, rfl, hs, rs⟩ := items_rel rm rw e
    refine ⟨p, xs, rfl, hs, flat_rel ru f, flats_rel rs fs, ?_⟩
    rw [inV_rel ru f rs fs]
    exact c.here rm relU_bl q
  · exact h.elim
theorem k_in : Cmp D .In (uIn false) := ⟨⟨_, fun X h => h.K ▸ op_in_seq, sim_in⟩⟩
def uEqX (neg : Bool) : UR2 := fun x y M Q => match eqS x y with
  | some b => Q (.bl (if neg then !b else b)) M
  | none => uEqD neg x y M Q
theorem k_eqX : Cmp D .Eq (uEqX false) := ⟨⟨_, fun X h => h.K ▸ op_eq.or (op_eqD h.room), fun x y u w H M Q' rm ru rw h Q c => by
  unfold uEqX at h
  split at h
  · rename_i b e
    obtain ⟨h1, h2⟩ := eqS_rel ru rw e
    exact .inl ⟨h1, c.here rm (by rw [h2]; exact relU_bl) h⟩
  · exact .inr (sim_eqD x y u w H M Q' rm ru rw h Q c)⟩⟩
theorem k_neX : Cmp D .NotEq (uEqX true) := ⟨⟨_, fun X h => h.K ▸ op_ne.or (op_neD h.room), fun x y u w H M Q' rm ru rw h Q c => by
  unfold uEqX at h
  split at h
  · rename_i b e
    obtain ⟨h1, h2⟩ := eqS_rel ru rw e
    exact .inl ⟨h1, c.here rm (by rw [h2]; exact relU_bl) h⟩
  · exact .inr (sim_eqD x y u w H M Q' rm ru rw h Q c)⟩⟩
end U2
namespace U2
open PySem PySem.Spec PyProof.Rows L2
section
variable {prog : Program} {w : World} {A : Around} {E : Value → Shared → Prop} {s : Shared} {z TI TO i1 i2 : Addr} {f1 f2 : List Addr} {n1 n2 : Nat} {P1 P2 : Nat → Value → Prop} {S1 S2 : Nat → Heap → Prop} {i : Nat} {a b : Value}
end
abbrev zH1 (f : Bool) (h : Heap) (a : Addr) : Heap := h.push { cls := .type (inB f), data := .fields #[.ref a, .int 0 0] }
abbrev zH2 (f g : Bool) (h : Heap) (a c : Addr) : Heap := (zH1 f h a).push { cls := .type (inB g), data := .fields #[.ref c, .int 0 0] }
abbrev zH3 (f g : Bool) (h : Heap) (a c : Addr) : Heap := (zH2 f g h a c).push { cls := .type "tuple", data := .seq #[.ref h.objs.size, .ref (zH1 f h a).objs.size] }
abbrev zH4 (f g : Bool) (h : Heap) (a c : Addr) : Heap := (zH3 f g h a c).push { cls := .type "tuple", data := .seq #[.none, .none] }
abbrev zH5 (f g : Bool) (h : Heap) (a c : Addr) : Heap := (zH4 f g h a c).push { cls := .type "zip", data := .fields #[.none, .bool false, .bool false, .ref (zH2 f g h a c).objs.size, .ref (zH3 f g h a c).objs.size] }
def zipped : List U → List U → List U
  | u :: us, w :: ws => .tup [u, w] :: zipped us ws
  | _, _ => []
theorem zipped_len : ∀ us ws : List U, (zipped us ws).length = min us.length ws.length
  | [], ws => by simp [zipped]
  | _ :: _, [] => by simp [zipped]
  | u :: us, w :: ws => by simp only [zipped, List.length_cons, zipped_len us ws]; omega
def uZip (ta : UA) : UI := fun τ M R => ta τ M fun us M1 => match us with
  | [.tup us, .tup ws] => R ⟨none, zipped us ws⟩ M1
  | _ => False
def uZipL (ta : UA) : UI := fun τ M R => ta τ M fun us M1 => match us with
  | [.tup us, .lst ws] => R ⟨none, zipped us ws⟩ M1
  | _ => False
end U2
namespace U2
open PySem PySem.Spec PyProof.Rows L2
theorem meets_extendL (l : Addr) (items : Array Value) (n : Nat) (b : Addr) (items2 : Array Value) (n2 : Nat) (dd : Option Addr) (sl : Array (Option Value)) (hc0 : ¬(!items.isEmpty && Builtin.List.listTooLong (items.size + items2.size)) = true) (hc1 : items.size ≤ sizeLine) (hs2 : items.size + items2.size ≤ sizeLine + 1) :
    Meets (Builtin.«list.extend» ⟨[.ref l, .ref b], []⟩) (fun _ R s => s.heap.get? l = some { cls := .type "list", dict := none, data := .seq items n, slots := #[] } ∧ s.heap.get? b = some { cls := .type "list", dict := dd, data := .seq items2 n2, slots := sl } ∧ R (.ok (.ret Value.none)) { s with heap := s.heap.update l (Obj.mapSeq fun x => x ++ items2), toks := s.toks }) :=
  .of_wp fun prog w A R s h => by
    obtain ⟨hp, g, d, tk, os⟩ := s; obtain ⟨hl, hb, h⟩ := h
    have f1 := PySem.AutoSeq1.idx_int; have f2 := PySem.AutoSeq1.sub_tuple_tuple; have f3 := PySem.AutoSeq1.sub_list_list; have f4 := PySem.AutoSeq1.sub_tuple_list; have f5 := PySem.AutoSeq1.sub_list_tuple
    have hz' : (items ++ items2).size ≤ sizeLine + 1 := by rw [Array.size_append]; exact hs2
    wp_walk using (wpAny_updateSeq hl rfl (hz := hc1) (_hz' := hz')), wpAny_loadPart' hl, wpAny_loadPart' hb
    exact ⟨_, rfl, h⟩
theorem mt_extendL {X : Cx} : MtM X "list.extend" (rExtendL X.K) := by
  intro pins s σ H x vs v us Q I rx rv h
  obtain ⟨l, b, xs, zs, rfl, rfl, hH, hB, hz, q⟩ := h
  cases rx
  obtain ⟨u, rfl, ru⟩ := rv.one
  cases ru
  obtain ⟨z, its, n, r, hl, e⟩ := I.lstM hH
  obtain ⟨its2, r2, ⟨⟨oc, od, odt, osl⟩, n2, e2, hc, hd, hdt⟩, hl2⟩ := I.list hB
  have hc' : oc = .type "list" := hc
  have hdt' : odt = .seq its2.toArray n2 := hdt
  subst hc' hdt'
  have l2 := r2.length
  have hsz : its.toArray.size + its2.toArray.size ≤ sizeLine := by rw [List.size_toArray, List.size_toArray]; omega
  have hlong : ¬ (!its.toArray.isEmpty && Builtin.List.listTooLong (its.toArray.size + its2.toArray.size)) = true := by
    rw [notLongL hsz, Bool.and_false]
    exact Bool.false_ne_true
  refine call_meets PySem.F.slot_list_extend ⟨_, e, rfl⟩ PySem.F.entry_list_extend (PySem.F.args_list_extend_2 _ _)
    (meets_extendL l its.toArray n b its2.toArray n2 od osl hlong (by rw [List.size_toArray]; omega) (by omega)) ⟨e, e2, ?_⟩
  refine ⟨.non, _, I.lset (its' := its ++ its2) hH e (by simp) (r.append r2) ?_, rfl, q⟩
  rw [List.length_append]
  omega
variable {D : Dat} {o e : Expr} {ta : UE} {tas : UA} {pos : Pos}
theorem ue_extend {apos : Pos} (ho : PEU D o ta) (ha : PAU D [e] tas) (hbase : ∀ env, attributeBase o "extend" env (eval o env) = eval o env := by intro _; rfl)
    (hfew : ∀ env, ((backTo pos (starEach [e] env)).all (fun x => !x.1) && (backToKw pos (keywordEach [] env)).all (fun x => x.1.isSome) && decide ([e].length + ([] : List Keyword).length + (if ([] : List Keyword).isEmpty then 0 else 1) < 30)) = true := by intro _; rfl)
    (hline : (apos.endLine == pos.line) = true := by rfl) (hs : ∀ env, starEach [e] env = [(false, eval e env)] := by intro _; rfl) : PEU D (.Call (.Attribute o "extend" apos) [e] [] pos) (uBM mExtend ta tas) := by
  obtain ⟨_, p, s⟩ := ho; obtain ⟨_, q, r⟩ := ha
  refine ⟨_, fun X h => ?_, sim_bm sim_extend s r⟩
  have := pe_bm (cpos := pos) (apos := apos) PySem.F.plainAttrs_list PySem.F.slot_list_extend PySem.F.type_list_extend mt_extendL (p X h) (q X h) (hbase _) (hfew _) hline (hs _) (by rfl)
  rw [h.K] at this
  exact this
end U2
namespace U2
open PySem PySem.Spec PyProof.Rows L2
def intsOf : List U → Option (List Int)
  | [] => some []
  | .int i :: us => (intsOf us).map (i :: ·)
  | _ :: _ => none
theorem intsOf_rel {K : PySem.W.Frag} {H : Hp} {M : MHp} : ∀ {us : List U} {vs : List V} {xs : List Int}, RelUs K H M us vs → intsOf us = some xs → vs = xs.map V.int
  | [], vs, xs, r, e => by cases e; exact r.inv_nil
  | u :: us, vs, xs, r, e => by
    obtain ⟨v, vs', rfl, a, b⟩ := r.inv_cons
    cases u with
    | int i =>
      simp only [intsOf] at e
      cases e2 : intsOf us with
      | none => rw [e2] at e; cases e
      | some ys => rw [e2] at e; cases e; rw [a.int, intsOf_rel b e2]; rfl
    | _ => cases e
def uLtX : UR2 := fun x y M Q => match x, y with
  | .int i, .int j => Q (.bl (decide (i < j))) M
  | .tup us, .tup ws => ∃ xs ys, intsOf us = some xs ∧ intsOf ws = some ys ∧ Q (.bl (HT.lexLt xs ys)) M
  | _, _ => False
variable {D : Dat}
theorem k_ltX : Cmp D .Lt uLtX := ⟨⟨_, fun X h => h.K ▸ op_lt.or (op_ltT h.room.units0), fun x y u w H M Q' rm ru rw h Q c => by
  unfold uLtX at h
  split at h
  · rename_i i j
    exact .inl (sim_bool2 (f := fun i j => decide (i < j)) x y (.int i) (.int j) H M Q' rm ru rw h Q c)
  · rename_i us ws
    obtain ⟨xs, ys, e1, e2, q⟩ := h
    obtain ⟨a, vs, rfl, s1, r1⟩ := ru.tup
    obtain ⟨a', vs', rfl, s2, r2⟩ := rw.tup
    cases intsOf_rel r1 e1
    cases intsOf_rel r2 e2
    exact .inr ⟨a, a', xs, ys, rfl, rfl, s1, s2, c.here rm relU_bl q⟩
  · exact h.elim⟩⟩
end U2
namespace U2
open PySem PySem.Spec PyProof.Rows L2
def maxI : Int → List Int → Int
  | m, [] => m
  | m, n :: ns => maxI (if n > m then n else m) ns
theorem maxI_ge : ∀ (ns : List Int) (m : Int), m ≤ maxI m ns ∧ ∀ n ∈ ns, n ≤ maxI m ns
  | [], m => ⟨Int.le_refl _, fun n h => by cases h⟩
  | k :: ns, m => by
    obtain ⟨h1, h2⟩ := maxI_ge ns (if k > m then k else m)
    have hk : m ≤ (if k > m then k else m) ∧ k ≤ (if k > m then k else m) := by split <;> omega
    simp only [maxI]
    refine ⟨by omega, fun n hn => ?_⟩
    rcases List.mem_cons.mp hn with rfl | hn
    · omega
    · exact h2 n hn
theorem maxI_mem : ∀ (ns : List Int) (m : Int), maxI m ns = m ∨ maxI m ns ∈ ns
  | [], m => .inl rfl
  | k :: ns, m => by
    simp only [maxI]
    rcases maxI_mem ns (if k > m then k else m) with h | h
    · by_cases hk : k > m
      · rw [if_pos hk] at h ⊢; exact .inr (by rw [h]; exact List.mem_cons_self)
      · rw [if_neg hk] at h ⊢; exact .inl h
    · exact .inr (List.mem_cons_of_mem _ h)
theorem maxI_is {m M : Int} {ns : List Int} (h1 : M = m ∨ M ∈ ns) (h2 : m ≤ M) (h3 : ∀ n ∈ ns, n ≤ M) : maxI m ns = M := by
  obtain ⟨g1, g2⟩ := maxI_ge ns m
  rcases maxI_mem ns m with e | e
  · rcases h1 with rfl | h1
    · exact e
    · have := g2 M h1; omega
  · have := h3 _ e
    rcases h1 with rfl | h1
    · omega
    · have := g2 M h1; omega
section
variable {X : Cx}
theorem call_maxL (hc : X.calm = true) : CallR X (.builtin "max") (fun xs H Q => ∃ p m ns, xs = [.ref p] ∧ SqL X.K H p ((m :: ns).map V.int) ∧ Q (.int (maxI m ns)) H) := by
  intro pins s σ H xs us Q I r h
  obtain ⟨p, m, ns, rfl, hq, q⟩ := h
  obtain ⟨u, rfl, rx⟩ := vals1 r
  cases rx
  obtain ⟨its, r', pl, hz⟩ := I.list hq
  have hi : IntsAre its (m :: ns) := intsAre_of r'
  obtain ⟨ys, e⟩ := hi.allInts.items
  have hns : (m :: ns) = ys.toList.map (·.1) := by
    rw [← hi.numsOf, ← nums_intItems, ← e]
  have hsz : 0 < ys.size := by
    have h3 : ns.length + 1 = ys.size := by have := congrArg List.length hns; simpa using this
    omega
  have hl := pl.isList
  rw [e] at hl
  refine max_intList (I.ok.hd hc) hl hsz fun v h' tk hv hk => ?_
  obtain ⟨t, rfl⟩ := intItems_at hv
  obtain ⟨h1, h2⟩ := argBest_gt (numAt ys) (ys.size - 1)
  have hM : maxI m ns = numAt ys (argBest (fun i j => decide (numAt ys i > numAt ys j)) (ys.size - 1)) := by
    have hin : numAt ys (argBest (fun i j => decide (numAt ys i > numAt ys j)) (ys.size - 1)) ∈ m :: ns := by
      rw [hns, numAt_eq]; exact getD_mem (by rw [List.length_map, Array.length_toList]; omega)
    have hge : ∀ a ∈ m :: ns, a ≤ numAt ys (argBest (fun i j => decide (numAt ys i > numAt ys j)) (ys.size - 1)) := fun a ha => by
      rw [hns] at ha
      obtain ⟨j, hj, rfl⟩ := mem_getD ha
      rw [List.length_map, Array.length_toList] at hj
      rw [← numAt_eq]; exact h2 j (by omega)
    exact maxI_is (List.mem_cons.mp hin) (hge m List.mem_cons_self) fun n hn => hge n (List.mem_cons_of_mem _ hn)
  exact ⟨.int (maxI m ns), H, I.kept hk, ⟨t, by rw [hM]⟩, q⟩
def bSum : List U → MHp → UK → Prop := fun us M Q => match us with
  | [x] => match view M x with
    | .lst ws => ∃ ns, intsOf ws = some ns ∧ PySem.SumFits ns ∧ Q (.int ns.sum) M
    | _ => False
  | _ => False
def bMax : List U → MHp → UK → Prop := fun us M Q => match us with
  | [.int i, .int j] => Q (.int (if j > i then j else i)) M
  | [x] => match view M x with
    | .lst ws => ∃ m ns, intsOf ws = some (m :: ns) ∧ Q (.int (maxI m ns)) M
    | _ => False
  | _ => False
theorem b_maxX {D : Dat} : Blt D (.builtin "max") bMax := ⟨⟨_, fun X h => by
    have := (call_max2 (X := X) h.calm).or (call_maxL h.calm); rw [h.K] at this; exact this, fun xs us H M Q' rm rus h Q c => by
  unfold bMax at h
  split at h
  · rename_i i j
    obtain ⟨v, z, rfl, a1, a2⟩ := rus.two
    cases a1.int; cases a2.int
    exact .inl ⟨i, j, rfl, c.here rm relU_int h⟩
  · rename_i x
    obtain ⟨v, rfl, a1⟩ := rus.one
    split at h
    · rename_i ws e
      obtain ⟨m, ns, e2, q⟩ := h
      obtain ⟨b, zvs, rfl, s2, r2⟩ := view_lst rm a1 e
      rw [intsOf_rel r2 e2] at s2
      exact .inr ⟨b, m, ns, rfl, s2, c.here rm relU_int q⟩
    · exact h.elim
  · exact h.elim⟩⟩
end
end U2
namespace U2
open PySem PySem.Spec PyProof.Rows L2
section
variable {D : Dat} {a b c e o i : Expr} {ta tb tc te to ti : UE} {pos p : Pos} {es : List Expr} {tas : UA} {x : Str}
def uSetI (te to ti : UE) : US := fun D τ M => te τ M fun v M1 => to τ M1 fun x M2 => ti τ M2 fun y M3 => match x, y with
  | .ref a, .int k => match M3 a with
    | some (.lst us) => ∃ j, ixN us.length k = some j ∧ D.nx τ (mup M3 a (.lst (us.set j v)))
    | _ => False
  | _, _ => False
def mPopAt : U → List U → MHp → UK → Prop := fun x ws M Q => match x, ws with
  | .ref a, [.int i] => match M a with
    | some (.lst us) => -(2 ^ 63) ≤ i ∧ i < 2 ^ 63 ∧ ∃ k y, seqIndex? i us.length = some k ∧ us[k]? = some y ∧ Q y (mup M a (.lst (us.eraseIdx k)))
    | _ => False
  | _, _ => False
def bInt : List U → MHp → UK → Prop := fun us M Q => match us with
  | [.int i] => Q (.int i) M
  | [.bl k] => Q (.int (if k then 1 else 0)) M
  | _ => False
theorem b_int : Blt D (.type "int") bInt := ⟨⟨_, fun X h => call_int1, fun xs us H M Q' rm rus h Q c => by
  unfold bInt at h
  split at h
  · rename_i j
    obtain ⟨v, rfl, a⟩ := rus.one
    cases a.int
    exact .inl ⟨j, rfl, c.here rm relU_int h⟩
  · rename_i j
    obtain ⟨v, rfl, a⟩ := rus.one
    cases a.bl
    exact .inr ⟨j, rfl, c.here rm relU_int h⟩
  · exact h.elim⟩⟩
def CMulB (i j : Int) : Prop := CMul i j ∨ (Builtin.Int.intBits i ≤ 60000000 ∧ Builtin.Int.intBits j ≤ 60000000)
theorem CMulB.ok {i j : Int} (h : CMulB i j) : IntMulOk i j := by
  rcases h with h | ⟨h1, h2⟩
  · exact h.ok
  · exact IntMulOk.of_le h1 h2 (by decide)
theorem op_mulB {X : Cx} : OpR X (binaryOp .Mult) (rI CMulB fun i j => .int (i * j)) := opI fun _ _ _ _ _ _ _ hc q => mul_int q hc.ok
def repS (z : Str) (n : Int) : Str := if n < 1 then Str.empty else if (n == 1 || z.length == 0) = true then z else ⟨(List.replicate n.toNat z.cps).foldl (· ++ ·) #[]⟩
theorem op_repS {X : Cx} : OpR X (binaryOp .Mult) (fun x y H Q => ∃ z n, x = .str z ∧ y = .int n ∧ -(2 ^ 63) ≤ n ∧ n < 2 ^ 20 ∧ z.length ≤ 2 ^ 20 ∧ z.length * n.toNat ≤ 100000 ∧ Q (.str (repS z n)) H) := by
  intro pins s σ H x y v u Q I rx ry h
  obtain ⟨z, n, rfl, rfl, h1, h2, h3, h4, q⟩ := h
  obtain ⟨t, rfl⟩ := rx
  obtain ⟨t', rfl⟩ := ry
  have e1 : (decide (n < -(2 ^ 63 : Int)) || decide (n ≥ 2 ^ 63)) = false := by
    rw [decide_eq_false (by omega), decide_eq_false (by omega)]; rfl
  refine PySem.P.mul_str e1 (fun g1 g2 => ?_) (fun g1 g2 => ?_) ?_
  · intro hh
    have hn : (1 : Int) ≤ n := by omega
    have e3 : (z.length : Int) * n = ((z.length * n.toNat : Nat) : Int) := by
      rw [Int.natCast_mul, Int.toNat_of_nonneg (by omega)]
    have := Int.le_ediv_of_mul_le (show (0 : Int) < n by omega) (show (z.length : Int) * n ≤ 2 ^ 63 - 1 by rw [e3]; omega)
    omega
  · unfold Builtin.Str.tooLong sizeLine
    exact decide_eq_false (by omega)
  · have hq : ∀ (t2 : Tok) k, EP X pins σ Q (.str (repS z n) t2) { s with toks := k } := fun t2 k => ⟨.str (repS z n), H, I.tok k, ⟨t2, rfl⟩, q⟩
    unfold repS at hq
    by_cases g1 : n < 1
    · rw [if_pos g1]
      simp only [if_pos g1] at hq
      exact ⟨by decide, hq _ _⟩
    · rw [if_neg g1]
      simp only [if_neg g1] at hq
      by_cases g2 : (n == 1 || z.length == 0) = true
      · rw [if_pos g2]
        simp only [if_pos g2] at hq
        exact hq t s.toks
      · rw [if_neg g2]
        simp only [if_neg g2] at hq
        refine ⟨?_, hq _ _⟩
        have hsz : ∀ (k : Nat) (acc : Array Nat), ((List.replicate k z.cps).foldl (· ++ ·) acc).size = acc.size + k * z.cps.size := by
          intro k
          induction k with
          | zero => intro acc; simp
          | succ k ih => intro acc; rw [List.replicate_succ, List.foldl_cons, ih, Array.size_append, Nat.succ_mul]; omega
        show ((List.replicate n.toNat z.cps).foldl (· ++ ·) #[]).size ≤ sizeLine
        rw [hsz]
        have h5 : n.toNat * z.cps.size ≤ 100000 := by rw [Nat.mul_comm]; exact h4
        have : (100000 : Nat) ≤ sizeLine := by decide
        simp only [Array.size_empty, Nat.zero_add]
        omega
def uMul (o : Bool) : UR2 := fun x y M Q => match x, y with
  | .int i, .int j => CMulB i j ∧ Q (.int (i * j)) M
  | .str z, .int n => -(2 ^ 63) ≤ n ∧ n < 2 ^ 20 ∧ z.length ≤ 2 ^ 20 ∧ z.length * n.toNat ≤ 100000 ∧ Q (.str (repS z n)) M
  | .ref a, .int k => match M a with
    | some (.lst us) => -(2 ^ 63) ≤ k ∧ k < 2 ^ 63 ∧ us.length * k.toNat ≤ sizeLine ∧ mkL o (List.replicate k.toNat us).flatten M Q
    | _ => False
  | _, _ => False
theorem RelUs.rep {K : PySem.W.Frag} {H : Hp} {M : MHp} {us : List U} {vs : List V} (r : RelUs K H M us vs) : ∀ k : Nat, RelUs K H M (List.replicate k us).flatten (List.replicate k vs).flatten
  | 0 => by simp only [List.replicate_zero, List.flatten_nil]; exact .nil
  | k + 1 => by simp only [List.replicate_succ, List.flatten_cons]; exact r.append (RelUs.rep r k)
theorem sim_mul {K : PySem.W.Frag} {o : Bool} : SimR2 K (fun x y H Q => rI CMulB (fun i j => .int (i * j)) x y H Q ∨ ((∃ z n, x = .str z ∧ y = .int n ∧ -(2 ^ 63) ≤ n ∧ n < 2 ^ 20 ∧ z.length ≤ 2 ^ 20 ∧ z.length * n.toNat ≤ 100000 ∧ Q (.str (repS z n)) H) ∨ rRep x y H Q)) (uMul o) := fun x y u w H M Q' rm ru rw h Q c => by
  unfold uMul at h
  split at h
  · rename_i i j
    exact .inl (sim_int2c (C := CMulB) (f := fun i j => i * j) x y (.int i) (.int j) H M Q' rm ru rw h Q c)
  · rename_i z n
    cases ru.str; cases rw.int
    exact .inr (.inl ⟨z, n, rfl, rfl, h.1, h.2.1, h.2.2.1, h.2.2.2.1, c.here rm relU_str h.2.2.2.2⟩)
  · rename_i a k
    split at h
    · rename_i us e
      obtain ⟨vs, hv, r⟩ := rm a _ e
      cases ru.ref; cases rw.int
      exact .inr (.inr ⟨a, k, vs, rfl, rfl, hv, h.1, h.2.1, by rw [← r.length]; exact h.2.2.1, fun p hp => c.lst rm (r.rep k.toNat) hp h.2.2.2⟩)
    · exact h.elim
  · exact h.elim
theorem ue_mulX (own : Bool := false) (ha : PEU D a ta) (hb : PEU D b tb) : PEU D (.BinOp a .Mult b pos) (uOp (uMul own) ta tb) := ue_op (fun _ _ => op_mulB.or (op_repS.or op_rep)) sim_mul ha hb
def CDivB (_ j : Int) : Prop := 0 < j ∧ j < 2 ^ 64
theorem op_fdivB {X : Cx} : OpR X (binaryOp .FloorDiv) (rI CDivB fun i j => .int (i / j)) := opI fun i j _ _ _ _ _ hc q => by
  have h1 : (0 : Int) < j := hc.1
  have h2 : j.natAbs.log2 < 9000 := by
    have h3 : j.natAbs < 2 ^ 64 := by have := hc.2; omega
    by_cases h : j.natAbs = 0
    · rw [h]; decide
    · have := (Nat.log2_lt h).mpr h3
      omega
  exact floordiv_int (by omega) (by rw [Int.fdiv_eq_ediv_of_nonneg i (by omega)]; exact q) (.inl (PyProof.noPylong_of_log2 h2))
theorem ue_divX (ha : PEU D a ta) (hb : PEU D b tb) : PEU D (.BinOp a .FloorDiv b pos) (uOp (uI CDivB fun i j => .int (i / j)) ta tb) := ue_op (fun _ _ => op_fdivB) sim_int2c ha hb
end
end U2
namespace HT
open PySem PySem.Spec PyProof.Rows L2
variable {prog : Program} {w : World} {A : Around} {E : Value → Shared → Prop} {s : Shared}
theorem getItem_tuple_whole {t sl : Addr} {items : Array Value} {vl vu : Value} {lo hi : Option Int} {Q : Value → Shared → Prop} (ht : IsTup s.heap t items) (hs : s.heap.IsSliceOf sl vl vu .none) (pl : IsPart vl lo) (pu : IsPart vu hi)
    (hw : sIx items.size 0 lo = 0 ∧ sIx items.size items.size hi = items.size)
    (h : Q (.ref t) s) : wpAny (model prog w) A (getItem (.ref t) (.ref sl)) Q E s := by
  obtain ⟨os, hos, hcs, hds⟩ := id hs
  have hTs : s.TypeIs (.ref sl) "slice" := ⟨os, hos, hcs⟩
  unfold getItem
  try with_reducible refine wpAny_holding ?_
  first | refine wpAny_bind (wpAny_pure ?_) | skip
  refine wpAny_bind (wpAny_sequenceKey ht.typeIs (by decide) ?_)
  refine wpAny_bind (wpAny_callSpecial?_slot (name := Str.ofString "__getitem__") ht.typeIs PyProof.Rows.slot_tuple_getitem
    (wpAny_call_entry PyProof.Rows.slot_tuple_getitem ht.typeIs entry_tuple_getitem ?_ (args_tuple_getitem _ _)))
  show wpAny _ _ (Builtin.Tuple.tupleItemsOf (.ref t) >>= _) _ _ s
  refine wpAny_bind (tupleItemsOf_ ht ?_)
  refine wpAny_bind (wpAny_typeOf hTs ?_)
  rw [if_pos (by decide)]
  refine wpAny_bind (sliceApplied_gen hs pl pu ?_)
  have hyes : ((((sIx items.size 0 lo : Nat) : Int) == 0 && (1 : Int) == 1 && (sIx items.size items.size hi - sIx items.size 0 lo) == items.size) = true) := by
    rw [hw.1, hw.2]; simp
  show wpAny _ _ (if (((sIx items.size 0 lo : Nat) : Int) == 0 && (1 : Int) == 1 && (sIx items.size items.size hi - sIx items.size 0 lo) == items.size) = true then _ else _) _ _ s
  rw [if_pos hyes]
  unfold Builtin.Tuple.tupleIsExact
  refine wpAny_bind (wpAny_bind (wpAny_typeOf ht.typeIs (wpAny_pure ?_)))
  rw [if_pos (by decide)]
  refine wpAny_bind (wpAny_rule ?_)
  exact wpAny_pure ⟨_, rfl, wpAny_pure h⟩
end HT
namespace U2
open PySem PySem.Spec PyProof.Rows L2
def rSlW (K : PySem.W.Frag) : V → Option Int → Option Int → Hp → VK → Prop := fun x lo hi H Q => ∃ a xs, x = .ref a ∧ SqT K H a xs ∧ (HT.sIx xs.length 0 lo = 0 ∧ HT.sIx xs.length xs.length hi = xs.length) ∧ Q (.ref a) H
theorem sl_tupW {X : Cx} : SlR X (rSlW X.K) := by
  intro pins s σ H x v vl vu lo hi sl Q I rx hs pl pu h
  obtain ⟨a, xs, rfl, hx, hw, q⟩ := h
  cases rx
  obtain ⟨its, r, ht, hz⟩ := I.tuple hx
  have hlen : its.toArray.size = xs.length := by rw [List.size_toArray]; exact r.length.symm
  refine ⟨"tuple", _, PyProof.Rows.slot_tuple_getitem.lookup, ht.typeIs, ?_⟩
  refine HT.getItem_tuple_whole ht hs pl pu (by rw [hlen]; exact hw) ⟨.ref a, H, I, rfl, q⟩
def uSlX (o : Bool) (te : UE) (tl th : UO) : UE := fun τ M Q => te τ M fun x M1 => tl τ M1 fun l M2 => th τ M2 fun h M3 => match view M3 x with
  | .lst us => mkL o (cutU us l h) M3 Q
  | .tup us => Q (.tup (cutU us l h)) M3
  | .str z => z.length ≤ sizeLine ∧ Q (.str (Txt.slice z l h)) M3
  | _ => False
theorem sim_slX {K : PySem.W.Frag} {o : Bool} {te : TE} {te' : UE} {tl th : TO} {tl' th' : UO} (h0 : SimE K te te') (h1 : SimO K tl tl') (h2 : SimO K th th') : SimE K (tSl (fun x lo hi H Q => rSlA K x lo hi H Q ∨ rSlW K x lo hi H Q) te tl th) (uSlX o te' tl' th') := fun σ τ H M Q' rs rm q Q c =>
  h0 σ τ H M _ rs rm q _ fun u v M1 H1 s1 rm1 ru q1 => h1 σ τ H1 M1 _ (rs.stp s1) rm1 q1 _ fun lo M2 H2 s2 rm2 q2 => h2 σ τ H2 M2 _ ((rs.stp s1).stp s2) rm2 q2 _ fun hi M3 H3 s3 rm3 q3 => by
    have c3 := Cont.stp c ((s1.trans s2).trans s3)
    have ru3 := ru.stp (s2.trans s3)
    split at q3
    · rename_i us e
      obtain ⟨a, xs, rfl, r1, r2⟩ := view_lst rm3 ru3 e
      exact .inl (.inl ⟨a, xs, rfl, r1, fun p hp => c3.lst rm3 (cut_rel r2 lo hi) hp q3⟩)
    · rename_i us e
      have e' := view_tup e
      subst e'
      obtain ⟨a, xs, rfl, r1, r2⟩ := ru3.tup
      by_cases hw : HT.sIx xs.length 0 lo = 0 ∧ HT.sIx xs.length xs.length hi = xs.length
      · refine .inr ⟨a, xs, rfl, r1, hw, c3 _ _ M3 H3 (Stp.refl _ _) rm3 ?_ q3⟩
        have e4 : cutU us lo hi = us := by
          unfold cutU
          rw [r2.length, hw.1, hw.2, List.drop_zero, Nat.sub_zero, ← r2.length, List.take_length]
        rw [e4]
        exact ru3
      · exact .inl (.inr (.inl ⟨a, xs, rfl, r1, hw, fun p hp => c3.tup rm3 (cut_rel r2 lo hi) hp q3⟩))
    · rename_i z e
      have e' := view_str e
      subst e'
      exact .inl (.inr (.inr ⟨z, ru3.str, q3.1, c3 _ _ M3 H3 (Stp.refl _ _) rm3 relU_str q3.2⟩))
    · exact q3.elim
theorem ue_slX {D : Dat} {a : Expr} {ta : UE} {pos : Pos} (own : Bool := false) {lo hi : Option Expr} {tl th : UO} {p2 : Pos} (ha : PEU D a ta) (hl : POU D lo tl) (hh : POU D hi th) : PEU D (.Subscript a (.Slice lo hi none p2) pos) (uSlX own ta tl th) := by
  obtain ⟨_, p, s⟩ := ha; obtain ⟨_, q, r⟩ := hl; obtain ⟨_, u, v⟩ := hh
  refine ⟨_, fun X h => ?_, sim_slX s r v⟩
  have := pe_slice (pos := pos) (p2 := p2) (sl_any.or sl_tupW) (p X h) (q X h) (u X h)
  rw [h.K] at this
  exact this
end U2
namespace Att
open PySem PySem.Spec PyProof.Rows PySem.W Calls
theorem weight_int (m : Int) : (WData.int m).weight = Builtin.Int.intBits m := by
  unfold WData.weight Builtin.Int.intBits; rfl
theorem bits_weight (ns : List Int) : ∀ m ∈ ns, Builtin.Int.intBits m ≤ WData.weightAll (ns.map WData.int) := by
  induction ns with
  | nil => intro m hm; cases hm
  | cons k r ih =>
    intro m hm
    have e : WData.weightAll ((k :: r).map WData.int) = Builtin.Int.intBits k + 1 + WData.weightAll (r.map WData.int) := by
      rw [List.map_cons]
      conv => lhs; unfold WData.weightAll
      rw [weight_int]
    rw [e]
    rcases List.mem_cons.mp hm with rfl | h
    · omega
    · have := ih m h; omega
theorem bits_of {ns : List Int} (h : WData.layableAll [WData.list (ns.map WData.int)] = true) : ∀ m ∈ ns, Builtin.Int.intBits m ≤ 2 ^ 20 := by
  intro m hm
  have h1 : (WData.list (ns.map WData.int)).layable = true := layableW_arg h _ (List.mem_singleton.mpr rfl)
  have h2 : (WData.list (ns.map WData.int)).weight ≤ 2 ^ 20 := of_decide_eq_true (Bool.and_eq_true_iff.mp h1).2
  have h3 : (WData.list (ns.map WData.int)).weight = WData.weightAll (ns.map WData.int) := by
    conv => lhs; unfold WData.weight
  rw [h3] at h2
  exact Nat.le_trans (bits_weight ns m hm) h2
theorem attach_callB {l : OpenLaw} {n : Nat} {q : Program} {loose : List Str} {XP : (Str → Option Value) → Heap → Prop} {YP : World → Heap → Prop} {d : DefRec}
    (hn : l.most = some n) (hdf : d.params.defaults = [])
    (call : ∀ (w : World) (s₀ s₁ : Shared) (mg mb : Str → Option Value) (fa : Addr) (o : Obj) (pm cd doc : Value) (a : Addr) (vs : List Value) (ns : List Int),
      Ground q loose [] XP w s₀ mg mb s₁.heap → YP w s₁.heap →
      s₁.heap.get? fa = some o → o.data = .func (docDef d.name d.params d.body d.scope pm cd doc) → s₁.heap.CodeRec cd d.name → mg d.name = some (.ref fa) →
      s₁.heap.get? a = some { cls := .type "list", data := .seq vs.toArray } → IntsAre vs ns → ns.length ≤ n → s₁.gens = #[] → (∀ m ∈ ns, Builtin.Int.intBits m ≤ 2 ^ 20) →
      codeAny (model l.prog w) callerA (.call (.ref fa) ⟨[.ref a], []⟩) (fun r s' => r = .ok (.ret (.bool true)) ∧ OldK s₁.heap s'.heap ∧ s'.os = s₁.os ∧ AllBare s'.gens) s₁) :
    WalkO q loose XP YP l.row.toRowW d [] (fun f vs => PySem.call f vs) := by
  intro w s₀ s₁ mg mb G Y fa o pm cd doc dV kV ho hd hcd hD hmg hg args vals as hpre hlay hrd hwl hlo
  obtain rfl : dV = .none := Dflts.none hD hdf
  obtain rfl : kV = .none := Dflts.noKw hD
  obtain ⟨a, vs, ns, rfl, rfl, hobj, hints, hlen⟩ := script_of hn hpre hwl
  refine enter_call (codeAny_mono (call w s₀ s₁ mg mb fa o pm cd doc a vs ns G Y ho (fd_plain hd) hcd hmg hobj hints hlen hg (bits_of hlay)) fun r s' hq => ?_)
  obtain ⟨rfl, h2, h3, h4⟩ := hq
  exact ⟨.inl ⟨.bool true, .bool true, [], rfl, fun _ => rfl, .bool true, post_true l _, fun _ => ⟨List.Pairwise.nil, fun _ hm => (nomatch hm)⟩⟩, h2, h3, h4⟩
end Att
namespace L2
open PySem PySem.Spec PyProof.Rows
end L2
namespace U2
open PySem PySem.Spec PyProof.Rows L2
def uRev (ta : UA) : UI := fun τ M R => ta τ M fun us M1 => match us with
  | [.lst us] => R ⟨none, us.reverse⟩ M1
  | _ => False
end U2
namespace U2
open PySem PySem.Spec PyProof.Rows L2
section
variable {prog : Program} {w : World} {A : Around} {E : Value → Shared → Prop} {s : Shared}
end
def uListRev (o : Bool) (ta : UA) : UE := fun τ M Q => ta τ M fun us M1 => match us with
  | [x] => match view M1 x with
    | .lst us => mkL o us.reverse M1 Q
    | _ => False
  | _ => False
end U2
namespace U2
open PySem PySem.Spec PyProof.Rows L2
section
variable {prog : Program} {w : World} {A : Around} {E : Value → Shared → Prop} {s : Shared}
end
end U2
namespace U2
open PySem PySem.Spec PyProof.Rows L2
end U2
namespace U2
open PySem PySem.Spec PyProof.Rows L2
theorem DatVs.len {K : PySem.W.Frag} {H : Hp} : ∀ {ds : List PyData} {vs : List V}, DatVs K H ds vs → ds.length = vs.length
  | [], vs, h => by simp only [DatVs] at h; subst h; rfl
  | d :: ds, vs, h => by
    simp only [DatVs] at h
    obtain ⟨v, vs', rfl, _, h2⟩ := h
    simp only [List.length_cons, DatVs.len h2]
theorem DatVs.at {X : Cx} {pins : List (Addr × Obj)} {σ : L2.St} {H : Hp} {s : Shared} (I : L2.Inv X pins σ H s) : ∀ {ds : List PyData} {vs : List V} {us : List Value}, DatVs X.K H ds vs → Vals vs us → ∀ (j : Nat) (d : PyData) (u : Value), ds[j]? = some d → us[j]? = some u → ∃ as, Reads s.heap u d as
  | [], vs, us, h, r, j, d, u, e, _ => by cases e
  | d0 :: ds, vs, us, h, r, j, d, u, e, e' => by
    simp only [DatVs] at h
    obtain ⟨v, vs', rfl, h1, h2⟩ := h
    cases r with
    | cons r rr =>
      cases j with
      | zero => cases e; cases e'; exact h1.reads I r
      | succ j => exact DatVs.at I h2 rr j d u e e'
def rInD (K : PySem.W.Frag) (neg : Bool) : R2 := fun x y H Q => ∃ a xs ds d, y = .ref a ∧ (SqL K H a xs ∨ SqT K H a xs) ∧ DatVs K H ds xs ∧ DatV K H d x ∧ PyData.canLayAll0 ds = true ∧ d.canLay0 = true ∧ d.depth ≤ 60 ∧ Q (.bl (if neg then !ds.any (fun e => PyData.eqv e d) else ds.any (fun e => PyData.eqv e d))) H
theorem lay_mem : ∀ {ds : List PyData}, PyData.canLayAll0 ds = true → ∀ d ∈ ds, d.canLay0 = true
  | [], _, d, h => by cases h
  | a :: ds, hh, d, h => by
    simp only [PyData.canLayAll0, Bool.and_eq_true] at hh
    rcases List.mem_cons.mp h with rfl | h
    · exact hh.1
    · exact lay_mem hh.2 d h
open Classical in
theorem in_core {X : Cx} {k : Nat} (hr : Room k X.A) {pins : List (Addr × Obj)} {σ : L2.St} {H : Hp} {s : Shared} (I : L2.Inv X pins σ H s) {ds : List PyData} {vs : List V} {its : List Value} (h : DatVs X.K H ds vs) (r : Vals vs its) {d : PyData} {x : V} {v : Value} (hd : DatV X.K H d x) (rx : RelV x v) (c1 : PyData.canLayAll0 ds = true) (c2 : d.canLay0 = true) (hdep : d.depth ≤ 60) :
    ∃ e : Value → Bool, (∀ y ∈ its, SeqAt.EqAt X.A.in1 s y v (e y)) ∧ its.any e = ds.any fun d' => PyData.eqv d' d := by
  have hl : ds.length = its.length := by rw [h.len, r.length]
  obtain ⟨bs, rb⟩ := hd.reads I rx
  have key : ∀ (j : Nat) (d' : PyData) (u : Value), ds[j]? = some d' → its[j]? = some u → SeqAt.EqAt X.A.in1 s u v (PyData.eqv d' d) := fun j d' u e1 e2 => by
    obtain ⟨as, ra⟩ := DatVs.at I h r j d' u e1 e2
    exact SeqAt.eqAt_reads d' d _ _ _ _ _ _ ra rb (lay_mem c1 d' (List.mem_of_getElem? e1)) c2 (by have := hr.units; show X.A.units + 1 + _ < _; omega)
  refine ⟨fun u => decide (∃ (j : Nat) (d' : PyData), ds[j]? = some d' ∧ its[j]? = some u ∧ PyData.eqv d' d = true), fun y hy => ?_, ?_⟩
  · obtain ⟨j, hj⟩ := List.getElem?_of_mem hy
    have hjl : j < ds.length := by rw [hl]; exact (List.getElem?_eq_some_iff.mp hj).1
    have hdj : ds[j]? = some ds[j] := List.getElem?_eq_getElem hjl
    dsimp only
    by_cases hh : ∃ (j : Nat) (d' : PyData), ds[j]? = some d' ∧ its[j]? = some y ∧ PyData.eqv d' d = true
    · rw [decide_eq_true hh]
      obtain ⟨i, d', e1, e2, e3⟩ := hh
      rw [← e3]; exact key i d' y e1 e2
    · rw [decide_eq_false hh]
      have hf : PyData.eqv ds[j] d = false := by
        cases hc : PyData.eqv ds[j] d with
        | false => rfl
        | true => exact absurd ⟨j, ds[j], hdj, hj, hc⟩ hh
      rw [← hf]; exact key j ds[j] y hdj hj
  · rw [Bool.eq_iff_iff, List.any_eq_true, List.any_eq_true]
    constructor
    · rintro ⟨u, hu, he⟩
      obtain ⟨j, d', e1, e2, e3⟩ := of_decide_eq_true he
      exact ⟨d', List.mem_of_getElem? e1, e3⟩
    · rintro ⟨d', hd', he⟩
      obtain ⟨j, hj⟩ := List.getElem?_of_mem hd'
      have hjl : j < its.length := by rw [← hl]; exact (List.getElem?_eq_some_iff.mp hj).1
      have hij : its[j]? = some its[j] := List.getElem?_eq_getElem hjl
      exact ⟨its[j], List.getElem_mem hjl, decide_eq_true ⟨j, d', hj, hij, he⟩⟩
theorem op_inD {X : Cx} {k : Nat} (hr : Room k X.A) : OpR X (compareOp .In) (rInD X.K false) := by
  intro pins s σ H x y v u Q I rx ry h
  obtain ⟨p, xs, ds, d, rfl, hq, hds, hd, c1, c2, hdep, q⟩ := h
  cases ry
  rcases hq with hq | hq
  · obtain ⟨its, r, pl, hz⟩ := I.list hq
    obtain ⟨e, he, hany⟩ := in_core hr I hds r hd rx c1 c2 hdep
    refine SeqAt.in_listAt e pl.isList (fun w hw => he w (by simpa using hw)) ⟨.bl _, H, I, rfl, ?_⟩
    rw [show its.toArray.any e = its.any e by simp, hany]
    exact q
  · obtain ⟨its, r, pl, hz⟩ := I.tuple hq
    obtain ⟨e, he, hany⟩ := in_core hr I hds r hd rx c1 c2 hdep
    refine SeqAt.in_tupleAt e pl (fun w hw => he w (by simpa using hw)) ⟨.bl _, H, I, rfl, ?_⟩
    rw [show its.toArray.any e = its.any e by simp, hany]
    exact q
theorem op_notInD {X : Cx} {k : Nat} (hr : Room k X.A) : OpR X (compareOp .NotIn) (rInD X.K true) := by
  intro pins s σ H x y v u Q I rx ry h
  obtain ⟨p, xs, ds, d, rfl, hq, hds, hd, c1, c2, hdep, q⟩ := h
  cases ry
  rcases hq with hq | hq
  · obtain ⟨its, r, pl, hz⟩ := I.list hq
    obtain ⟨e, he, hany⟩ := in_core hr I hds r hd rx c1 c2 hdep
    refine SeqAt.notIn_listAt e pl.isList (fun w hw => he w (by simpa using hw)) ⟨.bl _, H, I, rfl, ?_⟩
    rw [show its.toArray.any e = its.any e by simp, hany]
    exact q
  · obtain ⟨its, r, pl, hz⟩ := I.tuple hq
    obtain ⟨e, he, hany⟩ := in_core hr I hds r hd rx c1 c2 hdep
    refine SeqAt.notIn_tupleAt e pl (fun w hw => he w (by simpa using hw)) ⟨.bl _, H, I, rfl, ?_⟩
    rw [show its.toArray.any e = its.any e by simp, hany]
    exact q
def uInD (neg : Bool) : UR2 := fun x y M Q => ∃ us ds d, items M y = some us ∧ toDs us = some ds ∧ topD M x = some d ∧ PyData.canLayAll0 ds = true ∧ d.canLay0 = true ∧ d.depth ≤ 60 ∧ Q (.bl (if neg then !ds.any (fun e => PyData.eqv e d) else ds.any (fun e => PyData.eqv e d))) M
theorem sim_inD {K : PySem.W.Frag} {neg : Bool} : SimR2 K (rInD K neg) (uInD neg) := fun x y u w H M Q' rm ru rw h Q c => by
  obtain ⟨us, ds, d, e1, e2, e3, c1, c2, hdep, q⟩ := h
  obtain ⟨p, xs, rfl, hs, rs⟩ := items_rel rm rw e1
  exact ⟨p, xs, ds, d, rfl, hs, toDs_rel rs e2, topD_rel rm ru e3, c1, c2, hdep, c.here rm relU_bl q⟩
theorem k_inD {D : Dat} : Cmp D .In (uInD false) := ⟨⟨_, fun X h => h.K ▸ op_inD h.room, sim_inD⟩⟩
theorem k_notInD {D : Dat} : Cmp D .NotIn (uInD true) := ⟨⟨_, fun X h => h.K ▸ op_notInD h.room, sim_inD⟩⟩
end U2
namespace U2
open PySem PySem.Spec PyProof.Rows L2
def strsOf : List U → Option (List Str)
  | [] => some []
  | .str x :: r => (strsOf r).map (x :: ·)
  | _ => none
theorem strsOf_map : ∀ ss : List Str, strsOf (ss.map U.str) = some ss
  | [] => rfl
  | s :: ss => by simp only [List.map_cons, strsOf, strsOf_map ss]; rfl
theorem strsOf_rel {K : PySem.W.Frag} {H : Hp} {M : MHp} : ∀ {us : List U} {vs : List V} {ss : List Str}, RelUs K H M us vs → strsOf us = some ss → vs = ss.map V.str
  | [], vs, ss, r, e => by cases e; exact r.inv_nil
  | u :: us, vs, ss, r, e => by
    obtain ⟨v, vs', rfl, a, b⟩ := r.inv_cons
    cases u with
    | str x =>
      simp only [strsOf] at e
      cases e2 : strsOf us with
      | none => rw [e2] at e; cases e
      | some ss' =>
        rw [e2] at e; cases e
        rw [a.str, strsOf_rel b e2]; rfl
    | _ => cases e
end U2
namespace U2
open PySem PySem.Spec PyProof.Rows L2
end U2
namespace U2
open PySem PySem.Spec PyProof.Rows L2
abbrev envL (qual : Str) (scope : Scope) (L f c : Addr) (cl : List (Str × Addr)) : Env := PySem.W.envX qual scope L f (.ref c) cl
def cxLam (P : Program) (w : World) (K : PySem.W.Frag) (mg : Str → Option Value) (base : Heap) (N : List Str) (qual : Str) (scope : Scope) (f c : Addr) (cl : List (Str × Addr)) (A : Around) (outer : List Env) (s : Shared) (H : Hp) : Cx where
  prog := P
  w := w
  K := K
  mg := mg
  base := base
  A := A.deeper (envL qual scope s.heap.objs.size f c cl)
  N := N
  s₀ := s
  H₀ := H
  env := envL qual scope s.heap.objs.size f c cl
  outer := outer
  stack := envL qual scope s.heap.objs.size f c cl :: outer
  ex := []
  calm := true
  fn := fun _ => false
  pn := []
  xe := fun _ _ => False
structure LamScope (N ps : List Str) (sc : Scope) : Prop where
  kind : sc.kind = .function
  co : sc.isCoroutine = false
  gen : sc.isGenerator = false
  nd : N.Nodup
  pre : N.take ps.length = ps
  par : ∀ x ∈ ps, sc.names.lookup x = some .local
  cells : ∀ y ∈ sc.names, y.2 ≠ .cell
  cap : ∀ x ∈ N.drop ps.length, sc.names.lookup x = some .free
theorem zip_lookup : ∀ {ps : List Str} {us : List Value} {i : Nat} {x : Str} {u : Value}, ps.Nodup → ps[i]? = some x → us[i]? = some u → (ps.zip us).reverse.lookup x = some u
  | [], _, i, _, _, _, h, _ => by simp at h
  | _ :: _, [], i, _, _, _, _, h => by simp at h
  | p :: ps, v :: us, i, x, u, nd, h1, h2 => by
    rw [List.zip_cons_cons, List.reverse_cons, List.lookup_append]
    cases i with
    | zero =>
      have e1 : p = x := by simpa using h1
      have e2 : v = u := by simpa using h2
      subst e1; subst e2
      have hn : (ps.zip us).reverse.lookup p = none := by
        rw [List.lookup_eq_none_iff]
        intro q hq
        have hq' := List.mem_reverse.mp hq
        have := (List.of_mem_zip hq').1
        have hne : p ≠ q.1 := fun z => (List.nodup_cons.mp nd).1 (by rw [z]; exact this)
        simpa using hne
      rw [hn]
      simp [List.lookup_cons]
    | succ i =>
      have := zip_lookup (i := i) (x := x) (u := u) (List.nodup_cons.mp nd).2 (by simpa using h1) (by simpa using h2)
      rw [this]; rfl
theorem lam_ok {P : Program} {w : World} {K : PySem.W.Frag} {mg : Str → Option Value} {base : Heap} {k : Nat} {fl c : Addr} {name qual : Str} {params : Arguments} {body : Expr} {scope : Scope} {cl : List (Str × Addr)} {pm ctv : Value} {N ps : List Str} {caps : List (Option V)} {sp : Sp}
    (ho : base.get? fl = some (PySem.W.kla_obj name qual params body scope cl pm c ctv)) (hc : base.CodeRec (.ref c) qual) (S : LamScope N ps scope)
    (inj : ∀ x y a, cl.lookup x = some a → cl.lookup y = some a → x = y) (has : ∀ x, scope.names.lookup x = some .free → ∃ a, cl.lookup x = some a) (cel : ∀ x a, cl.lookup x = some a → ∃ v, base.IsCell a v)
    (cap : ∀ (j : Nat) x v, N[ps.length + j]? = some x → caps[j]? = some (some v) → ∃ a u, cl.lookup x = some a ∧ base.IsCell a (some u) ∧ RelV v u) (hlN : N.length = ps.length + caps.length)
    (len : ∀ vs H Q E, sp vs H Q E → vs.length = ps.length)
    (hbody : ∀ (A : Around) (outer : List Env) (s : Shared) (H : Hp) (vs : List V) (Q : VK) (E : XK), Room k (A.deeper (envL qual scope s.heap.objs.size fl c cl)) → sp vs H Q E →
      ∃ t, PE (cxLam P w K mg base N qual scope fl c cl A outer s H) body t ∧ t (vs.map some ++ caps) H Q) :
    FnOk P w K mg base CX0 (k + 1) fl (PySem.W.kla_fn name qual params body scope cl pm (.ref c) ctv) ps sp := by
  refine ⟨len, fun A outer s H args us vs Q E hr e0 hb r hsp => ?_⟩
  have hl := len _ _ _ _ hsp
  have lim : s.heap.NoLimit := e0.mod.nolimit.keeps fun b o e => (e0.bs b o e).1
  have hloc : ∀ y ∈ ps.zip us, scope.names.lookup y.1 = some .local := fun ⟨n, v⟩ hy => S.par n (List.of_mem_zip hy).1
  refine PySem.W.kla_callFunE hr.depth (e0.bs _ _ ho).1 rfl S.co S.gen rfl (hc.keeps fun b o e => (e0.bs b o e).1) (hb _ _ _ _ ?_)
  refine wpAny_newFunctionEnv S.cells hloc (fun h₁ hns hsb => ⟨lim.fresh _ hsb, PySem.W.kla_codeExpr ?_⟩) S.kind
  have keep : ∀ b o, s.heap.get? b = some o → h₁.get? b = some o := fun b o e => hsb.extBut b o (Nat.ne_of_lt (Heap.lt_size e)) (Heap.get?_push_of_some _ e)
  obtain ⟨t, ht, hq⟩ := hbody A outer s H vs Q E (hr.deeper _) hsp
  have I : L2.Inv (cxLam P w K mg base N qual scope fl c cl A outer s H) [] (vs.map some ++ caps) H { s with heap := h₁, toks := s.toks + (ps.zip us).length } := by
    have noA : ∀ b : Addr, b ∉ (cxLam P w K mg base N qual scope fl c cl A outer s H).ex := fun b z => absurd (show b ∈ ([] : List Addr) from z) (by simp)
    refine ⟨⟨e0.mod, S.kind, rfl, rfl, Nat.le_refl _, inj, fun y hy => ?_, fun y a z => (by cases z), fun _ => hr.hd, Around.frames_deeper e0.frames, .inr ⟨rfl, rfl⟩, fun b z => absurd z (noA b), e0.bs, e0.bsz, fun b _ _ => noA b, fun b z => absurd z (noA b), e0.funs, e0.frf⟩,
      rfl, e0.bare, Un.kept keep, ⟨_, hns, fun i y v h1 h2 h3 => ?_⟩, fun y a h => ?_, e0.hok.fresh (Nat.le_refl _), fun y a h => ?_, fun p hp => absurd (show p ∈ ([] : List (Addr × Obj)) from hp) (by simp), e0.hok.kept keep, ?_⟩
    · have hy : scope.names.lookup y = some .cell ∨ scope.names.lookup y = some .free := hy
      rcases hy with hy | hy
      · exact absurd rfl (S.cells _ (PySem.mem_of_lookup hy))
      · exact has y hy
    · have hlen : (vs.map some).length = ps.length := by rw [List.length_map, hl]
      by_cases hi : i < ps.length
      · have ha : vs[i]? = some v := by
          rw [List.getElem?_append_left (by rw [hlen]; exact hi), List.getElem?_map] at h2
          cases e : vs[i]? with
          | none => rw [e] at h2; cases h2
          | some a => rw [e] at h2; cases h2; rfl
        obtain ⟨u, hu, rv⟩ := r.get ha
        have hp : ps[i]? = some y := by rw [← S.pre, List.getElem?_take_of_lt hi]; exact h1
        have ndP : ps.Nodup := by rw [← S.pre]; exact S.nd.sublist (List.take_sublist _ _)
        exact ⟨u, rv, .inl ⟨S.par y (List.mem_of_getElem? hp), zip_lookup ndP hp hu⟩⟩
      · obtain ⟨j, rfl⟩ : ∃ j, i = ps.length + j := ⟨i - ps.length, by omega⟩
        rw [List.getElem?_append_right (by rw [hlen]; omega), hlen, Nat.add_sub_cancel_left] at h2
        obtain ⟨a, u, e1, e2, e3⟩ := cap j y v h1 h2
        have hk : scope.names.lookup y = some .free := S.cap y (List.mem_of_getElem? (i := j) (by rw [List.getElem?_drop]; exact h1))
        exact ⟨u, e3, .inr ⟨.inr hk, a, e1, e2.keeps fun b o e => keep b o (e0.bs b o e).1⟩⟩
    · obtain ⟨v, hv⟩ := cel y a h
      exact ⟨v, hv.keeps fun b o e => keep b o (e0.bs b o e).1⟩
    · obtain ⟨v, o, hv, _⟩ := cel y a h
      exact (e0.bs _ _ hv).2
    · rw [List.length_append, List.length_map, hl]; exact hlN.symm
  refine wpAny_mono (ht [] _ _ H Q I hq) (fun u s' hs => ?_) fun e s' hs => hs.elim
  obtain ⟨v, H', J, rv, q⟩ := hs
  exact ⟨v, H', J.os, J.bare, J.base, J.hok, rv, q⟩
end U2
namespace U2
open PySem PySem.Spec PyProof.Rows L2
structure Lam where
  params : Arguments
  body : Expr
  scope : Scope
def LamAt (X : Cx) (s : Shared) (H : Hp) (M : MHp) (q : Str) (l : Lam) (fl : Addr) : Prop :=
  ∃ cl pm ctv c oc vs t, closureFor l.scope X.env = pure cl ∧ (s.heap.get? fl = some (PySem.W.kla_obj "<lambda>" q l.params l.body l.scope cl pm c ctv) ∧ H fl = none ∧ fl ≠ X.env.locals ∧ fl ∉ X.fs) ∧ H c = some (.frz oc (.own 0)) ∧ M c = none ∧ oc.data = .fields vs ∧ vs[1]? = some (.str q t)
abbrev UAL := SU → MHp → (List U → List Addr → MHp → Prop) → Prop
def PALU (D : Dat) (q : Str) (es : List Expr) (ls : List Lam) (t : UAL) : Prop :=
  ∀ X, Has D X → ∀ (pos : Pos) (pins : List (Addr × Obj)) (s : Shared) (σ : L2.St) (H : Hp) (τ : SU) (M : MHp) (Q : List U → List Addr → MHp → Prop), L2.Inv X pins σ H s → RelS D.K H M σ τ → RelM D.K H M → t τ M Q →
    wpAny (model X.prog X.w) X.A (spliced (backTo pos (starEach es X.env))) (fun us s' => ∃ ws vs fs M' H', L2.Inv X pins σ H' s' ∧ Vals vs us ∧ Stp H M H' M' ∧ RelM D.K H' M' ∧ RelUs D.K H' M' ws vs ∧ Paired (LamAt X s' H' M' q) ls fs ∧ Q ws fs M') X.xe s
def ulNil : UAL := fun _ M Q => Q [] [] M
def ulCons (te : UE) (t : UAL) : UAL := fun τ M Q => te τ M fun u M1 => t τ M1 fun us fs M2 => Q (u :: us) fs M2
def ulLam (P : Addr) (q : Str) (t : UAL) : UAL := fun τ M Q => M P = some (.tbl q) ∧ ∀ fl, t τ M fun us fs M2 => Q (.ref fl :: us) (fl :: fs) M2
theorem pl_nil {D : Dat} {q : Str} : PALU D q [] [] ulNil := fun X h pos pins s σ H τ M Q I rs rm ht => Calls.spliced_nil ⟨[], [], [], M, H, I, .nil, Stp.refl H M, rm, .nil, .nil, ht⟩
theorem pl_cons {D : Dat} {q : Str} {e : Expr} {es : List Expr} {ls : List Lam} {te : UE} {t : UAL} (ha : PEU D e te) (hr : PALU D q es ls t) (hs : ∀ env, starEach (e :: es) env = (false, eval e env) :: starEach es env := by intro _; rfl) : PALU D q (e :: es) ls (ulCons te t) := by
  obtain ⟨t0, p, sim⟩ := ha
  intro X h pos pins s σ H τ M Q I rs rm ht
  rw [hs]
  show wpAny _ _ (spliced ((false, eval e X.env) :: backTo pos (starEach es X.env))) _ _ s
  refine Calls.spliced_cons (thn (p X h pins s σ H (fun v H1 => ∃ u M1, Stp H M H1 M1 ∧ RelM D.K H1 M1 ∧ RelU D.K H1 M1 u v ∧ t τ M1 fun us fs M2 => Q (u :: us) fs M2) I (sim σ τ H M _ rs rm ht _ fun u v M1 H1 st rm1 ru q => ⟨u, M1, st, rm1, ru, q⟩)) fun uu s1 ⟨v, H1, I1, r1, u, M1, st, rm1, ru, q⟩ => ?_)
  exact thn (hr X h pos pins s1 σ H1 τ M1 _ I1 (rs.stp st) rm1 q) fun us s2 ⟨ws, vs, fs, M2, H2, I2, rv, st2, rm2, rus, pl, q2⟩ =>
    ⟨u :: ws, v :: vs, fs, M2, H2, I2, .cons r1 rv, st.trans st2, rm2, .cons (ru.stp st2) rus, pl, q2⟩
def BmOk (base : Heap) (mg : Str → Option Value) : Prop := ∃ bm o, mg "__builtins__" = some (.ref bm) ∧ bm ≠ builtinsNs ∧ bm ≠ mainGlobals ∧ base.get? bm = some o ∧ o.cls = .type "module" ∧ o.dict = some builtinsNs ∧ o.data = .plain
theorem among_snoc {pos : Pos} {a b : Int} {c v : Value} : ∀ (l : List Value), TriplesOk l → codeAmong pos (l ++ [rawInt a, rawInt b, c]) = some v → codeAmong pos l = some v ∨ v = c := fun l h => by
  fun_induction TriplesOk l with
  | case1 =>
    intro e
    simp only [List.nil_append, codeAmong, rawInt] at e
    split at e
    · cases e; exact .inr rfl
    · cases e
  | case2 a' t b' u x rest ih =>
    intro e
    simp only [List.cons_append, codeAmong] at e ⊢
    split at e
    · rename_i hc; rw [if_pos hc]; exact .inl e
    · rename_i hc; rw [if_neg hc]; exact ih h e
  | case3 l h1 h2 => exact h.elim
theorem Inv.addPin {X : Cx} {pins : List (Addr × Obj)} {σ : L2.St} {H : Hp} {s : Shared} {a : Addr} {o : Obj} (I : L2.Inv X pins σ H s) (h : s.heap.get? a = some o ∧ H a = none ∧ a ≠ X.env.locals ∧ a ∉ X.fs ∧ ∀ v, o.data ≠ .cell v) : L2.Inv X ((a, o) :: pins) σ H s :=
  ⟨I.ok, I.os, I.bare, I.base, I.loc, I.cell, I.free, I.freeC, fun p hp => by
    rcases List.mem_append.mp hp with hp | hp
    · exact I.pin p (List.mem_append_left _ hp)
    · rcases List.mem_cons.mp hp with rfl | hp
      · exact h
      · exact I.pin p (List.mem_append_right _ hp), I.hok, I.len⟩
theorem Inv.unPin {X : Cx} {pins : List (Addr × Obj)} {σ : L2.St} {H : Hp} {s : Shared} {a : Addr} {o : Obj} (I : L2.Inv X ((a, o) :: pins) σ H s) : L2.Inv X pins σ H s :=
  ⟨I.ok, I.os, I.bare, I.base, I.loc, I.cell, I.free, I.freeC, fun p hp => I.pin p (by
    rcases List.mem_append.mp hp with hp | hp
    · exact List.mem_append_left _ hp
    · exact List.mem_append_right _ (List.mem_cons_of_mem _ hp)), I.hok, I.len⟩
theorem pl_lam {D : Dat} {q : Str} {es : List Expr} {ls : List Lam} {t : UAL} {params : Arguments} {body : Expr} {scope : Scope} {lpos : Pos} {c0 P : Addr} (hK : PySem.W.codeHdIn D.K c0 P = true) (hB : BmOk D.base D.mg) (hr : PALU D q es ls t) (hcod : D.cod = .ref c0 := by rfl) (hq : D.qual ++ "<lambda>" = q := by rfl)
    (hfree : ∀ y ∈ scope.names, y.2 = .free → D.sc.names.lookup y.1 = some .cell ∨ D.sc.names.lookup y.1 = some .free := by first | decide +kernel | (dsimp only; decide +kernel)) (hs : ∀ env, starEach (.Lambda params body scope lpos :: es) env = (false, eval (.Lambda params body scope lpos) env) :: starEach es env := by intro _; rfl) (hdef : ∀ env, defaultsOf params env = ([], []) := by intro _; rfl) :
    PALU D q (.Lambda params body scope lpos :: es) (⟨params, body, scope⟩ :: ls) (ulLam P q t) := by
  intro X h pos pins s σ H τ M Q I rs rm ⟨hMP, ht⟩
  obtain ⟨huniq, ps, hHP, htr, hcodes⟩ := rm P _ hMP
  have hPg : s.heap.get? P = some (PySem.W.tabObj ps) := I.hok P _ hHP
  obtain ⟨e1, e2⟩ := h.cod (by rw [hcod]; simp)
  rw [hcod] at e1
  obtain ⟨cl, hclos, hcl, hcl2⟩ := closure_of (env := X.env) (scope := scope) (fun x hx e => I.ok.has x.1 (by show X.env.scope.names.lookup _ = _ ∨ X.env.scope.names.lookup _ = _; rw [h.sc]; exact hfree x hx e))
  have C : PySem.W.CodeHd s.heap c0 P := PySem.W.codeHd_of_K I.kIn (by rw [h.K]; exact hK)
  have hg : s.heap.Ns mainGlobals X.mg := I.mod.glob.keeps I.bk
  have noP : ∀ b o, X.base.get? b = some o → b ≠ P := fun b o e z => by
    have := (I.bs b o e).2
    rw [z, hHP] at this; cases this
  have hgP : mainGlobals ≠ P := by
    obtain ⟨o, es, ep, e, _⟩ := I.mod.glob
    exact noP _ _ e
  have hb : s.heap.BuiltinsAt X.mg P := by
    obtain ⟨bm, o, b1, b2, b3, b4, b5⟩ := hB
    rw [← h.base] at b4
    rw [← h.mg] at b1
    exact ⟨bm, o, b1, b2, b3, noP _ _ b4, I.bk _ _ b4, b5⟩
  rw [hs]
  show wpAny _ _ (spliced ((false, eval (.Lambda params body scope lpos) X.env) :: backTo pos (starEach es X.env))) _ _ s
  refine Calls.spliced_cons (PySem.W.kla_eval (hdef _) ?_)
  rw [e2, hq]
  have done : ∀ (H1 : Hp) (s1 : Shared) (fl c : Addr) (oc : Obj) (vs : Array Value) (tk : Tok) (pm ctv : Value), L2.Inv X pins σ H1 s1 → s1.heap.get? fl = some (PySem.W.kla_obj "<lambda>" q params body scope cl pm c ctv) → H1 fl = none → fl ≠ X.env.locals → fl ∉ X.fs → Stp H M H1 M → RelM D.K H1 M → H1 c = some (.frz oc (.own 0)) → M c = none → oc.data = .fields vs → vs[1]? = some (.str q tk) →
      wpAny (model X.prog X.w) X.A (spliced (backTo pos (starEach es X.env))) (fun us s' => ∃ ws vs fs M' H', L2.Inv X pins σ H' s' ∧ Vals vs (.ref fl :: us) ∧ Stp H M H' M' ∧ RelM D.K H' M' ∧ RelUs D.K H' M' ws vs ∧ Paired (LamAt X s' H' M' q) (⟨params, body, scope⟩ :: ls) fs ∧ Q ws fs M') X.xe s1 := by
    intro H1 s1 fl c oc vs tk pm ctv I1 hfl hH1 hne hnf st rm1 hc hMc hd hv
    have Ip := Inv.addPin I1 ⟨hfl, hH1, hne, hnf, fun v z => by cases z⟩
    refine thn (hr X h pos _ s1 σ H1 τ M _ Ip (rs.stp st) rm1 (ht fl)) fun us s2 ⟨ws, vs', fs, M2, H2, I2, rv, st2, rm2, rus, pl, q2⟩ => ?_
    obtain ⟨p1, p2, p3, p4, _⟩ := I2.pin (fl, _) (List.mem_append_right _ List.mem_cons_self)
    exact ⟨.ref fl :: ws, .ref fl :: vs', fl :: fs, M2, H2, Inv.unPin I2, .cons rfl rv, st.trans st2, rm2, .cons relU_ref rus, .cons ⟨cl, pm, ctv, c, oc, vs, tk, hclos, ⟨p1, p2, p3, p4⟩, (st2.to hc hMc).1, (st2.to hc hMc).2, hd, hv⟩ pl, q2⟩
  have hLs : X.env.locals < s.heap.objs.size := I.lt
  cases hf : codeAmong lpos ps.toList with
  | some cv =>
    obtain ⟨c, oc, vs, tk, rfl, hHc, hMc, hd, hv⟩ := hcodes _ _ hf
    refine PySem.W.kla_makeFunctionHit (mg := X.mg) hclos I.ok.glob hg e1 C hPg htr hf hb fun ctv h' tk' hk hsz => ?_
    have keep : ∀ b o, s.heap.get? b = some o → (h'.push (PySem.W.kla_obj "<lambda>" q params body scope cl ((X.mg "__name__").getD .none) c ctv)).get? b = some o := fun b o e => Heap.get?_push_of_some _ (hk b o e)
    exact done H _ h'.objs.size c oc vs tk _ ctv (I.kept (t' := tk') keep) (Heap.get?_push_size _ rfl) (I.hok.fresh hsz) (Nat.ne_of_gt (Nat.lt_of_lt_of_le hLs hsz)) (I.nofs hsz) (Stp.refl H M) rm hHc hMc hd hv
  | none =>
    refine PySem.W.kla_makeFunction (mg := X.mg) hclos I.ok.glob hg e1 C hPg htr hf hgP hb fun c ctv h' tk' hx hge hlt hrec htb => ?_
    obtain ⟨c₂, oc, vs, tk, e2, hoc, hd, hv⟩ := hrec
    cases e2
    have hHc : H c = none := I.hok.fresh hge
    have hcP : c ≠ P := fun z => by rw [z, hHP] at hHc; cases hHc
    have hsz : s.heap.objs.size ≤ h'.objs.size := by omega
    generalize hps : ps ++ #[rawInt lpos.line, rawInt lpos.col, .ref c] = ps' at htb
    generalize hobj : PySem.W.kla_obj "<lambda>" q params body scope cl ((X.mg "__name__").getD .none) c ctv = obj
    have keep : ∀ b o, b ≠ P → s.heap.get? b = some o → (h'.push obj).get? b = some o := fun b o n e => Heap.get?_push_of_some _ (hx b o n e)
    have hH1c : upd (upd H c (.frz oc (.own 0))) P (.tbl ps') c = some (.frz oc (.own 0)) := by rw [upd_ne hcP, upd_same]
    have hH1 : ∀ b, b ≠ P → b ≠ c → upd (upd H c (.frz oc (.own 0))) P (.tbl ps') b = H b := fun b n1 n2 => by rw [upd_ne n1, upd_ne n2]
    have hH1P : upd (upd H c (.frz oc (.own 0))) P (.tbl ps') P = some (.tbl ps') := upd_same
    generalize hHH : upd (upd H c (.frz oc (.own 0))) P (.tbl ps') = H1 at hH1c hH1 hH1P
    have nc : ∀ b o, H b = some o → b ≠ c := fun b o e z => by rw [z, hHc] at e; cases e
    have lt : ∀ b o, s.heap.get? b = some o → b ≠ c := fun b o e => Nat.ne_of_lt (Nat.lt_of_lt_of_le (Heap.lt_size e) hge)
    have un : Un X.fs [] H H1 s.heap (h'.push obj) := by
      refine ⟨fun b o e n _ _ => keep b o (fun z => by rw [z, hHP] at n; cases n) e, fun b o e n _ _ => ⟨o.slots, keep b o (fun z => by rw [z, hHP] at n; cases n) e⟩, fun b o e n _ => ?_, fun b o e _ => ?_, fun b xs e => ?_, fun b o u e => ?_, fun b qs e => ?_⟩
      · rw [hH1 b (fun z => by rw [z, hHP] at n; cases n) (lt b o e)]; exact n
      · by_cases hbP : b = P
        · subst hbP; exact ⟨_, Heap.get?_push_of_some _ htb⟩
        · exact ⟨o, keep b o hbP e⟩
      · rw [hH1 b (fun z => by rw [z, hHP] at e; cases e) (nc b _ e)]; exact e
      · rw [hH1 b (fun z => by rw [z, hHP] at e; cases e) (nc b _ e)]; exact e
      · by_cases hbP : b = P
        · subst hbP
          rw [hHP] at e; cases e
          exact ⟨_, by rw [hH1P, ← hps]⟩
        · exact ⟨#[], by rw [hH1 b hbP (nc b _ e), e]; simp⟩
    have hok : HOk X.prog X.w H1 (h'.push obj) := by
      intro b o e
      by_cases hbP : b = P
      · subst hbP; rw [hH1P] at e; cases e; exact Heap.get?_push_of_some _ htb
      · by_cases hbc : b = c
        · subst hbc; rw [hH1c] at e; cases e; exact ⟨Heap.get?_push_of_some _ hoc, _, Heap.get?_push_of_some _ hoc⟩
        · rw [hH1 b hbP hbc] at e
          refine (I.hok b o e).stay (fun a u ha ea => keep a u (fun z => ?_) ea) (fun a ea => ?_) (fun a xs ea => ?_)
          · rcases ha with ha | ha
            · exact hbP (ha.symm.trans z)
            · rw [z, hHP] at ha; cases ha
          · rw [hH1 a (fun z => by rw [z, hHP] at ea; cases ea) (nc a _ ea)]; exact ea
          · rw [hH1 a (fun z => by rw [z, hHP] at ea; cases ea) (nc a _ ea)]; exact ea
    have hMc : M c = none := rm.no hHc
    have st : Stp H M H1 M := .by' fun b o e m => ⟨by rw [hH1 b (fun z => by rw [z, hMP] at m; cases m) (nc b o e)]; exact e, m⟩
    have rm1 : RelM D.K H1 M := fun a mo e => by
      by_cases haP : a = P
      · subst haP
        rw [hMP] at e; cases e
        refine ⟨huniq, ps', hH1P, by rw [← hps]; simpa using TriplesOk_snoc _ _ _ _ htr, fun pos' v hv' => ?_⟩
        rw [← hps] at hv'
        have hv2 : codeAmong pos' (ps.toList ++ [rawInt lpos.line, rawInt lpos.col, .ref c]) = some v := by simpa using hv'
        rcases among_snoc ps.toList htr hv2 with z | rfl
        · obtain ⟨c', oc', vs', t', y1, y2, y3, y4⟩ := hcodes _ _ z
          exact ⟨c', oc', vs', t', y1, (st.to y2 y3).1, y3, y4⟩
        · exact ⟨c, oc, vs, tk, rfl, hH1c, hMc, hd, hv⟩
      · have hac : a ≠ c := fun z => by subst z; rw [hMc] at e; cases e
        exact (rm a mo e).stp (fun _ _ z => z) st (hH1 a haP hac)
    have I1 := I.un (t' := tk') un hok
    refine done H1 _ h'.objs.size c oc vs tk _ ctv I1 (by rw [← hobj]; exact Heap.get?_push_size _ rfl) (by rw [hH1 _ (Nat.ne_of_gt (Nat.lt_of_lt_of_le (Heap.lt_size hPg) hsz)) (Nat.ne_of_gt hlt)]; exact I.hok.fresh hsz) (Nat.ne_of_gt (Nat.lt_of_lt_of_le hLs hsz)) (I.nofs hsz) st rm1 hH1c hMc hd hv
end U2
namespace U2
open PySem PySem.Spec PyProof.Rows L2
structure CalleeF (P : Program) (w : World) (K : PySem.W.Frag) (mg : Str → Option Value) (base : Heap) (j : Nat) (f : Addr) (sp : USp) : Prop where
  ex : ∃ fd ps, FnOk P w K mg base CX0 j f fd ps (liftSp K sp) ∧ (PySem.W.keepIn K (.ref f) = true ∨ ∃ o fd', base.get? f = some o ∧ o.data = .func fd') ∧ Binds K fd ps []
theorem pe_callvF {X : Cx} {x : Str} {p pos : Pos} {e : Expr} {es : List Expr} {i k : Nat} {f : Addr} {fd : FuncData} {ps : List Str} {sp : Sp} {t : TA} (hN : X.N[i]? = some x) (hv : Vis X.env.scope x) (F : FnOk X.prog X.w X.K X.mg X.base CX0 k f fd ps sp) (hr : Room k X.A) (hk : PySem.W.keepIn X.K (.ref f) = true ∨ ∃ o fd', X.base.get? f = some o ∧ o.data = .func fd') (hb : Binds X.K fd ps [])
    (ha : PA X (e :: es) t) (hd : (x == ("__debug__" : Str)) = false) (hcd : (x == ("__classdict__" : Str)) = false) (he : starEach (e :: es) X.env = (false, eval e X.env) :: starEach es X.env) (hpl : (backTo pos (starEach es X.env)).any (·.1) = false) :
    PE X (.Call (.Name x p) (e :: es) [] pos) (tCallV i f sp t) := by
  intro pins s σ H Q I h
  refine wpAny_Call_Name_kw (thn (pe_var (i := i) hN hv hd hcd pins s σ H _ I h) fun v s1 ⟨x', H1, I1, r1, e1, q1⟩ => ?_)
  subst e1
  cases r1
  rcases hk with hk | ⟨o, fd', ho, hof⟩
  · refine PySem.W.callWith_K (h₀ := X.base) I1.ok.mod.kin hk (thn (ha pos pins s1 σ H1 _ I1 q1) fun us s2 ⟨vs, H2, I2, r, q⟩ => ⟨I2.kIn, ?_⟩) he hpl
    exact run_fn (dvs := []) F hr hb .nil pass0 I2 r (by rw [List.append_nil]; exact q)
  · have ha' := ha pos pins s1 σ H1 _ I1 q1
    rw [he] at ha' ⊢
    refine PySem.W.callWith_of (P := fun h => h.get? f = some o) (by show ((false || (backTo pos (starEach es X.env)).any (·.1)) || false) = false; rw [hpl]; rfl) (fun h0 hh => ?_) (Calls.evalArgs_plain (thn ha' fun us s2 ⟨vs, H2, I2, r, q⟩ => ⟨I2.bk _ _ ho, ?_⟩))
    · refine ⟨.frame, .inl rfl, (PySem.W.Looks.ld (part := none) hh).andThen ?_⟩
      obtain ⟨oc, od, odt, osl⟩ := o
      have : odt = .func fd' := hof
      subst this
      exact .now
    · exact run_fn (dvs := []) F hr hb .nil pass0 I2 r (by rw [List.append_nil]; exact q)
section
variable {D : Dat}
theorem ue_callf (i : Nat) {x : Str} {p pos : Pos} {e : Expr} {es : List Expr} {j : Nat} {f : Addr} {sp : USp} {tas : UA} (F : CalleeF D.prog D.w D.K D.mg D.base j f sp) (ha : PAU D (e :: es) tas) (hN : D.N[i]? = some x := by rfl) (hv : Vis D.sc x := by first | exact Or.inl rfl | exact Or.inr (Or.inl rfl) | exact Or.inr (Or.inr rfl))
    (hj : j ≤ D.k := by first | exact Nat.le_refl _ | (dsimp only; omega) | omega | (dsimp only [compD]; omega)) (hd : (x == ("__debug__" : Str)) = false := by decide) (hcd : (x == ("__classdict__" : Str)) = false := by decide)
    (he : ∀ env, starEach (e :: es) env = (false, eval e env) :: starEach es env := by intro _; rfl) (hpl : ∀ env, (backTo pos (starEach es env)).any (·.1) = false := by intro _; rfl) : PEU D (.Call (.Name x p) (e :: es) [] pos) (uCallV i f sp tas) := by
  obtain ⟨fd, ps, F, kp, hb⟩ := F.ex
  obtain ⟨t, q, s⟩ := ha
  refine ⟨tCallV i f (liftSp D.K sp) t, fun X h => ?_, fun σ τ H M Q' rs rm h Q c => ?_⟩
  · have F' : FnOk X.prog X.w X.K X.mg X.base CX0 j f fd ps (liftSp D.K sp) := by rw [h.prog, h.w, h.K, h.mg, h.base]; exact F
    exact pe_callvF (by rw [h.N]; exact hN) (by rw [h.sc]; exact hv) F' (h.room.mono hj) (by rw [h.K, h.base]; exact kp) (by rw [h.K]; exact hb) (q X h) hd hcd (he _) (hpl _)
  · refine sim_var i σ τ H M _ rs rm h _ fun u v M1 H1 s1 rm1 ru h1 => ?_
    obtain ⟨rfl, h1⟩ := h1
    refine ⟨ru.ref, s σ τ H1 M1 _ (rs.stp s1) rm1 h1 _ fun us vs M2 H2 s2 rm2 rus h2 => ?_⟩
    exact ⟨us, M2, Q', rm2, rus, h2, Cont.stp c (s1.trans s2)⟩
end
def Stq (H : Hp) (M : MHp) (H1 : Hp) (M1 : MHp) : Prop := ∀ b o, H b = some o → M b = none → (∀ oc, o ≠ .frz oc (.own 0)) → (∀ ps, o ≠ .tbl ps) → H1 b = some o ∧ M1 b = none
mutual
theorem RelU.stq {K : PySem.W.Frag} {H H1 : Hp} {M M1 : MHp} (st : Stq H M H1 M1) : ∀ {u : U} {v : V}, RelU K H M u v → RelU K H1 M1 u v
  | .non, _, h => by simpa only [RelU] using h
  | .bl _, _, h => by simpa only [RelU] using h
  | .int _, _, h => by simpa only [RelU] using h
  | .str _, _, h => by simpa only [RelU] using h
  | .ty _, _, h => by simpa only [RelU] using h
  | .ref _, _, h => by simpa only [RelU] using h
  | .tup us, _, h => by
    simp only [RelU] at h ⊢
    obtain ⟨a, vs, e, h1, h2⟩ := h
    refine ⟨a, vs, e, ?_, RelUs.stq st h2⟩
    obtain ⟨m, r⟩ := h1
    have q := st a _ r m (by simp) (by simp)
    exact ⟨q.2, q.1⟩
  | .dic ks tk us, _, h => by
    simp only [RelU] at h ⊢
    obtain ⟨a, vs, e, m, h1, h2⟩ := h
    refine ⟨a, vs, e, ?_, ?_, RelUs.stq st h2⟩
    · cases tk with
      | true => obtain ⟨ws, e | ⟨o, e⟩, r⟩ := h1 <;> exact (st a _ e m (by intro oc z; cases z) (by simp)).2
      | false => obtain ⟨ws, e | ⟨o, e⟩, r⟩ := h1 <;> exact (st a _ e m (by intro oc z; cases z) (by simp)).2
    · cases tk with
      | true => obtain ⟨ws, e | ⟨o, e⟩, r⟩ := h1; exact ⟨ws, .inl (st a _ e m (by simp) (by simp)).1, r⟩; exact ⟨ws, .inr ⟨o, (st a _ e m (by intro oc z; cases z) (by simp)).1⟩, r⟩
      | false => obtain ⟨ws, e | ⟨o, e⟩, r⟩ := h1; exact ⟨ws, .inl (st a _ e m (by simp) (by simp)).1, r⟩; exact ⟨ws, .inr ⟨o, (st a _ e m (by intro oc z; cases z) (by simp)).1⟩, r⟩
  | .lst us, _, h => by
    simp only [RelU] at h ⊢
    obtain ⟨a, vs, e, h1, h2⟩ := h
    refine ⟨a, vs, e, ?_, RelUs.stq st h2⟩
    rcases h1 with ⟨m, r⟩ | k
    · rcases r with r | ⟨o, r⟩
      · have q := st a _ r m (by simp) (by simp)
        exact .inl ⟨q.2, .inl q.1⟩
      · have q := st a _ r m (by intro oc z; cases z) (by simp)
        exact .inl ⟨q.2, .inr ⟨o, q.1⟩⟩
    · exact .inr k
theorem RelUs.stq {K : PySem.W.Frag} {H H1 : Hp} {M M1 : MHp} (st : Stq H M H1 M1) : ∀ {us : List U} {vs : List V}, RelUs K H M us vs → RelUs K H1 M1 us vs
  | [], _, h => by simpa only [RelUs] using h
  | u :: us, _, h => by
    simp only [RelUs] at h ⊢
    obtain ⟨v, vs', e, h1, h2⟩ := h
    exact ⟨v, vs', e, RelU.stq st h1, RelUs.stq st h2⟩
end
theorem RelKv.stq {κ : Type} {K : PySem.W.Frag} {H H1 : Hp} {M M1 : MHp} (st : Stq H M H1 M1) : ∀ {us : List (κ × U)} {vs : List (κ × V)}, RelKv K H M us vs → RelKv K H1 M1 us vs
  | _, _, .nil => .nil
  | _, _, .cons h t => .cons ⟨h.1, h.2.stq st⟩ (RelKv.stq st t)
def isCod (q : Str) (o : Option HO) : Prop := ∃ oc vs t, o = some (.frz oc (.own 0)) ∧ oc.data = .fields vs ∧ vs[1]? = some (.str q t)
open Classical in
noncomputable def hidC (q : Str) (H : Hp) : Hp := fun b => if isCod q (H b) then none else H b
open Classical in
noncomputable def resC (q : Str) (H H2 : Hp) : Hp := fun b => if isCod q (H b) then H b else H2 b
def mdel (M : MHp) (a : Addr) : MHp := fun b => if b = a then none else M b
theorem mdel_same {M : MHp} {a : Addr} : mdel M a a = none := by unfold mdel; rw [if_pos rfl]
theorem mdel_ne {M : MHp} {a b : Addr} (h : b ≠ a) : mdel M a b = M b := by unfold mdel; rw [if_neg h]
theorem hidC_code {q : Str} {H : Hp} {b : Addr} (h : isCod q (H b)) : hidC q H b = none := by unfold hidC; exact if_pos h
theorem hidC_not {q : Str} {H : Hp} {b : Addr} (h : ¬ isCod q (H b)) : hidC q H b = H b := by unfold hidC; exact if_neg h
theorem resC_code {q : Str} {H H2 : Hp} {b : Addr} (h : isCod q (H b)) : resC q H H2 b = H b := by unfold resC; exact if_pos h
theorem resC_not {q : Str} {H H2 : Hp} {b : Addr} (h : ¬ isCod q (H b)) : resC q H H2 b = H2 b := by unfold resC; exact if_neg h
theorem isCod_some {q : Str} {o : HO} (h : isCod q (some o)) : ∃ oc, o = .frz oc (.own 0) := by
  obtain ⟨oc, _, _, e, _⟩ := h; cases e; exact ⟨oc, rfl⟩
theorem isCod_none {q : Str} : ¬ isCod q none := fun ⟨_, _, _, e, _⟩ => by cases e
theorem isCod_q {q q' : Str} {oc : Obj} {vs : Array Value} {t : Tok} (hd : oc.data = .fields vs) (hv : vs[1]? = some (.str q' t)) (h : isCod q (some (.frz oc (.own 0)))) : q = q' := by
  obtain ⟨oc', vs', t', e, h1, h2⟩ := h
  cases e
  rw [hd] at h1; cases h1
  rw [hv] at h2; cases h2; rfl
theorem hidC_some {q : Str} {H : Hp} {b : Addr} {o : HO} (h : hidC q H b = some o) : H b = some o ∧ ¬ isCod q (H b) := by
  by_cases hc : isCod q (H b)
  · rw [hidC_code hc] at h; cases h
  · rw [hidC_not hc] at h; exact ⟨h, hc⟩
end U2
namespace U2
open PySem PySem.Spec PyProof.Rows L2
def spLam (n : Nat) (te : UE) (caps : SU) : USp := fun us M Q => us.length = n ∧ te (us.map some ++ caps) M Q
structure LamD where
  lam : Lam
  N : List Str
  ps : List Str
  ix : List Nat
  te : UE
def lamD (D : Dat) (base : Heap) (k : Nat) (N : List Str) (sc : Scope) : Dat := { D with base := base, N := N, sc := sc, k := k, fn := false, cod := .none }
structure LamOk (D : Dat) (k : Nat) (L : LamD) : Prop where
  sc : LamScope L.N L.ps L.lam.scope
  len : L.N.length = L.ps.length + L.ix.length
  ix : L.ix.map (fun i => D.N[i]?) = (L.N.drop L.ps.length).map some
  free : ∀ y ∈ L.lam.scope.names, y.2 = .free → D.sc.names.lookup y.1 = some .cell ∨ D.sc.names.lookup y.1 = some .free
  cap : ∀ x ∈ L.N.drop L.ps.length, D.sc.names.lookup x = some .cell ∨ D.sc.names.lookup x = some .free
  body : ∀ base, BmOk base D.mg → PEU (lamD D base k L.N L.lam.scope) L.lam.body L.te
  bind : ∀ (q : Str) (cl : List (Str × Addr)) (pm cd ct : Value) (us : List Value), us.length = L.ps.length → bindArgs (PySem.W.kla_fn "<lambda>" q L.lam.params L.lam.body L.lam.scope cl pm cd ct) ⟨us, []⟩ = pure (L.ps.zip us)
def flatR : U → Prop
  | .tup _ => False
  | .lst _ => False
  | .dic _ _ _ => False
  | _ => True
def capU (L : LamD) (τ : SU) : SU := L.ix.map fun i => (τ[i]?).getD none
def lamSp (L : LamD) (τ : SU) : USp := spLam L.ps.length L.te (capU L τ)
def uCallG (G : SU → List U → List Addr → MHp → UK → Prop) (t : UAL) : UE := fun τ M Q => t τ M fun us fs M1 => G τ us fs M1 Q
theorem pure_inj {α : Type} {a b : α} (h : (pure a : Sem α) = pure b) : a = b := by
  have h' : (Sem.pure a : Sem α) = Sem.pure b := h
  injection h'
def gL1 (P : Addr) (q : Str) (L : LamD) (sp : Addr → USp → USp) : SU → List U → List Addr → MHp → UK → Prop := fun τ us fs M1 Q => match fs with
  | [fl] => M1 P = some (.tbl q) ∧ (∀ u, some u ∈ capU L τ → flatR u) ∧ ((∀ b, mdel M1 P b ≠ some (.tbl q)) → sp fl (lamSp L τ) us (mdel M1 P) fun u M2 => (∀ b, M2 b ≠ some (.tbl q)) ∧ Q u (mup M2 P (.tbl q)))
  | _ => False
def gL2 (P : Addr) (q : Str) (L L' : LamD) (sp : Addr → USp → Addr → USp → USp) : SU → List U → List Addr → MHp → UK → Prop := fun τ us fs M1 Q => match fs with
  | [fl, fl'] => M1 P = some (.tbl q) ∧ (∀ u, some u ∈ capU L τ → flatR u) ∧ (∀ u, some u ∈ capU L' τ → flatR u) ∧ ((∀ b, mdel M1 P b ≠ some (.tbl q)) → sp fl (lamSp L τ) fl' (lamSp L' τ) us (mdel M1 P) fun u M2 => (∀ b, M2 b ≠ some (.tbl q)) ∧ Q u (mup M2 P (.tbl q)))
  | _ => False
end U2
namespace U2
open PySem PySem.Spec PyProof.Rows L2
section
variable {P : Program} {w : World} {K : PySem.W.Frag} {mg : Str → Option Value} {base : Heap}
theorem callee_ofL {x : Str} {st : Stmt} {f c0 : Addr} {fd : FuncData} {N ps : List Str} {k : Nat} {sp : USp} {t : US} (F : Fun K x x st f fd) (hfd : fd.code = .ref c0) (hm : mg x = some (.ref f)) (S : FnScope N ps (defScope st))
    (bind : ∀ (kV doc pm : Value) (an : Option Addr) (cdv ct : Value) (us : List Value), us.length = ps.length → bindArgs (PySem.W.fnOf x x (defArgs st) (defBody st) (defScope st) .none kV doc pm an cdv ct) ⟨us, []⟩ = pure (ps.zip us))
    (len : ∀ us M Q, sp us M Q → us.length = ps.length)
    (h : PSsU ⟨P, w, K, mg, base, N, defScope st, k, true, .ref c0, x ++ ".<locals>."⟩ (defBody st) t)
    (q : ∀ us M Q, sp us M Q → t { nx := fun _ M' => rtU Q .non M', rt := rtU Q } (startU N us) M) : Callee P w K mg base (k + 1) x sp [] := by
  obtain ⟨t0, h1, h2⟩ := h
  have hb := F.binds bind
  have kp := F.kp
  obtain ⟨oc, od, kV, doc, pm, an, cdv, ct, osl, rfl, lk, hcd⟩ := F.ex
  have hfd' : cdv = .ref c0 := hfd
  subst hfd'
  refine ⟨f, _, ps, [], [], fn_of lk hcd S (fun vs H Q E ⟨us, M, Q', _, r, hs, _⟩ => by rw [← r.length]; exact len us M Q' hs) (fun A outer s H vs Q E hr ⟨us, M, Q', rm, r, hs, c⟩ => ?_), hm, kp, hb, .nil, fun H M => .nil⟩
  refine ⟨t0, PSs.nox (h1 _ ⟨rfl, rfl, rfl, rfl, rfl, rfl, rfl, hr, rfl, rfl, fun _ _ => rfl, fun _ => ⟨rfl, rfl⟩, fun _ => ⟨rfl, rfl, rfl⟩⟩), ?_⟩
  refine h2 _ (startU N us) H M _ (start_rel r) rm (q us M Q' hs) _ ⟨fun σ τ H1 M1 s1 rm1 rs1 q1 => ?_, fun u v H1 M1 s1 rm1 ru q1 => rtU.ok c s1 rm1 ru q1, fun _ _ _ _ _ _ _ z => z.elim, fun _ _ _ _ _ _ _ z => z.elim⟩
  exact rtU.ok c s1 rm1 relU_non q1
end
def OnlyT (ts : List Addr) (H : Hp) : Prop := ∀ b, H b = none ∨ (∃ o xs, H b = some (.frz o (.lst xs))) ∨ (b ∈ ts ∧ H b = some (.tbl #[]))
theorem law_callT {P : Program} {w : World} {K : PySem.W.Frag} {mg mb : Str → Option Value} {k : Nat} {fa a : Addr} {fd : FuncData} {x : Str} {sp : Sp} {s₁ : Shared} {vs : List Value} {ns : List Int} {ts : List Addr}
    (KX : K.In s₁.heap) (hns : s₁.heap.Ns mainGlobals mg) (hb : s₁.heap.Ns builtinsNs mb) (hbb : ∀ x : Str, x ≠ "__name__" → mb x = bootBuiltins x) (hlim : s₁.heap.NoLimit) (hg : s₁.gens = #[])
    (hB : BmOk s₁.heap mg) (hT : ∀ p ∈ ts, s₁.heap.get? p = some (PySem.W.tabObj #[]) ∧ K.lookup p = none ∧ isCodeTable s₁.heap p)
    (ha : s₁.heap.get? a = some { cls := .type "list", data := .seq vs.toArray }) (hi : IntsAre vs ns) (hl : ns.length ≤ sizeLine) (hr : Room k callerA)
    (F : ∀ base : Heap, K.In base → base.Ns mainGlobals mg → BmOk base mg → FnOk P w K mg base CX0 k fa fd [x] sp) (hbind : ∀ (s : Shared) (u : Value), BindsTo s fd ⟨[u], []⟩ [(x, u)])
    (hsp : ∀ H : Hp, OnlyT ts H → SqL K H a (ns.map V.int) → (∀ p ∈ ts, H p = some (.tbl #[])) → sp [.ref a] H (fun v _ => v = .bl true) fun _ _ _ => False) :
    codeAny (model P w) callerA (.call (.ref fa) ⟨[.ref a], []⟩) (fun r s' => r = .ok (.ret (.bool true)) ∧ OldK s₁.heap s'.heap ∧ s'.os = s₁.os ∧ AllBare s'.gens) s₁ := by
  have rv := vals_ints hi
  have lenV := hi.length
  have haT : a ∉ ts := fun z => by
    have := (hT a z).1
    rw [ha] at this; cases this
  -- from an abstract heap in which nothing but the script and the tables may be tracked
  have core : ∀ H : Hp, OnlyT ts H → SqL K H a (ns.map V.int) → (∀ p ∈ ts, H p = some (.tbl #[])) → HOk P w H s₁.heap → (∀ b, H b ≠ none → b = a ∨ b ∈ ts) → (H a ≠ none → K.lookup a = none) →
      codeAny (model P w) callerA (.call (.ref fa) ⟨[.ref a], []⟩) (fun r s' => r = .ok (.ret (.bool true)) ∧ OldK s₁.heap s'.heap ∧ s'.os = s₁.os ∧ AllBare s'.gens) s₁ := by
    intro H hO hS hTb hok hA hK
    have base_of : ∀ {b : Addr} {o : Obj}, s₁.heap.get? b = some o → H b = none → (hidT s₁.heap H).get? b = some o := fun e n => hidT_get e n
    have noD : ∀ {b : Addr} {o : Obj}, s₁.heap.get? b = some o → (∀ xs n, o.data ≠ .seq xs n) → (∀ vs, o.data ≠ .fields vs) → H b = none := fun {b o} e d1 d2 => by
      cases q : H b with
      | none => rfl
      | some u =>
        rcases hA b (by rw [q]; simp) with e' | e'
        · subst e'
          rw [ha] at e; cases e
          exact absurd rfl (d1 _ _)
        · rw [(hT b e').1] at e; cases e
          exact absurd rfl (d2 _)
    have noA : ∀ {b : Addr} {o : Obj} {es : Array DictEntry} {ep : Nat}, s₁.heap.get? b = some o → o.data = .dict es ep → H b = none := fun {b o es ep} e d => noD e (fun xs n z => by rw [d] at z; cases z) (fun vs z => by rw [d] at z; cases z)
    have nsK : ∀ {b : Addr} {m : Str → Option Value}, s₁.heap.Ns b m → (hidT s₁.heap H).Ns b m := fun {b m} ⟨o, es, ep, e, d, r⟩ => ⟨o, es, ep, base_of e (noA e d), d, r⟩
    have hKb : K.In (hidT s₁.heap H) := fun b o e => base_of (KX b o e) (by
      cases q : H b with
      | none => rfl
      | some u =>
        rcases hA b (by rw [q]; simp) with e' | e'
        · subst e'
          rw [hK (by rw [q]; simp)] at e; cases e
        · rw [(hT b e').2.1] at e; cases e)
    have hBb : BmOk (hidT s₁.heap H) mg := by
      obtain ⟨bm, o, b1, b2, b3, b4, b5, b6, b7⟩ := hB
      exact ⟨bm, o, b1, b2, b3, base_of b4 (noD b4 (fun xs n z => by rw [b7] at z; cases z) (fun vs z => by rw [b7] at z; cases z)), b5, b6, b7⟩
    have hM : Mod K mg (hidT s₁.heap H) := ⟨hKb, nsK hns, ⟨mb, nsK hb, hbb⟩, let ⟨mc, h1, h2⟩ := hlim; ⟨mc, nsK h1, h2⟩⟩
    have e0 : Env0 P w K mg (hidT s₁.heap H) callerA [] s₁ H := ⟨rfl, hM, fun b o e => of_hidT e, Nat.le_of_eq (hidT_size _ _), trivial, fun b hb => absurd (show b ∈ ([] : List Addr) from hb) (by simp), hok, .of_eq hg⟩
    refine codeAny_mono ((F _ hKb (nsK hns) hBb).run callerA [] s₁ H ⟨[.ref a], []⟩ [.ref a] [.ref a] _ _ hr e0 (hbind s₁ (.ref a)) (.cons rfl .nil) (hsp H hO hS hTb)) fun r s' h => ?_
    cases r with
    | error e => exact h.elim
    | ok fl =>
      cases fl with
      | next => exact False.elim h
      | brk => exact False.elim h
      | cont => exact False.elim h
      | ret u =>
        obtain ⟨v, H', os, bare, un, hok', r', q⟩ := h
        have q' : v = .bl true := q
        subst q'
        obtain rfl : u = Value.bool true := r'
        have kept : ∀ b o, s₁.heap.get? b = some o → b ∉ ts → s'.heap.get? b = some o := fun b o e hbt => by
          cases q : H b with
          | none => exact un.keep b o e q (by intro z; exact absurd (show b ∈ ([] : List Addr) from z) (by simp)) (by simp)
          | some u =>
            rcases hO b with z | ⟨ob, xs, z⟩ | ⟨z, _⟩
            · rw [q] at z; cases z
            · have z2 := un.frzs b ob _ z
              obtain ⟨e1, _⟩ := hok b _ z
              obtain ⟨e2, _⟩ := hok' b _ z2
              rw [e] at e1; cases e1
              exact e2
            · exact absurd z hbt
        refine ⟨rfl, ⟨fun b o e => ?_, fun b o e => ?_⟩, os, bare⟩
        · by_cases hbt : b ∈ ts
          · obtain ⟨h1, _, h3⟩ := hT b hbt
            rw [h1] at e; cases e
            obtain ⟨more, hm⟩ := un.tbls b _ (hTb b hbt)
            have := hok' b _ hm
            exact .inr (.inl ⟨h3, rfl, #[], more, rfl, this⟩)
          · exact .inl (kept b o e hbt)
        · by_cases hbt : b ∈ ts
          · obtain ⟨more, hm⟩ := un.tbls b _ (hTb b hbt)
            exact ⟨_, hok' b _ hm⟩
          · exact ⟨o, kept b o e hbt⟩
  have tOk : ∀ (H : Hp) b, b ∈ ts → ObjOk P w H s₁.heap b (.tbl #[]) := fun H b hb => (hT b hb).1
  open Classical in
  cases hk : K.lookup a with
  | some o =>
    -- the script is one of the module's own objects
    have e := KX a o hk
    rw [ha] at e
    cases e
    refine core (fun b => if b ∈ ts then some (.tbl #[]) else none) (fun b => ?_) (.inr ⟨_, vs.toArray, _, hk, rfl, rfl, rfl, by rw [List.size_toArray, lenV]; exact hl, by simpa using rv⟩) (fun p hp => if_pos hp) (fun b u z => ?_) (fun b z => ?_) (fun z => absurd (if_neg haT) z)
    · by_cases hb : b ∈ ts
      · exact .inr (.inr ⟨hb, if_pos hb⟩)
      · exact .inl (if_neg hb)
    · by_cases hb : b ∈ ts
      · have z' := (if_pos hb).symm.trans z
        cases z'
        exact tOk _ b hb
      · have z' := (if_neg hb).symm.trans z
        cases z'
    · by_cases hb : b ∈ ts
      · exact .inr hb
      · exact absurd (if_neg hb) z
  | none =>
    refine core (fun b => if b = a then some (.frz { cls := .type "list", data := .seq vs.toArray } (.lst (ns.map V.int))) else if b ∈ ts then some (.tbl #[]) else none) (fun b => ?_) (.inl (.inr ⟨{ cls := .type "list", data := .seq vs.toArray }, if_pos rfl⟩)) (fun p hp => ?_) (fun b u z => ?_) (fun b z => ?_) fun _ => hk
    · by_cases hb : b = a
      · exact .inr (.inl ⟨_, _, if_pos hb⟩)
      · by_cases hbt : b ∈ ts
        · exact .inr (.inr ⟨hbt, (if_neg hb).trans (if_pos hbt)⟩)
        · exact .inl ((if_neg hb).trans (if_neg hbt))
    · exact (if_neg (fun z : p = a => haT (z ▸ hp))).trans (if_pos hp)
    · by_cases hb : b = a
      · have z' := (if_pos hb).symm.trans z
        cases z'
        subst hb
        exact ⟨ha, by rw [List.length_map]; exact hl, vs, _, rv, ha⟩
      · by_cases hbt : b ∈ ts
        · have z' := ((if_neg hb).trans (if_pos hbt)).symm.trans z
          cases z'
          exact tOk _ b hbt
        · have z' := ((if_neg hb).trans (if_neg hbt)).symm.trans z
          cases z'
    · by_cases hb : b = a
      · exact .inl hb
      · by_cases hbt : b ∈ ts
        · exact .inr hbt
        · exact absurd ((if_neg hb).trans (if_neg hbt)) z
end U2
namespace U2
open PySem PySem.Spec PyProof.Rows L2
section
variable {D : Dat} {x : Str} {p pos : Pos} {e : Expr} {es : List Expr} {f P : Addr} {q : Str} {j : Nat}
end
end U2
namespace U2
open PySem PySem.Spec PyProof.Rows L2
def lamSpC (P : Addr) (ps : Array Value) (vs : List V) (cs : List U) (L : LamD) : USp := fun us M Q => M P = some (.cap ps vs cs) ∧ spLam L.ps.length L.te (cs.map some) us M Q
def gL1C (P : Addr) (q : Str) (L : LamD) (sp : Addr → USp → USp) : SU → List U → List Addr → MHp → UK → Prop := fun τ us fs M1 Q => match fs with
  | [fl] => M1 P = some (.tbl q) ∧ ∃ cs, capU L τ = cs.map some ∧ ∀ ps vs, (∀ b, mup M1 P (.cap ps vs cs) b ≠ some (.tbl q)) → sp fl (lamSpC P ps vs cs L) us (mup M1 P (.cap ps vs cs)) fun u M2 => (∀ b, M2 b ≠ some (.tbl q)) ∧ M2 P = some (.cap ps vs cs) ∧ Q u (mup M2 P (.tbl q))
  | _ => False
theorem hid_relC {K : PySem.W.Frag} {H : Hp} {M : MHp} {P : Addr} {q : Str} {vs : List V} {cs : List U} (rm : RelM K H M) (hP : M P = some (.tbl q)) (rc : RelUs K H M cs vs) : ∃ ps, H P = some (.tbl ps) ∧ Stq H M (hidC q H) (mup M P (.cap ps vs cs)) ∧ RelM K (hidC q H) (mup M P (.cap ps vs cs)) := by
  obtain ⟨un, ps, hHP, htr, hcodes⟩ := rm P _ hP
  have nP : ¬ isCod q (H P) := fun z => by rw [hHP] at z; obtain ⟨oc, z⟩ := isCod_some z; cases z
  have sq : Stq H M (hidC q H) (mup M P (.cap ps vs cs)) := fun b o e m n1 n2 => by
    refine ⟨?_, ?_⟩
    · rw [hidC_not (fun z => by rw [e] at z; obtain ⟨oc, z⟩ := isCod_some z; exact n1 oc z)]; exact e
    · have hb : b ≠ P := fun z => by rw [z, hP] at m; cases m
      rw [mup_ne hb]; exact m
  refine ⟨ps, hHP, sq, fun a mo e => ?_⟩
  by_cases ha : a = P
  · subst ha
    rw [mup_same] at e; cases e
    exact ⟨by rw [hidC_not nP]; exact hHP, rc.stq sq⟩
  rw [mup_ne ha] at e
  have h := rm a mo e
  cases mo with
  | lst us => obtain ⟨vs, x, y⟩ := h; exact ⟨vs, by rw [hidC_not (fun z => by rw [x] at z; obtain ⟨oc, z⟩ := isCod_some z; cases z)]; exact x, y.stq sq⟩
  | dK us => obtain ⟨vs, x, y⟩ := h; exact ⟨vs, by rw [hidC_not (fun z => by rw [x] at z; obtain ⟨oc, z⟩ := isCod_some z; cases z)]; exact x, y.stq sq⟩
  | dT us => obtain ⟨vs, x, y⟩ := h; exact ⟨vs, by rw [hidC_not (fun z => by rw [x] at z; obtain ⟨oc, z⟩ := isCod_some z; cases z)]; exact x, y.stq sq⟩
  | dN us => obtain ⟨vs, x, y⟩ := h; exact ⟨vs, by rw [hidC_not (fun z => by rw [x] at z; obtain ⟨oc, z⟩ := isCod_some z; cases z)]; exact x, y.stq sq⟩
  | cap ps vs us => exact ⟨by rw [hidC_not (fun z => by rw [h.1] at z; obtain ⟨oc, z⟩ := isCod_some z; cases z)]; exact h.1, h.2.stq sq⟩
  | tbl q' =>
    obtain ⟨un', ps', x, y, z⟩ := h
    have hq : q' ≠ q := fun w => by subst w; exact ha (un' P hP).symm
    refine ⟨fun b hb => un' b (by by_cases hbP : b = P; rw [hbP, mup_same] at hb; cases hb; rw [mup_ne hbP] at hb; exact hb), ps', by rw [hidC_not (fun z => by rw [x] at z; obtain ⟨oc, z⟩ := isCod_some z; cases z)]; exact x, y, fun pos c hc => ?_⟩
    obtain ⟨c', oc, vs, t, h1, h2, h3, h4, h5⟩ := z pos c hc
    refine ⟨c', oc, vs, t, h1, ?_, ?_, h4, h5⟩
    · rw [hidC_not (fun z => by rw [h2] at z; exact hq (isCod_q h4 h5 z).symm)]; exact h2
    · have hb : c' ≠ P := fun z => by rw [z, hHP] at h2; cases h2
      rw [mup_ne hb]; exact h3
theorem res_relC {K : PySem.W.Frag} {H H2 : Hp} {M M2 : MHp} {P : Addr} {q : Str} {ps : Array Value} {vs : List V} {cs : List U} (rm : RelM K H M) (hP : M P = some (.tbl q)) (hHP : H P = some (.tbl ps)) (st : Stp (hidC q H) (mup M P (.cap ps vs cs)) H2 M2) (rm2 : RelM K H2 M2) (hM2 : M2 P = some (.cap ps vs cs)) (hn : ∀ b, isCod q (H b) → H2 b = none) (hu : ∀ b, M2 b ≠ some (.tbl q)) :
    Stp H M (resC q H H2) (mup M2 P (.tbl q)) ∧ Stq H2 M2 (resC q H H2) (mup M2 P (.tbl q)) ∧ RelM K (resC q H H2) (mup M2 P (.tbl q)) := by
  obtain ⟨un, ps0, hHP0, htr, hcodes⟩ := rm P _ hP
  rw [hHP] at hHP0; cases hHP0
  have nP : ¬ isCod q (H P) := fun z => by rw [hHP] at z; obtain ⟨oc, z⟩ := isCod_some z; cases z
  have h2P : H2 P = some (.tbl ps) := (rm2 P _ hM2).1
  have S1 : Stp H M (resC q H H2) (mup M2 P (.tbl q)) := fun b o e m => by
    have hb : b ≠ P := fun z => by rw [z, hP] at m; cases m
    by_cases hc : isCod q (H b)
    · exact ⟨.inl (by rw [resC_code hc]; exact e), by rw [mup_ne hb]; exact rm2.no (hn b hc)⟩
    · obtain ⟨a1, a2⟩ := st b o (by rw [hidC_not hc]; exact e) (by rw [mup_ne hb]; exact m)
      exact ⟨by rw [resC_not hc]; exact a1, by rw [mup_ne hb]; exact a2⟩
  have S2 : Stq H2 M2 (resC q H H2) (mup M2 P (.tbl q)) := fun b o e m n1 n2 => by
    have hb : b ≠ P := fun z => by rw [z, hM2] at m; cases m
    have hc : ¬ isCod q (H b) := fun z => by rw [hn b z] at e; cases e
    exact ⟨by rw [resC_not hc]; exact e, by rw [mup_ne hb]; exact m⟩
  refine ⟨S1, S2, fun a mo e => ?_⟩
  by_cases ha : a = P
  · subst ha
    rw [mup_same] at e; cases e
    refine ⟨fun b hb => ?_, ps, by rw [resC_not nP]; exact h2P, htr, fun pos c hc => ?_⟩
    · by_cases hba : b = a
      · exact hba
      · rw [mup_ne hba] at hb; exact (hu b hb).elim
    · obtain ⟨c', oc, vs, t, h1, h2, h3, h4⟩ := hcodes pos c hc
      obtain ⟨a1, a2⟩ := S1.to h2 h3
      exact ⟨c', oc, vs, t, h1, a1, a2, h4⟩
  · rw [mup_ne ha] at e
    have h := rm2 a mo e
    obtain ⟨o, ho⟩ := rm2.ex e
    have hc : ¬ isCod q (H a) := fun z => by rw [hn a z] at ho; cases ho
    cases mo with
    | lst us => obtain ⟨vs, x, y⟩ := h; exact ⟨vs, by rw [resC_not hc]; exact x, y.stq S2⟩
    | dK us => obtain ⟨vs, x, y⟩ := h; exact ⟨vs, by rw [resC_not hc]; exact x, y.stq S2⟩
    | dT us => obtain ⟨vs, x, y⟩ := h; exact ⟨vs, by rw [resC_not hc]; exact x, y.stq S2⟩
    | dN us => obtain ⟨vs, x, y⟩ := h; exact ⟨vs, by rw [resC_not hc]; exact x, y.stq S2⟩
    | cap ps vs us => exact ⟨by rw [resC_not hc]; exact h.1, h.2.stq S2⟩
    | tbl q' =>
      obtain ⟨un', ps', x, y, z⟩ := h
      have hqq : q' ≠ q := fun w => by subst w; exact hu a e
      refine ⟨fun b hb => un' b (by by_cases hbP : b = P; subst hbP; rw [mup_same] at hb; exact absurd (by cases hb; rfl) hqq; rw [mup_ne hbP] at hb; exact hb), ps', by rw [resC_not hc]; exact x, y, fun pos c hcc => ?_⟩
      obtain ⟨c', oc, vs, t, h1, h2, h3, h4⟩ := z pos c hcc
      have hc' : ¬ isCod q (H c') := fun z => by rw [hn c' z] at h2; cases h2
      refine ⟨c', oc, vs, t, h1, by rw [resC_not hc']; exact h2, ?_, h4⟩
      by_cases hb : c' = P
      · rw [hb, h2P] at h2; cases h2
      · rw [mup_ne hb]; exact h3
theorem caps_rel {K : PySem.W.Frag} {H : Hp} {M : MHp} {σ : L2.St} {τ : SU} (rs : RelS K H M σ τ) : ∀ (ix : List Nat) (cs : List U), ix.map (fun i => (τ[i]?).getD none) = cs.map some → ∃ vs, RelUs K H M cs vs ∧ ix.map (fun i => (σ[i]?).getD none) = vs.map some
  | [], [], _ => ⟨[], .nil, rfl⟩
  | [], c :: cs, h => by cases h
  | i :: ix, [], h => by cases h
  | i :: ix, c :: cs, h => by
    simp only [List.map_cons, List.cons.injEq] at h
    obtain ⟨vs, h1, h2⟩ := caps_rel rs ix cs h.2
    have eτ : τ[i]? = some (some c) := by
      cases hz : τ[i]? with
      | none => rw [hz] at h; cases h.1
      | some o => rw [hz] at h; simp only [Option.getD_some] at h; rw [h.1]
    obtain ⟨v, hv, rv⟩ := rs.2 i c eτ
    exact ⟨v :: vs, .cons rv h1, by simp only [List.map_cons, hv, Option.getD_some, h2]⟩
open Classical in
theorem ue_callLC {D : Dat} {x : Str} {p pos : Pos} {e : Expr} {es : List Expr} {f P : Addr} {q : Str} {j : Nat} (k : Nat) (L : LamD) {sp : Addr → USp → USp} {t : UAL} (hm : D.mg x = some (.ref f)) (hk : PySem.W.keepIn D.K (.ref f) = true)
    (F : ∀ (base : Heap) (fl : Addr) (s : USp), BmOk base D.mg → CalleeF D.prog D.w D.K D.mg base (k + 1) fl s → Callee D.prog D.w D.K D.mg base j x (sp fl s) []) (hB : BmOk D.base D.mg) (hL : LamOk D k L) (ha : PALU D q (e :: es) [L.lam] t)
    (hj : j ≤ D.k := by first | exact Nat.le_refl _ | (dsimp only; omega) | omega) (hfn : D.fn = true := by rfl) (hg : D.sc.names.lookup x = some .globalImplicit := by rfl) (hdb : (x == ("__debug__" : Str)) = false := by decide)
    (he : ∀ env, starEach (e :: es) env = (false, eval e env) :: starEach es env := by intro _; rfl) (hpl : ∀ env, (backTo pos (starEach es env)).any (·.1) = false := by intro _; rfl) : PEU D (.Call (.Name x p) (e :: es) [] pos) (uCallG (gL1C P q L sp) t) := by
  refine ⟨fun σ H Q => ∃ τ M Q', RelS D.K H M σ τ ∧ RelM D.K H M ∧ uCallG (gL1C P q L sp) t τ M Q' ∧ Cont D.K H M Q' Q, fun X h => ?_, fun σ τ H M Q' rs rm ht Q c => ⟨τ, M, Q', rs, rm, ht, c⟩⟩
  intro pins s σ H Q I ⟨τ, M, Q', rs, rm, ht, cont⟩
  refine wpAny_Call_Name_kw (ld_glob I (by show X.env.scope.names.lookup x = _; rw [h.sc]; exact hg) (by rw [h.mg]; exact hm) ?_ hdb)
  refine PySem.W.callWith_K (h₀ := X.base) I.ok.mod.kin (by rw [h.K]; exact hk) (thn (ha X h pos pins s σ H τ M _ I rs rm ht) fun us s1 ⟨ws, vs, fs, M1, H1, I1, rv, st1, rm1, rus, pl, q0⟩ => ⟨I1.kIn, ?_⟩) (he _) (hpl _)
  obtain ⟨fl0, rfl⟩ : ∃ fl, fs = [fl] := by
    cases pl with
    | cons _ h2 => cases h2; exact ⟨_, rfl⟩
  obtain ⟨hMP, cs, hcs, q1⟩ := q0
  obtain ⟨huniq, _⟩ := rm1 P _ hMP
  obtain ⟨cvs0, rc0, hcv⟩ := caps_rel (rs.stp st1) L.ix cs hcs
  obtain ⟨ps0, hHP, sq, rmH⟩ := hid_relC rm1 hMP rc0
  have hno : ∀ b, mup M1 P (.cap ps0 cvs0 cs) b ≠ some (.tbl q) := fun b z => by
    by_cases hb : b = P
    · rw [hb, mup_same] at z; cases z
    · rw [mup_ne hb] at z; exact hb (huniq b z)
  -- the base of the callee
  let Hh : Hp := fun b => if b ∈ frs X.stack then some (.own 0) else hidC q H1 b
  have hHh : ∀ b, b ∉ frs X.stack → hidC q H1 b = none → Hh b = none := fun b h1 h2 => by show (if b ∈ frs X.stack then some (.own 0) else hidC q H1 b) = none; rw [if_neg h1]; exact h2
  have hHn : ∀ b, Hh b = none → b ∉ frs X.stack ∧ hidC q H1 b = none := fun b hb => by
    have hb' : (if b ∈ frs X.stack then some (HO.own 0) else hidC q H1 b) = none := hb
    by_cases hm : b ∈ frs X.stack
    · rw [if_pos hm] at hb'; cases hb'
    · rw [if_neg hm] at hb'; exact ⟨hm, hb'⟩
  have nofr : ∀ b o, X.base.get? b = some o → b ∉ frs X.stack := fun b o e hb => by
    have := (I1.stack.mem hb).1
    rw [e] at this; cases this
  have hid0 : ∀ b, H1 b = none → hidC q H1 b = none := fun b e => by rw [hidC_not (by rw [e]; exact isCod_none)]; exact e
  have up : ∀ b o, X.base.get? b = some o → (hidT s1.heap Hh).get? b = some o := fun b o e => hidT_get (I1.bk b o e) (hHh b (nofr b o e) (hid0 b (I1.bs b o e).2))
  have hBm : BmOk (hidT s1.heap Hh) D.mg := by
    obtain ⟨bm, o, b1, b2, b3, b4, b5⟩ := hB
    rw [← h.base] at b4
    exact ⟨bm, o, b1, b2, b3, up _ _ b4, b5⟩
  have e0 : Env0 X.prog X.w X.K X.mg (hidT s1.heap Hh) X.A X.stack s1 (hidC q H1) := by
    have m := I1.ok.mod
    refine ⟨I1.ok.frames, ⟨m.kin.keeps up, m.glob.keeps up, let ⟨mb, a, b⟩ := m.blt; ⟨mb, a.keeps up, b⟩, m.nolimit.keeps up⟩, fun b o e => ?_, Nat.le_of_eq (hidT_size _ _), ?_, fun b hb => hid0 b (I1.stkFree b hb), fun b o e => ?_, I1.bare⟩
    · obtain ⟨a, b2⟩ := of_hidT e
      exact ⟨a, (hHn b b2).2⟩
    · have : ∀ l : List Env, (∀ b ∈ frs l, b ∈ frs X.stack) → s1.heap.FunFrames X.base l → s1.heap.FunFrames (hidT s1.heap Hh) l := by
        intro l
        induction l with
        | nil => intro _ _; trivial
        | cons env rest ih =>
          intro hs ⟨hk, ⟨L, o, hf, hn, ho, hd⟩, hr⟩
          refine ⟨hk, ⟨L, o, hf, ?_, ho, hd⟩, ih (fun b hb => hs b (by unfold frs at hb ⊢; rw [List.filterMap_cons, hf]; exact List.mem_cons_of_mem _ hb)) hr⟩
          cases hq : (hidT s1.heap Hh).get? L with
          | none => rfl
          | some o' => exact absurd (hs L (by unfold frs; rw [List.filterMap_cons, hf]; exact List.mem_cons_self)) (hHn L (of_hidT hq).2).1
      exact this X.stack (fun _ hb => hb) I1.stack
    · obtain ⟨e1, e2⟩ := hidC_some e
      refine (I1.hok b o e1).stay (fun _ _ _ z => z) (fun a ea => ?_) (fun a xs ea => ?_)
      · rw [hidC_not (fun z => by rw [ea] at z; obtain ⟨_, z⟩ := isCod_some z; cases z)]; exact ea
      · rw [hidC_not (fun z => by rw [ea] at z; obtain ⟨_, z⟩ := isCod_some z; cases z)]; exact ea
  -- the lambdas
  have one : ∀ (fl : Addr), LamOk D k L → LamAt X s1 H1 M1 q L.lam fl → CalleeF D.prog D.w D.K D.mg (hidT s1.heap Hh) (k + 1) fl (lamSpC P ps0 cvs0 cs L) := by
    intro fl ok la
    obtain ⟨cl, pm, ctv, c, oc, cvs, tk, hclos, ⟨ho, hf0, hf1, hf2⟩, hc, hMc, hd, hv⟩ := la
    obtain ⟨cl', hclos', hcl, hcl2⟩ := closure_of (env := X.env) (scope := L.lam.scope) (fun y hy e => I1.ok.has y.1 (by show X.env.scope.names.lookup _ = _ ∨ X.env.scope.names.lookup _ = _; rw [h.sc]; exact ok.free y hy e))
    have ecl : cl' = cl := pure_inj (hclos'.symm.trans hclos)
    subst ecl
    have nst : ∀ b, b ≠ X.env.locals → b ∉ X.fs → b ∉ frs X.stack := fun b n1 n2 hb => by
      rcases List.mem_cons.mp (I1.stkSub b hb) with z | z
      · exact n1 z
      · exact n2 z
    have bfl : (hidT s1.heap Hh).get? fl = some (PySem.W.kla_obj "<lambda>" q L.lam.params L.lam.body L.lam.scope cl' pm c ctv) := hidT_get ho (hHh fl (nst fl hf1 hf2) (hid0 fl hf0))
    have hoc : s1.heap.get? c = some oc := (I1.hok c _ hc).1
    have bc : (hidT s1.heap Hh).get? c = some oc := hidT_get hoc (hHh c (fun hb => by rw [I1.stkFree c hb] at hc; cases hc) (hidC_code ⟨oc, cvs, tk, hc, hd, hv⟩))
    have hold : ∀ y a, cl'.lookup y = some a → ∀ o, s1.heap.get? a = some o → (hidT s1.heap Hh).get? a = some o := fun y a e o eo => by
      have ec := hcl y a e
      refine hidT_get eo (hHh a (nst a (I1.cne y a ec) (fun hb => ?_)) (hid0 a (I1.freeC y a ec)))
      have h1 := I1.ok.cab y a (h.fn hfn y) ec
      obtain ⟨_, o', ho', _⟩ := I1.ok.funs.mem hb
      exact absurd (Heap.lt_size ho') (Nat.not_lt.mpr h1)
    have cells : ∀ y a v, cl'.lookup y = some a → s1.heap.IsCell a v → (hidT s1.heap Hh).IsCell a v := fun y a v e ⟨o, ho, hd⟩ => ⟨o, hold y a e o ho, hd⟩
    obtain ⟨m, hns, hloc⟩ := I1.loc
    refine ⟨PySem.W.kla_fn "<lambda>" q L.lam.params L.lam.body L.lam.scope cl' pm (.ref c) ctv, L.ps, ?_, .inr ⟨_, _, bfl, rfl⟩, .all fun us hl => ok.bind q cl' pm _ _ us hl⟩
    have capV : ∃ caps : List (Option V), caps = L.ix.map (fun i => (σ[i]?).getD none) := ⟨_, rfl⟩
    obtain ⟨caps, hcaps⟩ := capV
    refine lam_ok (N := L.N) (caps := caps) bfl ⟨c, oc, cvs, tk, rfl, bc, hd, hv⟩ ok.sc (fun y z a e1 e2 => I1.ok.inj y z a (hcl y a e1) (hcl z a e2)) (fun y hy => hcl2 y (PySem.mem_of_lookup hy)) (fun y a e => ?_) (fun jj y v e1 e2 => ?_) (by rw [hcaps, List.length_map]; exact ok.len) (fun vs H Q E ⟨us, M, Q', _, r, hs, _⟩ => by rw [← r.length]; exact hs.2.1) ?_
    · obtain ⟨v, hv⟩ := I1.cell y a (hcl y a e)
      exact ⟨v, cells y a v e hv⟩
    · -- what was captured
      rw [hcaps, List.getElem?_map] at e2
      cases hi : L.ix[jj]? with
      | none => rw [hi] at e2; cases e2
      | some i =>
        rw [hi] at e2
        simp only [Option.map_some, Option.some.injEq] at e2
        have eN : D.N[i]? = some y := by
          have h1 : (L.ix.map fun i => D.N[i]?)[jj]? = some (D.N[i]?) := by rw [List.getElem?_map, hi]; rfl
          rw [ok.ix, List.getElem?_map, List.getElem?_drop, e1] at h1
          exact (Option.some.inj h1).symm
        have eσ : σ[i]? = some (some v) := by
          cases hz : σ[i]? with
          | none => rw [hz] at e2; cases e2
          | some o => rw [hz] at e2; simp only [Option.getD_some] at e2; rw [e2]
        have hmem : y ∈ L.N.drop L.ps.length := List.mem_of_getElem? (i := jj) (by rw [List.getElem?_drop]; exact e1)
        have hkind := ok.cap y hmem
        obtain ⟨u, ru, lk⟩ := hloc i y v (by rw [h.N]; exact eN) eσ (by unfold Vis; rw [h.sc]; rcases hkind with z | z; exact .inr (.inl z); exact .inr (.inr z))
        rcases lk with ⟨k1, _⟩ | ⟨_, a, e3, e4⟩
        · have k1' : X.env.scope.names.lookup y = some .local := k1
          rw [h.sc] at k1'
          rcases hkind with z | z <;> (rw [z] at k1'; cases k1')
        · obtain ⟨a', ea'⟩ := hcl2 y (PySem.mem_of_lookup (ok.sc.cap y hmem))
          have : a' = a := by have := hcl y a' ea'; rw [e3] at this; cases this; rfl
          subst this
          exact ⟨a', u, ea', cells y a' _ ea' e4, ru⟩
    · intro A outer s2 H2 vs2 Q2 E2 hr ⟨us2, M2, Q2', rm2, rus2, ⟨hM2, hl2, hte⟩, c2⟩
      obtain ⟨tb, pb, sb⟩ := ok.body (hidT s1.heap Hh) hBm
      refine ⟨tb, ?_, ?_⟩
      · have hh := pb (cxLam X.prog X.w X.K X.mg (hidT s1.heap Hh) L.N q L.lam.scope fl c cl' A outer s2 H2) ⟨h.prog, h.w, h.K, h.mg, rfl, rfl, rfl, hr, rfl, rfl, (fun z => by cases z), (fun z => absurd rfl z), (fun z => by cases z)⟩
        rw [h.prog, h.w, h.K, h.mg] at hh
        exact hh
      · refine sb _ _ H2 M2 _ ?_ rm2 hte _ c2
        have rc2 : RelUs D.K H2 M2 cs cvs0 := (rm2 P _ hM2).2
        rw [hcv] at hcaps
        refine ⟨by rw [List.length_append, List.length_append, List.length_map, List.length_map, rus2.length, hcaps, List.length_map, List.length_map, rc2.length], fun i u ei => ?_⟩
        have hlv : vs2.length = us2.length := rus2.length.symm
        by_cases hi : i < us2.length
        · rw [List.getElem?_append_left (by rw [List.length_map]; exact hi), List.getElem?_map] at ei
          cases hu : us2[i]? with
          | none => rw [hu] at ei; cases ei
          | some u' =>
            rw [hu] at ei
            simp only [Option.map_some, Option.some.injEq] at ei
            subst ei
            obtain ⟨v, hv, rv⟩ := rus2.get hu
            exact ⟨v, by rw [List.getElem?_append_left (by rw [List.length_map, hlv]; exact hi), List.getElem?_map, hv]; rfl, rv⟩
        · rw [List.getElem?_append_right (by rw [List.length_map]; omega), List.length_map] at ei
          rw [List.getElem?_map] at ei
          cases hj : cs[i - us2.length]? with
          | none => rw [hj] at ei; cases ei
          | some u' =>
            rw [hj] at ei
            simp only [Option.map_some, Option.some.injEq] at ei
            subst ei
            obtain ⟨v, hv, rv⟩ := rc2.get hj
            refine ⟨v, ?_, rv⟩
            rw [List.getElem?_append_right (by rw [List.length_map, hlv]; omega), List.length_map, hlv, hcaps, List.getElem?_map, hv]
            rfl
  have lam1 : CalleeF D.prog D.w D.K D.mg (hidT s1.heap Hh) (k + 1) fl0 (lamSpC P ps0 cvs0 cs L) := by
    cases pl with
    | cons h1 h2 => exact one _ hL h1
  obtain ⟨f', fd, ps, dvs, ds, FF, hm', _, hb', hvd, hrd⟩ := (F _ _ _ hBm lam1).ex
  rw [hm] at hm'; cases hm'
  have edv : dvs = [] := (hrd (fun _ => none) (fun _ => none)).inv_nil
  subst edv
  cases hvd
  have FF' : FnOk X.prog X.w X.K X.mg (hidT s1.heap Hh) CX0 j f fd ps (liftSp D.K (sp fl0 (lamSpC P ps0 cvs0 cs L))) := by rw [h.prog, h.w, h.K, h.mg]; exact FF
  have hsp : liftSp D.K (sp fl0 (lamSpC P ps0 cvs0 cs L)) vs (hidC q H1) (fun v H2 => (∀ b, isCod q (H1 b) → H2 b = none) → Q v (resC q H1 H2)) E0 := by
    refine ⟨ws, _, _, rmH, rus.stq sq, q1 ps0 cvs0 hno, fun u v M2 H2 st2 rm2 ru2 ⟨hn2, hP2, q2⟩ hcn => ?_⟩
    obtain ⟨S1, S2, rm3⟩ := res_relC rm1 hMP hHP st2 rm2 hP2 hcn hn2
    exact cont u v _ _ (st1.trans S1) rm3 (ru2.stq S2) q2
  have hl : us.length = ps.length := by rw [← rv.length]; exact FF'.len _ _ _ _ hsp
  have hbK : Binds X.K fd ps [] := by rw [h.K]; exact hb'
  have hbs := hbK s1 us I1.kIn (by rw [List.append_nil]; exact hl)
  rw [List.append_nil] at hbs
  refine wpAny_call (codeAny_mono (FF'.run X.A X.stack s1 (hidC q H1) ⟨us, []⟩ us vs _ E0 (h.room.mono hj) e0 hbs rv hsp) fun r s' hq => ?_)
  cases r with
  | error e => exact hq.elim
  | ok fl =>
    cases fl with
    | next => exact False.elim hq
    | brk => exact False.elim hq
    | cont => exact False.elim hq
    | ret u =>
      obtain ⟨v, H2, os, bare, un, hok2, rvu, q2⟩ := hq
      have cold : ∀ b, isCod q (H1 b) → ∃ o, s1.heap.get? b = some o := fun b ⟨oc, _, _, e, _⟩ => ⟨oc, (I1.hok b _ e).1⟩
      have hcn : ∀ b, isCod q (H1 b) → H2 b = none := fun b hb => by
        obtain ⟨o, ho⟩ := cold b hb
        exact un.free b o ho (hidC_code hb) (by simp)
      have nc : ∀ {b o}, H1 b = some o → (∀ oc, o ≠ .frz oc (.own 0)) → ¬ isCod q (H1 b) := fun {b o} e n z => by rw [e] at z; obtain ⟨oc, z⟩ := isCod_some z; exact n oc z
      have un' : Un (frs X.stack) [] H1 (resC q H1 H2) s1.heap s'.heap := by
        refine ⟨fun b o e n a1 a2 => un.keep b o e (hid0 b n) a1 a2, fun b o e n a1 a2 => un.slot b o e (hid0 b n) a1 a2, fun b o e n a => ?_, fun b o e a => un.there b o e a, fun b xs e => ?_, fun b o u e => ?_, fun b qs e => ?_⟩
        · rw [resC_not (by rw [n]; exact isCod_none)]; exact un.free b o e (hid0 b n) a
        · have hc := nc e (by simp)
          rw [resC_not hc]; exact un.tups b xs (by rw [hidC_not hc]; exact e)
        · by_cases hc : isCod q (H1 b)
          · rw [resC_code hc]; exact e
          · rw [resC_not hc]; exact un.frzs b o u (by rw [hidC_not hc]; exact e)
        · have hc := nc e (by simp)
          rw [resC_not hc]; exact un.tbls b qs (by rw [hidC_not hc]; exact e)
      have hok' : HOk X.prog X.w (resC q H1 H2) s'.heap := by
        intro b o e
        by_cases hc : isCod q (H1 b)
        · rw [resC_code hc] at e
          obtain ⟨oc, vs', t', e', _⟩ := hc
          rw [e] at e'; cases e'
          have hb := (I1.hok b _ e).1
          have hk' := un.keep b oc hb (hidC_code ⟨oc, vs', t', e, by assumption⟩) (fun hb => by rw [I1.stkFree b hb] at e; cases e) (by simp)
          exact ⟨hk', _, hk'⟩
        · rw [resC_not hc] at e
          refine (hok2 b o e).stay (fun _ _ _ z => z) (fun a ea => ?_) (fun a xs ea => ?_)
          · rw [resC_not (fun z => by rw [hcn a z] at ea; cases ea)]; exact ea
          · rw [resC_not (fun z => by rw [hcn a z] at ea; cases ea)]; exact ea
      have I2 : L2.Inv X pins σ (resC q H1 H2) s' := Inv.call' (ch := []) I1 os un' hok' bare (fun b z => absurd z (by simp))
      exact ⟨v, _, I2, rvu, q2 hcn⟩
section
variable {D : Dat} {x : Str} {p pos : Pos} {e : Expr} {es : List Expr} {f P : Addr} {q : Str} {j : Nat}
theorem ue_lam1C (k : Nat) (N ps : List Str) (ix : List Nat) {params : Arguments} {body : Expr} {scope : Scope} {te : UE} {sp : Addr → USp → USp} {t : UAL} (hm : D.mg x = some (.ref f)) (hk : PySem.W.keepIn D.K (.ref f) = true)
    (F : ∀ (base : Heap) (fl : Addr) (s : USp), BmOk base D.mg → CalleeF D.prog D.w D.K D.mg base (k + 1) fl s → Callee D.prog D.w D.K D.mg base j x (sp fl s) []) (hB : BmOk D.base D.mg) (ha : PALU D q (e :: es) [⟨params, body, scope⟩] t) (hb : ∀ base, BmOk base D.mg → PEU (lamD D base k N scope) body te)
    (s1 : scope.kind = .function := by rfl) (s2 : scope.isCoroutine = false := by rfl) (s3 : scope.isGenerator = false := by rfl) (s4 : N.Nodup := by decide +kernel) (s5 : N.take ps.length = ps := by rfl) (s6 : ∀ x ∈ ps, scope.names.lookup x = some .local := by decide +kernel) (s7 : ∀ y ∈ scope.names, y.2 ≠ .cell := by decide +kernel) (s8 : ∀ x ∈ N.drop ps.length, scope.names.lookup x = some .free := by decide +kernel)
    (s9 : N.length = ps.length + ix.length := by rfl) (s10 : ix.map (fun i => D.N[i]?) = (N.drop ps.length).map some := by rfl) (s11 : ∀ y ∈ scope.names, y.2 = .free → D.sc.names.lookup y.1 = some .cell ∨ D.sc.names.lookup y.1 = some .free := by first | decide +kernel | (dsimp only; decide +kernel)) (s12 : ∀ x ∈ N.drop ps.length, D.sc.names.lookup x = some .cell ∨ D.sc.names.lookup x = some .free := by first | decide +kernel | (dsimp only; decide +kernel))
    (s13 : ∀ (q : Str) (cl : List (Str × Addr)) (pm cd ct : Value) (us : List Value), us.length = ps.length → bindArgs (PySem.W.kla_fn "<lambda>" q params body scope cl pm cd ct) ⟨us, []⟩ = pure (ps.zip us) := by exact fun _ _ _ _ _ us hl => (match us, hl with | [_], _ => rfl))
    (hj : j ≤ D.k := by first | exact Nat.le_refl _ | (dsimp only; omega) | omega) (hfn : D.fn = true := by rfl) (hg : D.sc.names.lookup x = some .globalImplicit := by rfl) (hdb : (x == ("__debug__" : Str)) = false := by decide)
    (he : ∀ env, starEach (e :: es) env = (false, eval e env) :: starEach es env := by intro _; rfl) (hpl : ∀ env, (backTo pos (starEach es env)).any (·.1) = false := by intro _; rfl) : PEU D (.Call (.Name x p) (e :: es) [] pos) (uCallG (gL1C P q ⟨⟨params, body, scope⟩, N, ps, ix, te⟩ sp) t) :=
  ue_callLC k ⟨⟨params, body, scope⟩, N, ps, ix, te⟩ hm hk F hB ⟨⟨s1, s2, s3, s4, s5, s6, s7, s8⟩, s9, s10, s11, s12, hb, s13⟩ ha hj hfn hg hdb he hpl
end
end U2
namespace L2
open PySem PySem.Spec PyProof.Rows
section
variable {M : Model} {A : Around} {E : Value → Shared → Prop} {s : Shared} {base : Heap} {env : Env} {outer : List Env} {L e : Addr} {oe : Obj} {vs : Array Value}
def Trc (fl : Value → Prop) (h : Heap) (e : Addr) (vs : Array Value) (T : Option Addr) : Prop := match T with
  | none => vs[1]? = some .none
  | some T => vs[1]? = some (.ref T) ∧ T ≠ e ∧ ∃ oT ts v, h.get? T = some oT ∧ oT.data = .fields ts ∧ ts[3]? = some v ∧ fl v
end
end L2
namespace L2
open PySem PySem.Spec
section
variable {prog : Program} {w : World} {A : Around} {E : Value → Shared → Prop} {h : Heap} {g : Array GenState} {d : Drawn} {t : Nat} {os : OsState}
variable {nm q : Str} {C N : Addr} {bs bm : List Value} {hdct : Bool} {sn : List Str} {sub : List Value} {ab : Bool} {col : Option Bool} {dd : Option Addr} {k0 k1 k2 k3 k5 : Option Value}
def bmV : List Value := [.type "ValueError", .type "Exception", .type "BaseException", .type "object"]
def excHp (h : Heap) (C : Addr) (us : List Value) : Heap := (h.push { cls := .type "tuple", data := .seq us.toArray }).push { cls := .ref C, data := .fields #[.ref h.objs.size, .none, .none, .none, .bool false, .none] }
theorem excHp_keep (h : Heap) (C : Addr) (us : List Value) : ∀ b o, h.get? b = some o → (excHp h C us).get? b = some o := fun b o e => Heap.get?_push_of_some _ (Heap.get?_push_of_some _ e)
end
end L2
namespace L2
open PySem PySem.Spec
open Builtin Builtin.ObjectAttr
section
variable {prog : Program} {w : World} {A : Around} {E : Value → Shared → Prop} {h : Heap} {g : Array GenState} {d : Drawn} {t : Nat} {os : OsState}
variable {nm q : Str} {C N R x : Addr} {bs : List Value} {sn : List Str} {sub : List Value} {ab : Bool} {col : Option Bool} {dd : Option Addr} {k0 k1 k2 k3 k5 : Option Value} {K : PySem.W.Frag} {name : Str} {v : Value}
abbrev bmR (R : Addr) : List Value := .ref R :: bmV
def excO (C t : Addr) (dx : Option Addr) : Obj := { cls := .ref C, dict := dx, data := .fields #[.ref t, .none, .none, .none, .bool false, .none] }
end
end L2
namespace L2
open PySem PySem.Spec PyProof.Rows
def ExcOk (a C : Addr) (dx : Option Addr) (h : Heap) : Prop := ∃ t, h.get? a = some (excO C t dx)
section
variable {P : Program} {w : World} {H : Hp} {h h' : Heap} {a d : Addr} {o : HO}
end
section
variable {X : Cx} {e1 e2 : Expr} {t1 t2 ta tv : TE} {p pos apos pos' : Pos} {r f : Str} {R : Addr}
theorem upd_self {H : Hp} {a : Addr} {o : HO} (h : H a = some o) : upd H a o = H := by
  funext b; unfold upd; split
  · rename_i e; subst e; exact h.symm
  · rfl
end
end L2
namespace L2
open PySem PySem.Spec PyProof.Rows
structure Rsd (fl : Value → Prop) (sz : Nat) (nw : Addr → Prop) (h : Heap) (a C d : Addr) (fs : List (Str × V)) : Prop where
  sa : sz ≤ a
  na : nw a
  nd : nw d
  ad : a ≠ d
  obj : ∃ oe vs T, h.get? a = some oe ∧ oe.cls = .ref C ∧ oe.dict = some d ∧ oe.data = .fields vs ∧ Trc fl h a vs T ∧ ∀ T', T = some T' → sz ≤ T' ∧ nw T' ∧ T' ≠ d
  att : ∃ mA, h.Ns1 d mA ∧ ∀ f, RelO (fs.lookup f) (mA f)
def New (X : Cx) (pins : List (Addr × Obj)) (H : Hp) (b : Addr) : Prop := X.s₀.heap.get? b = none ∧ H b = none ∧ b ≠ X.env.locals ∧ ∀ p ∈ X.pn ++ pins, p.1 ≠ b
section
variable {X : Cx} {pins : List (Addr × Obj)} {σ : St} {H : Hp} {s : Shared} {a C d : Addr} {fs : List (Str × V)}
def FlX (X : Cx) (v : Value) : Prop := v = .none ∨ v = rawInt X.env.locals
abbrev Raised (X : Cx) (pins : List (Addr × Obj)) (H : Hp) (h : Heap) (a C d : Addr) (fs : List (Str × V)) : Prop := Rsd (FlX X) X.s₀.heap.objs.size (New X pins H) h a C d fs
end
end L2
namespace L2
open PySem PySem.Spec PyProof.Rows
def CX1 (P : Program) (w : World) : CXT := fun outer H s E e s' => ∃ a C d fs H', e = .ref a ∧ s'.os = s.os ∧ AllBare s'.gens ∧ Un (frs outer) [] H H' s.heap s'.heap ∧ HOk P w H' s'.heap ∧
  Rsd (fun v => v = .none) s.heap.objs.size (fun b => s.heap.get? b = none ∧ H' b = none) s'.heap a C d fs ∧ E (.ref C) (some d) (upd H' d (.xd fs))
abbrev XS := Value → Option Addr → St → Hp → Prop
abbrev TSX := Ends → XS → St → Hp → Prop
abbrev TEX := St → Hp → VK → XS → Prop
section
variable {X : Cx} {e : Expr} {te : TE} {tx : TEX} {st : Stmt} {rest a b : List Stmt} {t u : TS} {t' u' : TSX} {pos : Pos}
abbrev NoX (X : Cx) : Prop := X.xe = fun _ _ => False
end
end L2
namespace L2
open PySem PySem.Spec PyProof.Rows
section
variable {X : Cx}
end
end L2
namespace L2
open PySem PySem.Spec PyProof.Rows
section
variable {X : Cx} {pins : List (Addr × Obj)} {σ : St} {H : Hp} {s : Shared}
end
end L2
namespace L2
open PySem PySem.Spec PyProof.Rows
section
variable {X : Cx} {pins pl : List (Addr × Obj)} {σ : St} {H : Hp} {s : Shared} {a C d : Addr} {fs : List (Str × V)}
end
end L2
namespace L2
open PySem PySem.Spec
section
variable {prog : Program} {w : World} {A : Around} {E : Value → Shared → Prop} {h : Heap} {g : Array GenState} {d : Drawn} {t : Nat} {os : OsState} {K : PySem.W.Frag} {a C R fI : Addr} {o : Obj}
end
end L2
namespace U2
open PySem PySem.Spec L2
abbrev UXS := Addr → List (Str × U) → SU → MHp → Prop
abbrev UXF := Addr → List (Str × U) → MHp → Prop
abbrev USX := UEnds → UXS → SU → MHp → Prop
abbrev UEX := SU → MHp → UK → UXS → Prop
abbrev USpX := List U → MHp → UK → UXF → Prop
def flatV : U → Option V
  | .non => some .non
  | .bl b => some (.bl b)
  | .int i => some (.int i)
  | .str x => some (.str x)
  | _ => none
def RelA (fs' : List (Str × U)) (fs : List (Str × V)) : Prop := Paired (fun (p : Str × U) (q : Str × V) => p.1 = q.1 ∧ flatV p.2 = some q.2) fs' fs
def ContF (K : PySem.W.Frag) (H : Hp) (M : MHp) (E' : UXF) (E : XK) : Prop := ∀ C fs' fs H1 M1 d, Stp H M H1 M1 → RelM K H1 M1 → RelA fs' fs → H1 d = none → E' C fs' M1 → E (.ref C) (some d) (upd H1 d (.xd fs))
def liftSpX (K : PySem.W.Frag) (sp : USpX) : Sp := fun vs H Q E => ∃ us M Q' E', RelM K H M ∧ RelUs K H M us vs ∧ sp us M Q' E' ∧ Cont K H M Q' Q ∧ ContF K H M E' E
section
variable {D : Dat} {e : Expr} {te : UE} {tx : UEX} {st : Stmt} {rest a b : List Stmt} {t u : US} {t' u' : USX} {pos : Pos}
structure CalleeX (P : Program) (w : World) (K : PySem.W.Frag) (mg : Str → Option Value) (base : Heap) (j : Nat) (x : Str) (sp : USpX) (dus : List U) : Prop where
  ex : ∃ f fd ps dvs ds, FnOk P w K mg base (CX1 P w) j f fd ps (liftSpX K sp) ∧ mg x = some (.ref f) ∧ PySem.W.keepIn K (.ref f) = true ∧ Binds K fd ps ds ∧ Vals dvs ds ∧ ∀ H M, RelUs K H M dus dvs
abbrev CalX (D : Dat) := CalleeX D.prog D.w D.K D.mg D.base
end
section
variable {P : Program} {w : World} {K : PySem.W.Frag} {mg : Str → Option Value} {base : Heap}
end
end U2
namespace U2
open PySem PySem.Spec L2
def uOfV : V → U
  | .non => .non
  | .bl b => .bl b
  | .int i => .int i
  | .str x => .str x
  | .ref a => .ref a
  | .ty n => .ty n
  | _ => .lst []
theorem flatV_uOfV {u : U} {v : V} (e : flatV u = some v) : u = uOfV v := by
  cases u <;> first | (cases e; rfl) | cases e
section
variable {D : Dat} {a0 C : Addr} {F : List (Str × U)} {e : Expr} {te : UE} {es : List Expr} {tas : UA} {pos : Pos} {st : Stmt} {sts : List Stmt} {t u : US}
def vRef : V → Value
  | .ref a => .ref a
  | .ty n => .type n
  | _ => .none
theorem vRef_rel {v : V} {u : Value} (r : RelV v u) (n : vRef v ≠ .none) : u = vRef v := by
  cases v <;> first | exact r | exact absurd rfl n
theorem vRefs_rel : ∀ {vs : List V} {us : List Value}, Vals vs us → (∀ v ∈ vs, vRef v ≠ .none) → us = vs.map vRef
  | _, _, .nil, _ => rfl
  | _, _, .cons r t, n => by rw [vRef_rel r (n _ List.mem_cons_self), vRefs_rel t fun v hv => n v (List.mem_cons_of_mem _ hv)]; rfl
end
end U2
namespace L2
open PySem PySem.Spec
section
variable {X : Cx}
end
end L2
namespace U2
open PySem PySem.Spec L2
section
variable {D : Dat} {pos : Pos}
end
end U2
namespace L2
open PySem PySem.Spec
section
variable {X : Cx} {e : Expr} {te : TE} {p1 p2 p3 p4 : Pos} {a b : Str}
theorem len_app (a b : Str) : (a ++ b).length = a.length + b.length := strLen_append a b
end
end L2
namespace U2
open PySem PySem.Spec L2
section
variable {P : Program} {w : World} {K : PySem.W.Frag} {mg : Str → Option Value} {base : Heap}
end
section
variable {D : Dat} {a0 C : Addr} {F : List (Str × U)} {e : Expr} {te ta tb : UE} {a b : Expr} {pos : Pos}
end
end U2
namespace L2
open PySem PySem.Spec PyProof.Rows
section
variable {κ : Type} [DecidableEq κ]
def valV (kvs : List (κ × V)) (k : κ) : Option V := (kvs.find? fun kv => decide (kv.1 = k)).map (·.2)
def putK (kvs : List (κ × V)) (k : κ) (v : V) : List (κ × V) :=
  if (kvs.any fun kv => decide (kv.1 = k)) = true then kvs.map (fun kv => if kv.1 = k then (kv.1, v) else kv) else kvs ++ [(k, v)]
def dropK (kvs : List (κ × V)) (k : κ) : List (κ × V) := kvs.filter fun kv => decide (kv.1 ≠ k)
theorem valV_pos {p : κ × V} {r : List (κ × V)} {k : κ} (e : p.1 = k) : valV (p :: r) k = some p.2 := by simp [valV, List.find?_cons, e]
theorem valV_neg {p : κ × V} {r : List (κ × V)} {k : κ} (e : ¬ p.1 = k) : valV (p :: r) k = valV r k := by simp [valV, List.find?_cons, e]
theorem valV_any (k : κ) : ∀ kvs : List (κ × V), (kvs.any fun kv => decide (kv.1 = k)) = (valV kvs k).isSome
  | [] => rfl
  | p :: r => by
    rw [List.any_cons]
    by_cases e : p.1 = k
    · simp only [valV_pos e, decide_eq_true e, Bool.true_or, Option.isSome_some]
    · rw [valV_neg e, decide_eq_false e, Bool.false_or]; exact valV_any k r
theorem valV_map (k j : κ) (y : V) : ∀ kvs : List (κ × V), valV (kvs.map fun kv => if kv.1 = k then (kv.1, y) else kv) j = (valV kvs j).map fun x => if j = k then y else x
  | [] => rfl
  | p :: r => by
    have ih := valV_map k j y r
    rw [List.map_cons]
    by_cases h : p.1 = k
    · rw [if_pos h]
      by_cases e : p.1 = j
      · rw [valV_pos (p := (p.1, y)) e, valV_pos e, Option.map_some, if_pos (e.symm.trans h)]
      · rw [valV_neg (p := (p.1, y)) e, valV_neg e, ih]
    · rw [if_neg h]
      by_cases e : p.1 = j
      · rw [valV_pos (p := p) e, valV_pos e, Option.map_some, if_neg (fun z => h (e.trans z))]
      · rw [valV_neg (p := p) e, valV_neg e, ih]
theorem putK_new {kvs : List (κ × V)} {k : κ} (v : V) (h : valV kvs k = none) : putK kvs k v = kvs ++ [(k, v)] := by
  unfold putK
  rw [valV_any, h]
  exact if_neg (by decide)
end
theorem kV_inj {a b : Key} (e : kV a = kV b) : a = b := by
  cases a with
  | inl i => cases b with
    | inl j => have e' : V.int i = V.int j := e; injection e' with e'; rw [e']
    | inr y => exact nomatch (show V.int i = V.str y from e)
  | inr x => cases b with
    | inl j => exact nomatch (show V.str x = V.int j from e)
    | inr y => have e' : V.str x = V.str y := e; injection e' with e'; rw [e']
theorem kVs_inj : ∀ {a b : List Key}, a.map kV = b.map kV → a = b
  | [], [], _ => rfl
  | [], _ :: _, e => by simp at e
  | _ :: _, [], e => by simp at e
  | x :: xs, y :: ys, e => by
    rw [List.map_cons, List.map_cons] at e
    injection e with e1 e2
    rw [kV_inj e1, kVs_inj e2]
abbrev KTp (H : Hp) : List (List Key × V) → List (List Key × Addr × Value) → Prop := Paired fun p q => p.1 = q.1 ∧ H q.2.1 = some (.tup (p.1.map kV)) ∧ RelV p.2 q.2.2
section
variable {P : Program} {w : World} {H : Hp} {h : Heap} {a : Addr}
end
section
variable {X : Cx} {pins : List (Addr × Obj)} {σ : St} {H : Hp} {s : Shared} {a : Addr} {y v : V} {u r : Value} {o : Option V} {A : Around} {E : Value → Shared → Prop}
end
section
variable {X : Cx} {pins : List (Addr × Obj)} {σ : St} {H : Hp} {s : Shared} {a : Addr} {kvs : List (Key × V)} {k : Key} {u : Value} {A : Around} {E : Value → Shared → Prop}
end
section
variable {X : Cx} {o i e value : Expr} {pos pos' tpos : Pos} {td ty tv : TE}
end
section
variable {X : Cx} {pos : Pos}
end
abbrev VV : List (V × V) → List (Value × Value) → Prop := Paired fun p q => RelV p.1 q.1 ∧ RelV p.2 q.2
section
variable {X : Cx} {pins : List (Addr × Obj)} {σ : St} {H : Hp} {s : Shared} {a : Addr} {y d : V} {u r : Value} {o : Option V} {A : Around} {E : Value → Shared → Prop}
end
section
variable {X : Cx} {o e f : Expr} {apos cpos : Pos} {td ty tx : TE}
end
section
variable {X : Cx} {pins : List (Addr × Obj)} {σ : St} {H : Hp} {s : Shared} {a : Addr} {kvs : List (Key × V)} {A : Around} {E : Value → Shared → Prop}
end
section
variable {X : Cx} {pins : List (Addr × Obj)} {σ : St} {H : Hp} {s : Shared} {a : Addr} {y : V} {u : Value} {A : Around} {E : Value → Shared → Prop}
end
section
variable {X : Cx}
end
section
variable {κ : Type} [DecidableEq κ]
theorem dropK_pos {p : κ × V} {r : List (κ × V)} {k : κ} (e : p.1 = k) : dropK (p :: r) k = dropK r k := by
  unfold dropK
  rw [List.filter_cons, if_neg (by simp [e])]
theorem dropK_neg {p : κ × V} {r : List (κ × V)} {k : κ} (e : ¬ p.1 = k) : dropK (p :: r) k = p :: dropK r k := by
  unfold dropK
  rw [List.filter_cons, if_pos (by simp [e])]
theorem dropK_no : ∀ {kvs : List (κ × V)} {k : κ}, ¬ k ∈ kvs.map (·.1) → dropK kvs k = kvs
  | [], _, _ => rfl
  | p :: r, k, h => by
    have h' : ¬ k ∈ r.map (·.1) := fun m => by
      obtain ⟨q, hq, e⟩ := List.mem_map.mp m
      exact h (List.mem_map.mpr ⟨q, List.mem_cons.mpr (Or.inr hq), e⟩)
    rw [dropK_neg fun e => h (List.mem_map.mpr ⟨p, List.mem_cons.mpr (Or.inl rfl), e⟩), dropK_no h']
end
end L2
namespace L2
open PySem PySem.Spec PyProof.Rows PySem.F
section
variable {prog : Program} {w : World} {A : Around} {E : Value → Shared → Prop} {s : Shared} {d it vw : Addr} {es : Array DictEntry} {ep i : Nat} {e : DictEntry}
end
end L2
namespace U2
open PySem PySem.Spec PyProof.Rows L2
end U2
namespace U2
open PySem PySem.Spec PyProof.Rows L2
def keyU : U → Option Key
  | .int i => some (.inl i)
  | .str x => some (.inr x)
  | _ => none
def keysU : List U → Option (List Key)
  | [] => some []
  | u :: us => match keyU u, keysU us with
    | some k, some ks => some (k :: ks)
    | _, _ => none
def kU : Key → U
  | .inl i => .int i
  | .inr x => .str x
theorem keyU_kU (k : Key) : keyU (kU k) = some k := by cases k <;> rfl
theorem keysU_kU : ∀ ks : List Key, keysU (ks.map kU) = some ks
  | [] => rfl
  | k :: ks => by simp only [List.map_cons, keysU, keyU_kU, keysU_kU ks]
theorem keyU_rel {K : PySem.W.Frag} {H : Hp} {M : MHp} {u : U} {v : V} {k : Key} (r : RelU K H M u v) (e : keyU u = some k) : v = kV k := by
  cases u with
  | int i => cases e; exact r.int
  | str x => cases e; exact r.str
  | _ => cases e
theorem keysU_rel {K : PySem.W.Frag} {H : Hp} {M : MHp} : ∀ {us : List U} {vs : List V} {ks : List Key}, RelUs K H M us vs → keysU us = some ks → vs = ks.map kV
  | [], _, _, r, e => by cases e; exact r.inv_nil
  | u :: us, _, ks, r, e => by
    obtain ⟨v, vs', rfl, a, b⟩ := r.inv_cons
    simp only [keysU] at e
    cases e1 : keyU u with
    | none => rw [e1] at e; cases e
    | some k =>
      cases e2 : keysU us with
      | none => rw [e1, e2] at e; cases e
      | some ks' =>
        rw [e1, e2] at e; cases e
        rw [keyU_rel a e1, keysU_rel b e2]; rfl
section
variable {κ : Type} [DecidableEq κ]
def valU (kvs : List (κ × U)) (k : κ) : Option U := (kvs.find? fun kv => decide (kv.1 = k)).map (·.2)
theorem valU_pos {p : κ × U} {r : List (κ × U)} {k : κ} (e : p.1 = k) : valU (p :: r) k = some p.2 := by simp [valU, List.find?_cons, e]
theorem valU_neg {p : κ × U} {r : List (κ × U)} {k : κ} (e : ¬ p.1 = k) : valU (p :: r) k = valU r k := by simp [valU, List.find?_cons, e]
theorem valU_any (k : κ) : ∀ kvs : List (κ × U), (kvs.any fun kv => decide (kv.1 = k)) = (valU kvs k).isSome
  | [] => rfl
  | p :: r => by
    rw [List.any_cons]
    by_cases e : p.1 = k
    · simp only [valU_pos e, decide_eq_true e, Bool.true_or, Option.isSome_some]
    · rw [valU_neg e, decide_eq_false e, Bool.false_or]; exact valU_any k r
variable {K : PySem.W.Frag} {H : Hp} {M : MHp}
end
def hd1 : List Key → Key
  | [k] => k
  | _ => .inl 0
def dvw (M : MHp) : U → Option MO
  | .ref a => M a
  | .dic ks true us => some (.dT (ks.zip us))
  | .dic ks false us => some (.dK ((ks.map hd1).zip us))
  | _ => none
section
variable {K : PySem.W.Frag} {H : Hp} {M : MHp} {x y : U} {v u : V}
def dLook (tk : Bool) (M : MHp) (x y : U) : Option (Option U) := match tk with
  | false => match dvw M x, keyU y with
    | some (.dK kvs), some k => some (valU kvs k)
    | _, _ => none
  | true => match dvw M x, y with
    | some (.dT kvs), .tup ys => (keysU ys).map (valU kvs)
    | _, _ => none
end
section
variable {D : Dat} {a b c e o i : Expr} {ta tb tc te to ti : UE} {pos p : Pos} {es : List Expr} {tas : UA} {x : Str}
end
end U2
namespace U2
open PySem PySem.Spec PyProof.Rows L2
end U2
namespace L2
open PySem PySem.Spec PyProof.Rows
def lenD : HO → Nat
  | .dK kvs => kvs.length
  | .dT kvs => kvs.length
  | _ => 0
section
variable {X : Cx} {tg : Expr}
end
end L2
namespace U2
open PySem PySem.Spec PyProof.Rows L2
def keyOf (tk : Bool) (k : List Key) : U := if tk then .tup (k.map kU) else kU (hd1 k)
def keyUs (tk : Bool) (ks : List (List Key)) : List U := ks.map (keyOf tk)
def pairUs (tk : Bool) (ks : List (List Key)) (us : List U) : List U := (ks.zip us).map fun p => .tup [keyOf tk p.1, p.2]
theorem keyUs_len (tk : Bool) (ks : List (List Key)) : (keyUs tk ks).length = ks.length := by simp [keyUs]
section
variable {K : PySem.W.Frag} {H : Hp} {M : MHp}
end
section
variable {D : Dat} {tg e : Expr} {te : UE} {pos p : Pos}
end
end U2
namespace U2
open PySem PySem.Spec PyProof.Rows L2
section
variable {K : PySem.W.Frag} {H : Hp} {M1 M' : MHp}
def setK (kvs : List (Key × U)) : U := .dic (kvs.map fun e => [e.1]) false (kvs.map (·.2))
def setT (kvs : List (List Key × U)) : U := .dic (kvs.map (·.1)) true (kvs.map (·.2))
end
end U2
namespace L2
open PySem PySem.Spec PyProof.Rows
section
variable {X : Cx} {o e f : Expr} {apos cpos : Pos} {td ty tx : TE}
end
end L2
namespace U2
open PySem PySem.Spec PyProof.Rows L2
end U2
namespace U2
open PySem L2
end U2
namespace U2
open PySem PySem.Spec PyProof.Rows L2
section
variable {prog : Program} {w : World} {κ : Type} [DecidableEq κ] {knd : KeyKind prog w κ} {A : Around} {E : Value → Shared → Prop} {s : Shared}
end
end U2
namespace U2
open PySem PySem.Spec PyProof.Rows L2
section
variable {prog : Program} {w : World} {A : Around} {E : Value → Shared → Prop} {s : Shared} {r : Addr} {a b : Int} {t u v : Tok}
end
section
variable {X : Cx} {tg a b e : Expr} {ta : TA} {te : TE} {p pos : Pos}
end
section
variable {D : Dat} {tg a b : Expr} {p p2 pos pos2 : Pos} {ta : UA}
end
end U2
namespace U2
open PySem PySem.Spec PyProof.Rows L2
section
variable {X : Cx}
end
end U2
namespace L2
open PySem PySem.Spec PyProof.Rows
def addS (σ : List Str) (v : Str) : List Str := if σ.any (· == v) then σ else σ ++ [v]
def ddS (l : List Str) : List Str := l.foldl addS []
theorem ddS_snoc (l : List Str) (v : Str) : ddS (l ++ [v]) = addS (ddS l) v := by simp [ddS, List.foldl_append]
theorem addS_len (σ : List Str) (v : Str) : (addS σ v).length = if σ.any (· == v) then σ.length else σ.length + 1 := by
  unfold addS; split <;> simp
theorem addS_any (σ : List Str) (v k : Str) : (addS σ v).any (· == k) = (σ.any (· == k) || decide (k = v)) := by
  unfold addS
  by_cases h : σ.any (· == v) = true
  · rw [if_pos h]
    by_cases e : k = v
    · subst e; simp [h]
    · simp [e]
  · rw [if_neg h, List.any_append]
    by_cases e : k = v
    · subst e; simp
    · have : (v == k) = false := by simpa using fun z : v = k => e z.symm
      simp [this, e]
theorem snoc_ind {P : List Str → Prop} (h0 : P []) (h1 : ∀ l v, P l → P (l ++ [v])) (l : List Str) : P l := by
  have : ∀ r : List Str, P r.reverse := by
    intro r
    induction r with
    | nil => exact h0
    | cons a r ih => rw [List.reverse_cons]; exact h1 _ _ ih
  have := this l.reverse
  rwa [List.reverse_reverse] at this
theorem ddS_any (l : List Str) (k : Str) : (ddS l).any (· == k) = decide (k ∈ l) := by
  refine snoc_ind (P := fun l => (ddS l).any (· == k) = decide (k ∈ l)) (by simp [ddS]) (fun l v ih => ?_) l
  rw [ddS_snoc, addS_any, ih]; by_cases h : k ∈ l <;> by_cases e : k = v <;> simp [h, e]
theorem ddS_le (l : List Str) : (ddS l).length ≤ l.length := by
  refine snoc_ind (P := fun l => (ddS l).length ≤ l.length) (by simp [ddS]) (fun l v ih => ?_) l
  rw [ddS_snoc, addS_len, List.length_append, List.length_singleton]; split <;> omega
theorem ddS_nodup (l : List Str) : ((ddS l).length = l.length) ↔ l.Nodup := by
  refine snoc_ind (P := fun l => ((ddS l).length = l.length) ↔ l.Nodup) (by simp [ddS]) (fun l v ih => ?_) l
  rw [ddS_snoc, addS_len, ddS_any, List.length_append, List.length_singleton]
  have hle := ddS_le l
  have hn : (l ++ [v]).Nodup ↔ l.Nodup ∧ v ∉ l := by
    rw [List.nodup_append]
    constructor
    · rintro ⟨a, _, b⟩; exact ⟨a, fun h => b v h v (by simp) rfl⟩
    · rintro ⟨a, b⟩; exact ⟨a, by simp, fun x hx y hy e => b (by simp at hy; subst hy; subst e; exact hx)⟩
  rw [hn, ← ih]
  by_cases h : v ∈ l
  · simp [h]; omega
  · simp [h]
section
variable {prog : Program} {w : World} {A : Around} {I : Addr} {fp wr : List Addr} {G : Array GenState → Array GenState → Prop} {n : Nat} {P : Nat → Value → Prop} {St : Nat → Shared → Prop} {R : Result → Shared → Prop}
theorem set_loopS (W : WalksS prog w A.in1 I fp wr G n P St) (S : Addr) (hSf : S ∉ fp) (l : List Str) (hl : l.length = n) (hval : ∀ i v, P i v → ∃ x t, l[i]? = some x ∧ v = .str x t) (hb : n + 1 < scanBound) :
    ∀ (k i : Nat) (s : Shared), n - i = k → i ≤ n → St i s → s.heap.SetOf (strKind prog w) S (fun y => (ddS (l.take i)).any (· == y)) (ddS (l.take i)).length →
      (∀ s', Moved (S :: wr) G s s' → s'.heap.SetOf (strKind prog w) S (fun y => (ddS l).any (· == y)) (ddS l).length → R (.ok (.ret .none)) s') →
      codeAny (model prog w) A (.builtin "set.update.loop" ⟨[.ref S, .ref I], []⟩) R s := by
  have hSw : S ∉ wr := fun h => hSf (W.sub _ h)
  have up : ∀ b ∈ wr, b ∈ S :: wr := fun b hb => List.mem_cons_of_mem _ hb
  have keep : ∀ {s s' : Shared} {T : Str → Bool} {m : Nat}, Moved wr G s s' → s.heap.SetOf (strKind prog w) S T m → s'.heap.SetOf (strKind prog w) S T m := by
    intro s s' T m hm h
    obtain ⟨o, es, ep, t, ho, rest⟩ := h
    exact ⟨o, es, ep, t, hm.heap S _ hSw ho, rest⟩
  intro k
  induction k with
  | zero =>
    intro i s hk hi hst hS hR
    obtain rfl : i = n := by omega
    refine codeAny_builtin F.entry_set_update_loop ?_
    rw [Around.under_plainId F.plain_set_update_loop _]
    show wpAny _ A.in1 (pyNext (.ref I) >>= _) _ _ s
    refine wpAny_bind (W.done s _ _ hst fun s' hm => ?_)
    show wpAny _ A.in1 (ret Value.none) _ _ s'
    refine wpAny_pure (hR s' (hm.mono up) (keep hm ?_))
    rw [List.take_of_length_le (by omega)] at hS
    exact hS
  | succ k ih =>
    intro i s hk hi hst hS hR
    have hlt : i < n := by omega
    refine codeAny_builtin F.entry_set_update_loop ?_
    rw [Around.under_plainId F.plain_set_update_loop _]
    show wpAny _ A.in1 (pyNext (.ref I) >>= _) _ _ s
    refine wpAny_bind (W.item i s _ _ hlt hst fun v s' hP hst' hm => ?_)
    obtain ⟨x, t, hx, rfl⟩ := hval i v hP
    have hS' := keep hm hS
    show wpAny _ A.in1 (holding [Value.str x t] (setAdd S (.str x t)) >>= _) _ _ s'
    refine wpAny_bind (wpAny_holding ?_)
    unfold setAdd
    refine wpAny_holding ?_
    refine wpAny_bind ((strKind prog w).pyHash (k := x) (strKind_is _ _ _ _) ?_)
    have hroom : (ddS (l.take i)).length + 1 < scanBound := by have := ddS_le (l.take i); rw [List.length_take] at this; omega
    refine wpAny_setAddHashed_of (knd := strKind prog w) (s := { s' with toks := s'.toks + 1 }) (strKind_is _ _ _ _) rfl hS' hroom fun h' hsb hS2 => ?_
    have e1 : l.take (i + 1) = l.take i ++ [x] := by rw [List.take_succ, hx]; rfl
    have hSi : h'.SetOf (strKind prog w) S (fun y => (ddS (l.take (i + 1))).any (· == y)) (ddS (l.take (i + 1))).length :=
      SetOf_congr hS2 (fun y => by rw [e1, ddS_snoc, addS_any]) (by rw [e1, ddS_snoc, addS_len])
    refine wpAny_pure ⟨plainId_quiet F.plain_set_update_loop _, ih (i + 1) _ (by omega) hlt (W.frame _ s' _ _ hst' (Nat.le_succ _) fun b hb o e => ?_) hSi fun s2 hm2 hS3 => ?_⟩
    · rw [hsb.2 b (fun h : b = S => hSf (by rw [← h]; exact hb))]; exact e
    · refine hR s2 (Moved.trans W.gtrans ((hm.mono up).then_heap (Nat.le_succ _) fun b o hb e => ?_) hm2) hS3
      rw [hsb.2 b (fun h : b = S => hb (by rw [h]; exact List.mem_cons_self))]; exact e
end
section
variable {prog : Program} {w : World} {A : Around} {E : Value → Shared → Prop} {s : Shared}
def setObj (led : Bool) : Obj := { cls := .type "set", dict := none, data := .set #[] 0 (.fresh 0 0 led) }
theorem call_setS {a : Addr} {items : Array Value} {l : List Str} {Q : Value → Shared → Prop} (hh : A.handled = none) (ha : s.heap.IsList a items) (hs : items.size = l.length) (hi : ∀ (i : Nat) v, items[i]? = some v → ∃ x t, l[i]? = some x ∧ v = .str x t) (hb : l.length + 1 < scanBound)
    (h : ∀ (h' : Heap) (tk : Nat), h'.SetOf (strKind prog w) s.heap.objs.size (fun y => (ddS l).any (· == y)) (ddS l).length → (∀ b o, b < s.heap.objs.size → s.heap.get? b = some o → h'.get? b = some o) → Q (.ref s.heap.objs.size) { s with heap := h', toks := tk }) :
    wpAny (model prog w) A (call (.type "set") [.ref a]) Q E s := by
  obtain ⟨c, tl, hmro⟩ := F.called_set.mro
  have hmade := F.called_set.made
  have hsub := F.called_set.sub
  refine wpAny_call (codeAny_of_tree ?_)
  show wpAny _ _ (callAny (.type "set") _) _ _ _
  refine wpAny_pure ⟨Code.quiet_builtin _ (by decide +kernel), codeAny_builtin F.entry_type_call ?_⟩
  rw [Around.under_plain (weight_type_call_type "set" [.ref a] []) rfl]
  have h1 := F.called_set.notType
  have h2 := F.called_set.canCreate
  have hct := F.typeCall_set_1 (.ref a)
  repeat (any_goals (first | assumption | wp_step))
  refine codeAny_mono (code_set_new_1 (.ref a) (E := E) (Q₁ := fun obj s1 => ∃ led : Bool, obj = .ref s.heap.objs.size ∧ s1 = { s with heap := s.heap.push (setObj led) }) fun led => ⟨led, rfl, rfl⟩) fun r s1 hr => ?_
  cases r with
  | error e => exact hr
  | ok fl =>
    cases fl with
    | ret obj =>
      obtain ⟨led, rfl, rfl⟩ := hr
      have hS : (s.heap.push (setObj led)).get? s.heap.objs.size = some (setObj led) := Heap.get?_push_size _ rfl
      have hT : Shared.TypeIs { s with heap := s.heap.push (setObj led) } (.ref s.heap.objs.size) "set" := ⟨_, hS, rfl⟩
      have hli := F.called_set.init.lookup
      have hbi := F.called_set.init.bind (.ref s.heap.objs.size)
      repeat (any_goals (first | assumption | wp_step))
      have hlt : a < s.heap.objs.size := by obtain ⟨o, ho, _⟩ := ha; exact Heap.lt_size ho
      refine codeAny_mono (codeAny_call_builtin (R := wants (fun r s2 => r = .none ∧ ∃ h' tk, s2 = { s with heap := h', toks := tk } ∧
          h'.SetOf (strKind prog w) s.heap.objs.size (fun y => (ddS l).any (· == y)) (ddS l).length ∧ (∀ b o, b < s.heap.objs.size → s.heap.get? b = some o → h'.get? b = some o)) E) F.called_set.init.plain F.entry_set_init (check_set_init_1 hT ?_)) fun r2 s2 hr2 => ?_
      · obtain ⟨ol, hol, hcl, nl, hdl⟩ := ha
        obtain ⟨ocls, odict, odata, oslots⟩ := ol
        simp only at hcl hdl
        subst hcl; subst hdl
        have hol' : (s.heap.push (setObj led)).get? a = some { cls := .type "list", dict := odict, data := .seq items nl, slots := oslots } := Heap.get?_push_of_some _ hol
        have g1 := F.sub_list_set
        have g2 := F.sub_list_frozenset
        have hne : (Value.type "list" == Value.type "dict") = false := by decide
        have hl1 : (s.heap.push (setObj led)).IsList a items := ⟨_, hol', rfl, nl, rfl⟩
        unfold Builtin.«set.__init__» noKeywords Builtin.Frozenset.updateFrom
        generalize hPI : pyIter = PI
        wp_walk
        subst hPI
        refine wpAny_pyIter_list hl1 ?_
        refine wpAny_bind (wpAny_runValue ?_)
        have hh3 : A.in1.in1.in1.handled = none := by simp [hh]
        have hsz : (s.heap.push (setObj led)).objs.size = s.heap.objs.size + 1 := Heap.size_push _ _
        refine set_loopS ((Walks.list hh3 _ a (by rw [hsz]; exact Nat.ne_of_lt (Nat.lt_succ_of_lt hlt)) items).toS) s.heap.objs.size (by rw [hsz]; simp only [List.mem_cons, List.not_mem_nil, or_false, not_or]; exact ⟨Nat.ne_of_lt (Nat.lt_succ_self _), Nat.ne_of_gt hlt⟩) l hs.symm hi (by omega) (items.size - 0) 0 _ (by omega) (Nat.zero_le _) ⟨⟨_, Heap.get?_push_size _ rfl, rfl, rfl⟩, (hl1.push _)⟩ ?_ ?_
        · exact SetOf_congr ((setObjOf_fresh (knd := strKind prog w) led).setOf (Heap.get?_push_of_some _ hS) (by unfold scanBound; omega)) (fun _ => by simp [ddS]) (by simp [ddS])
        · intro s' hm hS'
          obtain ⟨h', g', d', tk', os'⟩ := s'
          have eg : g' = s.gens := hm.gens
          have ed : d' = s.drawn := hm.drawn
          have eo : os' = s.os := hm.os
          subst eg; subst ed; subst eo
          show wpAny _ _ _ _ _ _
          refine wpAny_pure ?_
          show wpAny _ _ (ret Value.none) _ _ _
          refine wpAny_pure ⟨rfl, h', tk', rfl, hS', fun b o hb e => ?_⟩
          exact hm.heap b o (by rw [hsz]; simp only [List.mem_cons, List.not_mem_nil, or_false, not_or]; exact ⟨Nat.ne_of_lt hb, Nat.ne_of_lt (Nat.lt_succ_of_lt hb)⟩) (Heap.get?_push_of_some _ (Heap.get?_push_of_some _ e))
      · cases r2 with
        | error e => exact hr2
        | ok fl2 =>
          cases fl2 with
          | ret r =>
            obtain ⟨rfl, h', tk, rfl, hS', hk'⟩ := hr2
            repeat (any_goals (first | assumption | wp_step))
            exact h _ _ hS' hk'
          | _ => exact hr2.elim
    | _ => exact hr.elim
end
end L2
namespace L2
open PySem PySem.Spec PyProof.Rows
theorem strsAre {ns : List Str} : ∀ {us : List Value}, Vals (ns.map V.str) us → us.length = ns.length ∧ ∀ (i : Nat) v, us[i]? = some v → ∃ x t, ns[i]? = some x ∧ v = .str x t := by
  induction ns with
  | nil => intro us r; cases r; exact ⟨rfl, fun i v h => by simp at h⟩
  | cons n ns ih =>
    intro us r
    rw [List.map_cons] at r
    cases r with
    | cons r1 r2 =>
      obtain ⟨t, rfl⟩ := r1
      obtain ⟨h1, h2⟩ := ih r2
      refine ⟨by simp [h1], fun i v h => ?_⟩
      cases i with
      | zero => simp at h; exact ⟨n, t, rfl, h.symm⟩
      | succ i => simp at h; exact h2 i v h
theorem boot_set : bootBuiltins "set" = some (.type "set") := by kernel_rfl
theorem boot_len' : bootBuiltins "len" = some (.builtin "len") := by kernel_rfl
section
variable {X : Cx} {a : Expr} {ta : TA} {p p2 pos pos2 : Pos}
end
end L2
namespace U2
open PySem PySem.Spec PyProof.Rows L2
theorem relUs_strs2 {K : PySem.W.Frag} {H : Hp} {M : MHp} : ∀ {ss : List Str} {vs : List V}, RelUs K H M (ss.map U.str) vs → vs = ss.map V.str
  | [], vs, r => r.inv_nil
  | s :: ss, vs, r => by
    obtain ⟨v, vs', rfl, a, b⟩ := RelUs.inv_cons r
    rw [a.str, relUs_strs2 b]; rfl
section
variable {D : Dat} {a : Expr} {ta : UA} {pos p p2 pos2 : Pos}
end
end U2
namespace U2
open PySem PySem.Spec PyProof.Rows L2
open AutoSeq1 (wpAny_loadPart')
open MeetsSeq MeetsSeq2 MeetsSeq3 SeqRoads2
theorem tuple_indexAt (l : Addr) (items : Array Value) (n : Nat) (dd : Option Addr) (sl : Array (Option Value)) (x : Value) (e : Value → Bool) (j : Nat) (hj : j < items.size) (hit : e items[j] = true) (hno : ∀ m (hm : m < items.size), m < j → e items[m] = false) :
    Meets (Builtin.«tuple.index» ⟨[.ref l, x], []⟩)
      (fun A R s => s.heap.get? l = some { cls := .type "tuple", dict := dd, data := .seq items n, slots := sl } ∧ (∀ y, y ∈ items → SeqAt.EqAt A.in1 s y x (e y)) ∧ R (.ok (.ret (.int j s.toks))) { s with toks := s.toks + 1 }) :=
  .of_wp fun prog w A R s h => by
    obtain ⟨hp, g, d, tk, os⟩ := s; obtain ⟨hl, he, h⟩ := h
    wp_walk using wpAny_loadPart' hl
    change wpAny (model prog w) A.in1 (forIn [:min items.size items.size] ((none, ()) : Option Fin × Unit) (fun (i : Nat) (_ : Option Fin × Unit) => (match items[i]? with
      | some y => (do
          let b ← eqBool y x
          if b = true then (do
            let r ← retInt (i : Int)
            pure (ForInStep.done ((some r, ()) : Option Fin × Unit)))
          else pure (ForInStep.yield ((none, ()) : Option Fin × Unit)))
      | _ => pure (ForInStep.yield ((none, ()) : Option Fin × Unit)) : Sem (ForInStep (Option Fin × Unit))))) _ _ _
    rw [Std.Legacy.Range.forIn_eq_forIn_range']
    simp only [Std.Legacy.Range.size, Nat.sub_zero, Nat.add_sub_cancel, Nat.div_one, Nat.min_self]
    refine wpAny_forIn_list _ (fun rest b s' => b.1 = none ∧ s' = ⟨hp, g, d, tk, os⟩ ∧ ∃ i, i ≤ j ∧ rest = List.range' i (items.size - i)) _ ?_ ?_ _ _ ⟨rfl, rfl, 0, Nat.zero_le _, by simp⟩
    · rintro y rest b s' ⟨hb, rfl, i, hi, hr⟩
      have hlt : i < items.size := by omega
      obtain ⟨rfl, hrest⟩ : y = i ∧ rest = List.range' (i + 1) (items.size - (i + 1)) := by
        have e : items.size - i = (items.size - (i + 1)) + 1 := by omega
        rw [e, List.range'_succ] at hr
        injection hr with h1 h2
        exact ⟨h1, h2⟩
      rw [Array.getElem?_eq_getElem hlt]
      refine wpAny_bind (he _ (Array.getElem_mem hlt) prog w _ _ ?_)
      by_cases hij : y = j
      · subst hij
        rw [hit]
        wp_walk
        exact ⟨_, rfl, h⟩
      · rw [hno y hlt (by omega)]
        wp_walk
        exact ⟨rfl, rfl, y + 1, by omega, hrest⟩
    · rintro b s' ⟨hb, rfl, i, hi, hr⟩
      have : items.size - i = 0 := by
        have := congrArg List.length hr
        simp at this; omega
      omega
def rTIndex (K : PySem.W.Frag) : V → List V → Hp → VK → Prop := fun x vs H Q => ∃ p xs y j, x = .ref p ∧ vs = [y] ∧ SqT K H p xs ∧ L2.flatV y = true ∧ xs.all L2.flatV = true ∧ (∃ z, xs[j]? = some z ∧ eqV z y = true) ∧ (∀ m z, m < j → xs[m]? = some z → eqV z y = false) ∧ Q (.int (j : Nat)) H
theorem mt_tindex {X : Cx} : MtM X "tuple.index" (rTIndex X.K) := by
  intro pins s σ H x vs v us Q I rx rv h
  obtain ⟨p, xs, y, j, rfl, rfl, hq, fy, fs, ⟨z, hz1, hz2⟩, hno, q⟩ := h
  cases rx
  obtain ⟨u, rfl, ru⟩ := rv.one
  obtain ⟨its, r, pl, hz⟩ := I.tupleP hq
  obtain ⟨⟨cls, dd, data, sl⟩, ho, hc, _, n, hd⟩ := pl
  simp only at hc hd
  subst hc hd
  have hl := r.length
  have hj : j < xs.length := (List.getElem?_eq_some_iff.mp hz1).1
  have hji : j < its.toArray.size := by rw [List.size_toArray]; omega
  have at_ : ∀ (m : Nat) (hm : m < its.toArray.size) z, xs[m]? = some z → eqU y its.toArray[m] = eqV z y := fun m hm z e => by
    obtain ⟨w', h1, h2⟩ := r.get e
    have : its.toArray[m] = w' := by
      have h3 : its[m]? = some w' := h1
      have hm' : m < its.length := by simpa using hm
      rw [List.getElem?_eq_getElem hm'] at h3
      simpa using Option.some.inj h3
    rw [this]
    exact eqU_of h2 (by
      have := List.all_eq_true.mp fs z (List.mem_of_getElem? e)
      exact this)
  refine call_meets F.slot_tuple_index ⟨_, ho, rfl⟩ F.entry_tuple_index (F.args_tuple_index_2 _ _)
    (tuple_indexAt p its.toArray n dd sl u (eqU y) j hji (by rw [at_ j hji z hz1]; exact hz2) (fun m hm hmj => ?_)) ⟨ho, fun w' hw => mem_eqAt ru fy r fs w' (by simpa using hw), ?_⟩
  · have hx : xs[m]? = some xs[m] := by simp [show m < xs.length by omega]
    rw [at_ m hm _ hx]
    exact hno m _ hmj hx
  · exact ⟨.int j, H, I.tok _, ⟨_, rfl⟩, q⟩
def tBMT (K : PySem.W.Frag) (r : V → List V → Hp → VK → Prop) (to : TE) (t : TA) : TE := fun σ H Q => to σ H fun x H1 => (∃ a xs, x = .ref a ∧ SqT K H1 a xs) ∧ t σ H1 fun xs H2 => r x xs H2 Q
theorem pe_bmT {X : Cx} {o e : Expr} {es : List Expr} {to : TE} {t : TA} {name : Str} {apos cpos : Pos} {id : String} {r : V → List V → Hp → VK → Prop} (pa : PlainAttrs "tuple") (slot : Slot "tuple" name id) (hty : typeOf (.builtin id) = pure (.type "method_descriptor")) (hm : MtR X id r) (ho : PE X o to) (ha : PA X (e :: es) t)
    (hbase : attributeBase o name X.env (eval o X.env) = eval o X.env)
    (hfew : ((backTo cpos (starEach (e :: es) X.env)).all (fun x => !x.1) && (backToKw cpos (keywordEach [] X.env)).all (fun x => x.1.isSome)
      && decide ((e :: es).length + ([] : List Keyword).length + (if ([] : List Keyword).isEmpty then 0 else 1) < 30)) = true)
    (hline : (apos.endLine == cpos.line) = true) (hs : starEach (e :: es) X.env = (false, eval e X.env) :: starEach es X.env) (hplain : (backTo cpos (starEach es X.env)).any (·.1) = false) :
    PE X (.Call (.Attribute o name apos) (e :: es) [] cpos) (tBMT X.K r to t) := by
  intro pins s σ H Q I h
  refine wpAny_Call_method_late hbase hfew hline rfl (thn (ho pins s σ H _ I h) fun v s1 ⟨x, H1, I1, r1, ⟨a, xs, e1, sq⟩, q1⟩ => ?_)
  subst e1
  cases r1
  obtain ⟨its, _, ⟨ob, g1, g2, g3, _⟩, _⟩ := I1.tupleP sq
  refine ⟨"tuple", id, pa, slot, hty, ⟨ob, g1, g2⟩, (fun b eb => by cases eb; exact ⟨ob, g1, g3⟩), ?_⟩
  have hA := ha cpos pins s1 σ H1 _ I1 q1
  rw [hs] at hA ⊢
  refine Calls.callWith_builtin (by show (false || (backTo cpos (starEach es X.env)).any (·.1)) = false; rw [hplain] <;> rfl) (Calls.evalArgs_plain ?_)
  exact thn hA fun us s2 ⟨vs, H2, I2, r2, q2⟩ => hm pins s2 σ H2 (.ref a) vs (.ref a) us Q I2 rfl r2 q2
def isT (x : U) : Prop := ∃ us, x = .tup us
def uBMT (r : U → List U → MHp → UK → Prop) (to : UE) (t : UA) : UE := fun τ M Q => to τ M fun x M1 => isT x ∧ t τ M1 fun xs M2 => r x xs M2 Q
theorem sim_bmT {K : PySem.W.Frag} {r : V → List V → Hp → VK → Prop} {r' : U → List U → MHp → UK → Prop} {to : TE} {to' : UE} {t : TA} {t' : UA} (hr : SimMt K r r') (ho : SimE K to to') (h : SimA K t t') :
    SimE K (tBMT K r to t) (uBMT r' to' t') := fun σ τ H M Q' rs rm q Q c =>
  ho σ τ H M _ rs rm q _ fun u v M1 H1 s1 rm1 ru h1 => by
    obtain ⟨⟨us, rfl⟩, h1⟩ := h1
    obtain ⟨a, vs, rfl, sq, _⟩ := ru.tup
    exact ⟨⟨a, vs, rfl, sq⟩, h σ τ H1 M1 _ (rs.stp s1) rm1 h1 _ fun us' vs' M2 H2 s2 rm2 rus h2 => hr _ vs' _ us' H2 M2 Q' rm2 (ru.stp s2) rus h2 Q (Cont.stp c (s1.trans s2))⟩
def mTIndex : U → List U → MHp → UK → Prop := fun x ws M Q => match x, ws with
  | .tup us, [.str w] => ∃ (ss : List Str) (j : Nat), strsU us = some ss ∧ ss[j]? = some w ∧ (∀ m z, m < j → ss[m]? = some z → z ≠ w) ∧ Q (.int (j : Nat)) M
  | _, _ => False
theorem sim_tindex {K : PySem.W.Frag} : SimMt K (rTIndex K) mTIndex := fun x xs u us H M Q' rm ru rus h Q c => by
  unfold mTIndex at h
  split at h
  · rename_i ws w
    obtain ⟨ss, j, h1, h2, h3, h4⟩ := h
    obtain ⟨a, vs, rfl, s2, r2⟩ := ru.tup
    rw [strsU_rel r2 h1] at s2
    obtain ⟨v, rfl, a1⟩ := rus.one
    cases a1.str
    refine ⟨a, _, _, j, rfl, rfl, s2, rfl, by simp [L2.flatV], ⟨.str w, by rw [List.getElem?_map, h2]; rfl, by simp [eqV]⟩, fun m z hm hz => ?_, c.here rm relU_int h4⟩
    rw [List.getElem?_map] at hz
    cases e3 : ss[m]? with
    | none => rw [e3] at hz; cases hz
    | some y =>
      rw [e3] at hz
      cases hz
      have := h3 m y hm e3
      simp [eqV, this]
  · exact h.elim
theorem ue_tindex {D : Dat} {o e : Expr} {ta : UE} {tas : UA} {pos apos : Pos} (ho : PEU D o ta) (ha : PAU D [e] tas) (hbase : ∀ env, attributeBase o "index" env (eval o env) = eval o env := by intro _; rfl)
    (hfew : ∀ env, ((backTo pos (starEach [e] env)).all (fun x => !x.1) && (backToKw pos (keywordEach [] env)).all (fun x => x.1.isSome) && decide ([e].length + ([] : List Keyword).length + (if ([] : List Keyword).isEmpty then 0 else 1) < 30)) = true := by intro _; rfl)
    (hline : (apos.endLine == pos.line) = true := by rfl) (hs : ∀ env, starEach [e] env = [(false, eval e env)] := by intro _; rfl) : PEU D (.Call (.Attribute o "index" apos) [e] [] pos) (uBMT mTIndex ta tas) := by
  obtain ⟨_, p, s⟩ := ho; obtain ⟨_, q, r⟩ := ha
  refine ⟨_, fun X h => ?_, sim_bmT sim_tindex s r⟩
  have := pe_bmT (cpos := pos) (apos := apos) PySem.F.plainAttrs_tuple PySem.F.slot_tuple_index PySem.F.type_tuple_index mt_tindex (p X h) (q X h) (hbase _) (hfew _) hline (hs _) (by rfl)
  rw [h.K] at this
  exact this
theorem strsAre_ofP : ∀ {ys : List Str} {its : List Value}, Vals (ys.map V.str) its → StrsAre its ys
  | [], its, r => by cases r; exact .nil
  | y :: ys, its, r => by
    cases r with
    | cons r rr =>
      obtain ⟨t, rfl⟩ := r
      exact .cons _ _ (strsAre_ofP rr)
def rJoin (K : PySem.W.Frag) : V → List V → Hp → VK → Prop := fun x vs H Q => ∃ z p ys, x = .str z ∧ vs = [.ref p] ∧ (SqL K H p (ys.map V.str) ∨ SqT K H p (ys.map V.str)) ∧ (ys.map (·.length)).sum + ys.length * z.length ≤ 16777216 ∧ Q (.str (Txt.join z ys)) H
theorem mt_join {X : Cx} : MtM X "str.join" (rJoin X.K) := by
  intro pins s σ H x vs v us Q I rx rv h
  obtain ⟨z, p, ys, rfl, rfl, hq, hsz, q⟩ := h
  obtain ⟨t, rfl⟩ := rx
  obtain ⟨u, rfl, ru⟩ := rv.one
  cases ru
  rcases hq with hq | hq
  · obtain ⟨its, r, pl, hz⟩ := I.list hq
    exact join_list pl.isList (by simpa using strsAre_ofP r) hsz fun t' k => ⟨.str _, H, I.tok k, ⟨t', rfl⟩, q⟩
  · obtain ⟨its, r, pl, hz⟩ := I.tuple hq
    exact join_tuple pl (by simpa using strsAre_ofP r) hsz fun t' k => ⟨.str _, H, I.tok k, ⟨t', rfl⟩, q⟩
def isS (x : U) : Prop := ∃ z, x = .str z
def uBMS (r : U → List U → MHp → UK → Prop) (to : UE) (t : UA) : UE := fun τ M Q => to τ M fun x M1 => isS x ∧ t τ M1 fun xs M2 => r x xs M2 Q
theorem sim_bmS {K : PySem.W.Frag} {r : V → List V → Hp → VK → Prop} {r' : U → List U → MHp → UK → Prop} {to : TE} {to' : UE} {t : TA} {t' : UA} (hr : SimMt K r r') (ho : SimE K to to') (h : SimA K t t') :
    SimE K (tBM K "str" r to t) (uBMS r' to' t') := fun σ τ H M Q' rs rm q Q c =>
  ho σ τ H M _ rs rm q _ fun u v M1 H1 s1 rm1 ru h1 => by
    obtain ⟨⟨z, rfl⟩, h1⟩ := h1
    cases ru.str
    exact ⟨rfl, h σ τ H1 M1 _ (rs.stp s1) rm1 h1 _ fun us' vs' M2 H2 s2 rm2 rus h2 => hr _ vs' _ us' H2 M2 Q' rm2 (ru.stp s2) rus h2 Q (Cont.stp c (s1.trans s2))⟩
def mJoin : U → List U → MHp → UK → Prop := fun x ws M Q => match x, ws with
  | .str z, [y] => match items M y with
    | some us => ∃ ss : List Str, strsU us = some ss ∧ (ss.map (·.length)).sum + ss.length * z.length ≤ 16777216 ∧ Q (.str (Txt.join z ss)) M
    | none => False
  | _, _ => False
theorem sim_join {K : PySem.W.Frag} : SimMt K (rJoin K) mJoin := fun x xs u us H M Q' rm ru rus h Q c => by
  unfold mJoin at h
  split at h
  · rename_i z y
    split at h
    · rename_i us e
      obtain ⟨ss, h1, h2, q⟩ := h
      cases ru.str
      obtain ⟨v, rfl, a1⟩ := rus.one
      obtain ⟨p, vs, rfl, sq, rs⟩ := items_rel rm a1 e
      rw [strsU_rel rs h1] at sq
      exact ⟨z, p, ss, rfl, rfl, sq, h2, c.here rm relU_str q⟩
    · exact h.elim
  · exact h.elim
theorem ue_join {D : Dat} {o e : Expr} {ta : UE} {tas : UA} {pos apos : Pos} (ho : PEU D o ta) (ha : PAU D [e] tas) (hbase : ∀ env, attributeBase o "join" env (eval o env) = eval o env := by intro _; rfl)
    (hfew : ∀ env, ((backTo pos (starEach [e] env)).all (fun x => !x.1) && (backToKw pos (keywordEach [] env)).all (fun x => x.1.isSome) && decide ([e].length + ([] : List Keyword).length + (if ([] : List Keyword).isEmpty then 0 else 1) < 30)) = true := by intro _; rfl)
    (hline : (apos.endLine == pos.line) = true := by rfl) (hs : ∀ env, starEach [e] env = [(false, eval e env)] := by intro _; rfl) : PEU D (.Call (.Attribute o "join" apos) [e] [] pos) (uBMS mJoin ta tas) := by
  obtain ⟨_, p, s⟩ := ho; obtain ⟨_, q, r⟩ := ha
  refine ⟨_, fun X h => ?_, sim_bmS sim_join s r⟩
  have := pe_bm (cpos := pos) (apos := apos) PySem.F.plainAttrs_str PySem.F.slot_str_join PySem.F.type_str_join mt_join (p X h) (q X h) (hbase _) (hfew _) hline (hs _) (by rfl)
  rw [h.K] at this
  exact this
end U2
namespace U2
open PySem PySem.Spec PyProof.Rows L2
def mT (ts : List (Addr × Str)) : MHp := fun b => (ts.lookup b).map MO.tbl
theorem lookup_in {b : Addr} {q : Str} : ∀ {ts : List (Addr × Str)}, ts.lookup b = some q → (b, q) ∈ ts
  | [], h => by cases h
  | (c, r) :: ts, h => by
    rw [List.lookup_cons] at h
    by_cases e : b = c
    · subst e
      rw [beq_self_eq_true] at h
      cases h
      exact List.mem_cons_self
    · rw [show (b == c) = false from beq_eq_false_iff_ne.mpr e] at h
      exact List.mem_cons_of_mem _ (lookup_in h)
theorem relM_mT {K : PySem.W.Frag} {H : Hp} {ts : List (Addr × Str)} (hu : ∀ p ∈ ts, ∀ p' ∈ ts, p.2 = p'.2 → p.1 = p'.1) (hT : ∀ b ∈ ts.map Prod.fst, H b = some (.tbl #[])) : RelM K H (mT ts) := by
  intro b mo h
  unfold mT at h
  cases e : ts.lookup b with
  | none => rw [e] at h; cases h
  | some q =>
    rw [e] at h
    cases h
    refine ⟨fun b' h' => ?_, #[], hT b (List.mem_map.mpr ⟨_, lookup_in e, rfl⟩), trivial, fun pos c hc => by cases hc⟩
    unfold mT at h'
    cases e' : ts.lookup b' with
    | none => rw [e'] at h'; cases h'
    | some q' =>
      rw [e'] at h'
      cases h'
      exact hu _ (lookup_in e') _ (lookup_in e) rfl
theorem intsT_rel {K : PySem.W.Frag} {H : Hp} {M : MHp} : ∀ ns : List Int, RelUs K H M (ns.map U.int) (ns.map V.int)
  | [] => .nil
  | _ :: r => .cons relU_int (intsT_rel r)
theorem scriptT_rel {K : PySem.W.Frag} {H : Hp} {ts : List (Addr × Str)} {a : Addr} {ns : List Int} (hT : ∀ b ∈ ts.map Prod.fst, H b = some (.tbl #[])) (hS : SqL K H a (ns.map V.int)) : RelUs K H (mT ts) [.lst (ns.map .int)] [.ref a] := by
  refine .cons ?_ .nil
  simp only [RelU]
  refine ⟨a, _, rfl, ?_, intsT_rel ns⟩
  rcases hS with h | h
  · refine .inl ⟨?_, h⟩
    unfold mT
    cases e : ts.lookup a with
    | none => rfl
    | some q =>
      have := hT a (List.mem_map.mpr ⟨_, lookup_in e, rfl⟩)
      rcases h with h | ⟨o, h⟩ <;> rw [this] at h <;> cases h
  · exact .inr h
theorem entryT {K : PySem.W.Frag} {H : Hp} {a : Addr} {ns : List Int} {E : XK} {ts : List (Addr × Str)} {sp : USp} (hS : SqL K H a (ns.map V.int)) (hT : ∀ b ∈ ts.map Prod.fst, H b = some (.tbl #[])) (hu : ∀ p ∈ ts, ∀ p' ∈ ts, p.2 = p'.2 → p.1 = p'.1)
    (h : sp [.lst (ns.map .int)] (mT ts) fun u _ => u = .bl true) : liftSp K sp [.ref a] H (fun v _ => v = .bl true) E :=
  ⟨[.lst (ns.map .int)], mT ts, fun u _ => u = .bl true, relM_mT hu hT, scriptT_rel hT hS, h, fun u v M1 H1 _ _ ru q => by subst q; exact ru.bl⟩
end U2
namespace U2
open PySem PySem.Spec PyProof.Rows L2
theorem walk_ofTB {l : PySem.W.OpenLaw} {n k : Nat} {q : Program} {loose : List Str} {XP : (Str → Option Value) → Heap → Prop} {YP : World → Heap → Prop} {d : DefRec} {K : Params → PySem.W.Frag} {sp : World → Sp} {x : Str} {ts : List Addr}
    (hn : l.most = some n) (hn2 : n ≤ sizeLine) (hdf : d.params.defaults = []) (hr : Room k callerA)
    (hY : ∀ (w : World) (h : Heap), YP w h → (K w.params).In h ∧ ∀ P ∈ ts, h.get? P = some (PySem.W.tabObj #[]))
    (hTK : ∀ (w : World), ∀ P ∈ ts, (K w.params).lookup P = none ∧ ∃ c, PySem.W.codeHdIn (K w.params) c P = true)
    (F : ∀ (w : World) (mg : Str → Option Value) (fa : Addr) (h : Heap), (K w.params).In h → h.Ns mainGlobals mg → mg d.name = some (.ref fa) →
      ∃ fd : FuncData, (∀ (s : Shared) (u : Value), BindsTo s fd ⟨[u], []⟩ [(x, u)]) ∧
        ∀ base : Heap, (K w.params).In base → base.Ns mainGlobals mg → BmOk base mg → FnOk l.prog w (K w.params) mg base CX0 k fa fd [x] (sp w))
    (hsp : ∀ (w : World) (H : Hp) (a : Addr) (ns : List Int), ns.length ≤ n → (∀ m ∈ ns, Builtin.Int.intBits m ≤ 2 ^ 20) → OnlyT ts H → SqL (K w.params) H a (ns.map V.int) → (∀ p ∈ ts, H p = some (.tbl #[])) → sp w [.ref a] H (fun v _ => v = .bl true) fun _ _ _ => False) :
    PySem.W.WalkO q loose XP YP l.row.toRowW d [] (fun f vs => PySem.call f vs) := by
  refine Att.attach_callB hn hdf fun w s₀ s₁ mg mb fa o pm cd doc a vs ns G Y ho hd hcd hmg hobj hints hlen hg hbits => ?_
  obtain ⟨KX, TX⟩ := hY w _ Y
  obtain ⟨fd, hb, hF⟩ := F w mg fa _ KX G.T.g hmg
  have hB : BmOk s₁.heap mg := by
    obtain ⟨bm, ob, b1, b2, b3, b4, b5, b6⟩ := G.T.bmain
    refine ⟨bm, ob, b1, b2, fun z => ?_, b3, b4, b5, b6⟩
    obtain ⟨o, es, ep, e, hd, _⟩ := G.T.g
    rw [z, e] at b3; cases b3; rw [hd] at b6; cases b6
  exact law_callT KX G.T.g G.T.b G.T.builtins G.T.nolimit hg hB (fun p hp => ⟨TX p hp, (hTK w p hp).1, let ⟨c, hc⟩ := (hTK w p hp).2; ((PySem.W.codeHd_of_K KX hc).tab (TX p hp)).isCodeTable⟩) hobj hints (Nat.le_trans hlen hn2) hr hF hb (fun H hO hS hT => hsp w H a ns hlen hbits hO hS hT)
end U2
namespace L2
open PySem PySem.Spec PyProof.Rows
section
variable {prog : Program} {w : World} {A : Around} {E : Value → Shared → Prop} {s : Shared}
theorem call_setT {a : Addr} {items : Array Value} {l : List Str} {Q : Value → Shared → Prop} (hh : A.handled = none) (ha : s.heap.IsTuple a items) (hs : items.size = l.length) (hi : ∀ (i : Nat) v, items[i]? = some v → ∃ x t, l[i]? = some x ∧ v = .str x t) (hb : l.length + 1 < scanBound)
    (h : ∀ (h' : Heap) (tk : Nat), h'.SetOf (strKind prog w) s.heap.objs.size (fun y => (ddS l).any (· == y)) (ddS l).length → (∀ b o, b < s.heap.objs.size → s.heap.get? b = some o → h'.get? b = some o) → Q (.ref s.heap.objs.size) { s with heap := h', toks := tk }) :
    wpAny (model prog w) A (call (.type "set") [.ref a]) Q E s := by
  obtain ⟨c, tl, hmro⟩ := F.called_set.mro
  have hmade := F.called_set.made
  have hsub := F.called_set.sub
  refine wpAny_call (codeAny_of_tree ?_)
  show wpAny _ _ (callAny (.type "set") _) _ _ _
  refine wpAny_pure ⟨Code.quiet_builtin _ (by decide +kernel), codeAny_builtin F.entry_type_call ?_⟩
  rw [Around.under_plain (weight_type_call_type "set" [.ref a] []) rfl]
  have h1 := F.called_set.notType
  have h2 := F.called_set.canCreate
  have hct := F.typeCall_set_1 (.ref a)
  repeat (any_goals (first | assumption | wp_step))
  refine codeAny_mono (code_set_new_1 (.ref a) (E := E) (Q₁ := fun obj s1 => ∃ led : Bool, obj = .ref s.heap.objs.size ∧ s1 = { s with heap := s.heap.push (setObj led) }) fun led => ⟨led, rfl, rfl⟩) fun r s1 hr => ?_
  cases r with
  | error e => exact hr
  | ok fl =>
    cases fl with
    | ret obj =>
      obtain ⟨led, rfl, rfl⟩ := hr
      have hS : (s.heap.push (setObj led)).get? s.heap.objs.size = some (setObj led) := Heap.get?_push_size _ rfl
      have hT : Shared.TypeIs { s with heap := s.heap.push (setObj led) } (.ref s.heap.objs.size) "set" := ⟨_, hS, rfl⟩
      have hli := F.called_set.init.lookup
      have hbi := F.called_set.init.bind (.ref s.heap.objs.size)
      repeat (any_goals (first | assumption | wp_step))
      have hlt : a < s.heap.objs.size := by obtain ⟨o, ho, _⟩ := ha; exact Heap.lt_size ho
      refine codeAny_mono (codeAny_call_builtin (R := wants (fun r s2 => r = .none ∧ ∃ h' tk, s2 = { s with heap := h', toks := tk } ∧
          h'.SetOf (strKind prog w) s.heap.objs.size (fun y => (ddS l).any (· == y)) (ddS l).length ∧ (∀ b o, b < s.heap.objs.size → s.heap.get? b = some o → h'.get? b = some o)) E) F.called_set.init.plain F.entry_set_init (check_set_init_1 hT ?_)) fun r2 s2 hr2 => ?_
      · obtain ⟨ol, hol, hcl, nl, hdl⟩ := ha
        obtain ⟨ocls, odict, odata, oslots⟩ := ol
        simp only at hcl hdl
        subst hcl; subst hdl
        have hol' : (s.heap.push (setObj led)).get? a = some { cls := .type "tuple", dict := odict, data := .seq items nl, slots := oslots } := Heap.get?_push_of_some _ hol
        have g1 := F.sub_tuple_set
        have g2 := F.sub_tuple_frozenset
        have hne : (Value.type "tuple" == Value.type "dict") = false := by decide
        have hl1 : (s.heap.push (setObj led)).IsTuple a items := ⟨_, hol', rfl, nl, rfl⟩
        unfold Builtin.«set.__init__» noKeywords Builtin.Frozenset.updateFrom
        generalize hPI : pyIter = PI
        wp_walk
        subst hPI
        refine wpAny_pyIter_tuple hl1 ?_
        refine wpAny_bind (wpAny_runValue ?_)
        have hh3 : A.in1.in1.in1.handled = none := by simp [hh]
        have hsz : (s.heap.push (setObj led)).objs.size = s.heap.objs.size + 1 := Heap.size_push _ _
        refine set_loopS ((Walks.tuple hh3 _ a (by rw [hsz]; exact Nat.ne_of_lt (Nat.lt_succ_of_lt hlt)) items).toS) s.heap.objs.size (by rw [hsz]; simp only [List.mem_cons, List.not_mem_nil, or_false, not_or]; exact ⟨Nat.ne_of_lt (Nat.lt_succ_self _), Nat.ne_of_gt hlt⟩) l hs.symm hi (by omega) (items.size - 0) 0 _ (by omega) (Nat.zero_le _) ⟨⟨_, Heap.get?_push_size _ rfl, rfl, rfl⟩, (hl1.push _)⟩ ?_ ?_
        · exact SetOf_congr ((setObjOf_fresh (knd := strKind prog w) led).setOf (Heap.get?_push_of_some _ hS) (by unfold scanBound; omega)) (fun _ => by simp [ddS]) (by simp [ddS])
        · intro s' hm hS'
          obtain ⟨h', g', d', tk', os'⟩ := s'
          have eg : g' = s.gens := hm.gens
          have ed : d' = s.drawn := hm.drawn
          have eo : os' = s.os := hm.os
          subst eg; subst ed; subst eo
          show wpAny _ _ _ _ _ _
          refine wpAny_pure ?_
          show wpAny _ _ (ret Value.none) _ _ _
          refine wpAny_pure ⟨rfl, h', tk', rfl, hS', fun b o hb e => ?_⟩
          exact hm.heap b o (by rw [hsz]; simp only [List.mem_cons, List.not_mem_nil, or_false, not_or]; exact ⟨Nat.ne_of_lt hb, Nat.ne_of_lt (Nat.lt_succ_of_lt hb)⟩) (Heap.get?_push_of_some _ (Heap.get?_push_of_some _ e))
      · cases r2 with
        | error e => exact hr2
        | ok fl2 =>
          cases fl2 with
          | ret r =>
            obtain ⟨rfl, h', tk, rfl, hS', hk'⟩ := hr2
            repeat (any_goals (first | assumption | wp_step))
            exact h _ _ hS' hk'
          | _ => exact hr2.elim
    | _ => exact hr.elim
end
def tLenSetA (K : PySem.W.Frag) (ta : TA) : TE := fun σ H Q => ta σ H fun vs H1 => ∃ a ss, vs = [.ref a] ∧ (SqL K H1 a (ss.map V.str) ∨ SqT K H1 a (ss.map V.str)) ∧ ss.length < 1000 ∧ Q (.int (ddS ss).length) H1
section
variable {X : Cx} {a : Expr} {ta : TA} {p p2 pos pos2 : Pos}
theorem pe_lenSetA (hc : X.calm = true) (hg : Gl X "len") (hm : X.mg "len" = none) (hg2 : Gl X "set") (hm2 : X.mg "set" = none) (ha : PA X [a] ta) (hs : starEach [a] X.env = [(false, eval a X.env)]) (hs2 : starEach [.Call (.Name "set" p2) [a] [] pos2] X.env = [(false, eval (.Call (.Name "set" p2) [a] [] pos2) X.env)]) :
    PE X (.Call (.Name "len" p) [.Call (.Name "set" p2) [a] [] pos2] [] pos) (tLenSetA X.K ta) := by
  intro pins s σ H Q I h
  refine wpAny_Call_Name_kw (ld_blt I hg hm boot_len' ?_)
  refine PyProof.Rows.callWith_builtin1 ?_ hs2 rfl
  rw [hs2]
  show wpAny _ _ (spliced ((false, eval (.Call (.Name "set" p2) [a] [] pos2) X.env) :: backTo pos [])) _ _ s
  refine Calls.spliced_cons (wpAny_Call_Name_kw (ld_blt I hg2 hm2 boot_set (PyProof.Rows.callWith_type1 (thn (ha pos2 pins s σ H _ I h) fun us s1 ⟨vs, H1, I1, r1, q1⟩ => ?_) hs rfl)))
  obtain ⟨b, ss, rfl, hq, hlt, q⟩ := q1
  obtain ⟨u, rfl, rx⟩ := vals1 r1
  cases rx
  rcases hq with hq | hq
  · obtain ⟨its, r', pl, hz⟩ := I1.list hq
    obtain ⟨e1, e2⟩ := strsAre r'
    refine call_setS (I1.ok.hd hc) pl.isList (l := ss) (by simpa using e1) (fun i v hv => e2 i v (by simpa using hv)) (by unfold scanBound; omega) fun h' tk hS hk => ?_
    refine Calls.spliced_nil ?_
    obtain ⟨o, es, ep, t, ho, hex, hd, _, _, hb, hf, hn⟩ := hS
    refine call_len_set (s := { s1 with heap := h', toks := tk }) ho hex hd hf (by have := hb; unfold scanBound at this; omega) ?_
    refine ⟨.int (ddS ss).length, H1, ?_, ⟨_, by rw [hn]⟩, q⟩
    exact I1.kept fun b o e => hk b o (Heap.lt_size e) e
  · obtain ⟨its, r', pl, hz⟩ := I1.tuple hq
    obtain ⟨e1, e2⟩ := strsAre r'
    refine call_setT (items := its.toArray) (I1.ok.hd hc) pl (l := ss) (by simpa using e1) (fun i v hv => e2 i v (by simpa using hv)) (by unfold scanBound; omega) fun h' tk hS hk => ?_
    refine Calls.spliced_nil ?_
    obtain ⟨o, es, ep, t, ho, hex, hd, _, _, hb, hf, hn⟩ := hS
    refine call_len_set (s := { s1 with heap := h', toks := tk }) ho hex hd hf (by have := hb; unfold scanBound at this; omega) ?_
    refine ⟨.int (ddS ss).length, H1, ?_, ⟨_, by rw [hn]⟩, q⟩
    exact I1.kept fun b o e => hk b o (Heap.lt_size e) e
end
end L2
namespace U2
open PySem PySem.Spec PyProof.Rows L2
def uLenSetA (ta : UA) : UE := fun τ M Q => ta τ M fun us M1 => match us with
  | [x] => match items M1 x with
    | some ws => ∃ ss : List Str, ws = ss.map U.str ∧ ss.length < 1000 ∧ Q (.int (ddS ss).length) M1
    | _ => False
  | _ => False
section
variable {D : Dat} {a : Expr} {ta : UA} {pos p p2 pos2 : Pos}
theorem ue_lenSetA (hm : D.mg "len" = none) (hm2 : D.mg "set" = none) (ha : PAU D [a] ta) (hg : D.sc.names.lookup ("len" : Str) = some .globalImplicit := by rfl) (hg2 : D.sc.names.lookup ("set" : Str) = some .globalImplicit := by rfl) (hs : ∀ env, starEach [a] env = [(false, eval a env)] := by intro _; rfl)
    (hs2 : ∀ env, starEach [.Call (.Name "set" p2) [a] [] pos2] env = [(false, eval (.Call (.Name "set" p2) [a] [] pos2) env)] := by intro _; rfl) : PEU D (.Call (.Name "len" p) [.Call (.Name "set" p2) [a] [] pos2] [] pos) (uLenSetA ta) := by
  obtain ⟨t, q, s⟩ := ha
  refine ⟨tLenSetA D.K t, fun X h => by have := pe_lenSetA (p := p) (p2 := p2) (pos := pos) (pos2 := pos2) h.calm (by show X.env.scope.names.lookup _ = _; rw [h.sc]; exact hg) (by rw [h.mg]; exact hm) (by show X.env.scope.names.lookup _ = _; rw [h.sc]; exact hg2) (by rw [h.mg]; exact hm2) (q X h) (hs _) (hs2 _); rw [h.K] at this; exact this, fun σ τ H M Q' rs rm h Q c => ?_⟩
  refine s σ τ H M _ rs rm h _ fun us vs M1 H1 s1 rm1 ru h1 => ?_
  split at h1
  · obtain ⟨v, rfl, a1⟩ := ru.one
    split at h1
    · rename_i ws e
      obtain ⟨ss, rfl, hl, q⟩ := h1
      obtain ⟨b, zvs, rfl, s2, r2⟩ := items_rel rm1 a1 e
      rw [relUs_strs2 r2] at s2
      exact ⟨b, ss, rfl, s2, hl, c _ _ M1 H1 s1 rm1 relU_int q⟩
    · exact h1.elim
  · exact h1.elim
end
end U2
namespace L2
open PySem
theorem ar0 {q : List Value → Prop} (h : q []) (us : List Value) (e : us.length = 0) : q us := by rw [List.length_eq_zero_iff.mp e]; exact h
theorem arS {n : Nat} {q : List Value → Prop} (h : ∀ x us, us.length = n → q (x :: us)) (us : List Value) (e : us.length = n + 1) : q us := by
  cases us with
  | nil => cases e
  | cons x r => exact h x r (Nat.succ.inj e)
abbrev Ar := Value → Value → Value → Option Addr → Value → Value → List Value → Prop
theorem ar1 {p : Ar} (h : ∀ a b c d e g x0, p a b c d e g [x0]) (a b c d e g) : ∀ us, us.length = 1 → p a b c d e g us := arS fun x0 => ar0 (h a b c d e g x0)
theorem ar2 {p : Ar} (h : ∀ a b c d e g x0 x1, p a b c d e g [x0, x1]) (a b c d e g) : ∀ us, us.length = 2 → p a b c d e g us := arS fun x0 => arS fun x1 => ar0 (h a b c d e g x0 x1)
theorem ar3 {p : Ar} (h : ∀ a b c d e g x0 x1 x2, p a b c d e g [x0, x1, x2]) (a b c d e g) : ∀ us, us.length = 3 → p a b c d e g us := arS fun x0 => arS fun x1 => arS fun x2 => ar0 (h a b c d e g x0 x1 x2)
theorem ar4 {p : Ar} (h : ∀ a b c d e g x0 x1 x2 x3, p a b c d e g [x0, x1, x2, x3]) (a b c d e g) : ∀ us, us.length = 4 → p a b c d e g us := arS fun x0 => arS fun x1 => arS fun x2 => arS fun x3 => ar0 (h a b c d e g x0 x1 x2 x3)
theorem ar5 {p : Ar} (h : ∀ a b c d e g x0 x1 x2 x3 x4, p a b c d e g [x0, x1, x2, x3, x4]) (a b c d e g) : ∀ us, us.length = 5 → p a b c d e g us := arS fun x0 => arS fun x1 => arS fun x2 => arS fun x3 => arS fun x4 => ar0 (h a b c d e g x0 x1 x2 x3 x4)
theorem ar6 {p : Ar} (h : ∀ a b c d e g x0 x1 x2 x3 x4 x5, p a b c d e g [x0, x1, x2, x3, x4, x5]) (a b c d e g) : ∀ us, us.length = 6 → p a b c d e g us := arS fun x0 => arS fun x1 => arS fun x2 => arS fun x3 => arS fun x4 => arS fun x5 => ar0 (h a b c d e g x0 x1 x2 x3 x4 x5)
end L2
namespace U2
open PySem PySem.Spec PyProof.Rows L2
theorem fsc {N P : List Str} {sc : Scope} (a : sc.kind = .function := by rfl) (b : sc.isCoroutine = false := by rfl) (c : sc.isGenerator = false := by rfl) (d : N.Nodup := by decide +kernel) (e : N.take P.length = P := by rfl) (f : ∀ x ∈ P, sc.names.lookup x = some .local ∨ sc.names.lookup x = some .cell := by decide +kernel) (g : ∀ y ∈ sc.names, y.2 ≠ .free := by decide +kernel) : FnScope N P sc := ⟨a, b, c, d, e, f, g⟩
theorem nk {xs : List U} {I : Nat → SU → MHp → Prop} : ∀ i τ M, I i τ M → (Src.mk none xs).ok M := fun _ _ _ _ _ e => nomatch e
theorem callee2 {P : Program} {w : World} {K : PySem.W.Frag} {mg : Str → Option Value} {base : Heap} {x : Str} {st : Stmt} {f : Addr} {fd : FuncData} {N ps : List Str} {k : Nat} {sp : USp} {t : US} (F : Fun K x x st f fd) (hm : mg x = some (.ref f)) (S : FnScope N ps (defScope st))
    (bind : ∀ (kV doc pm : Value) (an : Option Addr) (cdv ct : Value) (us : List Value), us.length = ps.length → bindArgs (PySem.W.fnOf x x (defArgs st) (defBody st) (defScope st) .none kV doc pm an cdv ct) ⟨us, []⟩ = pure (ps.zip us))
    (h : PSsU ⟨P, w, K, mg, base, N, defScope st, k, true, .none, ""⟩ (defBody st) t)
    (q : ∀ us M Q, sp us M Q → us.length = ps.length ∧ t { nx := fun _ M' => rtU Q .non M', rt := rtU Q } (startU N us) M) : Callee P w K mg base (k + 1) x sp [] :=
  callee_of F hm S bind (fun us M Q hs => (q us M Q hs).1) h (fun us M Q hs => (q us M Q hs).2)
end U2
namespace K10
open PySem L2 U2
def top (i : Nat) : Stmt := PySem.Challenge.pw_rowsmith_k10_tables.main.body.getD i (.Pass ⟨0, 0, 0, 0⟩)
abbrev s_is_whole : Stmt := top 5
theorem sc_is_whole : FnScope ["thing"] ["thing"] (defScope s_is_whole) := fsc
abbrev s_is_number : Stmt := top 6
theorem sc_is_number : FnScope ["thing"] ["thing"] (defScope s_is_number) := fsc
abbrev s_is_sign : Stmt := top 7
theorem sc_is_sign : FnScope ["thing"] ["thing"] (defScope s_is_sign) := fsc
abbrev s_is_shape : Stmt := top 8
theorem sc_is_shape : FnScope ["thing", "is_leaf", "most_pieces", "most_within", "count", "waiting", "entry", "piece", "depth"] ["thing", "is_leaf", "most_pieces", "most_within"] (defScope s_is_shape) := fsc
abbrev s_parts_of : Stmt := top 9
theorem sc_parts_of : FnScope ["shape"] ["shape"] (defScope s_parts_of) := fsc
abbrev s_places_of : Stmt := top 10
theorem sc_places_of : FnScope ["shape", "found", "number", "part"] ["shape"] (defScope s_places_of) := fsc
abbrev s_shape_at : Stmt := top 11
theorem sc_shape_at : FnScope ["shape", "place", "here", "number"] ["shape", "place"] (defScope s_shape_at) := fsc
abbrev s_is_pass : Stmt := top 12
theorem sc_is_pass : FnScope ["tile"] ["tile"] (defScope s_is_pass) := fsc
abbrev s_is_name : Stmt := top 14
theorem sc_is_name : FnScope ["thing"] ["thing"] (defScope s_is_name) := fsc
abbrev s_are_unlike : Stmt := top 22
theorem sc_are_unlike : FnScope ["names"] ["names"] (defScope s_are_unlike) := fsc
abbrev s_are_classes : Stmt := top 23
theorem sc_are_classes : FnScope ["thing"] ["thing"] (defScope s_are_classes) := fsc
abbrev s_is_pattern_leaf : Stmt := top 24
theorem sc_is_pattern_leaf : FnScope ["thing", "classes"] ["thing", "classes"] (defScope s_is_pattern_leaf) := fsc
abbrev s_is_pattern : Stmt := top 25
theorem sc_is_pattern : FnScope ["thing", "classes"] ["thing", "classes"] (defScope s_is_pattern) := fsc
abbrev s_is_tile : Stmt := top 26
theorem sc_is_tile : FnScope ["thing", "classes"] ["thing", "classes"] (defScope s_is_tile) := fsc
abbrev s_are_tiles : Stmt := top 27
theorem sc_are_tiles : FnScope ["thing", "classes"] ["thing", "classes"] (defScope s_are_tiles) := fsc
abbrev s_is_table : Stmt := top 28
theorem sc_is_table : FnScope ["thing"] ["thing"] (defScope s_is_table) := fsc
abbrev s_holes : Stmt := top 29
theorem sc_holes : FnScope ["pattern", "found"] ["pattern"] (defScope s_holes) := fsc
abbrev s_law_cell_at : Stmt := top 31
theorem sc_law_cell_at : FnScope ["script", "k"] ["script", "k"] (defScope s_law_cell_at) := fsc
abbrev s_law_name_of : Stmt := top 32
theorem sc_law_name_of : FnScope ["number", "name"] ["number"] (defScope s_law_name_of) := fsc
abbrev s_law_wide : Stmt := top 33
theorem sc_law_wide : FnScope ["cell", "here", "wide", "prime"] ["cell"] (defScope s_law_wide) := fsc
abbrev s_law_fresh : Stmt := top 34
theorem sc_law_fresh : FnScope ["number", "seen", "sizes"] ["number", "seen"] (defScope s_law_fresh) := fsc
abbrev s_law_leaf : Stmt := top 35
theorem sc_law_leaf : FnScope ["number", "code", "classes", "cls", "way", "low", "high", "left"] ["number", "code", "classes"] (defScope s_law_leaf) := fsc
abbrev s_law_fits : Stmt := top 36
theorem sc_law_fits : FnScope ["one", "other"] ["one", "other"] (defScope s_law_fits) := fsc
abbrev s_law_paired : Stmt := top 37
theorem sc_law_paired : FnScope ["one", "other", "k", "text", "whole"] ["one", "other", "k"] (defScope s_law_paired) := fsc
abbrev s_law_pattern : Stmt := top 38
theorem sc_law_pattern : FnScope ["number", "classes", "some", "many", "code", "here", "other", "one", "leaf", "text"] ["number", "classes"] (defScope s_law_pattern) := fsc
abbrev s_law_classes : Stmt := top 39
theorem sc_law_classes : FnScope ["cell", "number", "many", "some", "k", "name"] ["cell"] (defScope s_law_classes) := fsc
abbrev s_law_tile : Stmt := top 40
theorem sc_law_tile : FnScope ["cell", "classes", "seen", "number", "name", "cls", "cost", "item", "other", "text"] ["cell", "classes", "seen"] (defScope s_law_tile) := fsc
abbrev s_law_table : Stmt := top 41
theorem sc_law_table : FnScope ["cells", "classes", "tiles", "seen", "rows", "cell", "tile", "row"] ["cells"] (defScope s_law_table) := fsc
abbrev s_law_way : Stmt := top 42
theorem sc_law_way : FnScope ["tree", "number", "way", "many", "k"] ["tree", "number"] (defScope s_law_way) := fsc
abbrev s_law_at : Stmt := top 43
theorem sc_law_at : FnScope ["tree", "way", "k"] ["tree", "way"] (defScope s_law_at) := fsc
abbrev s_law_put : Stmt := top 44
theorem sc_law_put : FnScope ["tree", "way", "thing", "k"] ["tree", "way", "thing"] (defScope s_law_put) := fsc
abbrev s_law_bad_piece : Stmt := top 45
theorem sc_law_bad_piece : FnScope ["here", "other", "cell", "far", "some"] ["here", "other", "cell"] (defScope s_law_bad_piece) := fsc
abbrev s_law_bad_tile : Stmt := top 46
theorem sc_law_bad_tile : FnScope ["tile", "classes", "cell", "name", "cls", "pattern", "cost", "far", "way", "bad", "some"] ["tile", "classes", "cell"] (defScope s_law_bad_tile) := fsc
abbrev s_law_bad_table : Stmt := top 47
theorem sc_law_bad_table : FnScope ["classes", "tiles", "cell", "seven", "name", "some"] ["classes", "tiles", "cell"] (defScope s_law_bad_table) := fsc
abbrev s_law_answers : Stmt := top 48
theorem sc_law_answers : FnScope ["thing", "due", "found"] ["thing", "due"] (defScope s_law_answers) := fsc
abbrev s_law : Stmt := top 49
theorem sc_law : FnScope ["script", "draw", "classes", "tiles", "rows", "at", "bad"] ["script"] (defScope s_law) := fsc
def SIGNS : List (Str × Fl) := [("turn", .int 1), ("sum", .int 2), ("less", .int 2), ("by", .int 2)]
section
variable {P : Program} {w : World} {K : PySem.W.Frag} {mg : Str → Option Value} {base : Heap} {f d d2 fl : Addr} {fd : FuncData}
theorem eqX_int {neg : Bool} {i j : Int} {M : MHp} {Q : UK} : uEqX neg (.int i) (.int j) M Q = Q (.bl (if neg then !decide (i = j) else decide (i = j))) M := rfl
theorem eqX_str {neg : Bool} {i j : Str} {M : MHp} {Q : UK} : uEqX neg (.str i) (.str j) M Q = Q (.bl (if neg then !decide (i = j) else decide (i = j))) M := rfl
theorem small {n : Nat} (h : n ≤ 100000) : n ≤ sizeLine := Nat.le_trans h (by decide)
theorem big {k : Nat} (h : k < 100000) : k < sizeLine := Nat.lt_of_lt_of_le h (by decide)
theorem szl {n : Nat} (h : n ≤ 100000) : (n ≤ sizeLine) = True := eq_true (small h)
theorem seq_gen {u v : US} {D : UEnds} {τ : SU} {M : MHp} (h : ∀ V : SU → MHp → Prop, V = v D → u { D with nx := V } τ M) : uSeq u v D τ M := h _ rfl
theorem if_gen {c : UT} {t u : US} {D : UEnds} {τ : SU} {M : MHp} (h : ∀ A B : MHp → Prop, A = t D τ → B = u D τ → c τ M fun b M1 => if b = true then A M1 else B M1) : uIfS c t u D τ M := h _ _ rfl rfl
def LET : Str := "abcdefghijklmnopqrstuvwxyz"
def isLetter (c : Nat) : Bool := !(Builtin.Str.occurrences LET ⟨#[c]⟩ 0 LET.length 1).isEmpty
def isName : U → Bool
  | .str z => decide (1 ≤ z.length) && decide (z.length ≤ 8) && z.cps.toList.all isLetter
  | _ => false
def okU : U → Prop
  | .str z => z.length ≤ sizeLine
  | .ref _ => False
  | .ty _ => False
  | _ => True
def spName : USp := fun us M Q => ∃ x, us = [x] ∧ okU x ∧ Q (.bl (isName x)) M
theorem chars_mem {z : Str} {x : U} (h : x ∈ chars z) : ∃ c, x = .str ⟨#[c]⟩ := by
  obtain ⟨c, _, e⟩ := List.mem_map.mp h
  exact ⟨c, e.symm⟩
theorem chars_len (z : Str) : (chars z).length = z.length := by simp [chars, Str.length]
def elt1 : U → Option U
  | .str y => some (.bl (!(Builtin.Str.occurrences LET y 0 LET.length 1).isEmpty))
  | _ => none
theorem bls1 : ∀ l : List Nat, blsU ((l.map fun c => U.str ⟨#[c]⟩).filterMap elt1) = some (l.map isLetter)
  | [] => rfl
  | c :: r => by
    have := bls1 r
    simp only [List.map_cons, List.filterMap_cons, elt1] at this ⊢
    simp only [blsU, this, Option.map_some]
    rfl
local macro_rules | `(tactic| simp_all! only [$xs,*]) => `(tactic| simp only [$xs,*, Bool.false_eq_true, Bool.not_false, Bool.not_true, List.append_nil, List.cons_append, List.getElem?_cons_succ, List.getElem?_cons_zero, List.length_cons, List.length_nil, List.map_cons, List.map_nil, List.nil_append, List.replicate, List.set_cons_succ, List.set_cons_zero, Nat.add_sub_cancel, Nat.reduceAdd, Nat.reduceSub, Nat.sub_self, Option.some.injEq, and_true, at0, at1, at2, at3, bAll, bInt1, bInt2, bIsi2, bLen, bList, bMax, bSum, bTuple, cGe, cGt, cLe, cLt, capt, decide_false, decide_true, eqS, exists_eq_left', hCons, hName, hNil, hTup, if_false, if_true, inSt, inTab, isNon, isi_NoneType_bool, isi_NoneType_dict, isi_NoneType_int, isi_NoneType_list, isi_NoneType_str, isi_NoneType_tuple, isi_bool_bool, isi_bool_dict, isi_bool_int, isi_bool_list, isi_bool_str, isi_bool_tuple, isi_dict_bool, isi_dict_dict, isi_dict_int, isi_dict_list, isi_dict_str, isi_dict_tuple, isi_int_bool, isi_int_dict, isi_int_int, isi_int_list, isi_int_str, isi_int_tuple, isi_list_bool, isi_list_dict, isi_list_int, isi_list_list, isi_list_str, isi_list_tuple, isi_str_bool, isi_str_dict, isi_str_int, isi_str_list, isi_str_str, isi_str_tuple, isi_tuple_bool, isi_tuple_dict, isi_tuple_int, isi_tuple_list, isi_tuple_str, isi_tuple_tuple, items, ixTab, mAppend, mClear, mExtend, mPop, mkL, reduceCtorEq, startU, true_and, typU, uAdd, uAddL, uAnd, uAndV, uAsg, uBM, uBM0, uBreak, uC, uCB, uCall, uCallV, uChain, uCons, uCont, uDrop, uEnum, uEqD, uEqS, uEqX, uI, uI0, uIf, uIfS, uIn, uIsN, uIter, uIx, uLst, uLtX, uNeS, uNext, uNil, uNoPart, uNot, uNotN, uNotV, uOp, uOr, uOrV, uPart, uRet, uRetN, uRng1, uRng2, uSeq, uTest, uTru, uTup, uUn, uVar, uZip, view])
theorem ok_is_name {t1 t2 : Tok} (F : Fun K "is_name" "is_name" s_is_name f fd) (hm : mg "is_name" = some (.ref f)) (m_len : mg "len" = none) (m_isinstance : mg "isinstance" = none) (m_str : mg "str" = none) (m_all : mg "all" = none)
    (g_LETTERS : mg "LETTERS" = some (.str LET t1)) (g_LONGEST_NAME : mg "LONGEST_NAME" = some (.int 8 t2)) : Callee P w K mg base 1 "is_name" spName [] := by
  refine callee2 F hm sc_is_name (ar1 fun _ _ _ _ _ _ _ => rfl) (uss_cons (us_if (PWU.pt (uw_or (ut_not (ut_val (ue_b b_isi m_isinstance (ua_cons (uv 0) (ua_cons (ug_ty (n := "str") m_str) ua_nil))))) (uw_or1 (ut_not (ut_ch k_le k_le un_ (ue_b b_len m_len (ua_cons (uv 0) ua_nil)) (ug_int g_LONGEST_NAME))))))
  (uss_one (us_ret ub_))
  uss_nil)
  (uss_one (us_ret (ue_b b_all m_all (ua_cons (ue_comp false ["sign"] 1 [] (ui_seq (uv 0)) (ug_name (k := 1) 0 (by dsimp only [compD]; decide +kernel)) uif_nil (ue_c k_inS (uv 0) (ug_str g_LETTERS))) ua_nil))))) ?_
  rintro us M Q ⟨x, rfl, ok, q⟩
  refine ⟨rfl, ?_⟩
  cases x with
  | str z =>
    simp_all! only [uSlX]
    refine ⟨ok, ?_⟩
    simp only [isName] at q
    by_cases h1 : 1 ≤ (z.length : Int)
    · rw [if_pos (by simpa using h1)]
      by_cases h8 : (z.length : Int) ≤ 8
      · rw [if_neg (by simp [h8])]
        refine uComp_pure (S := ⟨none, chars z⟩) (M1 := M) (hw := fun R r => r) elt1 (by rw [show (Src.mk none (chars z)).xs.length = z.length from chars_len z]; exact ok) (fun a e => by cases e) (fun x hx M' _ R r => ?_) ?_
        · obtain ⟨c, rfl⟩ := chars_mem hx
          exact r
        · show (match blsU ((chars z).filterMap elt1) with | some bs => rtU Q (U.bl (bs.all fun b => b)) M | none => False)
          unfold chars
          rw [bls1]
          refine rt_same ?_
          have e : ((z.cps.toList.map isLetter).all fun b => b) = (decide (1 ≤ z.length) && decide (z.length ≤ 8) && z.cps.toList.all isLetter) := by
            rw [decide_eq_true (show 1 ≤ z.length by omega), decide_eq_true (show z.length ≤ 8 by omega), List.all_map]
            rfl
          rw [e]; exact q
      · rw [if_pos (by simp [h8])]
        rw [decide_eq_false (show ¬ z.length ≤ 8 by omega)] at q
        simp at q
        exact rt_same q
    · rw [if_neg (by simpa using h1)]
      rw [decide_eq_false (show ¬ 1 ≤ z.length by omega)] at q
      simp at q
      exact rt_same q
  | ref a => exact ok.elim
  | ty a => exact ok.elim
  | _ => simp_all! only [uSlX]; exact rt_same q
mutual
def pl : U → Prop
  | .non => True
  | .bl _ => True
  | .int _ => True
  | .str z => PyData.strOk z = true ∧ z.length ≤ 1000
  | .tup us => us.length ≤ 1000 ∧ pls us
  | .lst us => us.length ≤ 1000 ∧ pls us
  | .ty _ => False
  | .ref _ => False
  | .dic _ _ _ => False
def pls : List U → Prop
  | [] => True
  | u :: us => pl u ∧ pls us
end
theorem pls_mem : ∀ {us : List U} {u : U}, pls us → u ∈ us → pl u
  | [], _, _, h => by cases h
  | a :: us, u, h, m => by
    simp only [pls] at h
    rcases List.mem_cons.mp m with rfl | m
    · exact h.1
    · exact pls_mem h.2 m
def lay (u : U) (n : Nat) : Prop := ∃ d, toD u = some d ∧ d.canLay0 = true ∧ d.depth ≤ n
def lays (us : List U) (n : Nat) : Prop := ∃ ds, toDs us = some ds ∧ PyData.canLayAll0 ds = true ∧ PyData.depthAll ds ≤ n
theorem lays_mem : ∀ {us : List U} {u : U} {n : Nat}, lays us n → u ∈ us → lay u n
  | [], _, _, _, h => by cases h
  | a :: us, u, n, ⟨ds, h1, h2, h3⟩, m => by
    simp only [toDs] at h1
    cases ha : toD a with
    | none => rw [ha] at h1; cases h1
    | some d =>
      cases hs : toDs us with
      | none => rw [ha, hs] at h1; cases h1
      | some es =>
        rw [ha, hs] at h1
        cases h1
        simp only [PyData.canLayAll0, Bool.and_eq_true, PyData.depthAll] at h2 h3
        rcases List.mem_cons.mp m with rfl | m
        · exact ⟨d, ha, h2.1, by omega⟩
        · exact lays_mem ⟨es, hs, h2.2, by omega⟩ m
theorem lay_tup {us : List U} {n : Nat} (h : lay (.tup us) n) : lays us n := by
  obtain ⟨d, h1, h2, h3⟩ := h
  simp only [toD, Option.map_eq_some_iff] at h1
  obtain ⟨ds, e, rfl⟩ := h1
  simp only [PyData.canLay0, PyData.depth] at h2 h3
  exact ⟨ds, e, h2, by omega⟩
def plain (u : U) : Prop := pl u ∧ lay u 60
theorem plain_mem {us : List U} {u : U} (h : plain (.tup us)) (m : u ∈ us) : plain u := by
  have h1 := h.1
  simp only [pl] at h1
  exact ⟨pls_mem h1.2 m, lays_mem (lay_tup h.2) m⟩
theorem plain_len {us : List U} (h : plain (.tup us)) : us.length ≤ 1000 := by
  have h1 := h.1
  simp only [pl] at h1
  exact h1.1
theorem beq_dec (a b : Str) : (a == b) = decide (a = b) := by
  by_cases h : a = b
  · subst h; simp
  · rw [decide_eq_false h]; exact beq_eq_false_iff_ne.mpr h
def isS (z : Str) : U → Bool
  | .str y => decide (y = z)
  | _ => false
theorem eq_str {u : U} {z : Str} {M : MHp} {Q : UK} (h : plain u) (hz : PyData.strOk z = true) (q : Q (.bl (isS z u)) M) : uEqX false u (.str z) M Q := by
  obtain ⟨h1, d, e, h2, h3⟩ := h
  have hs : (PyData.str z).canLay0 = true := by simp only [PyData.canLay0]; exact hz
  cases u with
  | tup us =>
    simp only [toD, Option.map_eq_some_iff] at e
    obtain ⟨ds, e, rfl⟩ := e
    exact ⟨_, _, by simp only [topD, toD, e, Option.map_some], rfl, h2, hs, by simp only [PyData.depth]; omega, q⟩
  | lst us =>
    simp only [toD, Option.map_eq_some_iff] at e
    obtain ⟨ds, e, rfl⟩ := e
    exact ⟨_, _, by simp only [topD, toD, e, Option.map_some], rfl, h2, hs, by simp only [PyData.depth]; omega, q⟩
  | ty _ => exact h1.elim
  | ref _ => exact h1.elim
  | dic _ _ _ => exact h1.elim
  | _ => exact q
def inS (cs : List Str) : U → Bool
  | .str y => cs.contains y
  | _ => false
theorem in_strs {neg : Bool} {u : U} {cs : List Str} {M : MHp} {Q : UK} (h : plain u) (hc : ∀ c ∈ cs, PyData.strOk c = true) (q : Q (.bl (if neg then !inS cs u else inS cs u)) M) : uInD neg u (.tup (cs.map U.str)) M Q := by
  obtain ⟨h1, d, e, h2, h3⟩ := h
  have e1 : ∀ cs : List Str, toDs (cs.map U.str) = some (cs.map PyData.str) := fun cs => by
    induction cs with
    | nil => rfl
    | cons c cs ih => simp only [List.map_cons, toDs, toD, ih]
  have e2 : PyData.canLayAll0 (cs.map PyData.str) = true := by
    clear q
    induction cs with
    | nil => rfl
    | cons c cs ih =>
      simp only [List.map_cons, PyData.canLayAll0, PyData.canLay0, Bool.and_eq_true]
      exact ⟨hc c List.mem_cons_self, ih fun x hx => hc x (List.mem_cons_of_mem _ hx)⟩
  have e3 : topD M u = some d := by
    cases u <;> first | exact e | exact h1.elim
  have e4 : ((cs.map PyData.str).any fun x => PyData.eqv x d) = inS cs u := by
    clear q hc e2
    induction cs with
    | nil => cases u <;> rfl
    | cons c cs ih =>
      simp only [List.map_cons, List.any_cons, ih]
      cases u with
      | str y =>
        cases e
        simp only [inS, List.contains_cons]
        congr 1
        simp only [PyData.eqv]
        exact BEq.comm
      | tup us =>
        simp only [toD, Option.map_eq_some_iff] at e
        obtain ⟨ds, e, rfl⟩ := e
        rfl
      | lst us =>
        simp only [toD, Option.map_eq_some_iff] at e
        obtain ⟨ds, e, rfl⟩ := e
        rfl
      | ty _ => exact h1.elim
      | ref _ => exact h1.elim
      | dic _ _ _ => exact h1.elim
      | _ => cases e; rfl
  exact ⟨_, _, d, rfl, e1 cs, e3, e2, h2, h3, by rw [e4]; exact q⟩
def intB : U → Bool
  | .int _ => true
  | _ => false
def numB : U → Bool
  | .int i => decide (0 ≤ i) && decide (i ≤ 1000000000000000000)
  | _ => false
def spWholeG : USp := fun us M Q => ∃ u, us = [u] ∧ plain u ∧ Q (.bl (intB u)) M
local macro_rules | `(tactic| simp! only [$xs,*] $[$l]?) => `(tactic| simp only [$xs,*, Bool.false_eq_true, Bool.not_false, Bool.not_true, List.append_nil, List.cons_append, List.getElem?_cons_succ, List.getElem?_cons_zero, List.length_cons, List.length_nil, List.map_cons, List.map_nil, List.nil_append, List.replicate, List.set_cons_succ, List.set_cons_zero, Nat.add_sub_cancel, Nat.reduceAdd, Nat.reduceLeDiff, Nat.reduceSub, Nat.sub_self, Option.getD_some, Option.some.injEq, and_true, at0, at1, at2, at3, bAll, bInt, bInt1, bInt2, bIsi2, bLen, bList, bMax, bSum, bTuple, cGe, cGt, cLe, cLt, capt, decide_false, decide_true, eqX_int, eqX_str, exists_eq_left', if_false, if_true, inSt, isNon, isi_NoneType_bool, isi_NoneType_dict, isi_NoneType_int, isi_NoneType_list, isi_NoneType_str, isi_NoneType_tuple, isi_bool_bool, isi_bool_dict, isi_bool_int, isi_bool_list, isi_bool_str, isi_bool_tuple, isi_dict_bool, isi_dict_dict, isi_dict_int, isi_dict_list, isi_dict_str, isi_dict_tuple, isi_int_bool, isi_int_dict, isi_int_int, isi_int_list, isi_int_str, isi_int_tuple, isi_list_bool, isi_list_dict, isi_list_int, isi_list_list, isi_list_str, isi_list_tuple, isi_str_bool, isi_str_dict, isi_str_int, isi_str_list, isi_str_str, isi_str_tuple, isi_tuple_bool, isi_tuple_dict, isi_tuple_int, isi_tuple_list, isi_tuple_str, isi_tuple_tuple, mAppend, mClear, mExtend, mPop, mPopAt, mkL, mup_mup, mup_same, reduceCtorEq, startU, szl, true_and, typU, uAdd, uAddL, uAnd, uAndV, uBM, uBM0, uC, uCB, uCall, uCallV, uChain, uCons, uEqS, uI, uI0, uIf, uIsN, uIter, uIx, uLst, uLtX, uMul, uNeS, uNil, uNoPart, uNot, uNotN, uNotV, uOp, uOr, uOrV, uPart, uRng1, uRng2, uSlX, uTest, uTru, uTup, uUn, uVar, vw_bl, vw_int, vw_lst, vw_non, vw_own, vw_str, vw_tup] $[$l]?)
theorem ok_is_whole (F : Fun K "is_whole" "is_whole" s_is_whole f fd) (hm : mg "is_whole" = some (.ref f)) (m_isinstance : mg "isinstance" = none) (m_int : mg "int" = none) (m_bool : mg "bool" = none) : Callee P w K mg base 1 "is_whole" spWholeG [] := by
  refine callee2 F hm sc_is_whole (ar1 fun _ _ _ _ _ _ _ => rfl) (uss_one (us_ret (ue_and (ue_b b_isi m_isinstance (ua_cons (uv 0) (ua_cons (ug_ty (n := "int") m_int) ua_nil))) (ue_one (ue_not (ue_b b_isi m_isinstance (ua_cons (uv 0) (ua_cons (ug_ty (n := "bool") m_bool) ua_nil)))))))) ?_
  rintro us M Q ⟨u, rfl, ho, q⟩
  refine ⟨rfl, ?_⟩
  cases u with
  | ref a => exact ho.1.elim
  | ty a => exact ho.1.elim
  | dic a b c => exact ho.1.elim
  | _ => simp! only [uRet, items, uEnum, uZip, uEnumL]; exact rt_same q
def spNumber : USp := fun us M Q => ∃ u, us = [u] ∧ plain u ∧ Q (.bl (numB u)) M
theorem ok_is_number {t1 : Tok} (F : Fun K "is_number" "is_number" s_is_number f fd) (hm : mg "is_number" = some (.ref f)) (g_GREATEST : mg "GREATEST" = some (.int 1000000000000000000 t1)) (C_is_whole : Callee P w K mg base 1 "is_whole" spWholeG []) : Callee P w K mg base 2 "is_number" spNumber [] := by
  refine callee2 F hm sc_is_number (ar1 fun _ _ _ _ _ _ _ => rfl) (uss_one (us_ret (ue_and (ue_call C_is_whole (ua_cons (uv 0) ua_nil)) (ue_one (ue_ch k_le k_le un_ (uv 0) (ug_int g_GREATEST)))))) ?_
  rintro us M Q ⟨u, rfl, ho, q⟩
  refine ⟨rfl, ?_⟩
  simp! only [uRet, items, uEnum, uZip, uEnumL]
  refine ⟨u, rfl, ho, ?_⟩
  cases u with
  | ref a => exact ho.1.elim
  | ty a => exact ho.1.elim
  | dic a b c => exact ho.1.elim
  | int i =>
    simp! only [intB, items, uEnum, uZip, uEnumL]
    simp only [numB] at q
    by_cases h : 0 ≤ i
    · simp only [h, decide_true, Bool.true_and, if_true] at q ⊢
      exact rt_same q
    · simp only [h, decide_false, Bool.false_and, Bool.false_eq_true, if_false] at q ⊢
      exact rt_same q
  | _ => simp! only [intB, items, uEnum, uZip, uEnumL]; exact rt_same q
def signB : U → Bool
  | .tup (.str z :: r) => match tabGet SIGNS z with
    | some (.int k) => decide ((r.length : Int) = k)
    | _ => false
  | _ => false
def LF (u : U) (_ : Bool) : Prop := plain u ∧ signB u = false
def spSign : USp := fun us M Q => ∃ u, us = [u] ∧ ((∃ b, LF u b ∧ Q (.bl false) M) ∨ (∃ (z : Str) (r : List U), u = .tup (.str z :: r) ∧ tabGet SIGNS z = some (.int (r.length : Nat)) ∧ Q (.bl true) M))
theorem signs_int (z : Str) : tabGet SIGNS z = none ∨ ∃ k : Nat, tabGet SIGNS z = some (.int k) := by
  simp only [SIGNS, tabGet]
  split
  · exact .inr ⟨1, rfl⟩
  split
  · exact .inr ⟨2, rfl⟩
  split
  · exact .inr ⟨2, rfl⟩
  split
  · exact .inr ⟨2, rfl⟩
  exact .inl rfl
local macro_rules | `(tactic| simp_all! only [$xs,*]) => `(tactic| simp only [$xs,*, Bool.false_eq_true, Bool.not_false, Bool.not_true, List.append_nil, List.cons_append, List.getElem?_cons_succ, List.getElem?_cons_zero, List.length_cons, List.length_nil, List.map_cons, List.map_nil, List.nil_append, List.replicate, List.set_cons_succ, List.set_cons_zero, Nat.add_sub_cancel, Nat.reduceAdd, Nat.reduceSub, Nat.sub_self, Option.some.injEq, and_true, at0, at1, at2, at3, bAll, bInt1, bInt2, bIsi2, bLen, bList, bMax, bSum, bTuple, cGe, cGt, cLe, cLt, capt, decide_false, decide_true, eqS, exists_eq_left', hCons, hName, hNil, hTup, if_false, if_true, inSt, inTab, isNon, isi_NoneType_bool, isi_NoneType_dict, isi_NoneType_int, isi_NoneType_list, isi_NoneType_str, isi_NoneType_tuple, isi_bool_bool, isi_bool_dict, isi_bool_int, isi_bool_list, isi_bool_str, isi_bool_tuple, isi_dict_bool, isi_dict_dict, isi_dict_int, isi_dict_list, isi_dict_str, isi_dict_tuple, isi_int_bool, isi_int_dict, isi_int_int, isi_int_list, isi_int_str, isi_int_tuple, isi_list_bool, isi_list_dict, isi_list_int, isi_list_list, isi_list_str, isi_list_tuple, isi_str_bool, isi_str_dict, isi_str_int, isi_str_list, isi_str_str, isi_str_tuple, isi_tuple_bool, isi_tuple_dict, isi_tuple_int, isi_tuple_list, isi_tuple_str, isi_tuple_tuple, items, ixTab, mAppend, mClear, mExtend, mPop, mkL, reduceCtorEq, startU, true_and, typU, uAdd, uAddL, uAnd, uAndV, uAsg, uBM, uBM0, uBreak, uC, uCB, uCall, uCallV, uChain, uCons, uCont, uDrop, uEnum, uEqD, uEqS, uEqX, uI, uI0, uIf, uIfS, uIn, uIsN, uIter, uIx, uLst, uLtX, uNeS, uNext, uNil, uNoPart, uNot, uNotN, uNotV, uOp, uOr, uOrV, uPart, uRet, uRetN, uRng1, uRng2, uSeq, uTest, uTru, uTup, uUn, uVar, uZip, view])
theorem ok_is_sign (F : Fun K "is_sign" "is_sign" s_is_sign f fd) (hm : mg "is_sign" = some (.ref f)) (m_isinstance : mg "isinstance" = none) (m_tuple : mg "tuple" = none) (m_len : mg "len" = none) (m_str : mg "str" = none) (T_SIGNS : IsTab P w K d SIGNS) (g_SIGNS : mg "SIGNS" = some (.ref d)) : Callee P w K mg base 1 "is_sign" spSign [] := by
  refine callee2 F hm sc_is_sign (ar1 fun _ _ _ _ _ _ _ => rfl) (uss_cons (us_if (PWU.pt (uw_or (ut_not (ut_val (ue_b b_isi m_isinstance (ua_cons (uv 0) (ua_cons (ug_ty (n := "tuple") m_tuple) ua_nil))))) (uw_or (ut_c k_eqX (ue_b b_len m_len (ua_cons (uv 0) ua_nil)) un_) (uw_or1 (ut_not (ut_val (ue_b b_isi m_isinstance (ua_cons (ue_ix (uv 0) un_) (ua_cons (ug_ty (n := "str") m_str) ua_nil)))))))))
  (uss_one (us_ret ub_))
  uss_nil)
  (uss_one (us_ret (ue_and (ue_c (k_inTab T_SIGNS) (ue_ix (uv 0) un_) (ug_ref g_SIGNS)) (ue_one (ue_c k_eqX (ue_b b_len m_len (ua_cons (uv 0) ua_nil)) (ue_add (own := false) un_ (ue_dix T_SIGNS (ug_ref g_SIGNS) (ue_ix (uv 0) un_))))))))) ?_
  rintro us M Q ⟨u, rfl, h⟩
  refine ⟨rfl, ?_⟩
  have hne : ∀ n : Nat, decide (((n + 1 : Nat) : Int) = 0) = false := fun n => decide_eq_false (by omega)
  have no : ∀ (z : Str) (r : List U), tabGet SIGNS z = none → Q (.bl false) M → uAndV (uOp (inTab d SIGNS false) (uOp uIx (uVar 0) (uC (U.int 0))) (uC (U.ref d))) (uOp (uEqX false) (uCB bLen (uCons (uVar 0) uNil)) (uOp (uAdd false) (uC (U.int 1)) (uOp (ixTab d SIGNS) (uC (U.ref d)) (uOp uIx (uVar 0) (uC (U.int 0)))))) [some (.tup (.str z :: r))] M (rtU Q) := fun z r h q => by
    simp_all! only [h, Option.isSome_none, uSlX]
    exact rt_same q
  have yes : ∀ (z : Str) (r : List U) (k : Nat), tabGet SIGNS z = some (.int k) → Q (.bl (decide (r.length = k))) M → uAndV (uOp (inTab d SIGNS false) (uOp uIx (uVar 0) (uC (U.int 0))) (uC (U.ref d))) (uOp (uEqX false) (uCB bLen (uCons (uVar 0) uNil)) (uOp (uAdd false) (uC (U.int 1)) (uOp (ixTab d SIGNS) (uC (U.ref d)) (uOp uIx (uVar 0) (uC (U.int 0)))))) [some (.tup (.str z :: r))] M (rtU Q) := fun z r k h q => by
    simp_all! only [h, Option.isSome_some, Fl.u, uSlX]
    refine rt_same ?_
    have e : decide (((r.length + 1 : Nat) : Int) = 1 + (k : Int)) = decide (r.length = k) := by
      by_cases e : r.length = k
      · rw [decide_eq_true e]; exact decide_eq_true (by omega)
      · rw [decide_eq_false e]; exact decide_eq_false (by omega)
    rw [e]
    exact q
  refine seq_gen fun V1 hV1 => ?_
  refine if_gen fun A B hA hB => ?_
  rcases h with ⟨b, ⟨hp, hs⟩, q⟩ | ⟨z, r, rfl, hz, q⟩
  · have fls : A M := by
      subst hA
      simp! only [uRet, items, uEnum, uZip, uEnumL]
      exact rt_same q
    cases u with
    | tup us =>
      cases us with
      | nil => simp! only [show decide (((0 : Nat) : Int) = 0) = true from rfl, items, uEnum, uZip, uEnumL]; exact fls
      | cons x r =>
        have hx := plain_mem hp List.mem_cons_self
        cases x with
        | str z =>
          simp! only [hne, items, uEnum, uZip, uEnumL]
          subst hB
          simp only [uNext]
          subst hV1
          simp only [uRet, startU, List.length_nil, List.length_cons, List.map_cons, List.map_nil, Nat.sub_self, List.replicate, List.append_nil, Nat.reduceAdd]
          simp only [signB] at hs
          rcases signs_int z with h | ⟨k, h⟩
          · exact no z r h q
          · rw [h] at hs
            simp only [decide_eq_false_iff_not, Int.natCast_inj] at hs
            exact yes z r k h (by rw [decide_eq_false hs]; exact q)
        | ref a => exact hx.1.elim
        | ty a => exact hx.1.elim
        | dic a b c => exact hx.1.elim
        | _ => simp! only [hne, items, uEnum, uZip, uEnumL]; exact fls
    | ref a => exact hp.1.elim
    | ty a => exact hp.1.elim
    | dic a b c => exact hp.1.elim
    | _ => simp! only [items, uEnum, uZip, uEnumL]; exact fls
  · simp! only [hne, items, uEnum, uZip, uEnumL]
    subst hB
    simp only [uNext]
    subst hV1
    simp only [uRet, startU, List.length_nil, List.length_cons, List.map_cons, List.map_nil, Nat.sub_self, List.replicate, List.append_nil, Nat.reduceAdd]
    exact yes z r r.length hz (by rw [decide_eq_true rfl]; exact q)
def leafB (cs : List Str) : U → Bool
  | .tup (.str z :: r) => if z = Str.ofString "at" then (match r with | [x] => inS cs x | _ => false) else if z = Str.ofString "from" then (match r with | [a, b] => numB a && (numB b && (match a, b with | .int i, .int j => decide (i ≤ j) | _, _ => false)) | _ => false) else decide (z = Str.ofString "any") && r.isEmpty
  | _ => false
def spPLeaf : USp := fun us M Q => ∃ (u : U) (cs : List Str), us = [u, .tup (cs.map U.str)] ∧ plain u ∧ (∀ c ∈ cs, PyData.strOk c = true) ∧ Q (.bl (leafB cs u)) M
theorem eq_any {x : U} {r : List U} {M : MHp} {Q : UK} (h : plain (.tup (x :: r))) (q : Q (.bl (isS (Str.ofString "any") x && r.isEmpty)) M) : uEqX false (.tup (x :: r)) (.tup [.str (Str.ofString "any")]) M Q := by
  obtain ⟨h1, d, e, h2, h3⟩ := h
  have e' := e
  simp only [toD, Option.map_eq_some_iff] at e'
  obtain ⟨ds, e1, rfl⟩ := e'
  refine ⟨_, _, e, rfl, h2, by decide +kernel, by simp only [PyData.depth, PyData.depthAll]; omega, ?_⟩
  simp only [toDs] at e1
  cases hx : toD x with
  | none => rw [hx] at e1; cases e1
  | some dx =>
    cases hr : toDs r with
    | none => rw [hx, hr] at e1; cases e1
    | some dr =>
      rw [hx, hr] at e1
      cases e1
      have a1 : PyData.eqv (.tuple (dx :: dr)) (.tuple [.str (Str.ofString "any")]) = (isS (Str.ofString "any") x && r.isEmpty) := by
        have b1 : PyData.eqv dx (.str (Str.ofString "any")) = isS (Str.ofString "any") x := by
          simp only [pl, pls] at h1
          cases x with
          | str y => cases hx; simp only [isS, PyData.eqv]; exact beq_dec _ _
          | tup us => simp only [toD, Option.map_eq_some_iff] at hx; obtain ⟨ds, e, rfl⟩ := hx; rfl
          | lst us => simp only [toD, Option.map_eq_some_iff] at hx; obtain ⟨ds, e, rfl⟩ := hx; rfl
          | ty _ => exact h1.2.1.elim
          | ref _ => exact h1.2.1.elim
          | dic _ _ _ => exact h1.2.1.elim
          | _ => cases hx; rfl
        have b2 : PyData.eqvAll dr [] = r.isEmpty := by
          cases r with
          | nil => cases hr; rfl
          | cons y r =>
            simp only [toDs] at hr
            cases hy : toD y with
            | none => rw [hy] at hr; cases hr
            | some dy =>
              cases hz : toDs r with
              | none => rw [hy, hz] at hr; cases hr
              | some dz => rw [hy, hz] at hr; cases hr; rfl
        simp only [PyData.eqv, PyData.eqvAll] at b1 b2 ⊢
        rw [b1, b2]
      simp only [Bool.false_eq_true, if_false]
      rw [a1]; exact q
theorem ok_pleaf (F : Fun K "is_pattern_leaf" "is_pattern_leaf" s_is_pattern_leaf f fd) (hm : mg "is_pattern_leaf" = some (.ref f)) (m_isinstance : mg "isinstance" = none) (m_tuple : mg "tuple" = none) (m_len : mg "len" = none) (C_is_number : Callee P w K mg base 2 "is_number" spNumber []) : Callee P w K mg base 3 "is_pattern_leaf" spPLeaf [] := by
  refine callee2 F hm sc_is_pattern_leaf (ar2 fun _ _ _ _ _ _ _ _ => rfl) (uss_cons (us_if (PWU.pt (uw_or (ut_not (ut_val (ue_b b_isi m_isinstance (ua_cons (uv 0) (ua_cons (ug_ty (n := "tuple") m_tuple) ua_nil))))) (uw_or1 (ut_c k_eqX (ue_b b_len m_len (ua_cons (uv 0) ua_nil)) un_))))
  (uss_one (us_ret ub_))
  uss_nil)
  (uss_cons (us_if (ut_c k_eqX (ue_ix (uv 0) un_) us_)
  (uss_one (us_ret (ue_and (ue_c k_eqX (ue_b b_len m_len (ua_cons (uv 0) ua_nil)) un_) (ue_one (ue_c k_inD (ue_ix (uv 0) un_) (uv 1))))))
  uss_nil)
  (uss_cons (us_if (ut_c k_eqX (ue_ix (uv 0) un_) us_)
  (uss_one (us_ret (ue_and (ue_c k_eqX (ue_b b_len m_len (ua_cons (uv 0) ua_nil)) un_) (ue_and (ue_call C_is_number (ua_cons (ue_ix (uv 0) un_) ua_nil)) (ue_and (ue_call C_is_number (ua_cons (ue_ix (uv 0) un_) ua_nil)) (ue_one (ue_c k_le (ue_ix (uv 0) un_) (ue_ix (uv 0) un_))))))))
  uss_nil)
  (uss_one (us_ret (ue_c k_eqX (uv 0) (ue_tup (ua_cons us_ ua_nil)))))))) ?_
  rintro us M Q ⟨u, cs, rfl, hp, hc, q⟩
  refine ⟨rfl, ?_⟩
  have hne : ∀ n : Nat, decide (((n + 1 : Nat) : Int) = 0) = false := fun n => decide_eq_false (by omega)
  have sat : PyData.strOk (Str.ofString "at") = true := by decide +kernel
  have sfr : PyData.strOk (Str.ofString "from") = true := by decide +kernel
  refine seq_gen fun V1 hV1 => ?_
  refine if_gen fun A B hA hB => ?_
  cases u with
  | tup us =>
    cases us with
    | nil =>
      simp! only [show decide (((0 : Nat) : Int) = 0) = true from rfl, items, uEnum, uZip, uEnumL]
      subst hA
      simp! only [uRet, items, uEnum, uZip, uEnumL]
      exact rt_same q
    | cons x r =>
      have hx := plain_mem hp List.mem_cons_self
      have hl := plain_len hp
      simp! only [hne, items, uEnum, uZip, uEnumL]
      subst hB
      simp only [uNext]
      subst hV1
      refine seq_gen fun V2 hV2 => ?_
      refine if_gen fun A B hA hB => ?_
      simp! only [items, uEnum, uZip, uEnumL]
      refine eq_str hx sat ?_
      have n2 : ∀ n : Nat, decide (((n + 1 + 1 + 1 + 1 : Nat) : Int) = 2) = false := fun n => decide_eq_false (by omega)
      have n3 : ∀ n : Nat, decide (((n + 1 + 1 + 1 + 1 : Nat) : Int) = 3) = false := fun n => decide_eq_false (by omega)
      have d1 : decide (((0 + 1 : Nat) : Int) = 2) = false := rfl
      have d2 : decide (((0 + 1 + 1 : Nat) : Int) = 2) = true := rfl
      have d3 : decide (((0 + 1 + 1 + 1 : Nat) : Int) = 2) = false := rfl
      have c1 : decide (((0 + 1 : Nat) : Int) = 3) = false := rfl
      have c2 : decide (((0 + 1 + 1 : Nat) : Int) = 3) = false := rfl
      have c3 : decide (((0 + 1 + 1 + 1 : Nat) : Int) = 3) = true := rfl
      have hra : ∀ y ∈ r, plain y := fun y hy => plain_mem hp (List.mem_cons_of_mem _ hy)
      have three : isS (Str.ofString "at") x = false → isS (Str.ofString "from") x = false → Q (.bl (isS (Str.ofString "any") x && r.isEmpty)) M → B M := fun h1 h2 q => by
        subst hB
        simp only [uNext]
        subst hV2
        refine seq_gen fun V3 hV3 => ?_
        refine if_gen fun A B hA hB => ?_
        simp! only [items, uEnum, uZip, uEnumL]
        refine eq_str hx sfr ?_
        simp! only [h2, items, uEnum, uZip, uEnumL]
        subst hB
        simp only [uNext]
        subst hV3
        simp! only [uRet, items, uEnum, uZip, uEnumL]
        exact eq_any hp (rt_same q)
      cases x with
      | str z =>
        by_cases hz : z = Str.ofString "at"
        · subst hz
          simp only [isS, leafB, decide_true, if_true] at q ⊢
          subst hA
          rcases r with _ | ⟨a, _ | ⟨b, _ | ⟨c, r⟩⟩⟩
          · simp! only [uRet, d1, items, uEnum, uZip, uEnumL]; exact rt_same q
          · simp! only [uRet, d2, items, uEnum, uZip, uEnumL]
            exact in_strs (neg := false) (hra a (by simp)) hc (rt_same q)
          · simp! only [uRet, d3, items, uEnum, uZip, uEnumL]; exact rt_same q
          · simp! only [uRet, n2, items, uEnum, uZip, uEnumL]; exact rt_same q
        · by_cases hz2 : z = Str.ofString "from"
          · subst hz2
            simp only [isS, leafB, hz, decide_true, decide_false, if_true, if_false, Bool.false_eq_true] at q ⊢
            subst hB
            simp only [uNext]
            subst hV2
            refine seq_gen fun V3 hV3 => ?_
            refine if_gen fun A B hA hB => ?_
            simp! only [items, uEnum, uZip, uEnumL]
            subst hA
            rcases r with _ | ⟨a, _ | ⟨b, _ | ⟨c, r⟩⟩⟩
            · simp! only [uRet, c1, items, uEnum, uZip, uEnumL]; exact rt_same q
            · simp! only [uRet, c2, items, uEnum, uZip, uEnumL]; exact rt_same q
            · simp! only [uRet, c3, items, uEnum, uZip, uEnumL]
              dsimp only at q
              refine ⟨a, rfl, hra a (by simp), ?_⟩
              cases ha : numB a with
              | false =>
                rw [ha] at q
                simp! only [items, uEnum, uZip, uEnumL]
                exact rt_same q
              | true =>
                rw [ha] at q
                simp! only [items, uEnum, uZip, uEnumL]
                refine ⟨b, rfl, hra b (by simp), ?_⟩
                cases hb : numB b with
                | false =>
                  rw [hb] at q
                  simp! only [items, uEnum, uZip, uEnumL]
                  exact rt_same q
                | true =>
                  rw [hb] at q
                  cases a <;> first | cases ha | skip
                  cases b <;> first | cases hb | skip
                  simp! only [items, uEnum, uZip, uEnumL]
                  exact rt_same q
            · simp! only [uRet, n3, items, uEnum, uZip, uEnumL]; exact rt_same q
          · simp only [isS, leafB, hz, hz2, decide_false, if_false, Bool.false_eq_true] at q ⊢
            exact three (by simp [isS, hz]) (by simp [isS, hz2]) q
      | ref a => exact hx.1.elim
      | ty a => exact hx.1.elim
      | dic a b c => exact hx.1.elim
      | _ => exact three rfl rfl q
  | ref a => exact hp.1.elim
  | ty a => exact hp.1.elim
  | dic a b c => exact hp.1.elim
  | _ =>
    simp! only [items, uEnum, uZip, uEnumL]
    subst hA
    simp! only [uRet, items, uEnum, uZip, uEnumL]
    exact rt_same q
inductive Op where
  | sum | less | by_
def Op.word : Op → Str
  | .sum => "sum" | .less => "less" | .by_ => "by"
inductive Tr where
  | num (n : Int) | name (x : Str) | turn (a : Tr) | two (o : Op) (a b : Tr)
def Tr.toU : Tr → U
  | .num n => .tup [.str "num", .int n]
  | .name x => .tup [.str "name", .str x]
  | .turn a => .tup [.str "turn", a.toU]
  | .two o a b => .tup [.str o.word, a.toU, b.toU]
def Tr.ok : Tr → Prop
  | .num _ => True
  | .name x => PyData.strOk x = true ∧ x.length ≤ 100
  | .turn a => a.ok
  | .two _ a b => a.ok ∧ b.ok
def Tr.dep : Tr → Nat
  | .num _ => 1
  | .name _ => 1
  | .turn a => a.dep + 1
  | .two _ a b => max a.dep b.dep + 1
inductive Pt where
  | hole (c : Str) | any | fr (l h : Int) | turn (a : Pt) | two (o : Op) (a b : Pt)
def Pt.toU : Pt → U
  | .hole c => .tup [.str "at", .str c]
  | .any => .tup [.str "any"]
  | .fr l h => .tup [.str "from", .int l, .int h]
  | .turn a => .tup [.str "turn", a.toU]
  | .two o a b => .tup [.str o.word, a.toU, b.toU]
def Pt.ok : Pt → Prop
  | .hole c => PyData.strOk c = true
  | .any => True
  | .fr l h => 0 ≤ l ∧ l ≤ h
  | .turn a => a.ok
  | .two _ a b => a.ok ∧ b.ok
def Pt.dep : Pt → Nat
  | .hole _ => 1
  | .any => 1
  | .fr _ _ => 1
  | .turn a => a.dep + 1
  | .two _ a b => max a.dep b.dep + 1
def Pt.holes : Pt → Nat
  | .hole _ => 1
  | .any => 0
  | .fr _ _ => 0
  | .turn a => a.holes
  | .two _ a b => a.holes + b.holes
def Pt.leafy : Pt → Bool
  | .turn _ => false
  | .two _ _ _ => false
  | _ => true
def Pt.ends : Pt → List Pt
  | .turn a => a.ends
  | .two _ a b => a.ends ++ b.ends
  | p => [p]
instance : DecidableEq Op := fun a b => by cases a <;> cases b <;> first | exact isTrue rfl | exact isFalse (fun h => nomatch h)
def lieF : Pt → Tr → Bool
  | .hole _, _ => true
  | .any, .name _ => true
  | .any, _ => false
  | .fr l h, .num n => decide (l ≤ n) && decide (n ≤ h)
  | .fr _ _, _ => false
  | .turn p, .turn a => lieF p a
  | .turn _, _ => false
  | .two o p q, .two o' a b => decide (o = o') && (lieF p a && lieF q b)
  | .two _ _ _, _ => false
theorem app_toList (x y : Str) : (x ++ y).cps.toList = x.cps.toList ++ y.cps.toList := by
  show (x.cps ++ y.cps).toList = _
  simp
theorem atI_mem {α : Type} {l : List α} {i : Int} {c : α} (h : atI l i = some c) : c ∈ l := by
  unfold atI at h
  cases e : ixN l.length i with
  | none => rw [e] at h; cases h
  | some j => rw [e] at h; exact List.mem_of_getElem? h
theorem w_at_any : (Str.ofString "at" = Str.ofString "any") = False := eq_false (by decide +kernel)
theorem w_at_from : (Str.ofString "at" = Str.ofString "from") = False := eq_false (by decide +kernel)
theorem w_at_turn : (Str.ofString "at" = Str.ofString "turn") = False := eq_false (by decide +kernel)
theorem w_at_num : (Str.ofString "at" = Str.ofString "num") = False := eq_false (by decide +kernel)
theorem w_at_name : (Str.ofString "at" = Str.ofString "name") = False := eq_false (by decide +kernel)
theorem w_any_at : (Str.ofString "any" = Str.ofString "at") = False := eq_false (by decide +kernel)
theorem w_any_from : (Str.ofString "any" = Str.ofString "from") = False := eq_false (by decide +kernel)
theorem w_any_turn : (Str.ofString "any" = Str.ofString "turn") = False := eq_false (by decide +kernel)
theorem w_any_num : (Str.ofString "any" = Str.ofString "num") = False := eq_false (by decide +kernel)
theorem w_any_name : (Str.ofString "any" = Str.ofString "name") = False := eq_false (by decide +kernel)
theorem w_from_at : (Str.ofString "from" = Str.ofString "at") = False := eq_false (by decide +kernel)
theorem w_from_any : (Str.ofString "from" = Str.ofString "any") = False := eq_false (by decide +kernel)
theorem w_from_turn : (Str.ofString "from" = Str.ofString "turn") = False := eq_false (by decide +kernel)
theorem w_from_num : (Str.ofString "from" = Str.ofString "num") = False := eq_false (by decide +kernel)
theorem w_from_name : (Str.ofString "from" = Str.ofString "name") = False := eq_false (by decide +kernel)
theorem w_turn_at : (Str.ofString "turn" = Str.ofString "at") = False := eq_false (by decide +kernel)
theorem w_turn_any : (Str.ofString "turn" = Str.ofString "any") = False := eq_false (by decide +kernel)
theorem w_turn_from : (Str.ofString "turn" = Str.ofString "from") = False := eq_false (by decide +kernel)
theorem w_turn_num : (Str.ofString "turn" = Str.ofString "num") = False := eq_false (by decide +kernel)
theorem w_turn_name : (Str.ofString "turn" = Str.ofString "name") = False := eq_false (by decide +kernel)
theorem w_num_at : (Str.ofString "num" = Str.ofString "at") = False := eq_false (by decide +kernel)
theorem w_num_any : (Str.ofString "num" = Str.ofString "any") = False := eq_false (by decide +kernel)
theorem w_num_from : (Str.ofString "num" = Str.ofString "from") = False := eq_false (by decide +kernel)
theorem w_num_turn : (Str.ofString "num" = Str.ofString "turn") = False := eq_false (by decide +kernel)
theorem w_num_name : (Str.ofString "num" = Str.ofString "name") = False := eq_false (by decide +kernel)
theorem w_name_at : (Str.ofString "name" = Str.ofString "at") = False := eq_false (by decide +kernel)
theorem w_name_any : (Str.ofString "name" = Str.ofString "any") = False := eq_false (by decide +kernel)
theorem w_name_from : (Str.ofString "name" = Str.ofString "from") = False := eq_false (by decide +kernel)
theorem w_name_turn : (Str.ofString "name" = Str.ofString "turn") = False := eq_false (by decide +kernel)
theorem w_name_num : (Str.ofString "name" = Str.ofString "num") = False := eq_false (by decide +kernel)
theorem w_o_at (o : Op) : (o.word = Str.ofString "at") = False := eq_false (by cases o <;> decide +kernel)
theorem w_o_any (o : Op) : (o.word = Str.ofString "any") = False := eq_false (by cases o <;> decide +kernel)
theorem w_o_from (o : Op) : (o.word = Str.ofString "from") = False := eq_false (by cases o <;> decide +kernel)
theorem w_o_turn (o : Op) : (o.word = Str.ofString "turn") = False := eq_false (by cases o <;> decide +kernel)
theorem w_o_num (o : Op) : (o.word = Str.ofString "num") = False := eq_false (by cases o <;> decide +kernel)
theorem w_o_name (o : Op) : (o.word = Str.ofString "name") = False := eq_false (by cases o <;> decide +kernel)
theorem w_at_o (o : Op) : (Str.ofString "at" = o.word) = False := eq_false (by cases o <;> decide +kernel)
theorem w_any_o (o : Op) : (Str.ofString "any" = o.word) = False := eq_false (by cases o <;> decide +kernel)
theorem w_from_o (o : Op) : (Str.ofString "from" = o.word) = False := eq_false (by cases o <;> decide +kernel)
theorem w_turn_o (o : Op) : (Str.ofString "turn" = o.word) = False := eq_false (by cases o <;> decide +kernel)
theorem w_num_o (o : Op) : (Str.ofString "num" = o.word) = False := eq_false (by cases o <;> decide +kernel)
theorem w_name_o (o : Op) : (Str.ofString "name" = o.word) = False := eq_false (by cases o <;> decide +kernel)
theorem wwa : (Str.ofString "at" = Str.ofString "any") = False ∧ (Str.ofString "at" = Str.ofString "from") = False ∧ (Str.ofString "at" = Str.ofString "turn") = False ∧ (Str.ofString "at" = Str.ofString "num") = False ∧ (Str.ofString "at" = Str.ofString "name") = False ∧ (Str.ofString "any" = Str.ofString "at") = False := ⟨w_at_any, w_at_from, w_at_turn, w_at_num, w_at_name, w_any_at⟩
theorem wwb : (Str.ofString "any" = Str.ofString "from") = False ∧ (Str.ofString "any" = Str.ofString "turn") = False ∧ (Str.ofString "any" = Str.ofString "num") = False ∧ (Str.ofString "any" = Str.ofString "name") = False ∧ (Str.ofString "from" = Str.ofString "at") = False ∧ (Str.ofString "from" = Str.ofString "any") = False := ⟨w_any_from, w_any_turn, w_any_num, w_any_name, w_from_at, w_from_any⟩
theorem wwc : (Str.ofString "from" = Str.ofString "turn") = False ∧ (Str.ofString "from" = Str.ofString "num") = False ∧ (Str.ofString "from" = Str.ofString "name") = False ∧ (Str.ofString "turn" = Str.ofString "at") = False ∧ (Str.ofString "turn" = Str.ofString "any") = False ∧ (Str.ofString "turn" = Str.ofString "from") = False := ⟨w_from_turn, w_from_num, w_from_name, w_turn_at, w_turn_any, w_turn_from⟩
theorem wwd : (Str.ofString "turn" = Str.ofString "num") = False ∧ (Str.ofString "turn" = Str.ofString "name") = False ∧ (Str.ofString "num" = Str.ofString "at") = False ∧ (Str.ofString "num" = Str.ofString "any") = False ∧ (Str.ofString "num" = Str.ofString "from") = False ∧ (Str.ofString "num" = Str.ofString "turn") = False := ⟨w_turn_num, w_turn_name, w_num_at, w_num_any, w_num_from, w_num_turn⟩
theorem wwe : (Str.ofString "num" = Str.ofString "name") = False ∧ (Str.ofString "name" = Str.ofString "at") = False ∧ (Str.ofString "name" = Str.ofString "any") = False ∧ (Str.ofString "name" = Str.ofString "from") = False ∧ (Str.ofString "name" = Str.ofString "turn") = False ∧ (Str.ofString "name" = Str.ofString "num") = False := ⟨w_num_name, w_name_at, w_name_any, w_name_from, w_name_turn, w_name_num⟩
theorem wwf : (∀ o : Op, (o.word = Str.ofString "at") = False) ∧ (∀ o : Op, (o.word = Str.ofString "any") = False) ∧ (∀ o : Op, (o.word = Str.ofString "from") = False) ∧ (∀ o : Op, (o.word = Str.ofString "turn") = False) ∧ (∀ o : Op, (o.word = Str.ofString "num") = False) ∧ (∀ o : Op, (o.word = Str.ofString "name") = False) := ⟨w_o_at, w_o_any, w_o_from, w_o_turn, w_o_num, w_o_name⟩
theorem wwg : (∀ o : Op, (Str.ofString "at" = o.word) = False) ∧ (∀ o : Op, (Str.ofString "any" = o.word) = False) ∧ (∀ o : Op, (Str.ofString "from" = o.word) = False) ∧ (∀ o : Op, (Str.ofString "turn" = o.word) = False) ∧ (∀ o : Op, (Str.ofString "num" = o.word) = False) ∧ (∀ o : Op, (Str.ofString "name" = o.word) = False) := ⟨w_at_o, w_any_o, w_from_o, w_turn_o, w_num_o, w_name_o⟩
def ABC : Str := Str.ofString "abcdefghijklmnopqrstuvwxyz"
theorem len_app (x y : Str) : (x ++ y).length = x.length + y.length := by
  show (x.cps ++ y.cps).size = x.cps.size + y.cps.size
  simp
def spPartsG : USp := fun us M Q => ∃ (z : Str) (r : List U) (b : Bool), us = [.tup (.str z :: r)] ∧ (tabGet SIGNS z).isSome = b ∧ r.length ≤ 1000 ∧ Q (.tup (if b then r else [])) M
local macro_rules | `(tactic| dsimp! only [$xs,*] $[$l]?) => `(tactic| simp only [$xs,*, Bool.false_eq_true, Bool.not_false, Bool.not_true, List.append_nil, List.cons_append, List.getElem?_cons_succ, List.getElem?_cons_zero, List.length_cons, List.length_nil, List.map_cons, List.map_nil, List.nil_append, List.replicate, List.set_cons_succ, List.set_cons_zero, Nat.add_sub_cancel, Nat.reduceAdd, Nat.reduceLeDiff, Nat.reduceSub, Nat.sub_self, Option.getD_some, Option.some.injEq, and_true, at0, at1, at2, at3, bAll, bInt, bInt1, bInt2, bIsi2, bLen, bList, bMax, bSum, bTuple, cGe, cGt, cLe, cLt, capt, decide_false, decide_true, eqX_int, eqX_str, exists_eq_left', hCons, hName, hNil, hTup, if_false, if_true, inSt, inTab, isNon, isi_NoneType_bool, isi_NoneType_dict, isi_NoneType_int, isi_NoneType_list, isi_NoneType_str, isi_NoneType_tuple, isi_bool_bool, isi_bool_dict, isi_bool_int, isi_bool_list, isi_bool_str, isi_bool_tuple, isi_dict_bool, isi_dict_dict, isi_dict_int, isi_dict_list, isi_dict_str, isi_dict_tuple, isi_int_bool, isi_int_dict, isi_int_int, isi_int_list, isi_int_str, isi_int_tuple, isi_list_bool, isi_list_dict, isi_list_int, isi_list_list, isi_list_str, isi_list_tuple, isi_str_bool, isi_str_dict, isi_str_int, isi_str_list, isi_str_str, isi_str_tuple, isi_tuple_bool, isi_tuple_dict, isi_tuple_int, isi_tuple_list, isi_tuple_str, isi_tuple_tuple, items, ixTab, mAppend, mClear, mExtend, mPop, mPopAt, mkL, mup_mup, mup_same, reduceCtorEq, startU, szl, true_and, typU, uAdd, uAddL, uAnd, uAndV, uAsg, uBM, uBM0, uBreak, uC, uCB, uCall, uCallV, uChain, uCons, uCont, uDrop, uEqS, uI, uI0, uIf, uIfS, uIn, uIsN, uIter, uIx, uLst, uLtX, uMul, uNeS, uNext, uNil, uNoPart, uNot, uNotN, uNotV, uOp, uOr, uOrV, uPart, uRet, uRetN, uRng1, uRng2, uSeq, uSetI, uSlX, uTest, uTru, uTup, uUn, uVar, vw_bl, vw_int, vw_lst, vw_non, vw_own, vw_str, vw_tup] $[$l]?)
theorem ok_parts_of (F : Fun K "parts_of" "parts_of" s_parts_of f fd) (hm : mg "parts_of" = some (.ref f)) (T_SIGNS : IsTab P w K d SIGNS) (g_SIGNS : mg "SIGNS" = some (.ref d)) : Callee P w K mg base 1 "parts_of" spPartsG [] := by
  refine callee2 F hm sc_parts_of (ar1 fun _ _ _ _ _ _ _ => rfl) (uss_one (us_ret (ue_if (ut_c (k_inTab T_SIGNS) (ue_ix (uv 0) un_) (ug_ref g_SIGNS)) (ue_slX (own := false) (uv 0) (uo_some un_) uo_none) (ue_tup ua_nil)))) ?_
  rintro us M Q ⟨z, r, b, rfl, hb, hl, q⟩
  refine ⟨rfl, ?_⟩
  dsimp! only [hb]
  cases b with
  | true =>
    dsimp! only [cut1]
    exact rt_same q
  | false =>
    dsimp! only [true_and]
    exact rt_same q
theorem sg_turn : (tabGet SIGNS (Str.ofString "turn")).isSome = true := by decide +kernel
theorem sg_two (o : Op) : (tabGet SIGNS o.word).isSome = true := by cases o <;> decide +kernel
theorem pdep_pos : ∀ p : Pt, 1 ≤ p.dep
  | .hole _ => Nat.le_refl _
  | .any => Nat.le_refl _
  | .fr _ _ => Nat.le_refl _
  | .turn a => by simp only [Pt.dep]; omega
  | .two o a b => by simp only [Pt.dep]; omega
theorem mulL {i j : Int} (h1 : -(2 ^ 64) < i) (h2 : i < 2 ^ 64) : CMulB i j := .inl (.inl ⟨h1, h2⟩)
theorem mulR {i j : Int} (h1 : -(2 ^ 64) < j) (h2 : j < 2 ^ 64) : CMulB i j := .inl (.inr ⟨h1, h2⟩)
def sortsU (l : List Str) : U := .tup (l.map .str)
def datP : Pt → PyData
  | .hole c => .tuple [.str "at", .str c]
  | .any => .tuple [.str "any"]
  | .fr l h => .tuple [.str "from", .int l, .int h]
  | .turn a => .tuple [.str "turn", datP a]
  | .two o a b => .tuple [.str o.word, datP a, datP b]
theorem toD_P : ∀ p : Pt, toD p.toU = some (datP p)
  | .hole c => by simp [Pt.toU, toD, toDs, datP]
  | .any => by simp [Pt.toU, toD, toDs, datP]
  | .fr l h => by simp [Pt.toU, toD, toDs, datP]
  | .turn a => by simp [Pt.toU, toD, toDs, datP, toD_P a]
  | .two o a b => by simp [Pt.toU, toD, toDs, datP, toD_P a, toD_P b]
theorem layP : ∀ p : Pt, p.ok → (datP p).canLay0 = true
  | .hole c, h => by
    have h' : PyData.strOk c = true := h
    simp only [datP, PyData.canLay0, PyData.canLayAll0, h']; decide +kernel
  | .any, _ => by decide +kernel
  | .fr l h, _ => by simp only [datP, PyData.canLay0, PyData.canLayAll0]; decide +kernel
  | .turn a, h => by simp only [datP, PyData.canLay0, PyData.canLayAll0, layP a h]; decide +kernel
  | .two o a b, h => by
    have : PyData.strOk o.word = true := by cases o <;> decide +kernel
    simp only [datP, PyData.canLay0, PyData.canLayAll0, layP a h.1, layP b h.2, this]; decide +kernel
def datT : Tr → PyData
  | .num n => .tuple [.str "num", .int n]
  | .name x => .tuple [.str "name", .str x]
  | .turn a => .tuple [.str "turn", datT a]
  | .two o a b => .tuple [.str o.word, datT a, datT b]
theorem toD_T : ∀ p : Tr, toD p.toU = some (datT p)
  | .num c => by simp [Tr.toU, toD, toDs, datT]
  | .name c => by simp [Tr.toU, toD, toDs, datT]
  | .turn a => by simp [Tr.toU, toD, toDs, datT, toD_T a]
  | .two o a b => by simp [Tr.toU, toD, toDs, datT, toD_T a, toD_T b]
theorem layT : ∀ p : Tr, p.ok → (datT p).canLay0 = true
  | .num c, h => by simp only [datT, PyData.canLay0, PyData.canLayAll0]; decide +kernel
  | .name c, h => by
    have h' : PyData.strOk c = true := h.1
    simp only [datT, PyData.canLay0, PyData.canLayAll0, h']; decide +kernel
  | .turn a, h => by simp only [datT, PyData.canLay0, PyData.canLayAll0, layT a h]; decide +kernel
  | .two o a b, h => by
    have : PyData.strOk o.word = true := by cases o <;> decide +kernel
    simp only [datT, PyData.canLay0, PyData.canLayAll0, layT a h.1, layT b h.2, this]; decide +kernel
def entP (p : Pt) : U := .tup [p.toU, .int (p.dep : Nat)]
def sumH : List Pt → Nat
  | [] => 0
  | p :: r => p.holes + sumH r
theorem sumH_app : ∀ l r : List Pt, sumH (l ++ r) = sumH l + sumH r
  | [], _ => by simp [sumH]
  | t :: l, r => by simp [sumH, sumH_app l r]; omega
theorem last2 {α : Type} (m : List α) : m = [] ∨ (∃ t, m = [t]) ∨ ∃ r s t, m = r ++ [s, t] := by
  have key : ∀ l : List α, l.reverse = [] ∨ (∃ t, l.reverse = [t]) ∨ ∃ r s t, l.reverse = r ++ [s, t] := by
    intro l
    cases l with
    | nil => exact .inl rfl
    | cons a l => cases l with
      | nil => exact .inr (.inl ⟨a, rfl⟩)
      | cons b l => exact .inr (.inr ⟨l.reverse, b, a, by simp⟩)
  have := key m.reverse
  rw [List.reverse_reverse] at this
  exact this
def op3 (n : Int) : Op := if n % 3 = 0 then .sum else if n % 3 = 1 then .less else .by_
def placeU (p : List Nat) : U := .tup (p.map fun (n : Nat) => .int (n : Int))
def entE (x : List Nat × Pt) : U := .tup [placeU x.1, x.2.toU]
def endsP : Pt → List Nat → List (List Nat × Pt)
  | .turn a, pl => endsP a (pl ++ [0])
  | .two _ a b, pl => endsP a (pl ++ [0]) ++ endsP b (pl ++ [1])
  | p, pl => [(pl, p)]
theorem endsP_ends : ∀ (p : Pt) (pl : List Nat), (endsP p pl).map (·.2) = p.ends
  | .turn a, pl => by simp only [endsP, Pt.ends, endsP_ends a]
  | .two _ a b, pl => by simp only [endsP, Pt.ends, List.map_append, endsP_ends a, endsP_ends b]
  | .hole _, pl => rfl
  | .any, pl => rfl
  | .fr _ _, pl => rfl
def bearF : Pt → Tr → List U
  | .any, .name x => [.str x]
  | .fr _ _, .num n => [.int n]
  | .turn p, .turn a => bearF p a
  | .two _ p q, .two _ a b => bearF p a ++ bearF q b
  | _, _ => []
def uIsB : UR2 := fun x y M Q => match x, y with
  | .bl i, .bl j => Q (.bl (decide (i = j))) M
  | _, _ => False
def Pt.parts : Pt → List Pt
  | .turn a => [a]
  | .two _ a b => [a, b]
  | _ => []
def subsP : Pt → List Nat → List (List Nat × Pt)
  | .turn a, pl => (pl, .turn a) :: subsP a (pl ++ [0])
  | .two o a b, pl => (pl, .two o a b) :: (subsP a (pl ++ [0]) ++ subsP b (pl ++ [1]))
  | p, pl => [(pl, p)]
def Pt.places : Pt → List (List Nat)
  | .turn a => [] :: a.places.map (0 :: ·)
  | .two _ a b => [] :: (a.places.map (0 :: ·) ++ b.places.map (1 :: ·))
  | _ => [[]]
theorem subs_places : ∀ (p : Pt) (pl : List Nat), (subsP p pl).map (·.1) = p.places.map (pl ++ ·)
  | .turn a, pl => by simp [subsP, Pt.places, subs_places a]
  | .two o a b, pl => by
    simp only [subsP, Pt.places, List.map_cons, List.map_append, subs_places a, subs_places b, List.map_map, List.append_nil]
    simp [Function.comp_def]
  | .hole _, pl => by simp [subsP, Pt.places]
  | .any, pl => by simp [subsP, Pt.places]
  | .fr _ _, pl => by simp [subsP, Pt.places]
theorem subs_ends : ∀ (p : Pt) (pl : List Nat), (subsP p pl).filter (fun e => e.2.leafy) = endsP p pl
  | .turn a, pl => by rw [subsP, List.filter_cons_of_neg (by simp [Pt.leafy]), subs_ends a]; rfl
  | .two o a b, pl => by rw [subsP, List.filter_cons_of_neg (by simp [Pt.leafy]), List.filter_append, subs_ends a, subs_ends b]; rfl
  | .hole _, pl => rfl
  | .any, pl => rfl
  | .fr _ _, pl => rfl
theorem places_len : ∀ p : Pt, p.places.length < 2 ^ p.dep
  | .turn a => by have := places_len a; simp only [Pt.places, Pt.dep, List.length_cons, List.length_map, Nat.pow_succ]; omega
  | .two _ a b => by
    have h1 := places_len a
    have h2 := places_len b
    have h3 : 2 ^ a.dep ≤ 2 ^ max a.dep b.dep := Nat.pow_le_pow_right (by decide) (Nat.le_max_left _ _)
    have h4 : 2 ^ b.dep ≤ 2 ^ max a.dep b.dep := Nat.pow_le_pow_right (by decide) (Nat.le_max_right _ _)
    simp only [Pt.places, Pt.dep, Nat.pow_succ, List.length_cons, List.length_append, List.length_map]; omega
  | .hole _ => by simp [Pt.places, Pt.dep]
  | .any => by simp [Pt.places, Pt.dep]
  | .fr _ _ => by simp [Pt.places, Pt.dep]
theorem place_short : ∀ (p : Pt) (pl : List Nat), pl ∈ p.places → pl.length < p.dep
  | .turn a, pl, h => by
    simp only [Pt.places, List.mem_cons, List.mem_map] at h
    rcases h with rfl | ⟨q, hq, rfl⟩
    · simp [Pt.dep]
    · have := place_short a q hq; simp only [Pt.dep, List.length_cons]; omega
  | .two o a b, pl, h => by
    simp only [Pt.places, List.mem_cons, List.mem_append, List.mem_map] at h
    rcases h with rfl | ⟨q, hq, rfl⟩ | ⟨q, hq, rfl⟩
    · simp [Pt.dep]
    · have := place_short a q hq; simp only [Pt.dep, List.length_cons]; omega
    · have := place_short b q hq; simp only [Pt.dep, List.length_cons]; omega
  | .hole _, pl, h => by simp [Pt.places] at h; subst h; simp [Pt.dep]
  | .any, pl, h => by simp [Pt.places] at h; subst h; simp [Pt.dep]
  | .fr _ _, pl, h => by simp [Pt.places] at h; subst h; simp [Pt.dep]
def spPlaces (n : Nat) : USp := fun us M Q => ∃ p : Pt, us = [p.toU] ∧ p.dep ≤ n ∧ n ≤ 10 ∧ Q (.lst (p.places.map placeU)) M
theorem s_at : (tabGet SIGNS (Str.ofString "at")).isSome = false := by decide +kernel
theorem s_any : (tabGet SIGNS (Str.ofString "any")).isSome = false := by decide +kernel
theorem s_from : (tabGet SIGNS (Str.ofString "from")).isSome = false := by decide +kernel
theorem head_sign (p : Pt) : ∃ z r, p.toU = .tup (.str z :: r) ∧ (tabGet SIGNS z).isSome = !p.leafy ∧ (p.leafy = false → r = p.parts.map Pt.toU) ∧ r.length ≤ 3 := by
  cases p with
  | hole c => exact ⟨_, _, rfl, s_at, (fun h => by cases h), by simp⟩
  | any => exact ⟨_, _, rfl, s_any, (fun h => by cases h), by simp⟩
  | fr l h => exact ⟨_, _, rfl, s_from, (fun h => by cases h), by simp⟩
  | turn a => exact ⟨_, _, rfl, sg_turn, fun _ => rfl, by simp⟩
  | two o a b => exact ⟨_, _, rfl, sg_two o, fun _ => rfl, by simp⟩
theorem parts_leaf {p : Pt} (h : p.leafy = true) : p.parts = [] := by cases p <;> first | rfl | cases h
def innerP : Nat → List Pt → List (List Nat)
  | _, [] => []
  | k, a :: r => a.places.map (k :: ·) ++ innerP (k + 1) r
theorem places_eq (p : Pt) : p.places = [] :: innerP 0 p.parts := by cases p <;> simp [Pt.places, Pt.parts, innerP]
theorem inner_snoc (l : List Pt) (a : Pt) : ∀ k, innerP k (l ++ [a]) = innerP k l ++ a.places.map ((k + l.length) :: ·) := by
  induction l with
  | nil => intro k; simp [innerP]
  | cons b l ih => intro k; simp only [List.cons_append, innerP, ih, List.length_cons, List.append_assoc]; rw [show k + 1 + l.length = k + (l.length + 1) by omega]
theorem inner_le (p : Pt) (i : Nat) : (innerP 0 (p.parts.take i)).length + 1 ≤ p.places.length := by
  have : ∀ (l : List Pt) (k j : Nat), (innerP k (l.take j)).length ≤ (innerP k l).length := by
    intro l
    induction l with
    | nil => intro k j; simp [innerP]
    | cons a l ih =>
      intro k j
      cases j with
      | zero => simp [innerP]
      | succ j => simp only [List.take_succ_cons, innerP, List.length_append]; have := ih (k + 1) j; omega
  have h1 := this p.parts 0 i
  rw [places_eq p, List.length_cons]
  omega
theorem part_dep {p a : Pt} {i : Nat} (h : p.parts[i]? = some a) : a.dep < p.dep := by
  have hm := List.mem_of_getElem? h
  cases p with
  | turn b =>
    have : a = b := by simpa [Pt.parts] using hm
    subst this; simp only [Pt.dep]; omega
  | two o b c =>
    have : a = b ∨ a = c := by simpa [Pt.parts] using hm
    simp only [Pt.dep]
    rcases this with rfl | rfl <;> omega
  | _ => cases hm
def stepU : U → Nat → Option U
  | .tup (.str z :: r), k => if (tabGet SIGNS z).isSome then (if r.length ≤ 1000 then r[k]? else none) else none
  | _, _ => none
def atU : U → List Nat → Option U
  | u, [] => some u
  | u, k :: pl => (stepU u k).bind fun v => atU v pl
theorem step_inv {h w : U} {k : Nat} (e : stepU h k = some w) : ∃ z r, h = .tup (.str z :: r) ∧ (tabGet SIGNS z).isSome = true ∧ r.length ≤ 1000 ∧ r[k]? = some w := by
  match h, e with
  | .tup (.str z :: r), e =>
    simp only [stepU] at e
    split at e
    · rename_i h1
      split at e
      · rename_i h2
        exact ⟨z, r, rfl, h1, h2, e⟩
      · cases e
    · cases e
  | .tup [], e => cases e
  | .tup (.non :: _), e => cases e
  | .tup (.bl _ :: _), e => cases e
  | .tup (.int _ :: _), e => cases e
  | .tup (.ty _ :: _), e => cases e
  | .tup (.ref _ :: _), e => cases e
  | .tup (.tup _ :: _), e => cases e
  | .tup (.lst _ :: _), e => cases e
  | .non, e => cases e
  | .bl _, e => cases e
  | .int _, e => cases e
  | .str _, e => cases e
  | .ty _, e => cases e
  | .ref _, e => cases e
  | .lst _, e => cases e
theorem atU_snoc : ∀ (l : List Nat) (u : U) (k : Nat), atU u (l ++ [k]) = (atU u l).bind fun v => stepU v k
  | [], u, k => by simp only [List.nil_append, atU, Option.bind_some]; cases stepU u k <;> rfl
  | j :: l, u, k => by
    simp only [List.cons_append, atU]
    cases stepU u j with
    | none => rfl
    | some v => exact atU_snoc l v k
theorem atU_none : ∀ (l r : List Nat) (u : U), atU u l = none → atU u (l ++ r) = none
  | [], r, u, z => by cases z
  | j :: l, r, u, z => by
    simp only [List.cons_append, atU] at z ⊢
    cases hj : stepU u j with
    | none => rfl
    | some v => rw [hj] at z; exact atU_none l r v z
def spAtU : USp := fun us M Q => ∃ (u v : U) (pl : List Nat), us = [u, placeU pl] ∧ atU u pl = some v ∧ Q v M
theorem st_turn (a : U) : stepU (.tup [.str (Str.ofString "turn"), a]) 0 = some a := by
  simp only [stepU]; rw [if_pos sg_turn, if_pos (by simp)]; rfl
theorem st_two0 (o : Op) (a b : U) : stepU (.tup [.str o.word, a, b]) 0 = some a := by
  simp only [stepU]; rw [if_pos (sg_two o), if_pos (by simp)]; rfl
theorem st_two1 (o : Op) (a b : U) : stepU (.tup [.str o.word, a, b]) 1 = some b := by
  simp only [stepU]; rw [if_pos (sg_two o), if_pos (by simp)]; rfl
theorem subs_at : ∀ (p : Pt) (pre : List Nat) (e : List Nat × Pt), e ∈ subsP p pre → ∃ s, e.1 = pre ++ s ∧ atU p.toU s = some e.2.toU
  | .turn a, pre, e, h => by
    simp only [subsP] at h
    rcases List.mem_cons.mp h with rfl | h
    · exact ⟨[], by simp, rfl⟩
    · obtain ⟨s, h1, h2⟩ := subs_at a _ e h
      refine ⟨0 :: s, by rw [h1]; simp, ?_⟩
      simp only [atU, Pt.toU, st_turn, Option.bind_some, h2]
  | .two o a b, pre, e, h => by
    simp only [subsP] at h
    rcases List.mem_cons.mp h with rfl | h
    · exact ⟨[], by simp, rfl⟩
    · rcases List.mem_append.mp h with h | h
      · obtain ⟨s, h1, h2⟩ := subs_at a _ e h
        refine ⟨0 :: s, by rw [h1]; simp, ?_⟩
        simp only [atU, Pt.toU, st_two0, Option.bind_some, h2]
      · obtain ⟨s, h1, h2⟩ := subs_at b _ e h
        refine ⟨1 :: s, by rw [h1]; simp, ?_⟩
        simp only [atU, Pt.toU, st_two1, Option.bind_some, h2]
  | .hole _, pre, e, h => by cases List.mem_singleton.mp h; exact ⟨[], by simp, rfl⟩
  | .any, pre, e, h => by cases List.mem_singleton.mp h; exact ⟨[], by simp, rfl⟩
  | .fr _ _, pre, e, h => by cases List.mem_singleton.mp h; exact ⟨[], by simp, rfl⟩
def noHole (e : List Nat × Pt) : Bool := decide (e.2.holes = 0)
def fU : U → Option U
  | .tup [a, .tup (.str z :: r)] => if (!decide (z = Str.ofString "at")) && !(tabGet SIGNS z).isSome then some (.tup [a, .tup (.str z :: r)]) else none
  | _ => none
theorem fU_ent (e : List Nat × Pt) : fU (entE e) = if e.2.leafy && noHole e then some (entE e) else none := by
  obtain ⟨pl, q⟩ := e
  have e1 : decide (Str.ofString "at" = Str.ofString "at") = true := by simp
  cases q with
  | hole c => simp only [entE, Pt.toU, fU, e1, Pt.leafy, noHole, Pt.holes]; rfl
  | any => simp only [entE, Pt.toU, fU, wwa, wwb, wwc, wwd, wwe, wwf, wwg, s_any, Pt.leafy, noHole, Pt.holes]; rfl
  | fr l h => simp only [entE, Pt.toU, fU, wwa, wwb, wwc, wwd, wwe, wwf, wwg, s_from, Pt.leafy, noHole, Pt.holes]; rfl
  | turn a => simp only [entE, Pt.toU, fU, wwa, wwb, wwc, wwd, wwe, wwf, wwg, sg_turn, Pt.leafy]; rfl
  | two o a b => simp only [entE, Pt.toU, fU, wwa, wwb, wwc, wwd, wwe, wwf, wwg, sg_two, Pt.leafy]; rfl
def mkS (l : List Nat) : Str := ⟨l.toArray⟩
theorem mkS_app (a b : List Nat) : mkS a ++ mkS b = mkS (a ++ b) := by
  show (⟨a.toArray ++ b.toArray⟩ : Str) = ⟨(a ++ b).toArray⟩
  simp
theorem mkS_one (c : Nat) : (⟨#[c]⟩ : Str) = mkS [c] := rfl
theorem mkS_len (l : List Nat) : (mkS l).length = l.length := by show l.toArray.size = _; simp
theorem mkS_inj {a b : List Nat} (h : mkS a = mkS b) : a = b := by
  have h1 : a.toArray = b.toArray := congrArg Str.cps h
  simpa using h1
theorem mkS_empty : Str.ofString "" = mkS [] := by decide +kernel
theorem mkS_is (a : List Nat) : decide (mkS a = Str.ofString "") = a.isEmpty := by
  rw [mkS_empty]
  cases a with
  | nil => simp
  | cons c r => exact decide_eq_false fun h => by cases mkS_inj h
def letC (m : Int) : Nat := 97 + (m % 26).toNat
theorem letC_at (m : Int) : atI ABC.cps.toList (m % 26) = some (letC m) := by
  have e : ABC.cps.toList = (List.range 26).map (97 + ·) := by decide +kernel
  have h0 := Int.emod_nonneg m (show (26 : Int) ≠ 0 by decide)
  have h1 := Int.emod_lt_of_pos m (show (0 : Int) < 26 by decide)
  have q := atI_nat (xs := ABC.cps.toList) (j := (m % 26).toNat) (v := letC m) (by
    rw [e, List.getElem?_map, List.getElem?_range (by omega)]; rfl)
  rw [Int.toNat_of_nonneg h0] at q
  exact q
def tailL : Nat → Int → List Nat
  | 0, _ => []
  | k + 1, n => if 0 < n then letC (n - 1) :: tailL k ((n - 1) / 26) else []
def nameL (n : Int) : List Nat := letC n :: tailL 7 (n / 26)
def nameF (n : Int) : Str := mkS (nameL n)
theorem tailL_len : ∀ (k : Nat) (n : Int), (tailL k n).length ≤ k
  | 0, _ => by simp [tailL]
  | k + 1, n => by
    have := tailL_len k ((n - 1) / 26)
    simp only [tailL]
    split
    · simp only [List.length_cons]; omega
    · simp
theorem letC_le (m : Int) : 97 ≤ letC m ∧ letC m ≤ 122 := by
  have h0 := Int.emod_nonneg m (show (26 : Int) ≠ 0 by decide)
  have h1 := Int.emod_lt_of_pos m (show (0 : Int) < 26 by decide)
  unfold letC; omega
theorem tailL_low : ∀ (k : Nat) (n : Int), ∀ c ∈ tailL k n, 97 ≤ c ∧ c ≤ 122
  | 0, _, c, h => by cases h
  | k + 1, n, c, h => by
    simp only [tailL] at h
    split at h
    · rcases List.mem_cons.mp h with rfl | h
      · exact letC_le _
      · exact tailL_low k _ c h
    · cases h
theorem nameL_low (n : Int) : ∀ c ∈ nameL n, 97 ≤ c ∧ c ≤ 122 := fun c h => by
  rcases List.mem_cons.mp h with rfl | h
  · exact letC_le _
  · exact tailL_low _ _ c h
theorem nameF_len (n : Int) : 1 ≤ (nameF n).length ∧ (nameF n).length ≤ 8 := by
  have := tailL_len 7 (n / 26)
  rw [nameF, mkS_len, nameL, List.length_cons]; omega
theorem nameF_ok (n : Int) : PyData.strOk (nameF n) = true := by
  unfold PyData.strOk nameF mkS
  rw [← Array.all_toList, List.all_eq_true]
  intro c hc
  have := nameL_low n c (by simpa using hc)
  simp; omega
theorem letC_inj {a b : Int} (h : letC a = letC b) : a % 26 = b % 26 := by
  have h0 := Int.emod_nonneg a (show (26 : Int) ≠ 0 by decide)
  have h1 := Int.emod_nonneg b (show (26 : Int) ≠ 0 by decide)
  unfold letC at h; omega
theorem nameF_near {a b : Int} (h0 : 0 ≤ a) (h1 : a < b) (h2 : b < a + 600) : nameF a ≠ nameF b := fun h => by
  have h3 := mkS_inj h
  simp only [nameL, List.cons.injEq] at h3
  obtain ⟨h4, h5⟩ := h3
  have h6 := letC_inj h4
  have h7 : 0 < b / 26 := by omega
  have e1 : tailL 7 (b / 26) = letC (b / 26 - 1) :: tailL 6 ((b / 26 - 1) / 26) := by
    show (if 0 < b / 26 then _ else _) = _
    rw [if_pos h7]
  rw [e1] at h5
  by_cases h8 : 0 < a / 26
  · have e2 : tailL 7 (a / 26) = letC (a / 26 - 1) :: tailL 6 ((a / 26 - 1) / 26) := by
      show (if 0 < a / 26 then _ else _) = _
      rw [if_pos h8]
    rw [e2] at h5
    simp only [List.cons.injEq] at h5
    have := letC_inj h5.1
    omega
  · have e2 : tailL 7 (a / 26) = [] := by
      show (if 0 < a / 26 then _ else _) = _
      rw [if_neg h8]
    rw [e2] at h5
    cases h5
theorem pig (f : Nat → Str) : ∀ (j : Nat) (s : List Str), (∀ i k, i < k → k < j → f i ≠ f k) → (∀ i, i < j → f i ∈ s) → j ≤ s.length
  | 0, s, _, _ => Nat.zero_le _
  | j + 1, s, hi, hm => by
    have h1 := hm j (by omega)
    have h2 := pig f j (s.erase (f j)) (fun i k a b => hi i k a (by omega)) (fun i hij => (List.mem_erase_of_ne (hi i j hij (by omega))).mpr (hm i (by omega)))
    rw [List.length_erase_of_mem h1] at h2
    have := List.length_pos_of_mem h1
    omega
def spNameOf : USp := fun us M Q => ∃ n : Int, us = [.int n] ∧ Q (.str (nameF n)) M
theorem ok_name_of (F : Fun K "_law_name_of" "_law_name_of" s_law_name_of f fd) (hm : mg "_law_name_of" = some (.ref f)) (m_len : mg "len" = none) : Callee P w K mg base 1 "_law_name_of" spNameOf [] := by
  refine callee2 F hm sc_law_name_of (ar1 fun _ _ _ _ _ _ _ => rfl) (uss_cons (us_set 1 sc_law_name_of.nd us_)
  (uss_cons (us_while (PWU.pt (uw_and (ut_c k_ltX (ue_b b_len m_len (ua_cons (uv 1) ua_nil)) un_) (uw_and1 (PWU.pt (uw_or (ut_c k_eqX (uv 1) us_) (uw_or1 (ut_c k_gt (uv 0) un_)))))))
  (uss_cons (us_if (ut_c k_neX (uv 1) us_)
  (uss_one (us_set 0 sc_law_name_of.nd (ue_sub (uv 0) un_)))
  uss_nil)
  (uss_cons (us_set 1 sc_law_name_of.nd (ue_add (own := false) (uv 1) (ue_ix us_ (ue_mod (uv 0) un_))))
  (uss_one (us_set 0 sc_law_name_of.nd (ue_divX (uv 0) un_))))))
  (uss_one (us_ret (uv 1))))) ?_
  rintro us M Q ⟨n, rfl, q⟩
  refine ⟨rfl, ?_⟩
  have hL2 : ABC.length ≤ sizeLine := by decide +kernel
  have sm : ∀ A : List Nat, A.length < 8 → (mkS A).length + (⟨#[0]⟩ : Str).length ≤ sizeLine := fun A h => small (by rw [mkS_len]; show A.length + 1 ≤ _; omega)
  dsimp! only [uIsB]
  refine while_by (fun τ Mi => ∃ (A : List Nat) (m : Int), τ = [some (.int m), some (.str (mkS A))] ∧ Mi = M ∧ A.length ≤ 8 ∧ (A = [] → m = n) ∧ (A ≠ [] → A ++ tailL (8 - A.length) m = nameL n))
    (fun τ _ => match τ with | [_, some (.str z)] => 8 - z.length | _ => 0) ⟨[], n, by rw [mkS_empty], rfl, by decide, fun _ => rfl, fun z => absurd rfl z⟩ ?_
  rintro τ Mi ⟨A, m, rfl, rfl, hA, h1, h2⟩
  have fin : A ≠ [] → (A.length = 8 ∨ ¬ 0 < m) → rtU Q (.str (mkS A)) Mi := fun hne hh => by
    have := h2 hne
    have e : tailL (8 - A.length) m = [] := by
      rcases hh with hh | hh
      · rw [hh]; rfl
      · cases hk : 8 - A.length with
        | zero => rfl
        | succ k => show (if 0 < m then _ else _) = _; rw [if_neg hh]
    rw [e, List.append_nil] at this
    rw [this]
    exact rt_same q
  dsimp! only [mkS_len, mkS_is, uIsB]
  cases A with
  | nil =>
    have hm' := h1 rfl
    subst hm'
    dsimp! only [List.isEmpty_nil, uIsB]
    refine ⟨by decide, hL2, _, letC_at m, sm [] (by decide), ⟨by decide, by decide⟩, ⟨[letC m], m / 26, by rw [mkS_one, mkS_app]; rfl, by simp, (fun z => by cases z), fun _ => rfl⟩, ?_⟩
    simp [mkS_len, mkS_one, mkS_app]
  | cons c r =>
    dsimp! only [List.isEmpty_cons, uIsB]
    have e1 := h2 (by simp)
    refine ⟨small (by simp only [List.length_cons] at hA; omega), ?_⟩
    refine ite2 (fun g1 => ite2 (fun g2 => ?_) (fun g2 => ?_)) (fun g1 => ?_)
    · have g1' := of_decide_eq_true g1
      have g2' := of_decide_eq_true g2
      have hlt : (c :: r).length < 8 := by simp only [List.length_cons]; omega
      refine ⟨by decide, hL2, _, letC_at (m - 1), sm (c :: r) hlt, ⟨by decide, by decide⟩, ⟨c :: r ++ [letC (m - 1)], (m - 1) / 26, by rw [mkS_one, mkS_app], by simp only [List.length_append, List.length_cons, List.length_nil] at hlt ⊢; omega, (fun z => by simp at z), fun _ => ?_⟩, ?_⟩
      · rw [← e1]
        have e2 : 8 - (c :: r).length = (8 - (c :: r ++ [letC (m - 1)]).length) + 1 := by simp only [List.length_append, List.length_cons, List.length_nil] at hlt ⊢; omega
        rw [e2]
        have e3 : tailL (8 - (c :: r ++ [letC (m - 1)]).length + 1) m = letC (m - 1) :: tailL (8 - (c :: r ++ [letC (m - 1)]).length) ((m - 1) / 26) := by
          show (if 0 < m then _ else _) = _
          rw [if_pos (by omega)]
        rw [e3]
        simp
      · rw [mkS_one, mkS_app]
        simp only [mkS_len, List.length_append, List.length_cons, List.length_nil] at hlt ⊢; omega
    · exact fin (by simp) (.inr fun z => g2 (decide_eq_true (by omega)))
    · refine fin (by simp) (.inl ?_)
      have : ¬ (((c :: r).length : Nat) : Int) < 8 := fun z => g1 (decide_eq_true (by simpa using z))
      omega
def spWide : USp := fun us M Q => ∃ c : Int, us = [.int c] ∧ Builtin.Int.intBits c ≤ 2 ^ 20 ∧ ∀ n : Int, 0 ≤ n → Q (.int n) M
theorem ok_wide (F : Fun K "_law_wide" "_law_wide" s_law_wide f fd) (hm : mg "_law_wide" = some (.ref f)) : Callee P w K mg base 1 "_law_wide" spWide [] := by
  refine callee2 F hm sc_law_wide (ar1 fun _ _ _ _ _ _ _ => rfl) (uss_cons (us_if (ut_c k_ge (uv 0) (ue_pow un_ un_))
  (uss_one (us_ret (uv 0)))
  uss_nil)
  (uss_cons (us_set 1 sc_law_wide.nd (ue_mod (ue_add (own := false) (ue_add (own := false) (ue_mulX (own := false) (uv 0) (uv 0)) (ue_mulX (own := false) un_ (uv 0))) un_) un_))
  (uss_cons (us_set 2 sc_law_wide.nd un_)
  (uss_cons (us_for (ui_seq (ue_lst (own := false) (ua_cons un_ (ua_cons un_ (ua_cons un_ (ua_cons un_ (ua_cons un_ (ua_cons un_ (ua_cons un_ ua_nil))))))))) (ug_name (k := 1000) 3 sc_law_wide.nd)
  (uss_cons (us_set 1 sc_law_wide.nd (ue_mod (ue_add (own := false) (ue_add (own := false) (ue_mulX (own := false) (uv 1) (uv 1)) (ue_mulX (own := false) un_ (uv 1))) un_) (uv 3)))
  (uss_one (us_set 2 sc_law_wide.nd (ue_add (own := false) (ue_mulX (own := false) (uv 2) (ue_pow un_ un_)) (ue_divX (uv 1) un_))))))
  (uss_one (us_ret (uv 2))))))) ?_
  rintro us M Q ⟨c, rfl, hb, q⟩
  refine ⟨rfl, ?_⟩
  have pw : CPow 10 18 := ⟨by decide, by decide, by decide⟩
  have pw9 : CPow 10 9 := ⟨by decide, by decide, by decide⟩
  dsimp! only [uIsB]
  refine ⟨pw, ite2 (fun h => ?_) (fun h => ?_)⟩
  · have h' : (10 : Int) ^ 18 ≤ c := of_decide_eq_true h
    exact rt_same (q c (by omega))
  · have hb' : Builtin.Int.intBits c ≤ 60000000 := Nat.le_trans hb (by decide)
    refine ⟨.inr ⟨hb', hb'⟩, mulL (by decide) (by decide), by decide, ?_⟩
    generalize hh : (c * c + 48271 * c + 12347) % 998244353 = h0
    have a1 : 0 ≤ h0 := by rw [← hh]; exact Int.emod_nonneg _ (by decide)
    have a2 : h0 < 998244353 := by rw [← hh]; exact Int.emod_lt_of_pos _ (by decide)
    refine for_by (S := ⟨none, [.int 998244353, .int 1000000007, .int 2147483647, .int 1000000009, .int 469762049, .int 754974721, .int 167772161]⟩) (M1 := M) (fun R r => ⟨by decide, r⟩)
      (fun i τ Mi => ∃ (x y : Int) (a : Option U), τ = [some (.int c), some (.int x), some (.int y), a] ∧ Mi = M ∧ 0 ≤ x ∧ x < 2147483647 ∧ 0 ≤ y) ⟨h0, 0, none, rfl, rfl, a1, by omega, by decide⟩ nk ?_ ?_
    · rintro i x τ Mi e ⟨x0, y0, a, rfl, rfl, b1, b2, b3⟩
      obtain ⟨n, rfl, n1, n2⟩ : ∃ n : Int, x = .int n ∧ 0 < n ∧ n ≤ 2147483647 := by
        have := List.mem_of_getElem? e
        simp only [List.mem_cons, List.not_mem_nil, or_false] at this
        rcases this with rfl | rfl | rfl | rfl | rfl | rfl | rfl <;> exact ⟨_, rfl, by decide, by decide⟩
      dsimp! only [uIsB]
      generalize hz : (x0 * x0 + 69621 * x0 + 40692) % n = z0
      have c1 : 0 ≤ z0 := by rw [← hz]; exact Int.emod_nonneg _ (by omega)
      have c2 : z0 < n := by rw [← hz]; exact Int.emod_lt_of_pos _ n1
      refine ⟨mulL (by omega) (by omega), mulL (by decide) (by decide), n1, pw9, mulR (by decide) (by decide), ⟨by decide, by decide⟩, z0, _, _, rfl, c1, by omega, ?_⟩
      have d1 : 0 ≤ z0 / 8 := Int.ediv_nonneg c1 (by decide)
      have d2 : 0 ≤ y0 * 10 ^ 9 := Int.mul_nonneg b3 (by decide)
      exact Int.add_nonneg d2 d1
    · rintro τ Mi ⟨x0, y0, a, rfl, rfl, b1, b2, b3⟩
      dsimp! only [uIsB]
      exact rt_same (q y0 b3)
theorem any_str (ss : List Str) (z : Str) : ((ss.map U.str).any fun u => eqF u (.str z)) = decide (z ∈ ss) := by
  induction ss with
  | nil => rfl
  | cons a r ih =>
    rw [List.map_cons, List.any_cons, ih]
    have : eqF (.str a) (.str z) = decide (z = a) := by
      show (a == z) = _
      by_cases h : z = a
      · subst h; simp
      · have k : ¬ a = z := fun k => h k.symm
        simp [h, k]
    rw [this]
    by_cases h : z = a
    · subst h; simp
    · simp [h]
theorem flat_strs (ss : List Str) : (ss.map U.str).all flatU = true := by
  induction ss with
  | nil => rfl
  | cons a r ih => rw [List.map_cons, List.all_cons, ih]; rfl
def spFresh : USp := fun us M Q => ∃ (n : Int) (p : U) (ss : List Str), us = [.int n, p] ∧ 0 ≤ n ∧ items M p = some (ss.map .str) ∧ ss.length ≤ 100 ∧ ∀ m : Int, 0 ≤ m → nameF m ∉ ss → Q (.str (nameF m)) M
theorem ok_fresh (F : Fun K "_law_fresh" "_law_fresh" s_law_fresh f fd) (hm : mg "_law_fresh" = some (.ref f)) (C_law_name_of : Callee P w K mg base 1 "_law_name_of" spNameOf []) : Callee P w K mg base 2 "_law_fresh" spFresh [] := by
  refine callee2 F hm sc_law_fresh (ar2 fun _ _ _ _ _ _ _ _ => rfl) (uss_cons (us_set 2 sc_law_fresh.nd (ue_lst (own := false) (ua_cons un_ (ua_cons un_ (ua_cons un_ (ua_cons un_ (ua_cons un_ (ua_cons un_ (ua_cons un_ (ua_cons un_ ua_nil))))))))))
  (uss_cons (us_set 0 sc_law_fresh.nd (ue_mod (ue_divX (uv 0) un_) (ue_ix (uv 2) (ue_mod (uv 0) un_))))
  (uss_cons (us_while (ut_c k_in (ue_call C_law_name_of (ua_cons (uv 0) ua_nil)) (uv 1))
  (uss_one (us_set 0 sc_law_fresh.nd (ue_add (own := false) (uv 0) un_))))
  (uss_one (us_ret (ue_call C_law_name_of (ua_cons (uv 0) ua_nil))))))) ?_
  rintro us M Q ⟨n, p, ss, rfl, hn, hM, hl, q⟩
  refine ⟨rfl, ?_⟩
  obtain ⟨s, hs, s1⟩ : ∃ s : Int, atI [U.int 26, U.int 702, U.int 18278, U.int 475254, U.int 12356630, U.int 321272406, U.int 8353082582, U.int 217180147158] (n % 8) = some (.int s) ∧ 0 < s := by
    have e : n % 8 = 0 ∨ n % 8 = 1 ∨ n % 8 = 2 ∨ n % 8 = 3 ∨ n % 8 = 4 ∨ n % 8 = 5 ∨ n % 8 = 6 ∨ n % 8 = 7 := by omega
    rcases e with e | e | e | e | e | e | e | e <;> rw [e] <;> exact ⟨_, rfl, by decide⟩
  simp! only [hs, hTup, hCons, hNil, uIn, inTab, ixTab, uSeq, uIfS, uNext, uRet, uRetN, uAsg, hName, uDrop, uBreak, uCont, uSetI, uIsB]
  generalize hm0 : n / 8 % s = m0
  have g0 : 0 ≤ m0 := by rw [← hm0]; exact Int.emod_nonneg _ (by omega)
  refine ⟨⟨by decide, by decide⟩, by decide, s1, ?_⟩
  refine while_by (fun τ Mi => ∃ (j : Nat) (z : Option U), τ = [some (.int (m0 + j)), some p, z] ∧ Mi = M ∧ j ≤ 100 ∧ ∀ i : Nat, i < j → nameF (m0 + i) ∈ ss)
    (fun τ _ => match τ with | some (.int m) :: _ => (m0 + 200 - m).toNat | _ => 0) ⟨0, _, by rw [show (m0 + ((0 : Nat) : Int)) = m0 by omega], rfl, by decide, fun i h => by omega⟩ ?_
  rintro τ Mi ⟨j, z, rfl, rfl, hj, hin⟩
  have fl : ∀ z : Str, flatU (.str z) = true := fun _ => rfl
  simp! only [hTup, hCons, hNil, uIn, inTab, ixTab, uSeq, uIfS, uNext, uRet, uRetN, uAsg, hName, uDrop, uBreak, uCont, uSetI, uIsB]
  refine ⟨_, rfl, ?_⟩
  simp! only [hM, fl, flat_strs, any_str, hTup, hCons, hNil, uIn, inTab, ixTab, uSeq, uIfS, uNext, uRet, uRetN, uAsg, hName, uDrop, uBreak, uCont, uSetI, uIsB]
  refine ite2 (fun h => ?_) (fun h => ?_)
  · have hi := of_decide_eq_true h
    have hall : ∀ i : Nat, i < j + 1 → nameF (m0 + i) ∈ ss := fun i hij => by
      by_cases e : i = j
      · subst e; exact hi
      · exact hin i (by omega)
    have hp := pig (fun i => nameF (m0 + i)) (j + 1) ss (fun i k a b => nameF_near (by omega) (by omega) (by omega)) hall
    refine ⟨⟨j + 1, z, by rw [Int.natCast_add, Int.add_assoc]; rfl, by omega, hall⟩, ?_⟩
    show (m0 + 200 - (m0 + (j : Int) + 1)).toNat < (m0 + 200 - (m0 + (j : Int))).toNat
    omega
  · exact ⟨_, rfl, rt_same (q _ (by omega) fun z => h (decide_eq_true z))⟩
def clsOk (cs : List Str) : Prop := cs ≠ [] ∧ cs.length ≤ 6 ∧ (∀ c ∈ cs, PyData.strOk c = true ∧ c.length ≤ 8)
theorem low_letter {c : Nat} (h1 : 97 ≤ c) (h2 : c ≤ 122) : isLetter c = true := by
  have : ∀ k : Fin 26, isLetter (97 + k.val) = true := by decide +kernel
  have := this ⟨c - 97, by omega⟩
  rwa [show 97 + (c - 97) = c by omega] at this
theorem nameF_is (n : Int) : isName (.str (nameF n)) = true := by
  have h := nameF_len n
  simp only [isName, Bool.and_eq_true, decide_eq_true_eq]
  refine ⟨⟨h.1, h.2⟩, List.all_eq_true.mpr fun c hc => ?_⟩
  have hc' : c ∈ nameL n := by simpa [nameF, mkS] using hc
  obtain ⟨a, b⟩ := nameL_low n c hc'
  exact low_letter a b
structure ClsN (cs : List Str) : Prop where
  ok : clsOk cs
  nd : cs.Nodup
  nm : ∀ c ∈ cs, isName (.str c) = true
def spClasses : USp := fun us M Q => ∃ c : Int, us = [.int c] ∧ Builtin.Int.intBits c ≤ 2 ^ 20 ∧ ∀ cs : List Str, ClsN cs → Q (sortsU cs) M
theorem ok_classes (F : Fun K "_law_classes" "_law_classes" s_law_classes f fd) (hm : mg "_law_classes" = some (.ref f)) (m_range : mg "range" = none) (m_tuple : mg "tuple" = none) (C_law_wide : Callee P w K mg base 1 "_law_wide" spWide []) (C_law_fresh : Callee P w K mg base 2 "_law_fresh" spFresh []) : Callee P w K mg base 3 "_law_classes" spClasses [] := by
  refine callee2 F hm sc_law_classes (ar1 fun _ _ _ _ _ _ _ => rfl) (uss_cons (us_set 1 sc_law_classes.nd (ue_call C_law_wide (ua_cons (uv 0) ua_nil)))
  (uss_cons (us_set 2 sc_law_classes.nd (ue_add (own := false) un_ (ue_mod (uv 1) un_)))
  (uss_cons (us_set 1 sc_law_classes.nd (ue_divX (uv 1) un_))
  (uss_cons (us_set 3 sc_law_classes.nd (ue_lst (own := true) ua_nil))
  (uss_cons (us_for (ui_rng1 m_range (ua_cons (uv 2) ua_nil)) (ug_name (k := 1000) 4 sc_law_classes.nd)
  (uss_cons (us_set 5 sc_law_classes.nd (ue_call C_law_fresh (ua_cons (ue_mod (uv 1) (ue_mulX (own := false) un_ (ue_pow un_ un_))) (ua_cons (uv 3) ua_nil))))
  (uss_cons (us_expr (ue_append (uv 3) (ua_cons (uv 5) ua_nil)))
  (uss_one (us_set 1 sc_law_classes.nd (ue_divX (uv 1) (ue_mulX (own := false) un_ (ue_pow un_ un_))))))))
  (uss_one (us_ret (ue_t b_tuple m_tuple (ua_cons (uv 3) ua_nil))))))))) ?_
  rintro us M Q ⟨c, rfl, hb, q⟩
  refine ⟨rfl, ?_⟩
  have pw : CPow 10 12 := ⟨by decide, by decide, by decide⟩
  dsimp! only [uIsB]
  refine ⟨c, rfl, hb, fun n hn => ?_⟩
  dsimp! only [uIsB]
  obtain ⟨k, hk⟩ : ∃ k : Nat, n % 6 = (k : Int) := ⟨_, (Int.toNat_of_nonneg (Int.emod_nonneg _ (by decide))).symm⟩
  have hk6 := Int.emod_lt_of_pos n (show (0 : Int) < 6 by decide)
  refine ⟨by decide, ⟨by decide, by decide⟩, fun p hp => ?_⟩
  refine for_by (S := ⟨none, rangeU 0 (k + 1)⟩) (M1 := mup M p (.lst [])) (fun R r => ?_)
    (fun i τ Mi => ∃ (cs : List Str) (m : Int) (a b : Option U), τ = [some (.int c), some (.int m), some (.int (1 + n % 6)), some (.ref p), a, b] ∧ Mi = mup M p (.lst (cs.map .str)) ∧ cs.length = i ∧ 0 ≤ m ∧ (∀ c ∈ cs, PyData.strOk c = true ∧ c.length ≤ 8) ∧ cs.Nodup ∧ ∀ c ∈ cs, isName (.str c) = true) ⟨[], n / 6, none, none, rfl, rfl, rfl, Int.ediv_nonneg hn (by decide), (fun c h => by cases h), List.nodup_nil, fun c h => by cases h⟩ nk ?_ ?_
  · dsimp! only [uIsB]
    refine ⟨by omega, by omega, ?_⟩
    rw [show (1 + n % 6 : Int).toNat = k + 1 by omega]
    exact r
  · rintro i x τ Mi e ⟨cs, m, a, b, rfl, rfl, hl, h0, hcs, hnd, hnm⟩
    obtain ⟨rfl, hi⟩ := rangeU_get e
    dsimp! only [uIsB]
    refine ⟨pw, mulL (by decide) (by decide), by decide, _, .ref p, cs, rfl, Int.emod_nonneg _ (by decide), (by simp only [items, mup_same]), by omega, fun m' hm' hnot => ?_⟩
    dsimp! only [uIsB]
    refine ⟨isL_own, big (by simp; omega), pw, mulL (by decide) (by decide), ⟨by decide, by decide⟩, cs ++ [nameF m'], _, _, _, rfl, by simp, by simp; omega, Int.ediv_nonneg h0 (by decide), fun c hc => ?_, List.nodup_append.mpr ⟨hnd, by simp, fun x hx y hy e => ?_⟩, fun c hc => ?_⟩
    · rcases List.mem_append.mp hc with hc | hc
      · exact hcs c hc
      · cases List.mem_singleton.mp hc
        exact ⟨nameF_ok m', (nameF_len m').2⟩
    · cases List.mem_singleton.mp hy; subst e; exact hnot hx
    · rcases List.mem_append.mp hc with hc | hc
      · exact hnm c hc
      · cases List.mem_singleton.mp hc
        exact nameF_is m'
  · rintro τ Mi ⟨cs, m, a, b, rfl, rfl, hl, h0, hcs, hnd, hnm⟩
    have hl2 : (Src.mk none (rangeU 0 (k + 1))).xs.length = k + 1 := rangeU_len _ _
    rw [hl2] at hl
    dsimp! only [uIsB]
    exact ⟨_, M, (Sub.refl M).mup hp, .inl rfl, q cs ⟨⟨(fun z => by rw [z] at hl; cases hl), by omega, hcs⟩, hnd, hnm⟩⟩
def Pt.size : Pt → Nat
  | .turn a => a.size + 1
  | .two _ a b => a.size + b.size + 1
  | _ => 1
def Op.mid : Op → Str
  | .sum => " + " | .less => " - " | .by_ => " * "
def Pt.text : Pt → Str
  | .hole c => Str.ofString "@" ++ c
  | .any => "?"
  | .fr l h => Str.ofString (toString l) ++ Str.ofString ".." ++ Str.ofString (toString h)
  | .turn a => Str.ofString "(- " ++ a.text ++ Str.ofString ")"
  | .two o a b => Str.ofString "(" ++ a.text ++ o.mid ++ b.text ++ Str.ofString ")"
def Pt.sm (cs : List Str) : Pt → Prop
  | .hole c => c.length ≤ 8 ∧ c ∈ cs
  | .any => True
  | .fr _ h => h ≤ 10 ^ 18
  | .turn a => a.sm cs
  | .two _ a b => a.sm cs ∧ b.sm cs
theorem num_len {n : Int} (h0 : 0 ≤ n) (h1 : n ≤ 10 ^ 18) : (Str.ofString (toString n)).length ≤ 20 := by
  have h2 : n.natAbs < 10 ^ 19 := by
    have : (10 : Nat) ^ 19 = 10000000000000000000 := by decide
    rw [this]; omega
  have h := PySem.int_text_length_le10 (a := n) (k := 19) (by decide) h2
  rw [PySem.ofString_length]; exact h
theorem log_ok {n : Int} (h0 : 0 ≤ n) (h1 : n ≤ 10 ^ 18) : n.natAbs.log2 < 1920 := by
  have h2 : n.natAbs < 2 ^ 64 := by
    have : (2 : Nat) ^ 64 = 18446744073709551616 := by decide
    rw [this]; omega
  by_cases h : n.natAbs = 0
  · rw [h]; decide
  · have := (Nat.log2_lt h).mpr h2
    omega
theorem l_at : (Str.ofString "@").length = 1 := by decide +kernel
theorem l_q : (Str.ofString "?").length = 1 := by decide +kernel
theorem l_dots : (Str.ofString "..").length = 2 := by decide +kernel
theorem l_turn : (Str.ofString "(- ").length = 3 := by decide +kernel
theorem l_op : (Str.ofString "(").length = 1 := by decide +kernel
theorem l_cl : (Str.ofString ")").length = 1 := by decide +kernel
theorem l_mid (o : Op) : o.mid.length = 3 := by cases o <;> decide +kernel
theorem text_len {cs : List Str} : ∀ {p : Pt}, p.ok → p.sm cs → p.text.length ≤ 50 * p.size
  | .hole c, h, k => by
    have k' : c.length ≤ 8 := k.1
    simp only [Pt.text, Pt.size, len_app, l_at]; omega
  | .any, h, k => by simp only [Pt.text, Pt.size]; rw [l_q]; omega
  | .fr l u, h, k => by
    have h1 : 0 ≤ l := h.1
    have h2 : l ≤ u := h.2
    have h3 : u ≤ 10 ^ 18 := k
    have := num_len h1 (by omega)
    have := num_len (show 0 ≤ u by omega) h3
    simp only [Pt.text, Pt.size, len_app, l_dots]; omega
  | .turn a, h, k => by
    have := text_len (p := a) h k
    simp only [Pt.text, Pt.size, len_app, l_turn, l_cl]; omega
  | .two o a b, h, k => by
    have h1 := text_len h.1 k.1
    have h2 := text_len h.2 k.2
    simp only [Pt.text, Pt.size, len_app, l_op, l_cl, l_mid]; omega
def entQ (p : Pt) : U := .tup [p.toU, .int (p.size : Nat), .int (p.dep : Nat), .int (p.holes : Nat), .str p.text]
theorem cls_at {ss : List Str} {i : Int} {s : Str} (hat : atI ss i = some s) : atI (ss.map U.str) i = some (.str s) := by
  unfold atI at hat ⊢
  rw [List.length_map]
  cases e : ixN ss.length i with
  | none => rw [e] at hat; cases hat
  | some j =>
    rw [e] at hat
    have hat' : ss[j]? = some s := hat
    show (ss.map U.str)[j]? = _
    rw [List.getElem?_map, hat']; rfl
def spLeafK : USp := fun us M Q => ∃ (n code : Int) (cs : List Str), us = [.int n, .int code, sortsU cs] ∧ 0 ≤ n ∧ clsOk cs ∧ ∀ (p : Pt) (n' : Int), p.ok → p.sm cs → p.leafy = true → 0 ≤ n' → Q (.tup [p.toU, .str p.text, .int n']) M
theorem ok_leafK (F : Fun K "_law_leaf" "_law_leaf" s_law_leaf f fd) (hm : mg "_law_leaf" = some (.ref f)) (m_len : mg "len" = none) (m_str : mg "str" = none) : Callee P w K mg base 1 "_law_leaf" spLeafK [] := by
  refine callee2 F hm sc_law_leaf (ar3 fun _ _ _ _ _ _ _ _ _ => rfl) (uss_cons (us_if (ut_c k_eqX (uv 1) un_)
  (uss_one (us_ret (ue_tup (ua_cons (ue_tup (ua_cons us_ ua_nil)) (ua_cons us_ (ua_cons (uv 0) ua_nil))))))
  uss_nil)
  (uss_cons (us_if (ut_c k_neX (uv 1) un_)
  (uss_cons (us_set 3 sc_law_leaf.nd (ue_ix (uv 2) (ue_mod (uv 0) (ue_b b_len m_len (ua_cons (uv 2) ua_nil)))))
  (uss_one (us_ret (ue_tup (ua_cons (ue_tup (ua_cons us_ (ua_cons (uv 3) ua_nil))) (ua_cons (ue_add (own := false) us_ (uv 3)) (ua_cons (ue_divX (uv 0) (ue_b b_len m_len (ua_cons (uv 2) ua_nil))) ua_nil)))))))
  uss_nil)
  (uss_cons (us_set 4 sc_law_leaf.nd (ue_mod (uv 0) un_))
  (uss_cons (us_set 0 sc_law_leaf.nd (ue_divX (uv 0) un_))
  (uss_cons (us_set 5 sc_law_leaf.nd (ue_mod (uv 0) un_))
  (uss_cons (us_set 6 sc_law_leaf.nd (ue_add (own := false) (uv 5) (ue_mulX (own := false) (ue_mod (ue_divX (uv 0) un_) un_) (uv 4))))
  (uss_cons (us_set 7 sc_law_leaf.nd (ue_divX (uv 0) un_))
  (uss_cons (us_if (ut_c k_eqX (uv 4) un_)
  (uss_cons (us_set 5 sc_law_leaf.nd (ue_mod (uv 0) (ue_add (own := false) (ue_pow un_ un_) un_)))
  (uss_cons (us_set 0 sc_law_leaf.nd (ue_divX (uv 0) (ue_add (own := false) (ue_pow un_ un_) un_)))
  (uss_cons (us_set 6 sc_law_leaf.nd (ue_add (own := false) (uv 5) (ue_mod (uv 0) (ue_sub (ue_add (own := false) (ue_pow un_ un_) un_) (uv 5)))))
  (uss_one (us_set 7 sc_law_leaf.nd (ue_divX (uv 0) (ue_sub (ue_add (own := false) (ue_pow un_ un_) un_) (uv 5))))))))
  uss_nil)
  (uss_one (us_ret (ue_tup (ua_cons (ue_tup (ua_cons us_ (ua_cons (uv 5) (ua_cons (uv 6) ua_nil)))) (ua_cons (ue_add (own := false) (ue_add (own := false) (ue_t b_str m_str (ua_cons (uv 5) ua_nil)) us_) (ue_t b_str m_str (ua_cons (uv 6) ua_nil))) (ua_cons (uv 7) ua_nil)))))))))))))) ?_
  rintro us M Q ⟨n, code, cs, rfl, hn, ⟨hne, hle, hcs⟩, q⟩
  refine ⟨rfl, ?_⟩
  have pw : CPow 10 18 := ⟨by decide, by decide, by decide⟩
  have hl : 0 < (cs.length : Int) := by have := List.length_pos_iff.mpr hne; omega
  have fr : ∀ l h x : Int, 0 ≤ l → l ≤ h → h ≤ 10 ^ 18 → 0 ≤ x → bInt1 (fun i => i.natAbs.log2 < 1920) (fun i => .str (toString i)) [.int l] M fun x1 M1 => uAdd false x1 (.str (Str.ofString "..")) M1 fun x2 M2 => bInt1 (fun i => i.natAbs.log2 < 1920) (fun i => .str (toString i)) [.int h] M2 fun x3 M3 => uAdd false x2 x3 M3 fun x4 M4 => [U.tup [.str (Str.ofString "from"), .int l, .int h], x4, .int x].length ≤ sizeLine ∧ rtU Q (.tup [.tup [.str (Str.ofString "from"), .int l, .int h], x4, .int x]) M4 := fun l h x g1 g2 g3 g4 => by
    have e1 := num_len g1 (by omega)
    have e2 := num_len (show 0 ≤ h by omega) g3
    dsimp! only [uIsB]
    refine ⟨log_ok g1 (by omega), small (by rw [l_dots]; omega), log_ok (by omega) g3, small (by rw [len_app, l_dots]; omega), rt_same (q (.fr l h) x ⟨g1, g2⟩ g3 rfl g4)⟩
  have t18 : Int.toNat 18 = 18 := rfl
  dsimp! only [sortsU, List.length_map, t18, uIsB] at fr ⊢
  refine ite2 (fun _ => ?_) (fun _ => ite2 (fun _ => ?_) (fun _ => ?_))
  · exact rt_same (q .any n trivial trivial rfl hn)
  · obtain ⟨s, hat⟩ := atI_ex cs (n % (cs.length : Int)) (Int.emod_nonneg _ (by omega)) (Int.emod_lt_of_pos _ hl)
    have hs := hcs s (atI_mem hat)
    refine ⟨hl, _, cls_at hat, small (by rw [l_at]; omega), ⟨hl, by omega⟩, rt_same (q (.hole s) _ hs.1 ⟨hs.2, atI_mem hat⟩ rfl (Int.ediv_nonneg hn (by omega)))⟩
  · have n1 : 0 ≤ n / 5 := Int.ediv_nonneg hn (by decide)
    generalize n / 5 = m at n1
    have w1 := Int.emod_nonneg n (show (5 : Int) ≠ 0 by decide)
    have w2 := Int.emod_lt_of_pos n (show (0 : Int) < 5 by decide)
    generalize n % 5 = way at w1 w2
    have x1 := Int.emod_nonneg m (show (12 : Int) ≠ 0 by decide)
    have x2 := Int.emod_lt_of_pos m (show (0 : Int) < 12 by decide)
    have y1 := Int.emod_nonneg (m / 12) (show (40 : Int) ≠ 0 by decide)
    have y2 := Int.emod_lt_of_pos (m / 12) (show (0 : Int) < 40 by decide)
    have z1 : 0 ≤ m / 12 % 40 * way := Int.mul_nonneg y1 w1
    have z2 : m / 12 % 40 * way ≤ 40 * 5 := Int.mul_le_mul (by omega) (by omega) w1 (by decide)
    refine ⟨by decide, ⟨by decide, by decide⟩, by decide, ⟨by decide, by decide⟩, by decide, mulL (by omega) (by omega), ⟨by decide, by decide⟩, ite2 (fun _ => ?_) (fun _ => ?_)⟩
    · have u1 := Int.emod_nonneg m (show (10 ^ 18 + 1 : Int) ≠ 0 by decide)
      have u2 := Int.emod_lt_of_pos m (show (0 : Int) < 10 ^ 18 + 1 by decide)
      have v0 : 0 ≤ m / (10 ^ 18 + 1) := Int.ediv_nonneg n1 (by decide)
      generalize m % (10 ^ 18 + 1) = lo at u1 u2
      generalize m / (10 ^ 18 + 1) = r at v0
      have d0 : (0 : Int) < 10 ^ 18 + 1 - lo := by omega
      have v1 := Int.emod_nonneg r (show (10 ^ 18 + 1 - lo : Int) ≠ 0 by omega)
      have v2 := Int.emod_lt_of_pos r d0
      have v3 : 0 ≤ r / (10 ^ 18 + 1 - lo) := Int.ediv_nonneg v0 (by omega)
      refine ⟨pw, by decide, pw, ⟨by decide, by decide⟩, pw, d0, pw, ⟨d0, ?_⟩, ?_⟩
      · show (10 ^ 18 + 1 - lo : Int) < 2 ^ 64; omega
      · exact fr lo (lo + r % (10 ^ 18 + 1 - lo)) _ u1 (by omega) (by omega) v3
    · exact fr (m % 12) (m % 12 + m / 12 % 40 * way) (m / 480) x1 (by omega) (by omega) (Int.ediv_nonneg n1 (by decide))
def spFits : USp := fun us M Q => ∃ p q : Pt, us = [entQ p, entQ q] ∧ ∀ b : Bool, (b = true → p.size + q.size ≤ 8 ∧ max p.dep q.dep ≤ 4 ∧ p.holes + q.holes ≤ 4) → Q (.bl b) M
theorem at4 {α : Type} {a b c d e : α} {r : List α} : atI (a :: b :: c :: d :: e :: r) 4 = some e := atI_nat (j := 4) rfl
theorem ok_fits (F : Fun K "_law_fits" "_law_fits" s_law_fits f fd) (hm : mg "_law_fits" = some (.ref f)) (m_max : mg "max" = none) : Callee P w K mg base 1 "_law_fits" spFits [] := by
  refine callee2 F hm sc_law_fits (ar2 fun _ _ _ _ _ _ _ _ => rfl) (uss_cons (us_if (PWU.pt (uw_or (ut_c k_gt (ue_add (own := false) (ue_ix (uv 0) un_) (ue_ix (uv 1) un_)) un_) (uw_or1 (ut_c k_gt (ue_b b_maxX m_max (ua_cons (ue_ix (uv 0) un_) (ua_cons (ue_ix (uv 1) un_) ua_nil))) un_))))
  (uss_one (us_ret ub_))
  uss_nil)
  (uss_one (us_ret (ue_c k_le (ue_add (own := false) (ue_ix (uv 0) un_) (ue_ix (uv 1) un_)) un_)))) ?_
  rintro us M Q ⟨p, q', rfl, q⟩
  refine ⟨rfl, ?_⟩
  dsimp! only [entQ, uIsB]
  refine ite2 (fun _ => ?_) (fun h1 => ite2 (fun _ => ?_) (fun h2 => ?_))
  · exact rt_same (q false (fun z => by cases z))
  · exact rt_same (q false (fun z => by cases z))
  · refine rt_same (q _ (fun z => ?_))
    have e1 : ¬ ((p.size : Int) + (q'.size : Int) > 8) := fun k => h1 (decide_eq_true k)
    have e2 : ¬ ((if (q'.dep : Int) > (p.dep : Int) then (q'.dep : Int) else (p.dep : Int)) > 4) := fun k => h2 (decide_eq_true k)
    have e3 := of_decide_eq_true z
    split at e2 <;> omega
def spPaired : USp := fun us M Q => ∃ (p q : Pt) (k : Int), us = [entQ p, entQ q, .int k] ∧ 0 ≤ k ∧ k ≤ 2 ∧ p.text.length ≤ 1000 ∧ q.text.length ≤ 1000 ∧ ∀ o : Op, Q (entQ (.two o p q)) M
theorem max_cast (a b : Nat) : (if (b : Int) > (a : Int) then (b : Int) else (a : Int)) + 1 = ((max a b + 1 : Nat) : Int) := by split <;> omega
theorem ok_paired (F : Fun K "_law_paired" "_law_paired" s_law_paired f fd) (hm : mg "_law_paired" = some (.ref f)) (m_max : mg "max" = none) : Callee P w K mg base 1 "_law_paired" spPaired [] := by
  refine callee2 F hm sc_law_paired (ar3 fun _ _ _ _ _ _ _ _ _ => rfl) (uss_cons (us_set 3 sc_law_paired.nd (ue_add (own := false) (ue_add (own := false) (ue_add (own := false) (ue_add (own := false) us_ (ue_ix (uv 0) un_)) (ue_ix (ue_lst (own := false) (ua_cons us_ (ua_cons us_ (ua_cons us_ ua_nil)))) (uv 2))) (ue_ix (uv 1) un_)) us_))
  (uss_cons (us_set 4 sc_law_paired.nd (ue_tup (ua_cons (ue_ix (ue_lst (own := false) (ua_cons us_ (ua_cons us_ (ua_cons us_ ua_nil)))) (uv 2)) (ua_cons (ue_ix (uv 0) un_) (ua_cons (ue_ix (uv 1) un_) ua_nil)))))
  (uss_one (us_ret (ue_tup (ua_cons (uv 4) (ua_cons (ue_add (own := false) (ue_add (own := false) (ue_ix (uv 0) un_) (ue_ix (uv 1) un_)) un_) (ua_cons (ue_add (own := false) (ue_b b_maxX m_max (ua_cons (ue_ix (uv 0) un_) (ua_cons (ue_ix (uv 1) un_) ua_nil))) un_) (ua_cons (ue_add (own := false) (ue_ix (uv 0) un_) (ue_ix (uv 1) un_)) (ua_cons (uv 3) ua_nil)))))))))) ?_
  rintro us M Q ⟨p, q', k, rfl, k0, k2, lp, lq, q⟩
  refine ⟨rfl, ?_⟩
  have e : k = 0 ∨ k = 1 ∨ k = 2 := by omega
  have m1 : (Str.ofString " + ").length = 3 := by decide +kernel
  have m2 : (Str.ofString " - ").length = 3 := by decide +kernel
  have m3 : (Str.ofString " * ").length = 3 := by decide +kernel
  have hsz : (p.size : Int) + (q'.size : Int) + 1 = ((p.size + q'.size + 1 : Nat) : Int) := by omega
  have hho : (p.holes : Int) + (q'.holes : Int) = ((p.holes + q'.holes : Nat) : Int) := by omega
  rcases e with rfl | rfl | rfl
  · have := q .sum
    dsimp! only [entQ, at4, max_cast, hsz, hho, uIsB]
    exact ⟨small (by rw [l_op]; omega), small (by rw [len_app, l_op, m1]; omega), small (by simp only [len_app, l_op, m1]; omega), small (by simp only [len_app, l_op, l_cl, m1]; omega), rt_same this⟩
  · have := q .less
    dsimp! only [entQ, at4, max_cast, hsz, hho, uIsB]
    exact ⟨small (by rw [l_op]; omega), small (by rw [len_app, l_op, m2]; omega), small (by simp only [len_app, l_op, m2]; omega), small (by simp only [len_app, l_op, l_cl, m2]; omega), rt_same this⟩
  · have := q .by_
    dsimp! only [entQ, at4, max_cast, hsz, hho, uIsB]
    exact ⟨small (by rw [l_op]; omega), small (by rw [len_app, l_op, m3]; omega), small (by simp only [len_app, l_op, m3]; omega), small (by simp only [len_app, l_op, l_cl, m3]; omega), rt_same this⟩
structure Fit (cs : List Str) (p : Pt) : Prop where
  ok : p.ok
  sm : p.sm cs
  dep : p.dep ≤ 5
  hol : p.holes ≤ 4
  siz : p.size ≤ 9
theorem Fit.len {cs : List Str} {p : Pt} (h : Fit cs p) : p.text.length ≤ 450 := by have := text_len h.ok h.sm; have := h.siz; omega
theorem fit_leaf {cs : List Str} {p : Pt} (h1 : p.ok) (h2 : p.sm cs) (h3 : p.leafy = true) : Fit cs p := by
  cases p with
  | turn a => cases h3
  | two o a b => cases h3
  | hole c => exact ⟨h1, h2, by simp [Pt.dep], by simp [Pt.holes], by simp [Pt.size]⟩
  | any => exact ⟨h1, h2, by decide, by simp [Pt.holes], by simp [Pt.size]⟩
  | fr l h => exact ⟨h1, h2, by simp [Pt.dep], by simp [Pt.holes], by simp [Pt.size]⟩
theorem fit_two {cs : List Str} {p q : Pt} (o : Op) (h1 : Fit cs p) (h2 : Fit cs q) (h : p.size + q.size ≤ 8 ∧ max p.dep q.dep ≤ 4 ∧ p.holes + q.holes ≤ 4) : Fit cs (.two o p q) :=
  ⟨⟨h1.ok, h2.ok⟩, ⟨h1.sm, h2.sm⟩, by simp only [Pt.dep]; omega, by simp only [Pt.holes]; omega, by simp only [Pt.size]; omega⟩
theorem fit_turn {cs : List Str} {p : Pt} (h1 : Fit cs p) (h2 : p.size < 9) (h3 : p.dep < 5) : Fit cs (.turn p) :=
  ⟨h1.ok, h1.sm, by simp only [Pt.dep]; omega, h1.hol, by simp only [Pt.size]; omega⟩
theorem leaf_ent {p : Pt} (h : p.leafy = true) : ∃ z r, p.toU = .tup (.str z :: r) ∧ entQ p = .tup [p.toU, .int 1, .int 1, .int (if decide (z = Str.ofString "at") = true then 1 else 0), .str p.text] := by
  cases p with
  | hole c => exact ⟨_, _, rfl, by simp [entQ, Pt.size, Pt.dep, Pt.holes]⟩
  | any => exact ⟨_, _, rfl, by simp [entQ, Pt.size, Pt.dep, Pt.holes, wwa, wwb, wwc, wwd, wwe, wwf, wwg]⟩
  | fr l h => exact ⟨_, _, rfl, by simp [entQ, Pt.size, Pt.dep, Pt.holes, wwa, wwb, wwc, wwd, wwe, wwf, wwg]⟩
  | turn a => cases h
  | two o a b => cases h
def spPat : USp := fun us M Q => ∃ (n : Int) (cs : List Str), us = [.int n, sortsU cs] ∧ 0 ≤ n ∧ clsOk cs ∧ ∀ p : Pt, Fit cs p → Q (entQ p) M
theorem while_split {c : UT} {tb : US} {D : UEnds} {τ : SU} {M : MHp} (P : SU → MHp → Prop) (μ : SU → MHp → Nat) (h0 : P τ M) (fin : ∀ τ M, P τ M → D.nx τ M)
    (turn : (∀ τ M, P τ M → D.nx τ M) → ∀ τ M, P τ M → c τ M fun b M1 => if b = true then tb { D with nx := fun τ' M' => P τ' M' ∧ μ τ' M' < μ τ M, ct := fun τ' M' => P τ' M' ∧ μ τ' M' < μ τ M, bk := D.nx } τ M1 else D.nx τ M1) : uWhile c tb D τ M := while_by P μ h0 (turn fin)
theorem vw_entQ {M : MHp} {p : Pt} : view M (entQ p) = .tup [p.toU, .int (p.size : Nat), .int (p.dep : Nat), .int (p.holes : Nat), .str p.text] := rfl
def lenAt (p : Addr) (M : MHp) : Nat := match M p with
  | some (.lst us) => us.length
  | _ => 0
theorem lenAt_mup {p : Addr} {M : MHp} {us : List U} : lenAt p (mup M p (.lst us)) = us.length := by simp only [lenAt, mup_same]
theorem ok_pat (F : Fun K "_law_pattern" "_law_pattern" s_law_pattern f fd) (hm : mg "_law_pattern" = some (.ref f)) (m_len : mg "len" = none) (m_int : mg "int" = none) (C_law_fits : Callee P w K mg base 1 "_law_fits" spFits []) (C_law_paired : Callee P w K mg base 1 "_law_paired" spPaired []) (C_law_leaf : Callee P w K mg base 1 "_law_leaf" spLeafK []) : Callee P w K mg base 2 "_law_pattern" spPat [] := by
  refine callee2 F hm sc_law_pattern (ar2 fun _ _ _ _ _ _ _ _ => rfl) (uss_cons (us_set 2 sc_law_pattern.nd (ue_lst (own := true) ua_nil))
  (uss_cons (us_set 3 sc_law_pattern.nd un_)
  (uss_cons (us_while (PWU.pt (uw_and (ut_c k_gt (uv 0) un_) (uw_and1 (ut_c k_ltX (uv 3) un_))))
  (uss_cons (us_set 4 sc_law_pattern.nd (ue_mod (uv 0) un_))
  (uss_cons (us_set 0 sc_law_pattern.nd (ue_divX (uv 0) un_))
  (uss_cons (us_set 3 sc_law_pattern.nd (ue_add (own := false) (uv 3) un_))
  (uss_one (us_if (PWU.pt (uw_and (ut_c k_eqX (uv 4) un_) (uw_and (ut_c k_gt (ue_b b_len m_len (ua_cons (uv 2) ua_nil)) un_) (uw_and (ut_c k_ltX (ue_ix (ue_ix (uv 2) (ue_neg un_)) un_) un_) (uw_and1 (ut_c k_ltX (ue_ix (ue_ix (uv 2) (ue_neg un_)) un_) un_))))))
  (uss_cons (us_set 5 sc_law_pattern.nd (ue_pop (uv 2)))
  (uss_one (us_expr (ue_append (uv 2) (ua_cons (ue_tup (ua_cons (ue_tup (ua_cons us_ (ua_cons (ue_ix (uv 5) un_) ua_nil))) (ua_cons (ue_add (own := false) (ue_ix (uv 5) un_) un_) (ua_cons (ue_add (own := false) (ue_ix (uv 5) un_) un_) (ua_cons (ue_ix (uv 5) un_) (ua_cons (ue_add (own := false) (ue_add (own := false) us_ (ue_ix (uv 5) un_)) us_) ua_nil)))))) ua_nil)))))
  (uss_one (us_if (PWU.pt (uw_and (ut_ch k_le k_le un_ (uv 4) un_) (uw_and (ut_c k_gt (ue_b b_len m_len (ua_cons (uv 2) ua_nil)) un_) (uw_and1 (ut_val (ue_call C_law_fits (ua_cons (ue_ix (uv 2) (ue_neg un_)) (ua_cons (ue_ix (uv 2) (ue_neg un_)) ua_nil))))))))
  (uss_cons (us_set 6 sc_law_pattern.nd (ue_pop (uv 2)))
  (uss_cons (us_set 7 sc_law_pattern.nd (ue_pop (uv 2)))
  (uss_one (us_expr (ue_append (uv 2) (ua_cons (ue_call C_law_paired (ua_cons (uv 7) (ua_cons (uv 6) (ua_cons (ue_sub (uv 4) un_) ua_nil)))) ua_nil))))))
  (uss_cons (us_asg (ue_call C_law_leaf (ua_cons (uv 0) (ua_cons (uv 4) (ua_cons (uv 1) ua_nil)))) (ug_tup (n := 3) (ugs_cons (ug_name (k := 1000) 8 sc_law_pattern.nd) (ugs_cons (ug_name (k := 1000) 9 sc_law_pattern.nd) (ugs_cons (ug_name (k := 1000) 0 sc_law_pattern.nd) ugs_nil)))))
  (uss_one (us_expr (ue_append (uv 2) (ua_cons (ue_tup (ua_cons (uv 8) (ua_cons un_ (ua_cons un_ (ua_cons (ue_t b_int m_int (ua_cons (ue_c k_eqX (ue_ix (uv 8) un_) us_) ua_nil)) (ua_cons (uv 9) ua_nil)))))) ua_nil)))))))))))))
  (uss_cons (us_while (ut_c k_gt (ue_b b_len m_len (ua_cons (uv 2) ua_nil)) un_)
  (uss_cons (us_set 6 sc_law_pattern.nd (ue_pop (uv 2)))
  (uss_cons (us_if (ut_val (ue_call C_law_fits (ua_cons (ue_ix (uv 2) (ue_neg un_)) (ua_cons (uv 6) ua_nil))))
  (uss_cons (us_set 7 sc_law_pattern.nd (ue_pop (uv 2)))
  (uss_one (us_set 6 sc_law_pattern.nd (ue_call C_law_paired (ua_cons (uv 7) (ua_cons (uv 6) (ua_cons (ue_mod (ue_ix (uv 7) un_) un_) ua_nil)))))))
  (uss_one (us_expr (ue_pop (uv 2)))))
  (uss_one (us_expr (ue_append (uv 2) (ua_cons (uv 6) ua_nil)))))))
  (uss_one (us_ret (ue_ix (ue_add (own := false) (uv 2) (ue_lst (own := false) (ua_cons (ue_tup (ua_cons (ue_tup (ua_cons us_ ua_nil)) (ua_cons un_ (ua_cons un_ (ua_cons un_ (ua_cons us_ ua_nil)))))) ua_nil))) un_))))))) ?_
  rintro us M Q ⟨n, cs, rfl, hn, hcs, q⟩
  refine ⟨rfl, ?_⟩
  dsimp! only [uIsB]
  intro p hp
  refine while_split (fun τ Mi => ∃ (st : List Pt) (m : Int) (many : Nat) (a b c d e g : Option U), τ = [some (.int m), some (sortsU cs), some (.ref p), some (.int (many : Int)), a, b, c, d, e, g] ∧ Mi = mup M p (.lst (st.map entQ)) ∧ 0 ≤ m ∧ (∀ q ∈ st, Fit cs q) ∧ st.length ≤ many ∧ many ≤ 9)
    (fun τ _ => match τ with | [_, _, _, some (.int m), _, _, _, _, _, _] => (9 - m).toNat | _ => 0) ⟨[], n, 0, none, none, none, none, none, none, rfl, rfl, hn, (fun q h => by cases h), by simp, by decide⟩ ?_ ?_
  · rintro τ Mi ⟨st, m, many, a, b, c, d, e, g, rfl, rfl, hm0, hok, hlen, hmany⟩
    refine while_split (fun τ Mi => ∃ (st : List Pt) (v0 v3 : U) (a b c d e g : Option U), τ = [some v0, some (sortsU cs), some (.ref p), some v3, a, b, c, d, e, g] ∧ Mi = mup M p (.lst (st.map entQ)) ∧ (∀ q ∈ st, Fit cs q) ∧ st.length ≤ 9)
      (fun _ M => lenAt p M) ⟨st, _, _, a, b, c, d, e, g, rfl, rfl, hok, by omega⟩ ?_ ?_
    · rintro τ Mi ⟨st, v0, v3, a, b, c, d, e, g, rfl, rfl, hok, hl9⟩
      have hany : Fit cs .any := fit_leaf trivial trivial rfl
      cases st with
      | nil =>
        dsimp! only [uIsB]
        exact ⟨_, M, (Sub.refl M).mup hp, .inl rfl, q .any hany⟩
      | cons t r =>
        dsimp! only [uIsB]
        refine ⟨small (by simp at hl9 ⊢; omega), ?_⟩
        exact ⟨_, M, (Sub.refl M).mup hp, .inl rfl, q t (hok t List.mem_cons_self)⟩
    · rintro fx τ Mi ⟨st, v0, v3, a, b, c, d, e, g, rfl, rfl, hok, hl9⟩
      rcases last2 st with rfl | ⟨t, rfl⟩ | ⟨r, s, t, rfl⟩
      · have := fx _ _ ⟨_, v0, v3, a, b, c, d, e, g, rfl, rfl, hok, hl9⟩
        have hz : decide ((1 : Int) < ((0 : Nat) : Int)) = false := by decide
        dsimp! only [hz, uIsB] at this ⊢
        exact this
      · have := fx _ _ ⟨_, v0, v3, a, b, c, d, e, g, rfl, rfl, hok, hl9⟩
        have hz : decide ((1 : Int) < ((1 : Nat) : Int)) = false := by decide
        dsimp! only [hz, uIsB] at this ⊢
        exact this
      · have gt := hok t (by simp)
        have gs := hok s (by simp)
        have gr : ∀ q ∈ r, Fit cs q := fun q hq => hok q (by simp [hq])
        have hr2 : r.length + 2 ≤ 9 := by simpa using hl9
        have lt := gt.len
        have ls := gs.len
        have hgt : decide ((1 : Int) < ((r.map entQ ++ [entQ s, entQ t]).length : Int)) = true := decide_eq_true (by simp; omega)
        dsimp! only [List.map_append, hgt, uIsB]
        dsimp! only [atI_p1, atI_m2, gl_p, dl_p, gl_1, dl_1, atI_m1, uIsB]
        refine ⟨isL_own, s, t, rfl, fun bb hbb => ?_⟩
        cases bb with
        | false =>
          dsimp! only [gl_1, dl_1, uIsB]
          refine ⟨isL_own, isL_own, big (by simp; omega), ⟨r ++ [t], v0, v3, a, b, _, d, e, g, rfl, by simp, ?_, by simp; omega⟩, by simp [lenAt_mup]⟩
          intro q hq
          rcases List.mem_append.mp hq with hq | hq
          · exact gr q hq
          · cases List.mem_singleton.mp hq; exact gt
        | true =>
          have hb := hbb rfl
          dsimp! only [gl_1, dl_1, vw_entQ, uIsB]
          refine ⟨isL_own, by decide, s, t, _, rfl, by omega, by omega, by omega, by omega, fun o => ?_⟩
          dsimp! only [uIsB]
          refine ⟨isL_own, big (by simp; omega), ⟨r ++ [.two o s t], v0, v3, a, b, _, _, e, g, rfl, by simp, ?_, by simp; omega⟩, by simp [lenAt_mup]⟩
          intro q hq
          rcases List.mem_append.mp hq with hq | hq
          · exact gr q hq
          · cases List.mem_singleton.mp hq; exact fit_two o gs gt hb
  · rintro fx τ Mi ⟨st, m, many, a, b, c, d, e, g, rfl, rfl, hm0, hok, hlen, hmany⟩
    have fin := fx _ _ ⟨st, m, many, a, b, c, d, e, g, rfl, rfl, hm0, hok, hlen, hmany⟩
    simp! only [uIn, items, inTab, ixTab, uSetI, uIsB]
    refine ite2 (fun g1 => ite2 (fun g2 => ?_) (fun g2 => fin)) (fun g1 => fin)
    have hmany' : many < 9 := by have := of_decide_eq_true g2; omega
    simp! only [uSeq, uAsg, hName, uIn, items, inTab, ixTab, uSetI, uIsB]
    refine ⟨by decide, ⟨by decide, by decide⟩, ?_⟩
    have c0 := Int.emod_nonneg m (show (8 : Int) ≠ 0 by decide)
    have c1 := Int.emod_lt_of_pos m (show (0 : Int) < 8 by decide)
    have m0 : 0 ≤ m / 8 := Int.ediv_nonneg hm0 (by decide)
    generalize m % 8 = code at c0 c1
    generalize m / 8 = m' at m0
    rcases last2 st with rfl | ⟨t, rfl⟩ | ⟨r, s, t, rfl⟩
    · have z0 : decide ((0 : Int) < ((0 : Nat) : Int)) = false := by decide
      have z1 : decide ((1 : Int) < ((0 : Nat) : Int)) = false := by decide
      simp! only [uIfS, z0, z1, uIn, items, inTab, ixTab, uSetI, uIsB]
      repeat' (refine ite2 (fun _ => ?_) (fun _ => ?_))
      all_goals
        dsimp! only [uIsB]
        refine ⟨m', code, cs, rfl, m0, hcs, fun pt n' k1 k2 k3 k4 => ?_⟩
        obtain ⟨z, rr, e1, e2⟩ := leaf_ent k3
        dsimp! only [e1, uIsB]
        refine ⟨isL_own, big (by simp; try omega), ⟨([] : List Pt) ++ [pt], n', many + 1, _, _, _, _, _, _, rfl, by simp [e2, e1], k4, ?_, by simp; try omega, by omega⟩, by omega⟩
        intro q hq
        rcases List.mem_append.mp hq with hq | hq
        · exact hok q hq
        · cases List.mem_singleton.mp hq; exact fit_leaf k1 k2 k3
    · have gt := hok t List.mem_cons_self
      have lt := gt.len
      have z0 : decide ((0 : Int) < ((1 : Nat) : Int)) = true := by decide
      have z1 : decide ((1 : Int) < ((1 : Nat) : Int)) = false := by decide
      simp! only [uIfS, z0, z1, atI_s1, vw_entQ, uIn, items, inTab, ixTab, uSetI, uIsB]
      repeat' (refine ite2 (fun _ => ?_) (fun _ => ?_))
      all_goals first
        | (have h1 : t.size < 9 := by have := of_decide_eq_true ‹decide ((t.size : Int) < 9) = true›; omega
           have h2 : t.dep < 5 := by have := of_decide_eq_true ‹decide ((t.dep : Int) < 5) = true›; omega
           dsimp! only [gl_s, dl_s, vw_entQ, at4, uIsB]
           refine ⟨isL_own, isL_own, small (by rw [l_turn]; omega), small (by rw [len_app, l_turn, l_cl]; omega), by decide, ⟨[.turn t], m', many + 1, _, _, _, _, _, _, rfl, rfl, m0, ?_, by simp, by omega⟩, by omega⟩
           intro q hq
           cases List.mem_singleton.mp hq
           exact fit_turn gt h1 h2)
        | (dsimp! only [uIsB]
           refine ⟨m', code, cs, rfl, m0, hcs, fun pt n' k1 k2 k3 k4 => ?_⟩
           obtain ⟨z, rr, e1, e2⟩ := leaf_ent k3
           dsimp! only [e1, uIsB]
           refine ⟨isL_own, big (by simp; try omega), ⟨[t] ++ [pt], n', many + 1, _, _, _, _, _, _, rfl, by simp [e2, e1], k4, ?_, by simp; try omega, by omega⟩, by omega⟩
           intro q hq
           rcases List.mem_append.mp hq with hq | hq
           · exact hok q hq
           · cases List.mem_singleton.mp hq; exact fit_leaf k1 k2 k3)
    · have gt := hok t (by simp)
      have gs := hok s (by simp)
      have gr : ∀ q ∈ r, Fit cs q := fun q hq => hok q (by simp [hq])
      have hr2 : r.length + 2 ≤ many := by simpa using hlen
      have lt := gt.len
      have ls := gs.len
      have z0 : decide ((0 : Int) < ((r.map entQ ++ [entQ s, entQ t]).length : Int)) = true := decide_eq_true (by simp; omega)
      have z1 : decide ((1 : Int) < ((r.map entQ ++ [entQ s, entQ t]).length : Int)) = true := decide_eq_true (by simp; omega)
      simp! only [uIfS, List.map_append, z0, z1, atI_p1, atI_m2, vw_entQ, uIn, items, inTab, ixTab, uSetI, uIsB]
      repeat' (refine ite2 (fun _ => ?_) (fun _ => ?_))
      all_goals first
        | (have h1 : t.size < 9 := by have := of_decide_eq_true ‹decide ((t.size : Int) < 9) = true›; omega
           have h2 : t.dep < 5 := by have := of_decide_eq_true ‹decide ((t.dep : Int) < 5) = true›; omega
           dsimp! only [gl_p, dl_p, vw_entQ, at4, uIsB]
           refine ⟨isL_own, isL_own, small (by rw [l_turn]; omega), small (by rw [len_app, l_turn, l_cl]; omega), big (by simp; omega), ⟨r ++ [s, .turn t], m', many + 1, _, _, _, _, _, _, rfl, by simp [entQ, Pt.toU, Pt.size, Pt.dep, Pt.holes, Pt.text], m0, ?_, by simp; omega, by omega⟩, by omega⟩
           intro q hq
           rcases List.mem_append.mp hq with hq | hq
           · exact gr q hq
           · simp only [List.mem_cons, List.not_mem_nil, or_false] at hq
             rcases hq with rfl | rfl
             · exact gs
             · exact fit_turn gt h1 h2)
        | (refine ⟨s, t, rfl, fun bb hbb => ?_⟩
           cases bb with
           | false =>
             simp only [vw_bl, Bool.false_eq_true, if_false]
             dsimp! only [uIsB]
             refine ⟨m', code, cs, rfl, m0, hcs, fun pt n' k1 k2 k3 k4 => ?_⟩
             obtain ⟨z, rr, e1, e2⟩ := leaf_ent k3
             dsimp! only [e1, uIsB]
             refine ⟨isL_own, big (by simp; try omega), ⟨(r ++ [s, t]) ++ [pt], n', many + 1, _, _, _, _, _, _, rfl, by simp [e2, e1], k4, ?_, by simp; try omega, by omega⟩, by omega⟩
             intro q hq
             rcases List.mem_append.mp hq with hq | hq
             · exact hok q hq
             · cases List.mem_singleton.mp hq; exact fit_leaf k1 k2 k3
           | true =>
             have hb := hbb rfl
             have h4 := of_decide_eq_true ‹decide (4 ≤ code) = true›
             have h6 := of_decide_eq_true ‹decide (code ≤ 6) = true›
             dsimp! only [gl_p, dl_p, gl_1, dl_1, uIsB]
             refine ⟨isL_own, isL_own, isL_own, s, t, _, rfl, by omega, by omega, by omega, by omega, fun o => ?_⟩
             simp only [mup_same, mup_mup]
             refine ⟨big (by simp; omega), ⟨r ++ [.two o s t], m', many + 1, _, _, _, _, _, _, rfl, by simp, m0, ?_, by simp; omega, by omega⟩, by omega⟩
             intro q hq
             rcases List.mem_append.mp hq with hq | hq
             · exact gr q hq
             · cases List.mem_singleton.mp hq; exact fit_two o gs gt hb)
        | (dsimp! only [uIsB]
           refine ⟨m', code, cs, rfl, m0, hcs, fun pt n' k1 k2 k3 k4 => ?_⟩
           obtain ⟨z, rr, e1, e2⟩ := leaf_ent k3
           dsimp! only [e1, uIsB]
           refine ⟨isL_own, big (by simp; try omega), ⟨(r ++ [s, t]) ++ [pt], n', many + 1, _, _, _, _, _, _, rfl, by simp [e2, e1], k4, ?_, by simp; try omega, by omega⟩, by omega⟩
           intro q hq
           rcases List.mem_append.mp hq with hq | hq
           · exact hok q hq
           · cases List.mem_singleton.mp hq; exact fit_leaf k1 k2 k3)
theorem app_assoc (a b c : Str) : a ++ b ++ c = a ++ (b ++ c) := by
  show (⟨(a.cps ++ b.cps) ++ c.cps⟩ : Str) = ⟨a.cps ++ (b.cps ++ c.cps)⟩
  rw [Array.append_assoc]
theorem join_eq (z : Str) (l : List Str) : Txt.join z l = Str.join z l := StrLaws.glued_eq_join z l
theorem sum_le (B : Nat) : ∀ l : List Str, (∀ s ∈ l, s.length ≤ B) → (l.map (·.length)).sum ≤ B * l.length
  | [], _ => by simp
  | a :: r, h => by
    have h1 := h a List.mem_cons_self
    have h2 := sum_le B r fun s hs => h s (List.mem_cons_of_mem _ hs)
    simp only [List.map_cons, List.sum_cons, List.length_cons, Nat.mul_succ]; omega
theorem join_len {B n : Nat} {z : Str} {l : List Str} (hz : z.length ≤ 1) (h : ∀ s ∈ l, s.length ≤ B) (hl : l.length ≤ n) (hB : B * n + n ≤ 100000) : (l.map (·.length)).sum + l.length * z.length ≤ 16777216 ∧ (Txt.join z l).length ≤ B * n + n := by
  have h1 := sum_le B l h
  have h2 : B * l.length ≤ B * n := Nat.mul_le_mul_left _ hl
  have h3 : l.length * z.length ≤ l.length * 1 := Nat.mul_le_mul_left _ hz
  have h4 := StrLaws.join_length_le z l
  rw [join_eq]
  omega
theorem strsU_map (l : List Str) : strsU (l.map U.str) = some l := by
  induction l with
  | nil => rfl
  | cons a r ih => simp only [List.map_cons, strsU, ih]; rfl
structure Tl where
  name : Str
  cls : Str
  pt : Pt
  cost : Int
def Tl.toU (t : Tl) : U := .tup [.str t.name, .str t.cls, t.pt.toU, .int t.cost]
def Tl.row (t : Tl) : Str := t.name ++ Str.ofString " " ++ t.cls ++ Str.ofString " " ++ Str.ofString (toString t.cost) ++ Str.ofString " " ++ t.pt.text
structure Tl.ok (cs : List Str) (t : Tl) : Prop where
  nm : t.name.length ≤ 8
  cl : t.cls.length ≤ 8
  pt : Fit cs t.pt
  c0 : 0 ≤ t.cost
  c1 : t.cost ≤ 1000
  nn : isName (.str t.name) = true
  ci : t.cls ∈ cs
  np : t.pt ≠ .hole t.cls
  no : PyData.strOk t.name = true
theorem l_bl : (Str.ofString " ").length = 1 := by decide +kernel
theorem first_ix (w : Str) : ∀ l : List Str, w ∈ l → ∃ j : Nat, l[j]? = some w ∧ ∀ m z, m < j → l[m]? = some z → z ≠ w
  | [], h => by cases h
  | a :: r, h => by
    by_cases e : a = w
    · subst e; exact ⟨0, rfl, fun m z hm => by omega⟩
    · have h' : w ∈ r := by
        rcases List.mem_cons.mp h with h | h
        · exact absurd h.symm e
        · exact h
      obtain ⟨j, h1, h2⟩ := first_ix w r h'
      refine ⟨j + 1, by simpa using h1, fun m z hm hz => ?_⟩
      cases m with
      | zero => cases hz; exact e
      | succ m => exact h2 m z (by omega) (by simpa using hz)
theorem eqX_hole {pt : Pt} {s : Str} {M : MHp} {Q : UK} (h : pt.ok) (hd : pt.dep ≤ 60) (hs : PyData.strOk s = true) (q : ∀ b, (b = false → pt ≠ .hole s) → Q (.bl b) M) : uEqX false pt.toU (.tup [.str (Str.ofString "at"), .str s]) M Q := by
  obtain ⟨z, r, e, _⟩ := head_sign pt
  have e1 : toD pt.toU = some (datP pt) := toD_P pt
  have h1 : topD M pt.toU = some (datP pt) := by rw [← e1, e]; rfl
  have h2 : topD M (.tup [.str (Str.ofString "at"), .str s]) = some (datP (.hole s)) := by rw [← toD_P (.hole s)]; rfl
  have h3 : (datP (.hole s)).depth ≤ 2 := by simp [datP, PyData.depth, PyData.depthAll]
  have h4 : uEqD false pt.toU (.tup [.str (Str.ofString "at"), .str s]) M Q := ⟨_, _, h1, h2, layP pt h, layP (.hole s) hs, by omega, q _ fun hf z => by subst z; rw [if_neg (by simp), SeqAt.eqv_refl _ (layP (.hole s) hs)] at hf; cases hf⟩
  rw [e] at h4 ⊢
  exact h4
def spTile : USp := fun us M Q => ∃ (c : Int) (cs : List Str) (p : Addr) (ss : List Str), us = [.int c, sortsU cs, .ref p] ∧ Builtin.Int.intBits c ≤ 2 ^ 20 ∧ clsOk cs ∧ M p = some (.lst (ss.map .str)) ∧ ss.length ≤ 100 ∧ ∀ t : Tl, t.ok cs → t.name ∉ ss → Q (.tup [t.toU, .str t.row]) M
theorem ok_tile (F : Fun K "_law_tile" "_law_tile" s_law_tile f fd) (hm : mg "_law_tile" = some (.ref f)) (m_len : mg "len" = none) (m_str : mg "str" = none) (C_law_wide : Callee P w K mg base 1 "_law_wide" spWide []) (C_law_fresh : Callee P w K mg base 2 "_law_fresh" spFresh []) (C_law_pattern : Callee P w K mg base 2 "_law_pattern" spPat []) : Callee P w K mg base 3 "_law_tile" spTile [] := by
  refine callee2 F hm sc_law_tile (ar3 fun _ _ _ _ _ _ _ _ _ => rfl) (uss_cons (us_set 3 sc_law_tile.nd (ue_call C_law_wide (ua_cons (uv 0) ua_nil)))
  (uss_cons (us_set 4 sc_law_tile.nd (ue_call C_law_fresh (ua_cons (ue_mod (uv 3) (ue_mulX (own := false) un_ (ue_pow un_ un_))) (ua_cons (uv 2) ua_nil))))
  (uss_cons (us_set 3 sc_law_tile.nd (ue_divX (uv 3) (ue_mulX (own := false) un_ (ue_pow un_ un_))))
  (uss_cons (us_set 5 sc_law_tile.nd (ue_ix (uv 1) (ue_mod (uv 3) (ue_b b_len m_len (ua_cons (uv 1) ua_nil)))))
  (uss_cons (us_set 3 sc_law_tile.nd (ue_divX (uv 3) (ue_b b_len m_len (ua_cons (uv 1) ua_nil))))
  (uss_cons (us_set 6 sc_law_tile.nd (ue_mod (uv 3) un_))
  (uss_cons (us_set 7 sc_law_tile.nd (ue_call C_law_pattern (ua_cons (ue_divX (uv 3) un_) (ua_cons (uv 1) ua_nil))))
  (uss_cons (us_if (ut_c k_eqX (ue_ix (uv 7) un_) (ue_tup (ua_cons us_ (ua_cons (uv 5) ua_nil))))
  (uss_cons (us_set 8 sc_law_tile.nd (ue_ix (uv 1) (ue_mod (ue_add (own := false) (ue_tindex (uv 1) (ua_cons (uv 5) ua_nil)) un_) (ue_b b_len m_len (ua_cons (uv 1) ua_nil)))))
  (uss_cons (us_set 7 sc_law_tile.nd (ue_tup (ua_cons (ue_tup (ua_cons us_ (ua_cons (uv 8) ua_nil))) (ua_cons un_ (ua_cons un_ (ua_cons un_ (ua_cons (ue_add (own := false) us_ (uv 8)) ua_nil)))))))
  (uss_one (us_if (ut_c k_eqX (uv 8) (uv 5))
  (uss_one (us_set 7 sc_law_tile.nd (ue_tup (ua_cons (ue_tup (ua_cons us_ ua_nil)) (ua_cons un_ (ua_cons un_ (ua_cons un_ (ua_cons us_ ua_nil))))))))
  uss_nil))))
  uss_nil)
  (uss_cons (us_set 9 sc_law_tile.nd (ue_add (own := false) (ue_add (own := false) (ue_add (own := false) (ue_add (own := false) (ue_add (own := false) (ue_add (own := false) (uv 4) us_) (uv 5)) us_) (ue_t b_str m_str (ua_cons (uv 6) ua_nil))) us_) (ue_ix (uv 7) un_)))
  (uss_one (us_ret (ue_tup (ua_cons (ue_tup (ua_cons (uv 4) (ua_cons (uv 5) (ua_cons (ue_ix (uv 7) un_) (ua_cons (uv 6) ua_nil))))) (ua_cons (uv 9) ua_nil)))))))))))))) ?_
  rintro us M Q ⟨c, cs, p, ss, rfl, hb, hcs, hM, hl, q⟩
  refine ⟨rfl, ?_⟩
  obtain ⟨hne, hle, hcc⟩ := hcs
  have pw : CPow 10 12 := ⟨by decide, by decide, by decide⟩
  have hln : 0 < (cs.length : Int) := by have := List.length_pos_iff.mpr hne; omega
  have slen : ((sortsU cs) = .tup (cs.map .str)) := rfl
  simp! only [uSeq, uAsg, hName, uIn, items, inTab, ixTab, uSetI, uIsB, uBMT, uBMS, mTIndex, mJoin]
  refine ⟨c, rfl, hb, fun n hn => ?_⟩
  simp! only [uSeq, uAsg, hName, uIn, items, inTab, ixTab, uSetI, uIsB, uBMT, uBMS, mTIndex, mJoin]
  refine ⟨pw, mulL (by decide) (by decide), by decide, _, .ref p, ss, rfl, Int.emod_nonneg _ (by decide), (by simp only [items, hM]), hl, fun m hm0 hnot => ?_⟩
  have nl := nameF_len m
  have nis := nameF_is m
  have nok := nameF_ok m
  generalize nameF m = nm at nl nis nok hnot
  simp! only [uSeq, uAsg, hName, sortsU, List.length_map, uIn, items, inTab, ixTab, uSetI, uIsB, uBMT, uBMS, mTIndex, mJoin]
  have n1 : 0 ≤ n / (8 * 10 ^ Int.toNat 12) := Int.ediv_nonneg hn (by decide)
  generalize n / (8 * 10 ^ Int.toNat 12) = m1 at n1
  obtain ⟨s, hat⟩ := atI_ex cs (m1 % (cs.length : Int)) (Int.emod_nonneg _ (by omega)) (Int.emod_lt_of_pos _ hln)
  have hsm := atI_mem hat
  have hs := hcc s hsm
  have m2 : 0 ≤ m1 / (cs.length : Int) := Int.ediv_nonneg n1 (by omega)
  have c0 := Int.emod_nonneg (m1 / (cs.length : Int)) (show (1001 : Int) ≠ 0 by decide)
  have c1 := Int.emod_lt_of_pos (m1 / (cs.length : Int)) (show (0 : Int) < 1001 by decide)
  refine ⟨pw, mulL (by decide) (by decide), ⟨by decide, by decide⟩, hln, _, cls_at hat, ⟨hln, by omega⟩, by decide, ⟨by decide, by decide⟩, _, cs, rfl, Int.ediv_nonneg m2 (by decide), ⟨hne, hle, hcc⟩, fun pt hpt => ?_⟩
  generalize m1 / (cs.length : Int) % 1001 = cost at c0 c1
  generalize m1 / (cs.length : Int) = m3 at m2
  simp! only [uIfS, vw_entQ, uIn, items, inTab, ixTab, uSetI, uIsB, uBMT, uBMS, mTIndex, mJoin]
  refine eqX_hole hpt.ok (by have := hpt.dep; omega) hs.1 fun b hbf => ?_
  have e4 := num_len c0 (by omega)
  cases b with
  | false =>
    dsimp! only [vw_entQ, at4, uIsB, uBMT, uBMS, mTIndex, mJoin]
    have e5 := hpt.len
    refine ⟨small (by rw [l_bl]; omega), small (by rw [len_app, l_bl]; omega), small (by simp only [len_app, l_bl]; omega), log_ok c0 (by omega), small (by simp only [len_app, l_bl]; omega), small (by simp only [len_app, l_bl]; omega), small (by simp only [len_app, l_bl]; omega), rt_same (q ⟨nm, s, pt, cost⟩ ⟨nl.2, hs.2, hpt, c0, (by show cost ≤ 1000; omega), nis, hsm, hbf rfl, nok⟩ hnot)⟩
  | true =>
    obtain ⟨j, hj1, hj2⟩ := first_ix s cs hsm
    obtain ⟨s2, hat2⟩ := atI_ex cs (((j : Nat) + 1 : Int) % (cs.length : Int)) (Int.emod_nonneg _ (by omega)) (Int.emod_lt_of_pos _ hln)
    have hs2 := hcc s2 (atI_mem hat2)
    have f2 : Fit cs (.hole s2) := fit_leaf hs2.1 ⟨hs2.2, atI_mem hat2⟩ rfl
    have f3 : Fit cs .any := fit_leaf trivial trivial rfl
    simp! only [uSeq, uAsg, uIfS, hName, vw_entQ, List.length_map, uIn, items, inTab, ixTab, uSetI, uIsB, uBMT, uBMS, mTIndex, mJoin]
    refine ⟨⟨_, rfl⟩, cs, j, strsU_map cs, hj1, hj2, hln, _, cls_at hat2, small (by rw [l_at]; omega), ite2 (fun _ => ?_) (fun hne2 => ?_)⟩
    · dsimp! only [vw_entQ, at4, uIsB, uBMT, uBMS, mTIndex, mJoin]
      have e5 := f3.len
      refine ⟨small (by rw [l_bl]; omega), small (by rw [len_app, l_bl]; omega), small (by simp only [len_app, l_bl]; omega), log_ok c0 (by omega), small (by simp only [len_app, l_bl]; omega), small (by simp only [len_app, l_bl]; omega), small (by simp only [len_app, l_bl, l_q]; omega), rt_same (q ⟨nm, s, .any, cost⟩ ⟨nl.2, hs.2, f3, c0, (by show cost ≤ 1000; omega), nis, hsm, (fun z => nomatch z), nok⟩ hnot)⟩
    · dsimp! only [vw_entQ, at4, uIsB, uBMT, uBMS, mTIndex, mJoin]
      refine ⟨small (by rw [l_bl]; omega), small (by rw [len_app, l_bl]; omega), small (by simp only [len_app, l_bl]; omega), log_ok c0 (by omega), small (by simp only [len_app, l_bl]; omega), small (by simp only [len_app, l_bl]; omega), small (by simp only [len_app, l_bl, l_at]; omega), rt_same (q ⟨nm, s, .hole s2, cost⟩ ⟨nl.2, hs.2, f2, c0, (by show cost ≤ 1000; omega), nis, hsm, (fun z => hne2 (decide_eq_true (by injection z))), nok⟩ hnot)⟩
theorem for_byG {wi : UI} {g : UG} {tb : US} {D : UEnds} {τ : SU} {M : MHp} {S : Src} (G : MHp → Prop) (hw : ∀ R : Src → MHp → Prop, (∀ M1, G M1 → R S M1) → wi τ M R) (P : Nat → SU → MHp → Prop) (h0 : ∀ M1, G M1 → P 0 τ M1) (hok : ∀ i τ M, P i τ M → S.ok M)
    (turn : ∀ i x τ M, S.xs[i]? = some x → P i τ M → g x τ M fun τ2 M2 => tb { D with nx := P (i + 1), ct := P (i + 1), bk := D.nx } τ2 M2) (fin : ∀ τ M, P S.xs.length τ M → D.nx τ M) : uFor wi g tb D τ M := hw _ fun M1 g1 => ⟨P, h0 M1 g1, hok, turn, fin⟩
theorem l_nl : (Str.ofString "\n").length = 1 := by decide +kernel
def linesOf (cs : List Str) (tl : List Tl) : List Str := Txt.join (Str.ofString " ") cs :: tl.map Tl.row
theorem cs_join {cs : List Str} (h : clsOk cs) : (cs.map (·.length)).sum + cs.length * (Str.ofString " ").length ≤ 16777216 ∧ (Txt.join (Str.ofString " ") cs).length ≤ 600 := by
  have := join_len (B := 8) (n := 6) (z := Str.ofString " ") (l := cs) (by rw [l_bl]; omega) (fun s hs => (h.2.2 s hs).2) h.2.1 (by decide)
  omega
theorem cut_len {α : Type} (l : List α) (a b : Option Int) : (cutU l a b).length ≤ l.length := by
  unfold cutU
  rw [List.length_take, List.length_drop]; omega
theorem cut_len2 {α : Type} (l : List α) : (cutU l (some 1) (some 41)).length = min 41 l.length - 1 := by
  unfold cutU
  simp only [HT.sIx]
  rw [List.length_take, List.length_drop]
  rw [if_neg (by decide), if_neg (by decide)]
  have e1 : (1 : Int).toNat = 1 := rfl
  have e2 : (41 : Int).toNat = 41 := rfl
  rw [e1, e2]
  omega
theorem seven_len (b : Bool) : (List.replicate (if b = true then 1 else 0 : Int).toNat [U.int 7]).flatten.length ≤ 1 := by cases b <;> decide
theorem vw_tile {M : MHp} {t : Tl} : view M t.toU = .tup [.str t.name, .str t.cls, t.pt.toU, .int t.cost] := rfl
def spTable : USp := fun us M Q => ∃ ns : List Int, us = [.lst (ns.map .int)] ∧ ns.length ≤ 63 ∧ (∀ m ∈ ns, Builtin.Int.intBits m ≤ 2 ^ 20) ∧ ∀ (cs : List Str) (tl : List Tl) (q : Addr), ClsN cs → 1 ≤ tl.length → tl.length ≤ 40 → (∀ t ∈ tl, t.ok cs) → (tl.map Tl.name).Nodup → M q = none → Q (.tup [sortsU cs, .tup (tl.map Tl.toU), .ref q]) (mup M q (.lst ((linesOf cs tl).map .str)))
theorem ok_table (F : Fun K "_law_table" "_law_table" s_law_table f fd) (hm : mg "_law_table" = some (.ref f)) (m_len : mg "len" = none) (m_int : mg "int" = none) (m_tuple : mg "tuple" = none) (C_law_classes : Callee P w K mg base 3 "_law_classes" spClasses []) (C_law_tile : Callee P w K mg base 3 "_law_tile" spTile []) : Callee P w K mg base 4 "_law_table" spTable [] := by
  refine callee2 F hm sc_law_table (ar1 fun _ _ _ _ _ _ _ => rfl) (uss_cons (us_set 1 sc_law_table.nd (ue_call C_law_classes (ua_cons (ue_ix (ue_add (own := false) (uv 0) (ue_lst (own := false) (ua_cons un_ ua_nil))) un_) ua_nil)))
  (uss_cons (us_set 2 sc_law_table.nd (ue_lst (own := true) ua_nil))
  (uss_cons (us_set 3 sc_law_table.nd (ue_lst (own := true) ua_nil))
  (uss_cons (us_set 4 sc_law_table.nd (ue_lst (own := true) (ua_cons (ue_join us_ (ua_cons (uv 1) ua_nil)) ua_nil)))
  (uss_cons (us_for (ui_seq (ue_add (own := false) (ue_slX (own := false) (uv 0) (uo_some un_) (uo_some un_)) (ue_mulX (own := false) (ue_lst (own := true) (ua_cons un_ ua_nil)) (ue_t b_int m_int (ua_cons (ue_c k_ltX (ue_b b_len m_len (ua_cons (uv 0) ua_nil)) un_) ua_nil))))) (ug_name (k := 1000) 5 sc_law_table.nd)
  (uss_cons (us_asg (ue_call C_law_tile (ua_cons (uv 5) (ua_cons (uv 1) (ua_cons (uv 3) ua_nil)))) (ug_tup (n := 2) (ugs_cons (ug_name (k := 1000) 6 sc_law_table.nd) (ugs_cons (ug_name (k := 1000) 7 sc_law_table.nd) ugs_nil))))
  (uss_cons (us_expr (ue_append (uv 2) (ua_cons (uv 6) ua_nil)))
  (uss_cons (us_expr (ue_append (uv 3) (ua_cons (ue_ix (uv 6) un_) ua_nil)))
  (uss_one (us_expr (ue_append (uv 4) (ua_cons (uv 7) ua_nil))))))))
  (uss_one (us_ret (ue_tup (ua_cons (uv 1) (ua_cons (ue_t b_tuple m_tuple (ua_cons (uv 2) ua_nil)) (ua_cons (uv 4) ua_nil))))))))))) ?_
  rintro us M Q ⟨ns, rfl, hl, hb, q⟩
  refine ⟨rfl, ?_⟩
  obtain ⟨c0, hc0, hc0b⟩ : ∃ c0 : Int, atI (ns.map U.int ++ [U.int 0]) 0 = some (.int c0) ∧ Builtin.Int.intBits c0 ≤ 2 ^ 20 := by
    cases ns with
    | nil => exact ⟨0, at0, by decide +kernel⟩
    | cons a r => exact ⟨a, at0, hb a List.mem_cons_self⟩
  dsimp! only [hc0, uIsB, uBMT, uBMS, mTIndex, mJoin]
  refine ⟨small (by simp; omega), c0, rfl, hc0b, fun cs hcn => ?_⟩
  have hcs := hcn.ok
  dsimp! only [sortsU, uIsB, uBMT, uBMS, mTIndex, mJoin]
  refine fun p2 h2 p3 h3 => ⟨⟨_, rfl⟩, cs, strsU_map cs, (cs_join hcs).1, fun p4 h4 => ?_⟩
  have n32 : p3 ≠ p2 := fun z => by subst z; rw [mup_same] at h3; cases h3
  have h3' : M p3 = none := by rw [mup_ne n32] at h3; exact h3
  have n43 : p4 ≠ p3 := fun z => by subst z; rw [mup_same] at h4; cases h4
  rw [mup_ne n43] at h4
  have n42 : p4 ≠ p2 := fun z => by subst z; rw [mup_same] at h4; cases h4
  have h4' : M p4 = none := by rw [mup_ne n42] at h4; exact h4
  obtain ⟨k7, hk7, hk7l⟩ : ∃ k : List Int, (∀ m ∈ k, m = 7) ∧ k.length ≤ 1 := ⟨[], (fun m h => by cases h), by simp⟩
  refine for_byG (S := ⟨none, cutU (ns.map U.int) (some 1) (some 41) ++ (List.replicate (if decide (((ns.length : Nat) : Int) < 2) = true then 1 else 0 : Int).toNat [U.int 7]).flatten⟩)
    (fun M1 => M1 p2 = some (.lst []) ∧ M1 p3 = some (.lst []) ∧ M1 p4 = some (.lst [.str (Txt.join (Str.ofString " ") cs)]) ∧ Sub M M1) (fun R r => ?_)
    (fun i τ Mi => ∃ (tl : List Tl) (a b c : Option U), τ = [some (.lst (ns.map .int)), some (sortsU cs), some (.ref p2), some (.ref p3), some (.ref p4), a, b, c] ∧ Mi p2 = some (.lst (tl.map Tl.toU)) ∧ Mi p3 = some (.lst ((tl.map Tl.name).map .str)) ∧ Mi p4 = some (.lst ((linesOf cs tl).map .str)) ∧ Sub M Mi ∧ tl.length = i ∧ (∀ t ∈ tl, t.ok cs) ∧ (tl.map Tl.name).Nodup)
    (fun M1 g1 => ⟨[], none, none, none, rfl, g1.1, g1.2.1, g1.2.2.1, g1.2.2.2, rfl, (fun t h => by cases h), List.nodup_nil⟩) nk ?_ ?_
  · dsimp! only [List.length_map, uIsB, uBMT, uBMS, mTIndex, mJoin]
    refine fun p5 h5 => ?_
    have n54 : p5 ≠ p4 := fun z => by subst z; rw [mup_same] at h5; cases h5
    rw [mup_ne n54] at h5
    have n53 : p5 ≠ p3 := fun z => by subst z; rw [mup_same] at h5; cases h5
    rw [mup_ne n53] at h5
    have n52 : p5 ≠ p2 := fun z => by subst z; rw [mup_same] at h5; cases h5
    rw [mup_ne n52] at h5
    have key := r (mup (mup (mup (mup M p2 (.lst [])) p3 (.lst [])) p4 (.lst [.str (Txt.join (Str.ofString " ") cs)])) p5 (.lst [.int 7]))
      ⟨by rw [mup_ne n52.symm, mup_ne n42.symm, mup_ne n32.symm, mup_same], by rw [mup_ne n53.symm, mup_ne n43.symm, mup_same], by rw [mup_ne n54.symm, mup_same], ((((Sub.refl M).mup h2).mup h3').mup h4').mup h5⟩
    have hcl := cut_len (ns.map U.int) (some 1) (some 41)
    rw [List.length_map] at hcl
    cases hdd : decide (((ns.length : Nat) : Int) < 2) with
    | true =>
      rw [hdd] at key
      simp only [if_true] at key ⊢
      exact ⟨by decide, by decide, by decide, small (by simp; omega), key⟩
    | false =>
      rw [hdd] at key
      simp only [Bool.false_eq_true, if_false] at key ⊢
      exact ⟨by decide, by decide, by decide, small (by simp; omega), key⟩
  · rintro i x τ Mi e ⟨tl, a, b, c, rfl, g2, g3, g4, hS, hti, htl, hnd⟩
    have hi : i ≤ 65 := by
      have h := (List.getElem?_eq_some_iff.mp e).1
      have hcl := cut_len (ns.map U.int) (some 1) (some 41)
      rw [List.length_map] at hcl
      have h7 := seven_len (decide (((ns.length : Nat) : Int) < 2))
      have h' : i < (cutU (ns.map U.int) (some 1) (some 41) ++ (List.replicate (if decide (((ns.length : Nat) : Int) < 2) = true then 1 else 0 : Int).toNat [U.int 7]).flatten).length := h
      rw [List.length_append] at h'
      omega
    obtain ⟨m, rfl, hmb⟩ : ∃ m : Int, x = .int m ∧ Builtin.Int.intBits m ≤ 2 ^ 20 := by
      rcases List.mem_append.mp (List.mem_of_getElem? e) with hx | hx
      · obtain ⟨m, hm, rfl⟩ := List.mem_map.mp (List.mem_of_mem_drop (List.mem_of_mem_take hx))
        exact ⟨m, rfl, hb m hm⟩
      · obtain ⟨l, h1, h2⟩ := List.mem_flatten.mp hx
        have := List.eq_of_mem_replicate h1
        subst this
        cases List.mem_singleton.mp h2
        exact ⟨7, rfl, by decide +kernel⟩
    dsimp! only [sortsU, uIsB, uBMT, uBMS, mTIndex, mJoin]
    refine ⟨m, cs, p3, tl.map Tl.name, rfl, hmb, hcs, g3, by simp; omega, fun t ht hnn => ?_⟩
    have f3 : ∀ X, mup Mi p2 X p3 = some (.lst ((tl.map Tl.name).map .str)) := fun X => by rw [mup_ne n32]; exact g3
    have f4 : ∀ X Y, mup (mup Mi p2 X) p3 Y p4 = some (.lst ((linesOf cs tl).map .str)) := fun X Y => by rw [mup_ne n43, mup_ne n42]; exact g4
    dsimp! only [g2, f3, f4, vw_tile, uIsB, uBMT, uBMS, mTIndex, mJoin]
    refine ⟨⟨_, view_ref g2⟩, big (by simp; omega), ⟨_, view_ref (f3 _)⟩, big (by simp; omega), ⟨_, view_ref (f4 _ _)⟩, big (by simp [linesOf]; omega), tl ++ [t], _, _, _, rfl, ?_, ?_, ?_, ?_, by simp; omega, ?_, ?_⟩
    · rw [mup_ne n42.symm, mup_ne n32.symm, mup_same]; simp
    · rw [mup_ne n43.symm, mup_same]; simp
    · simp [linesOf]
    · intro b' o hb'
      have b2 : b' ≠ p2 := fun z => by subst z; rw [h2] at hb'; cases hb'
      have b3 : b' ≠ p3 := fun z => by subst z; rw [h3'] at hb'; cases hb'
      have b4 : b' ≠ p4 := fun z => by subst z; rw [h4'] at hb'; cases hb'
      rw [mup_ne b4, mup_ne b3, mup_ne b2]; exact hS b' o hb'
    · intro t' ht'
      rcases List.mem_append.mp ht' with ht' | ht'
      · exact htl t' ht'
      · cases List.mem_singleton.mp ht'; exact ht
    · rw [List.map_append]
      refine List.nodup_append.mpr ⟨hnd, by simp, fun x hx y hy e => ?_⟩
      cases List.mem_singleton.mp hy
      subst e
      exact hnn hx
  · rintro τ Mi ⟨tl, a, b, c, rfl, g2, g3, g4, hS, hti, htl, hnd⟩
    have hlen : 1 ≤ tl.length ∧ tl.length ≤ 40 := by
      have hcl := cut_len2 (ns.map U.int)
      rw [List.length_map] at hcl
      have h' : tl.length = (cutU (ns.map U.int) (some 1) (some 41) ++ (List.replicate (if decide (((ns.length : Nat) : Int) < 2) = true then 1 else 0 : Int).toNat [U.int 7]).flatten).length := hti
      rw [List.length_append, hcl] at h'
      by_cases h2 : ((ns.length : Nat) : Int) < 2
      · rw [decide_eq_true h2] at h'
        have e : (List.replicate (if true = true then 1 else 0 : Int).toNat [U.int 7]).flatten.length = 1 := rfl
        rw [e] at h'
        omega
      · rw [decide_eq_false h2] at h'
        have e : (List.replicate (if false = true then 1 else 0 : Int).toNat [U.int 7]).flatten.length = 0 := rfl
        rw [e] at h'
        omega
    dsimp! only [view_ref g2, uIsB, uBMT, uBMS, mTIndex, mJoin]
    refine ⟨_, mup M p4 (.lst ((linesOf cs tl).map .str)), ?_, .inl rfl, q cs tl p4 hcn hlen.1 hlen.2 htl hnd h4'⟩
    intro b' o hb'
    by_cases hbp : b' = p4
    · subst hbp; rw [mup_same] at hb'; rw [g4]; exact hb'
    · rw [mup_ne hbp] at hb'; exact hS b' o hb'
theorem cut_map {α β : Type} (g : α → β) (l : List α) (a b : Option Int) : cutU (l.map g) a b = (cutU l a b).map g := by
  unfold cutU
  rw [List.length_map, List.map_take, List.map_drop]
theorem ok_places_of {n : Nat} (F : Fun K "places_of" "places_of" s_places_of f fd) (hm : mg "places_of" = some (.ref f)) (m_enumerate : mg "enumerate" = none)
    (C_parts_of : Callee P w K mg base 1 "parts_of" spPartsG []) (C_places_of : Callee P w K mg base (n + 1) "places_of" (spPlaces n) []) : Callee P w K mg base (n + 2) "places_of" (spPlaces (n + 1)) [] := by
  refine callee2 F hm sc_places_of (ar1 fun _ _ _ _ _ _ _ => rfl) (uss_cons (us_set 1 sc_places_of.nd (ue_lst (own := true) (ua_cons (ue_tup ua_nil) ua_nil)))
  (uss_cons (us_for (ui_enumerate m_enumerate (ua_cons (ue_call C_parts_of (ua_cons (uv 0) ua_nil)) ua_nil)) (ug_tup (n := 2) (ugs_cons (ug_name (k := 1000) 2 sc_places_of.nd) (ugs_cons (ug_name (k := 1000) 3 sc_places_of.nd) ugs_nil)))
  (uss_one (us_expr (ue_extend (uv 1) (ua_cons (ue_comp false ["place", "number"] 1 [2] (ui_seq (ue_call C_places_of (ua_cons (uv 3) ua_nil))) (ug_name (k := 1) 0 (by dsimp only [compD]; decide +kernel)) uif_nil (ue_add (own := false) (ue_tup (ua_cons (uv 1) ua_nil)) (uv 0))) ua_nil)))))
  (uss_one (us_ret (uv 1))))) ?_
  rintro us M Q ⟨t, rfl, hd, hz, q⟩
  refine ⟨rfl, ?_⟩
  have hbig : ∀ a : Pt, a.dep ≤ 10 → a.places.length ≤ 1024 := fun a ha => by
    have h1 := places_len a
    have h2 : 2 ^ a.dep ≤ 2 ^ 10 := Nat.pow_le_pow_right (by decide) ha
    omega
  dsimp! only [uEnum, uZip, uEnumL, uZipL, uIsB]
  refine fun p hp => ?_
  refine for_by (S := ⟨none, numbered (t.parts.map Pt.toU)⟩) (M1 := mup M p (.lst [.tup []])) (fun R r => ?_)
    (fun i τ Mi => ∃ b c, τ = [some t.toU, some (.ref p), b, c] ∧ Mi = mup M p (.lst (([] :: innerP 0 (t.parts.take i)).map placeU))) ⟨none, none, rfl, rfl⟩ nk ?_ ?_
  · obtain ⟨z, rr, e, e1, e2, e3⟩ := head_sign t
    refine ⟨z, rr, !t.leafy, by rw [← e]; rfl, e1, by omega, ?_⟩
    cases hl : t.leafy with
    | true => simp only [hl, Bool.not_true, Bool.false_eq_true, if_false]; rw [parts_leaf hl] at r; exact r
    | false => simp only [hl, Bool.not_false, if_true]; rw [e2 hl]; exact r
  · rintro i x τ Mi e ⟨b, c, rfl, rfl⟩
    obtain ⟨u, hu, rfl⟩ := numbered_get e
    rw [List.getElem?_map] at hu
    cases hp' : t.parts[i]? with
    | none => rw [hp'] at hu; cases hu
    | some a =>
      rw [hp'] at hu
      cases hu
      have ha := part_dep hp'
      have hin : innerP 0 (t.parts.take (i + 1)) = innerP 0 (t.parts.take i) ++ a.places.map (i :: ·) := by
        have hlt := (List.getElem?_eq_some_iff.mp hp').1
        rw [List.take_add_one, hp']
        have := inner_snoc (t.parts.take i) a 0
        rw [List.length_take, Nat.min_eq_left (Nat.le_of_lt hlt), Nat.zero_add] at this
        exact this
      have hb1 := hbig a (by omega)
      dsimp! only [uEnum, uZip, uEnumL, uZipL, uIsB]
      refine ⟨isL_own, uComp_list (S := ⟨none, a.places.map placeU⟩) (M1 := mup M p (MO.lst (placeU [] :: List.map placeU (innerP 0 (List.take i t.parts))))) (a.places.map fun pl => placeU (i :: pl)) (fun R r' => ⟨a, rfl, by omega, by omega, r'⟩) (by simp) ?_ (fun a e => by cases e) ?_ ?_⟩
      · show (a.places.map placeU).length ≤ sizeLine
        rw [List.length_map]
        exact small (by omega)
      · intro j x y hx hy M' _ R r'
        have hx' : (a.places.map placeU)[j]? = some x := hx
        rw [List.getElem?_map] at hx' hy
        cases hpl : a.places[j]? with
        | none => rw [hpl] at hx'; cases hx'
        | some pl =>
          rw [hpl] at hx' hy
          cases hx'
          cases hy
          have h1 := place_short a pl (List.mem_of_getElem? hpl)
          dsimp! only [placeU, uEnum, uZip, uEnumL, uZipL, uIsB]
          refine ⟨small ?_, ?_⟩
          · simp only [List.length_cons, List.length_nil, List.length_map]; omega
          · simpa [placeU] using r'
      · have h1 := inner_le t i
        have h2 := hbig t (by omega)
        dsimp! only [uEnum, uZip, uEnumL, uZipL, uIsB]
        refine ⟨small ?_, _, _, rfl, ?_⟩
        · simp only [List.length_map]; omega
        · rw [hin, List.map_append, List.map_map]; rfl
  · rintro τ Mi ⟨b, c, rfl, rfl⟩
    rw [numbered_len, List.length_map, List.take_length, ← places_eq]
    dsimp! only [uEnum, uZip, uEnumL, uZipL, uIsB]
    exact ⟨_, M, (Sub.refl M).mup hp, .inr ⟨p, _, rfl, mup_same, hp, rfl⟩, q⟩
theorem places_all (F : Fun K "places_of" "places_of" s_places_of f fd) (hm : mg "places_of" = some (.ref f)) (m_enumerate : mg "enumerate" = none) (C_parts_of : Callee P w K mg base 1 "parts_of" spPartsG []) : ∀ n, Callee P w K mg base (n + 1) "places_of" (spPlaces n) []
  | 0 => by
    have no : ∀ us M Q, ¬ spPlaces 0 us M Q := fun us M Q h => by
      obtain ⟨p, _, h, _⟩ := h
      have := pdep_pos p
      omega
    refine ⟨f, fd, ["shape"], [], [], ⟨fun vs H Q E h => ?_, fun A outer s H args us vs Q E _ _ _ _ h => ?_⟩, hm, F.kp, F.binds (ar1 fun _ _ _ _ _ _ _ => rfl), .nil, fun H M => .nil⟩
    · obtain ⟨us, M, Q', _, _, h, _⟩ := h; exact absurd h (no us M Q')
    · obtain ⟨us, M, Q', _, _, h, _⟩ := h; exact absurd h (no us M Q')
  | n + 1 => ok_places_of F hm m_enumerate C_parts_of (places_all F hm m_enumerate C_parts_of n)
theorem ok_shape_at (F : Fun K "shape_at" "shape_at" s_shape_at f fd) (hm : mg "shape_at" = some (.ref f)) (C_parts_of : Callee P w K mg base 1 "parts_of" spPartsG []) : Callee P w K mg base 2 "shape_at" spAtU [] := by
  refine callee2 F hm sc_shape_at (ar2 fun _ _ _ _ _ _ _ _ => rfl) (uss_cons (us_set 2 sc_shape_at.nd (uv 0))
  (uss_cons (us_for (ui_seq (uv 1)) (ug_name (k := 1000) 3 sc_shape_at.nd)
  (uss_one (us_set 2 sc_shape_at.nd (ue_ix (ue_call C_parts_of (ua_cons (uv 2) ua_nil)) (uv 3)))))
  (uss_one (us_ret (uv 2))))) ?_
  rintro us M Q ⟨u, v, pl, rfl, hpl, q⟩
  refine ⟨rfl, ?_⟩
  dsimp! only [uEnum, uZip, uEnumL, uZipL, uIsB]
  refine for_by (S := ⟨none, pl.map fun (n : Nat) => U.int (n : Int)⟩) (M1 := M) (fun R r => r)
    (fun i τ Mi => ∃ (h : U) (c : Option U), τ = [some u, some (placeU pl), some h, c] ∧ Mi = M ∧ atU u (pl.take i) = some h) ⟨u, none, rfl, rfl, rfl⟩ nk ?_ ?_
  · rintro i x τ Mi e ⟨h, c, rfl, rfl, hh⟩
    have e' : (pl.map fun (n : Nat) => U.int (n : Int))[i]? = some x := e
    rw [List.getElem?_map] at e'
    cases hk : pl[i]? with
    | none => rw [hk] at e'; cases e'
    | some k =>
      rw [hk] at e'
      cases e'
      have hnx : atU u (pl.take (i + 1)) = stepU h k := by
        rw [List.take_add_one, hk]
        show atU u (pl.take i ++ [k]) = _
        rw [atU_snoc, hh]; rfl
      cases hs : stepU h k with
      | none =>
        rw [hs] at hnx
        have := atU_none (pl.take (i + 1)) (pl.drop (i + 1)) u hnx
        rw [List.take_append_drop, hpl] at this
        cases this
      | some w' =>
        rw [hs] at hnx
        obtain ⟨z, r, rfl, hz, hr, hs'⟩ := step_inv hs
        dsimp! only [uEnum, uZip, uEnumL, uZipL, uIsB]
        refine ⟨z, r, true, rfl, hz, hr, ?_⟩
        dsimp! only [uEnum, uZip, uEnumL, uZipL, uIsB]
        exact ⟨w', atI_nat hs', w', _, rfl, hnx⟩
  · rintro τ Mi ⟨h, c, rfl, rfl, hh⟩
    simp only [List.length_map, List.take_length] at hh
    rw [hpl] at hh
    cases hh
    dsimp! only [uEnum, uZip, uEnumL, uZipL, uIsB]
    exact rt_same q
def hF (e : List Nat × Pt) : Option (List Nat × Str) := match e.2 with
  | .hole c => some (e.1, c)
  | _ => none
def entH (e : List Nat × Str) : U := .tup [placeU e.1, .str e.2]
def hls (p : Pt) : List (List Nat × Str) := (subsP p []).filterMap hF
def hU : U → Option U
  | .tup [a, .tup (.str z :: r)] => if decide (z = Str.ofString "at") then (r.head?).map fun c => .tup [a, c] else none
  | _ => none
theorem hU_ent (e : List Nat × Pt) : hU (entE e) = (hF e).map entH := by
  obtain ⟨pl, q⟩ := e
  have e1 : decide (Str.ofString "at" = Str.ofString "at") = true := by simp
  cases q with
  | hole c => simp only [entE, Pt.toU, hU, e1, hF, entH]; rfl
  | any => simp only [entE, Pt.toU, hU, wwa, wwb, wwc, wwd, wwe, wwf, wwg, hF]; rfl
  | fr l h => simp only [entE, Pt.toU, hU, wwa, wwb, wwc, wwd, wwe, wwf, wwg, hF]; rfl
  | turn a => simp only [entE, Pt.toU, hU, wwa, wwb, wwc, wwd, wwe, wwf, wwg, hF]; rfl
  | two o a b => simp only [entE, Pt.toU, hU, wwa, wwb, wwc, wwd, wwe, wwf, wwg, hF]; rfl
theorem hU_map (l : List (List Nat × Pt)) : (l.map entE).filterMap hU = (l.filterMap hF).map entH := by
  induction l with
  | nil => rfl
  | cons e l ih =>
    rw [List.map_cons, List.filterMap_cons, List.filterMap_cons, hU_ent, ih]
    cases hF e <;> rfl
def spHoles : USp := fun us M Q => ∃ p : Pt, us = [p.toU] ∧ p.dep ≤ 6 ∧ Q (.lst ((hls p).map entH)) M
theorem ok_holes (F : Fun K "holes" "holes" s_holes f fd) (hm : mg "holes" = some (.ref f)) (C_places_of : Callee P w K mg base 7 "places_of" (spPlaces 6) []) (C_shape_at : Callee P w K mg base 2 "shape_at" spAtU []) : Callee P w K mg base 8 "holes" spHoles [] := by
  refine callee2 F hm sc_holes (ar1 fun _ _ _ _ _ _ _ => rfl) (uss_cons (us_setC 1 sc_holes.nd false ["place", "pattern"] 1 [0] (ui_seq (ue_call C_places_of (ua_cons (uv 0) ua_nil))) (ug_name (k := 1) 0 (by dsimp only [compD]; decide +kernel)) uif_nil (ue_tup (ua_cons (uv 0) (ua_cons (ue_call C_shape_at (ua_cons (uv 1) (ua_cons (uv 0) ua_nil))) ua_nil))))
  (uss_one (us_ret (ue_comp false ["place", "piece"] 2 [] (ui_seq (uv 1)) (ug_tup (n := 2) (ugs_cons (ug_name (k := 2) 0 (by dsimp only [compD]; decide +kernel)) (ugs_cons (ug_name (k := 2) 1 (by dsimp only [compD]; decide +kernel)) ugs_nil))) (uif_one (ut_c k_eqX (ue_ix (uv 1) un_) us_)) (ue_tup (ua_cons (uv 0) (ua_cons (ue_ix (uv 1) un_) ua_nil))))))) ?_
  rintro us M Q ⟨p, rfl, hd, q⟩
  refine ⟨rfl, ?_⟩
  have hsp : (subsP p []).map (·.1) = p.places := by rw [subs_places]; simp
  have hpl : p.places.length ≤ 64 := by
    have h1 := places_len p
    have h2 : 2 ^ p.dep ≤ 2 ^ 6 := Nat.pow_le_pow_right (by decide) hd
    omega
  have hsl : (subsP p []).length = p.places.length := by rw [← hsp, List.length_map]
  dsimp! only [uEnum, uZip, uEnumL, uZipL, uIsB]
  refine uComp_list (S := ⟨none, p.places.map placeU⟩) (M1 := M) ((subsP p []).map entE) (fun R r => ⟨p, rfl, hd, by decide, r⟩) (by simp [hsl]) (small (by show (p.places.map placeU).length ≤ _; rw [List.length_map]; omega)) (fun a e => by cases e) ?_ ?_
  · intro j x y hx hy M' _ R r'
    have hx' : (p.places.map placeU)[j]? = some x := hx
    rw [← hsp, List.map_map, List.getElem?_map] at hx'
    rw [List.getElem?_map] at hy
    cases hj : (subsP p [])[j]? with
    | none => rw [hj] at hy; cases hy
    | some e =>
      rw [hj] at hx' hy
      cases hx'
      cases hy
      obtain ⟨s, h1, h2⟩ := subs_at p [] e (List.mem_of_getElem? hj)
      rw [List.nil_append] at h1
      dsimp! only [uEnum, uZip, uEnumL, uZipL, uIsB]
      refine ⟨p.toU, e.2.toU, e.1, rfl, by rw [h1]; exact h2, ?_⟩
      dsimp! only [uEnum, uZip, uEnumL, uZipL, uIsB]
      exact r'
  · dsimp! only [uEnum, uZip, uEnumL, uZipL, uIsB]
    refine uComp_pure (S := ⟨none, (subsP p []).map entE⟩) (M1 := M) hU (fun R r => r) (small (by show ((subsP p []).map entE).length ≤ _; rw [List.length_map]; omega)) (fun a e => by cases e) ?_ ?_
    · intro x hx M' _ R r
      obtain ⟨e, he, rfl⟩ := List.mem_map.mp hx
      rw [hU_ent] at r
      obtain ⟨pl, pt⟩ := e
      cases pt with
      | hole c => dsimp! only [entE, hF, entH, Pt.toU, wwa, wwb, wwc, wwd, wwe, wwf, wwg, Option.map_some, uEnum, uZip, uEnumL, uZipL, uIsB] at r ⊢; exact r
      | any => dsimp! only [entE, hF, entH, Pt.toU, wwa, wwb, wwc, wwd, wwe, wwf, wwg, Option.map_none, uEnum, uZip, uEnumL, uZipL, uIsB] at r ⊢; exact r
      | fr l h => dsimp! only [entE, hF, entH, Pt.toU, wwa, wwb, wwc, wwd, wwe, wwf, wwg, Option.map_none, uEnum, uZip, uEnumL, uZipL, uIsB] at r ⊢; exact r
      | turn a => dsimp! only [entE, hF, entH, Pt.toU, wwa, wwb, wwc, wwd, wwe, wwf, wwg, Option.map_none, uEnum, uZip, uEnumL, uZipL, uIsB] at r ⊢; exact r
      | two o a b => dsimp! only [entE, hF, entH, Pt.toU, wwa, wwb, wwc, wwd, wwe, wwf, wwg, Option.map_none, uEnum, uZip, uEnumL, uZipL, uIsB] at r ⊢; exact r
    · rw [show (Src.mk none ((subsP p []).map entE)).xs = (subsP p []).map entE from rfl, hU_map]
      simp only [mkL]
      exact rt_same q
def intz (p : List Nat) : List Int := p.map fun (n : Nat) => (n : Int)
theorem lex_cons (k : Nat) (p q : List Nat) : HT.lexLt (intz (k :: p)) (intz (k :: q)) = HT.lexLt (intz p) (intz q) := by
  simp only [intz, List.map_cons, HT.lexLt_cons, if_true]
def Lx (a b : List Nat) : Prop := HT.lexLt (intz a) (intz b) = true
theorem sub_places (p : Pt) : (subsP p []).map (·.1) = p.places := by rw [subs_places]; simp
theorem sgn_turn : tabGet SIGNS (Str.ofString "turn") = some (.int 1) := by kernel_rfl
theorem sgn_two (o : Op) : tabGet SIGNS o.word = some (.int 2) := by cases o <;> kernel_rfl
inductive G where
  | leaf (u : U) (b : Bool) | turn (a : G) | two (o : Op) (a b : G)
namespace G
def toU : G → U
  | leaf u _ => u
  | turn a => .tup [.str "turn", a.toU]
  | two o a b => .tup [.str o.word, a.toU, b.toU]
def size : G → Nat
  | leaf _ _ => 1
  | turn a => a.size + 1
  | two _ a b => a.size + b.size + 1
def dep : G → Nat
  | leaf _ _ => 1
  | turn a => a.dep + 1
  | two _ a b => max a.dep b.dep + 1
def fit : G → Bool
  | leaf _ b => b
  | turn a => a.fit
  | two _ a b => a.fit && b.fit
def wf (L : U → Bool → Prop) : G → Prop
  | leaf u b => L u b
  | turn a => a.wf L
  | two _ a b => a.wf L ∧ b.wf L
end G
def ent (x : G × Nat) : U := .tup [x.1.toU, .int (x.2 : Nat)]
def tot : List (G × Nat) → Nat
  | [] => 0
  | x :: r => x.1.size + tot r
theorem tot_app : ∀ l r : List (G × Nat), tot (l ++ r) = tot l + tot r
  | [], _ => by simp [tot]
  | t :: l, r => by simp [tot, tot_app l r]; omega
def VV (c : Nat) (st : List (G × Nat)) : Prop := c + tot st ≤ 9 ∧ (∀ x ∈ st, x.2 + x.1.dep ≤ 6) ∧ ∀ x ∈ st, x.1.fit = true
def verd (g : G) : Bool := decide (g.size ≤ 9) && (decide (g.dep ≤ 5) && g.fit)
theorem verd_iff (g : G) : verd g = true ↔ VV 0 [(g, 1)] := by
  unfold verd VV
  simp only [Bool.and_eq_true, decide_eq_true_eq, tot, List.mem_cons, List.not_mem_nil, or_false, forall_eq]
  constructor
  · rintro ⟨a, b, c⟩; exact ⟨by omega, by omega, c⟩
  · rintro ⟨a, b, c⟩; exact ⟨by omega, by omega, c⟩
theorem vv_turn {c d : Nat} {st : List (G × Nat)} {a : G} : VV (c + 1) (st ++ [(a, d + 1)]) ↔ VV c (st ++ [(G.turn a, d)]) := by
  unfold VV
  simp only [tot_app, tot, List.mem_append, List.mem_cons, List.not_mem_nil, or_false, G.size]
  constructor
  · rintro ⟨h1, h2, h3⟩
    refine ⟨by omega, fun x hx => ?_, fun x hx => ?_⟩
    · rcases hx with hx | rfl
      · exact h2 x (.inl hx)
      · have := h2 (a, d + 1) (.inr rfl); simp only [G.dep] at this ⊢; omega
    · rcases hx with hx | rfl
      · exact h3 x (.inl hx)
      · exact h3 (a, d + 1) (.inr rfl)
  · rintro ⟨h1, h2, h3⟩
    refine ⟨by omega, fun x hx => ?_, fun x hx => ?_⟩
    · rcases hx with hx | rfl
      · exact h2 x (.inl hx)
      · have := h2 (G.turn a, d) (.inr rfl); simp only [G.dep] at this ⊢; omega
    · rcases hx with hx | rfl
      · exact h3 x (.inl hx)
      · exact h3 (G.turn a, d) (.inr rfl)
theorem vv_two {c d : Nat} {st : List (G × Nat)} {a b : G} {o : Op} : VV (c + 1) (st ++ [(a, d + 1), (b, d + 1)]) ↔ VV c (st ++ [(G.two o a b, d)]) := by
  unfold VV
  simp only [tot_app, tot, List.mem_append, List.mem_cons, List.not_mem_nil, or_false, G.size]
  constructor
  · rintro ⟨h1, h2, h3⟩
    refine ⟨by omega, fun x hx => ?_, fun x hx => ?_⟩
    · rcases hx with hx | rfl
      · exact h2 x (.inl hx)
      · have e1 := h2 (a, d + 1) (.inr (.inl rfl)); have e2 := h2 (b, d + 1) (.inr (.inr rfl)); simp only [G.dep] at e1 e2 ⊢; omega
    · rcases hx with hx | rfl
      · exact h3 x (.inl hx)
      · have e1 := h3 (a, d + 1) (.inr (.inl rfl)); have e2 := h3 (b, d + 1) (.inr (.inr rfl)); simp only [G.fit] at e1 e2 ⊢; rw [e1, e2]; rfl
  · rintro ⟨h1, h2, h3⟩
    have e1 := h2 (G.two o a b, d) (.inr rfl)
    have e2 := h3 (G.two o a b, d) (.inr rfl)
    simp only [G.dep, G.fit, Bool.and_eq_true] at e1 e2
    refine ⟨by omega, fun x hx => ?_, fun x hx => ?_⟩
    · rcases hx with hx | rfl | rfl
      · exact h2 x (.inl hx)
      · simp only; omega
      · simp only; omega
    · rcases hx with hx | rfl | rfl
      · exact h3 x (.inl hx)
      · exact e2.1
      · exact e2.2
theorem vv_leaf {c d : Nat} {st : List (G × Nat)} {u : U} (hd : d ≤ 5) : VV (c + 1) st ↔ VV c (st ++ [(G.leaf u true, d)]) := by
  unfold VV
  simp only [tot_app, tot, List.mem_append, List.mem_cons, List.not_mem_nil, or_false, G.size]
  constructor
  · rintro ⟨h1, h2, h3⟩
    refine ⟨by omega, fun x hx => ?_, fun x hx => ?_⟩
    · rcases hx with hx | rfl
      · exact h2 x hx
      · simp only [G.dep]; omega
    · rcases hx with hx | rfl
      · exact h3 x hx
      · rfl
  · rintro ⟨h1, h2, h3⟩
    exact ⟨by omega, fun x hx => h2 x (.inl hx), fun x hx => h3 x (.inl hx)⟩
theorem last_of {α : Type} (l : List α) : l = [] ∨ ∃ r x, l = r ++ [x] := by
  rcases List.eq_nil_or_concat l with h | ⟨r, x, h⟩
  · exact .inl h
  · exact .inr ⟨r, x, by simpa using h⟩
def spShape (fl : Addr) (s : USp) : USp := fun us M Q => ∃ (g : G) (L : U → Bool → Prop), us = [g.toU, .ref fl, .int 9, .int 5] ∧ g.wf L ∧ (∀ u b, L u b → ∃ b', LF u b') ∧ (∀ u b M' Q', Sub M M' → L u b → Q' (.bl b) M' → s [u] M' Q') ∧ Q (.bl (verd g)) M
theorem ok_is_shape (F : Fun K "is_shape" "is_shape" s_is_shape f fd) (hm : mg "is_shape" = some (.ref f)) (C_is_sign : Callee P w K mg base 1 "is_sign" spSign []) {s : USp} {ka : Nat} (A_is_leaf : CalleeF P w K mg base (ka + 1) fl s) : Callee P w K mg base (ka + 2) "is_shape" (spShape fl s) [] := by
  refine callee2 F hm sc_is_shape (ar4 fun _ _ _ _ _ _ _ _ _ _ => rfl) (uss_cons (us_set 4 sc_is_shape.nd un_)
  (uss_cons (us_set 5 sc_is_shape.nd (ue_lst (own := true) (ua_cons (ue_tup (ua_cons (uv 0) (ua_cons un_ ua_nil))) ua_nil)))
  (uss_cons (us_while (ut_val (uv 5))
  (uss_cons (us_set 6 sc_is_shape.nd (ue_pop (uv 5)))
  (uss_cons (us_set 7 sc_is_shape.nd (ue_ix (uv 6) un_))
  (uss_cons (us_set 8 sc_is_shape.nd (ue_ix (uv 6) un_))
  (uss_cons (us_set 4 sc_is_shape.nd (ue_add (own := false) (uv 4) un_))
  (uss_cons (us_if (PWU.pt (uw_or (ut_c k_gt (uv 4) (uv 2)) (uw_or1 (ut_c k_gt (uv 8) (uv 3)))))
  (uss_one (us_ret ub_))
  uss_nil)
  (uss_one (us_if (ut_val (ue_call C_is_sign (ua_cons (uv 7) ua_nil)))
  (uss_one (us_expr (ue_extend (uv 5) (ua_cons (ue_comp false ["part", "depth"] 1 [8] (ui_seq (ue_slX (own := false) (uv 7) (uo_some un_) uo_none)) (ug_name (k := 1) 0 (by dsimp only [compD]; decide +kernel)) uif_nil (ue_tup (ua_cons (uv 0) (ua_cons (ue_add (own := false) (uv 1) un_) ua_nil)))) ua_nil))))
  (uss_one (us_if (ut_not (ut_val (ue_callf 1 A_is_leaf (ua_cons (uv 7) ua_nil))))
  (uss_one (us_ret ub_))
  uss_nil))))))))))
  (uss_one (us_ret ub_))))) ?_
  rintro us M Q ⟨g, L, rfl, hwf, hLF, hs, q⟩
  refine ⟨rfl, ?_⟩
  dsimp! only [uEnum, uZip, uEnumL, uListRev, uRev, uCallG, gL1, gL2, ulCons, ulLam, ulNil]
  refine fun p hp => ?_
  refine while_by (fun τ M' => ∃ (c : Nat) (st : List (G × Nat)) (e1 e2 e3 : Option U), τ = [some g.toU, some (.ref fl), some (.int 9), some (.int 5), some (.int (c : Nat)), some (.ref p), e1, e2, e3] ∧ M' = mup M p (.lst (st.map ent)) ∧ (∀ x ∈ st, x.1.wf L) ∧ c ≤ 9 ∧ st.length ≤ c + 1 ∧ (VV c st ↔ VV 0 [(g, 1)]))
    (fun τ _ => match τ with | [_, _, _, _, some (.int c), _, _, _, _] => 10 - c.toNat | _ => 0) ⟨0, [(g, 1)], none, none, none, rfl, rfl, (fun x hx => by cases List.mem_singleton.mp hx; exact hwf), by omega, by simp, Iff.rfl⟩ ?_
  rintro τ M' ⟨c, st, e1, e2, e3, rfl, rfl, hst, hc, hlen, hV⟩
  have no : ¬ VV c st → Q (.bl false) M := fun h => by
    have : verd g = false := by
      cases hv : verd g with
      | false => rfl
      | true => exact absurd (hV.mpr ((verd_iff g).mp hv)) h
    rw [this] at q
    exact q
  have fin : ∀ us, rtU Q (.bl false) (mup M p (.lst us)) ↔ rtU Q (.bl false) (mup M p (.lst us)) := fun _ => Iff.rfl
  have out : ∀ us, Q (.bl false) M → rtU Q (.bl false) (mup M p (.lst us)) := fun us h => ⟨_, M, (Sub.refl M).mup hp, .inl rfl, h⟩
  rcases last_of st with rfl | ⟨st, ⟨x, dd⟩, rfl⟩
  · dsimp! only [List.isEmpty_nil, uEnum, uZip, uEnumL, uListRev, uRev, uCallG, gL1, gL2, ulCons, ulLam, ulNil]
    have : verd g = true := by
      rw [verd_iff, ← hV]
      exact ⟨by simp only [tot]; omega, (fun x hx => by cases hx), (fun x hx => by cases hx)⟩
    rw [this] at q
    exact ⟨_, M, (Sub.refl M).mup hp, .inl rfl, q⟩
  · have hlen' : st.length ≤ c := by simpa using hlen
    have hxw : x.wf L := hst (x, dd) (by simp)
    have hse : (st.map ent ++ [U.tup [x.toU, U.int (dd : Nat)]]).isEmpty = false := by simp
    dsimp! only [List.map_append, hse, gl_1, dl_1, ent, uEnum, uZip, uEnumL, uListRev, uRev, uCallG, gL1, gL2, ulCons, ulLam, ulNil]
    refine ⟨isL_own, ite2 (fun h => ?_) (fun h => ite2 (fun h2 => ?_) (fun h2 => ?_))⟩
    · refine out _ (no fun hv => ?_)
      have := of_decide_eq_true h
      have h3 := hv.1
      rw [tot_app] at h3
      have h4 : 1 ≤ x.size := by cases x <;> simp only [G.size] <;> omega
      simp only [tot] at h3
      omega
    · refine out _ (no fun hv => ?_)
      have := of_decide_eq_true h2
      have h3 := hv.2.1 (x, dd) (by simp)
      have h4 : 1 ≤ x.dep := by cases x <;> simp only [G.dep] <;> omega
      simp only at h3
      omega
    · have hc1 : c + 1 ≤ 9 := by
        have : ¬ (9 : Int) < (c : Int) + 1 := fun z => h (decide_eq_true z)
        omega
      have hdd : dd ≤ 5 := by
        have : ¬ (5 : Int) < (dd : Int) := fun z => h2 (decide_eq_true z)
        omega
      have hst' : ∀ y ∈ st, y.1.wf L := fun y hy => hst y (by simp [hy])
      cases x with
      | leaf u b =>
        obtain ⟨b', hb'⟩ := hLF u b hxw
        refine ⟨_, rfl, .inl ⟨b', hb', ?_⟩⟩
        dsimp! only [uEnum, uZip, uEnumL, uListRev, uRev, uCallG, gL1, gL2, ulCons, ulLam, ulNil]
        refine hs u b _ _ ((Sub.refl M).mup hp) hxw ?_
        cases b with
        | false =>
          dsimp! only [uEnum, uZip, uEnumL, uListRev, uRev, uCallG, gL1, gL2, ulCons, ulLam, ulNil]
          refine out _ (no fun hv => ?_)
          have := hv.2.2 (G.leaf u false, dd) (by simp)
          cases this
        | true =>
          dsimp! only [uEnum, uZip, uEnumL, uListRev, uRev, uCallG, gL1, gL2, ulCons, ulLam, ulNil]
          refine ⟨⟨c + 1, st, _, _, _, rfl, rfl, hst', hc1, by omega, ?_⟩, by omega⟩
          rw [← hV]
          exact vv_leaf hdd
      | turn a =>
        refine ⟨_, rfl, .inr ⟨_, _, rfl, sgn_turn, ?_⟩⟩
        dsimp! only [G.toU, uEnum, uZip, uEnumL, uListRev, uRev, uCallG, gL1, gL2, ulCons, ulLam, ulNil]
        refine ⟨isL_own, uComp_list (S := ⟨none, [a.toU]⟩) (M1 := mup M p (.lst (st.map ent))) [ent (a, dd + 1)] (fun R r => ?_) rfl (show 1 ≤ sizeLine by decide) (fun a e => by cases e) ?_ ?_⟩
        · dsimp! only [cut1, uEnum, uZip, uEnumL, uListRev, uRev, uCallG, gL1, gL2, ulCons, ulLam, ulNil]
          exact r
        · intro j x y hx hy M' _ R r'
          match j, hx, hy with
          | 0, hx, hy =>
            cases hx; cases hy
            dsimp! only [uEnum, uZip, uEnumL, uListRev, uRev, uCallG, gL1, gL2, ulCons, ulLam, ulNil]
            first | refine ⟨by decide, ?_⟩ | skip
            have e : U.tup [a.toU, U.int ((dd : Int) + 1)] = ent (a, dd + 1) := rfl
            rw [e]; exact r'
          | j + 1, hx, hy => cases hx
        · dsimp! only [uEnum, uZip, uEnumL, uListRev, uRev, uCallG, gL1, gL2, ulCons, ulLam, ulNil]
          refine ⟨small (by simp; omega), ⟨c + 1, st ++ [(a, dd + 1)], _, _, _, rfl, by rw [List.map_append]; rfl, ?_, hc1, by simp; omega, ?_⟩, by omega⟩
          · intro y hy
            rcases List.mem_append.mp hy with hy | hy
            · exact hst' y hy
            · cases List.mem_singleton.mp hy; exact hxw
          · rw [← hV]; exact vv_turn
      | two o a b =>
        refine ⟨_, rfl, .inr ⟨_, _, rfl, sgn_two o, ?_⟩⟩
        dsimp! only [G.toU, uEnum, uZip, uEnumL, uListRev, uRev, uCallG, gL1, gL2, ulCons, ulLam, ulNil]
        refine ⟨isL_own, uComp_list (S := ⟨none, [a.toU, b.toU]⟩) (M1 := mup M p (.lst (st.map ent))) [ent (a, dd + 1), ent (b, dd + 1)] (fun R r => ?_) rfl (show 2 ≤ sizeLine by decide) (fun a e => by cases e) ?_ ?_⟩
        · dsimp! only [cut1, uEnum, uZip, uEnumL, uListRev, uRev, uCallG, gL1, gL2, ulCons, ulLam, ulNil]
          exact r
        · intro j x y hx hy M' _ R r'
          match j, hx, hy with
          | 0, hx, hy =>
            cases hx; cases hy
            dsimp! only [uEnum, uZip, uEnumL, uListRev, uRev, uCallG, gL1, gL2, ulCons, ulLam, ulNil]
            first | refine ⟨by decide, ?_⟩ | skip
            have e : U.tup [a.toU, U.int ((dd : Int) + 1)] = ent (a, dd + 1) := rfl
            rw [e]; exact r'
          | 1, hx, hy =>
            cases hx; cases hy
            dsimp! only [uEnum, uZip, uEnumL, uListRev, uRev, uCallG, gL1, gL2, ulCons, ulLam, ulNil]
            first | refine ⟨by decide, ?_⟩ | skip
            have e : U.tup [b.toU, U.int ((dd : Int) + 1)] = ent (b, dd + 1) := rfl
            rw [e]; exact r'
          | j + 2, hx, hy => cases hx
        · dsimp! only [uEnum, uZip, uEnumL, uListRev, uRev, uCallG, gL1, gL2, ulCons, ulLam, ulNil]
          refine ⟨small (by simp; omega), ⟨c + 1, st ++ [(a, dd + 1), (b, dd + 1)], _, _, _, rfl, by rw [List.map_append]; rfl, ?_, hc1, by simp; omega, ?_⟩, by omega⟩
          · intro y hy
            rcases List.mem_append.mp hy with hy | hy
            · exact hst' y hy
            · simp only [List.mem_cons, List.not_mem_nil, or_false] at hy
              rcases hy with rfl | rfl
              · exact hxw.1
              · exact hxw.2
          · rw [← hV]; exact vv_two
def LP (cs : List Str) (u : U) (b : Bool) : Prop := plain u ∧ signB u = false ∧ b = leafB cs u
def QP : Str := Str.ofString "is_pattern" ++ Str.ofString ".<locals>." ++ Str.ofString "<lambda>"
def isAt : U → Bool
  | .tup (.str z :: _) => decide (z = Str.ofString "at")
  | _ => false
namespace G
def holes : G → Nat
  | leaf u _ => if isAt u then 1 else 0
  | turn a => a.holes
  | two _ a b => a.holes + b.holes
end G
def patG (g : G) : Bool := verd g && decide (g.holes ≤ 4)
theorem leaf_pt {cs : List Str} {u : U} (hp : plain u) (h : leafB cs u = true) : ∃ p : Pt, p.toU = u ∧ p.dep = 1 ∧ p.holes = (if isAt u then 1 else 0) := by
  cases u with
  | tup us =>
    cases us with
    | nil => cases h
    | cons x r =>
      cases x with
      | str z =>
        simp only [leafB] at h
        by_cases h1 : z = Str.ofString "at"
        · subst h1
          rw [if_pos rfl] at h
          rcases r with _ | ⟨a, _ | ⟨b, r⟩⟩
          · cases h
          · cases a with
            | str y => exact ⟨.hole y, rfl, rfl, by simp [isAt, Pt.holes]⟩
            | _ => cases h
          · cases h
        · rw [if_neg h1] at h
          by_cases h2 : z = Str.ofString "from"
          · subst h2
            rw [if_pos rfl] at h
            rcases r with _ | ⟨a, _ | ⟨b, _ | ⟨c, r⟩⟩⟩
            · cases h
            · cases h
            · dsimp only at h
              cases a with
              | int i =>
                cases b with
                | int j => exact ⟨.fr i j, rfl, rfl, by simp [isAt, Pt.holes, h1]⟩
                | _ => simp [numB] at h
              | _ => simp [numB] at h
            · cases h
          · rw [if_neg h2, Bool.and_eq_true] at h
            obtain ⟨h3, h4⟩ := h
            have := of_decide_eq_true h3
            subst this
            cases r with
            | nil => exact ⟨.any, rfl, rfl, by simp [isAt, Pt.holes, h1]⟩
            | cons a r => cases h4
      | _ => cases h
  | _ => cases h
theorem fit_pt {cs : List Str} : ∀ (g : G), g.wf (LP cs) → g.fit = true → ∃ p : Pt, p.toU = g.toU ∧ p.dep = g.dep ∧ p.holes = g.holes
  | .leaf u b, ⟨hp, _, hb⟩, h => by
    simp only [G.fit] at h
    rw [h] at hb
    obtain ⟨p, h1, h2, h3⟩ := leaf_pt hp hb.symm
    exact ⟨p, h1, h2, h3⟩
  | .turn a, h1, h => by
    obtain ⟨p, e1, e2, e3⟩ := fit_pt a h1 h
    exact ⟨.turn p, by simp only [Pt.toU, G.toU, e1], by simp only [Pt.dep, G.dep, e2], e3⟩
  | .two o a b, h1, h => by
    simp only [G.fit, Bool.and_eq_true] at h
    obtain ⟨p, e1, e2, e3⟩ := fit_pt a h1.1 h.1
    obtain ⟨p', f1, f2, f3⟩ := fit_pt b h1.2 h.2
    exact ⟨.two o p p', by simp only [Pt.toU, G.toU, e1, f1], by simp only [Pt.dep, G.dep, e2, f2], by simp only [Pt.holes, G.holes, e3, f3]⟩
theorem hls_len : ∀ (p : Pt) (pl : List Nat), ((subsP p pl).filterMap hF).length = p.holes := by
  intro p
  induction p with
  | hole c => intro pl; rfl
  | any => intro pl; rfl
  | fr l h => intro pl; rfl
  | turn a ih => intro pl; simp only [subsP, Pt.holes, List.filterMap_cons, hF]; exact ih _
  | two o a b iha ihb => intro pl; simp only [subsP, Pt.holes, List.filterMap_cons, List.filterMap_append, List.length_append, hF, iha, ihb]
def spPat10 (Pt : Addr) : USp := fun us M Q => ∃ (g : G) (cs : List Str), us = [g.toU, .tup (cs.map U.str)] ∧ g.wf (LP cs) ∧ (∀ c ∈ cs, PyData.strOk c = true) ∧ M Pt = some (.tbl QP) ∧ Q (.bl (patG g)) M
theorem ok_is_pattern {c0 Pt fsh : Addr} {t1 t2 t3 : Tok} (F : Fun K "is_pattern" "is_pattern" s_is_pattern f fd) (hfd : fd.code = .ref c0) (hm : mg "is_pattern" = some (.ref f)) (hK : PySem.W.codeHdIn K c0 Pt = true) (hB : BmOk base mg) (v_is_shape : mg "is_shape" = some (.ref fsh)) (k_is_shape : PySem.W.keepIn K (.ref fsh) = true) (m_len : mg "len" = none)
    (g_MOST_PIECES : mg "MOST_PIECES" = some (.int 9 t1)) (g_MOST_WITHIN : mg "MOST_WITHIN" = some (.int 5 t2)) (g_MOST_HOLES : mg "MOST_HOLES" = some (.int 4 t3))
    (C_is_shape : ∀ (base : Heap) (fl : Addr) (s : USp), BmOk base mg → CalleeF P w K mg base 4 fl s → Callee P w K mg base 5 "is_shape" (spShape fl s) []) (CL_is_pattern_leaf : ∀ base, BmOk base mg → Callee P w K mg base 3 "is_pattern_leaf" spPLeaf []) (C_holes : Callee P w K mg base 8 "holes" spHoles []) : Callee P w K mg base 9 "is_pattern" (spPat10 Pt) [] := by
  refine callee_ofL F hfd hm sc_is_pattern (ar2 fun _ _ _ _ _ _ _ _ => rfl) (fun us M Q h => by obtain ⟨_, _, rfl, _⟩ := h; rfl) (uss_cons (us_if (ut_not (ut_val (ue_lam1C (P := Pt) (q := QP) 3 ["leaf", "classes"] ["leaf"] [1] v_is_shape k_is_shape C_is_shape hB (pl_cons (uv 0) (pl_lam (P := Pt) (q := QP) hK hB (pl_cons (ug_int g_MOST_PIECES) (pl_cons (ug_int g_MOST_WITHIN) pl_nil)))) (fun base hBm => (ue_call (CL_is_pattern_leaf base hBm) (ua_cons (uv 0) (ua_cons (uv 1) ua_nil)) (hj := by dsimp only [lamD]; omega))))))
  (uss_one (us_ret ub_))
  uss_nil)
  (uss_one (us_ret (ue_c k_le (ue_b b_len m_len (ua_cons (ue_call C_holes (ua_cons (uv 0) ua_nil)) ua_nil)) (ug_int g_MOST_HOLES))))) ?_
  rintro us M Q ⟨g, cs, rfl, hw, hc, hP, q⟩
  refine seq_gen fun V1 hV1 => ?_
  refine if_gen fun A B hA hB' => ?_
  simp! only [uCallG, gL1C, ulCons, ulLam, ulNil, items, uEnum, uZip, uEnumL]
  have back : ∀ ps vs, mup (mup M Pt (.cap ps vs [.tup (cs.map U.str)])) Pt (.tbl QP) = M := fun ps vs => by
    rw [mup_mup]
    funext b
    by_cases hb : b = Pt
    · subst hb; rw [mup_same, hP]
    · rw [mup_ne hb]
  refine ⟨hP, fun fl => ⟨hP, [.tup (cs.map U.str)], rfl, fun ps vs hno => ⟨g, LP cs, rfl, hw, fun u b h => ⟨b, h.1, h.2.1⟩, fun u b M' Q' hS h hq => ?_, hno, mup_same, ?_⟩⟩⟩
  · refine ⟨hS Pt _ mup_same, rfl, ?_⟩
    simp! only [items, uEnum, uZip, uEnumL]
    exact ⟨u, cs, rfl, h.1, hc, by rw [← h.2.2]; exact hq⟩
  · rw [back]
    cases hv : verd g with
    | false =>
      simp! only [items, uEnum, uZip, uEnumL]
      subst hA
      simp! only [uRet, items, uEnum, uZip, uEnumL]
      have e : patG g = false := by unfold patG; rw [hv]; rfl
      rw [e] at q
      exact rt_same q
    | true =>
      simp! only [items, uEnum, uZip, uEnumL]
      subst hB'
      simp only [uNext]
      subst hV1
      have hv' := hv
      unfold verd at hv'
      simp only [Bool.and_eq_true, decide_eq_true_eq] at hv'
      obtain ⟨h1, h2, h3⟩ := hv'
      obtain ⟨p, e1, e2, e3⟩ := fit_pt g hw h3
      simp! only [uRet, items, uEnum, uZip, uEnumL]
      refine ⟨p, by rw [e1], by omega, ?_⟩
      simp! only [items, uEnum, uZip, uEnumL]
      have e : patG g = decide ((((hls p).map entH).length : Int) ≤ 4) := by
        unfold patG hls
        rw [hv, Bool.true_and, List.length_map, hls_len, e3]
        by_cases hh : g.holes ≤ 4
        · rw [decide_eq_true hh]; exact (decide_eq_true (by omega)).symm
        · rw [decide_eq_false hh]; exact (decide_eq_false (by omega)).symm
      rw [e] at q
      exact rt_same q
def tup4 (u : U) : Prop := ∃ a k p d, u = .tup [a, k, p, d]
def priceB : U → Bool
  | .int i => decide (0 ≤ i) && decide (i ≤ 1000)
  | _ => false
def passOk : U → U → Bool
  | .tup [.str z, .str c], .str y => !(decide (z = Str.ofString "at") && decide (c = y))
  | _, _ => true
def TileR (cs : List Str) (u : U) (b : Bool) : Prop := plain u ∧ ((¬ tup4 u ∧ b = false) ∨ ∃ (a k : U) (g : G) (d : U), u = .tup [a, k, g.toU, d] ∧ g.wf (LP cs) ∧ b = (isName a && (inS cs k && (patG g && (priceB d && passOk g.toU k)))))
theorem plain_ok {u : U} (h : plain u) : okU u := by
  cases u with
  | str z => exact small (Nat.le_trans h.1.2 (by decide))
  | ref a => exact h.1.elim
  | ty a => exact h.1.elim
  | _ => trivial
theorem passOk_turn (z : Pt) (k : U) : passOk (.tup [.str (Str.ofString "turn"), z.toU]) k = true := by
  cases z <;> cases k <;> rfl
theorem passOk_two (z a b : U) (k : U) : passOk (.tup [z, a, b]) k = true := by
  unfold passOk
  split
  · rename_i h; cases h
  · rfl
def spPass : USp := fun us M Q => ∃ (a k d : U) (p : Pt), us = [.tup [a, k, p.toU, d]] ∧ Q (.bl (isAt p.toU)) M
theorem ok_is_pass (F : Fun K "is_pass" "is_pass" s_is_pass f fd) (hm : mg "is_pass" = some (.ref f)) : Callee P w K mg base 1 "is_pass" spPass [] := by
  refine callee2 F hm sc_is_pass (ar1 fun _ _ _ _ _ _ _ => rfl) (uss_one (us_ret (ue_c k_eqX (ue_ix (ue_ix (uv 0) un_) un_) us_))) ?_
  rintro us M Q ⟨a, k, d, p, rfl, q⟩
  refine ⟨rfl, ?_⟩
  cases p <;> (simp! only [uRet, Pt.toU, items, uEnum, uZip, uEnumL]; exact rt_same q)
def spTile10 (Pt : Addr) : USp := fun us M Q => ∃ (u : U) (cs : List Str) (b : Bool), us = [u, .tup (cs.map U.str)] ∧ TileR cs u b ∧ (∀ c ∈ cs, PyData.strOk c = true) ∧ M Pt = some (.tbl QP) ∧ Q (.bl b) M
theorem ok_is_tile {Pl : Addr} {t1 : Tok} (F : Fun K "is_tile" "is_tile" s_is_tile f fd) (hm : mg "is_tile" = some (.ref f)) (m_isinstance : mg "isinstance" = none) (m_tuple : mg "tuple" = none) (m_len : mg "len" = none) (g_GREATEST_PRICE : mg "GREATEST_PRICE" = some (.int 1000 t1))
    (C_is_name : Callee P w K mg base 1 "is_name" spName []) (C_is_pattern : Callee P w K mg base 9 "is_pattern" (spPat10 Pl) []) (C_is_whole : Callee P w K mg base 1 "is_whole" spWholeG []) (C_is_pass : Callee P w K mg base 1 "is_pass" spPass []) : Callee P w K mg base 10 "is_tile" (spTile10 Pl) [] := by
  refine callee2 F hm sc_is_tile (ar2 fun _ _ _ _ _ _ _ _ => rfl) (uss_cons (us_if (PWU.pt (uw_or (ut_not (ut_val (ue_b b_isi m_isinstance (ua_cons (uv 0) (ua_cons (ug_ty (n := "tuple") m_tuple) ua_nil))))) (uw_or1 (ut_c k_neX (ue_b b_len m_len (ua_cons (uv 0) ua_nil)) un_))))
  (uss_one (us_ret ub_))
  uss_nil)
  (uss_cons (us_if (PWU.pt (uw_or (ut_not (ut_val (ue_call C_is_name (ua_cons (ue_ix (uv 0) un_) ua_nil)))) (uw_or (ut_c k_notInD (ue_ix (uv 0) un_) (uv 1)) (uw_or1 (ut_not (ut_val (ue_call C_is_pattern (ua_cons (ue_ix (uv 0) un_) (ua_cons (uv 1) ua_nil)))))))))
  (uss_one (us_ret ub_))
  uss_nil)
  (uss_cons (us_if (PWU.pt (uw_or (ut_not (ut_val (ue_call C_is_whole (ua_cons (ue_ix (uv 0) un_) ua_nil)))) (uw_or1 (ut_not (ut_ch k_le k_le un_ (ue_ix (uv 0) un_) (ug_int g_GREATEST_PRICE))))))
  (uss_one (us_ret ub_))
  uss_nil)
  (uss_one (us_ret (ue_or (ue_not (ue_call C_is_pass (ua_cons (uv 0) ua_nil))) (ue_one (ue_c k_neX (ue_ix (ue_ix (uv 0) un_) un_) (ue_ix (uv 0) un_))))))))) ?_
  rintro us M Q ⟨u, cs, b, rfl, ⟨hp, h⟩, hc, hP, q⟩
  refine ⟨rfl, ?_⟩
  have neX : ∀ (i j : Int) (M : MHp) (Q : UK), uEqX true (.int i) (.int j) M Q = Q (.bl (!decide (i = j))) M := fun i j M Q => rfl
  refine seq_gen fun V1 hV1 => ?_
  refine if_gen fun A B hA hB => ?_
  rcases h with ⟨n4, rfl⟩ | ⟨a, k, g, d, rfl, hw, rfl⟩
  · have fls : A M := by
      subst hA
      simp! only [uRet, items, uEnum, uZip, uEnumL]
      exact rt_same q
    cases u with
    | tup us =>
      have hl : decide ((us.length : Int) = 4) = false := decide_eq_false fun z => n4 (by
        have z : us.length = 4 := by omega
        match us, z with
        | [a, k, p, d], _ => exact ⟨a, k, p, d, rfl⟩)
      simp! only [neX, hl, items, uEnum, uZip, uEnumL]
      exact fls
    | ref a => exact hp.1.elim
    | ty a => exact hp.1.elim
    | dic a b c => exact hp.1.elim
    | _ => simp! only [items, uEnum, uZip, uEnumL]; exact fls
  · have d4 : decide (((0 + 1 + 1 + 1 + 1 : Nat) : Int) = 4) = true := rfl
    simp! only [neX, d4, items, uEnum, uZip, uEnumL]
    subst hB
    simp only [uNext]
    subst hV1
    refine seq_gen fun V2 hV2 => ?_
    refine if_gen fun A B hA hB => ?_
    have pa : plain a := plain_mem hp (by simp)
    have pk : plain k := plain_mem hp (by simp)
    have pd : plain d := plain_mem hp (by simp)
    have fls : Q (.bl false) M → A M := fun q => by
      subst hA
      simp! only [uRet, items, uEnum, uZip, uEnumL]
      exact rt_same q
    simp! only [items, uEnum, uZip, uEnumL]
    refine ⟨a, rfl, plain_ok pa, ?_⟩
    cases ha : isName a with
    | false =>
      rw [ha] at q
      simp! only [items, uEnum, uZip, uEnumL]
      exact fls q
    | true =>
      rw [ha] at q
      simp! only [items, uEnum, uZip, uEnumL]
      refine in_strs (neg := true) pk hc ?_
      cases hk : inS cs k with
      | false =>
        rw [hk] at q
        simp! only [items, uEnum, uZip, uEnumL]
        exact fls q
      | true =>
        rw [hk] at q
        simp! only [items, uEnum, uZip, uEnumL]
        refine ⟨g, cs, rfl, hw, hc, hP, ?_⟩
        cases hg : patG g with
        | false =>
          rw [hg] at q
          simp! only [items, uEnum, uZip, uEnumL]
          exact fls q
        | true =>
          rw [hg] at q
          simp! only [items, uEnum, uZip, uEnumL]
          clear fls hA
          subst hB
          simp only [uNext]
          subst hV2
          refine seq_gen fun V3 hV3 => ?_
          refine if_gen fun A B hA hB => ?_
          have fls : Q (.bl false) M → A M := fun q => by
            subst hA
            simp! only [uRet, items, uEnum, uZip, uEnumL]
            exact rt_same q
          simp! only [items, uEnum, uZip, uEnumL]
          refine ⟨d, rfl, pd, ?_⟩
          cases d with
          | int i =>
            simp! only [intB, items, uEnum, uZip, uEnumL]
            simp only [priceB, Bool.true_and] at q
            by_cases h0 : 0 ≤ i
            · simp! only [h0, Bool.true_and, items, uEnum, uZip, uEnumL] at q ⊢
              by_cases h1 : i ≤ 1000
              · simp! only [h1, Bool.true_and, items, uEnum, uZip, uEnumL] at q ⊢
                clear fls hA
                subst hB
                simp only [uNext]
                subst hV3
                unfold patG verd at hg
                simp only [Bool.and_eq_true, decide_eq_true_eq] at hg
                obtain ⟨⟨_, _, hf⟩, _⟩ := hg
                obtain ⟨p, e1, _, _⟩ := fit_pt g hw hf
                rw [← e1] at q ⊢
                obtain ⟨y, rfl⟩ : ∃ y, k = .str y := by
                  cases k with
                  | str y => exact ⟨y, rfl⟩
                  | _ => cases hk
                simp! only [uRet, items, uEnum, uZip, uEnumL]
                refine ⟨a, _, _, p, rfl, ?_⟩
                cases p with
                | hole c =>
                  simp! only [Pt.toU, isAt, passOk, Bool.true_and, items, uEnum, uZip, uEnumL] at q ⊢
                  exact rt_same q
                | any => simp! only [Pt.toU, isAt, passOk, w_any_at, items, uEnum, uZip, uEnumL] at q ⊢; exact rt_same q
                | fr l h => simp! only [Pt.toU, isAt, passOk, w_from_at, items, uEnum, uZip, uEnumL] at q ⊢; exact rt_same q
                | turn z => simp! only [Pt.toU, isAt, passOk_turn, w_turn_at, items, uEnum, uZip, uEnumL] at q ⊢; exact rt_same q
                | two o y z => simp! only [Pt.toU, isAt, passOk_two, w_o_at, items, uEnum, uZip, uEnumL] at q ⊢; exact rt_same q
              · simp! only [h1, items, uEnum, uZip, uEnumL] at q ⊢
                exact fls q
            · simp! only [h0, Bool.false_and, items, uEnum, uZip, uEnumL] at q ⊢
              exact fls q
          | ref a => exact pd.1.elim
          | ty a => exact pd.1.elim
          | dic a b c => exact pd.1.elim
          | _ => simp! only [intB, items, uEnum, uZip, uEnumL]; exact fls q
def strOf : U → Str
  | .str z => z
  | _ => Str.ofString ""
theorem names_strs : ∀ {us : List U}, us.all isName = true → us = (us.map strOf).map U.str
  | [], _ => rfl
  | u :: us, h => by
    rw [List.all_cons, Bool.and_eq_true] at h
    cases u with
    | str z => simp only [List.map_cons, strOf]; rw [← names_strs h.2]
    | _ => cases h.1
def unB (ss : List Str) : Bool := decide ((ddS ss).length = ss.length)
def spUnlike : USp := fun us M Q => ∃ (u : U) (ss : List Str), us = [u] ∧ (u = .tup (ss.map U.str) ∨ u = .lst (ss.map U.str)) ∧ ss.length < 1000 ∧ Q (.bl (unB ss)) M
theorem ok_unlike (F : Fun K "are_unlike" "are_unlike" s_are_unlike f fd) (hm : mg "are_unlike" = some (.ref f)) (m_len : mg "len" = none) (m_set : mg "set" = none) : Callee P w K mg base 1 "are_unlike" spUnlike [] := by
  refine callee2 F hm sc_are_unlike (ar1 fun _ _ _ _ _ _ _ => rfl) (uss_one (us_ret (ue_c k_eqX (ue_lenSetA m_len m_set (ua_cons (uv 0) ua_nil)) (ue_b b_len m_len (ua_cons (uv 0) ua_nil))))) ?_
  rintro us M Q ⟨u, ss, rfl, hu, hl, q⟩
  refine ⟨rfl, ?_⟩
  have e : ∀ n m : Nat, decide ((n : Int) = (m : Int)) = decide (n = m) := fun n m => by
    by_cases h : n = m
    · subst h; simp
    · rw [decide_eq_false h]; exact decide_eq_false (by omega)
  rcases hu with rfl | rfl <;>
  · simp! only [uRet, uLenSetA, items, List.length_map, items, uEnum, uZip, uEnumL]
    refine ⟨ss, rfl, hl, ?_⟩
    simp! only [e, items, uEnum, uZip, uEnumL]
    exact rt_same q
theorem bls_map (f : U → Bool) : ∀ us : List U, blsU (us.map fun u => U.bl (f u)) = some (us.map f)
  | [] => rfl
  | u :: us => by simp only [List.map_cons, blsU, bls_map f us, Option.map_some]
theorem bls_bs : ∀ bs : List Bool, blsU (bs.map U.bl) = some bs
  | [] => rfl
  | b :: bs => by simp only [List.map_cons, blsU, bls_bs bs, Option.map_some]
def classB : U → Bool
  | .tup us => decide (1 ≤ us.length) && (decide (us.length ≤ 6) && (us.all isName && unB (us.map strOf)))
  | _ => false
def spClassesB : USp := fun us M Q => ∃ u : U, us = [u] ∧ plain u ∧ Q (.bl (classB u)) M
theorem ok_are_classes {t1 : Tok} (F : Fun K "are_classes" "are_classes" s_are_classes f fd) (hm : mg "are_classes" = some (.ref f)) (m_isinstance : mg "isinstance" = none) (m_tuple : mg "tuple" = none) (m_len : mg "len" = none) (m_all : mg "all" = none) (g_MOST_CLASSES : mg "MOST_CLASSES" = some (.int 6 t1)) (C_is_name : Callee P w K mg base 1 "is_name" spName []) (C_are_unlike : Callee P w K mg base 1 "are_unlike" spUnlike []) : Callee P w K mg base 2 "are_classes" spClassesB [] := by
  refine callee2 F hm sc_are_classes (ar1 fun _ _ _ _ _ _ _ => rfl) (uss_cons (us_if (PWU.pt (uw_or (ut_not (ut_val (ue_b b_isi m_isinstance (ua_cons (uv 0) (ua_cons (ug_ty (n := "tuple") m_tuple) ua_nil))))) (uw_or1 (ut_not (ut_ch k_le k_le un_ (ue_b b_len m_len (ua_cons (uv 0) ua_nil)) (ug_int g_MOST_CLASSES))))))
  (uss_one (us_ret ub_))
  uss_nil)
  (uss_one (us_ret (ue_and (ue_b b_all m_all (ua_cons (ue_comp false ["name"] 1 [] (ui_seq (uv 0)) (ug_name (k := 1) 0 (by dsimp only [compD]; decide +kernel)) uif_nil (ue_call C_is_name (ua_cons (uv 0) ua_nil))) ua_nil)) (ue_one (ue_call C_are_unlike (ua_cons (uv 0) ua_nil))))))) ?_
  rintro us M Q ⟨u, rfl, hp, q⟩
  refine ⟨rfl, ?_⟩
  refine seq_gen fun V1 hV1 => ?_
  refine if_gen fun A B hA hB => ?_
  have fls : Q (.bl false) M → A M := fun q => by
    subst hA
    simp! only [uRet, items, uEnum, uZip, uEnumL]
    exact rt_same q
  cases u with
  | tup us =>
    have hl := plain_len hp
    simp only [classB] at q
    simp! only [items, uEnum, uZip, uEnumL]
    by_cases h1 : 1 ≤ us.length
    · have h1' : (1 : Int) ≤ (us.length : Int) := by omega
      simp! only [h1, h1', Bool.true_and, items, uEnum, uZip, uEnumL] at q ⊢
      by_cases h2 : us.length ≤ 6
      · have h2' : (us.length : Int) ≤ 6 := by omega
        simp! only [h2, h2', Bool.true_and, items, uEnum, uZip, uEnumL] at q ⊢
        subst hB
        simp only [uNext]
        subst hV1
        simp only [uRet, uAndV, uCB, uCons, uNil]
        refine uComp_list (S := ⟨none, us⟩) (M1 := M) (us.map fun x => U.bl (isName x)) (fun R r => ?_) (by simp) (small (by show us.length ≤ _; omega)) (fun a e => by cases e) (fun i x y hx hy M' _ R r => ?_) ?_
        · simp! only [items, uEnum, uZip, uEnumL]; exact r
        · rw [List.getElem?_map, hx] at hy
          cases hy
          simp! only [hName, items, uEnum, uZip, uEnumL]
          exact ⟨x, rfl, plain_ok (plain_mem hp (List.mem_of_getElem? hx)), r⟩
        · simp! only [bls_map, items, uEnum, uZip, uEnumL]
          cases ha : us.all isName with
          | false =>
            rw [ha] at q
            have e : ((us.map isName).all fun b => b) = false := by rw [List.all_map]; exact ha
            simp! only [e, items, uEnum, uZip, uEnumL]
            exact rt_same q
          | true =>
            rw [ha] at q
            have e : ((us.map isName).all fun b => b) = true := by rw [List.all_map]; exact ha
            simp! only [e, items, uEnum, uZip, uEnumL]
            exact ⟨_, us.map strOf, rfl, .inl (by rw [← names_strs ha]), by rw [List.length_map]; omega, rt_same q⟩
      · have h2' : ¬ (us.length : Int) ≤ 6 := by omega
        simp! only [h2, h2', Bool.false_and, items, uEnum, uZip, uEnumL] at q ⊢
        exact fls q
    · have h1' : ¬ (1 : Int) ≤ (us.length : Int) := by omega
      simp! only [h1, h1', Bool.false_and, items, uEnum, uZip, uEnumL] at q ⊢
      exact fls q
  | ref a => exact hp.1.elim
  | ty a => exact hp.1.elim
  | dic a b c => exact hp.1.elim
  | _ => simp! only [items, uEnum, uZip, uEnumL]; exact fls q
def TilesR (cs : List Str) (u : U) (b : Bool) : Prop := plain u ∧ (((∀ ts, u ≠ .tup ts) ∧ b = false) ∨ ∃ (ts : List U) (bs : List Bool), u = .tup ts ∧ Paired (TileR cs) ts bs ∧ b = (decide (1 ≤ ts.length) && (decide (ts.length ≤ 40) && ((bs.all fun x => x) && unB (ts.map fun t => match t with | .tup (.str z :: _) => z | _ => Str.ofString "")))))
theorem tile_name {cs : List Str} {u : U} (h : TileR cs u true) : ∃ z r, u = .tup (.str z :: r) := by
  rcases h.2 with ⟨_, z⟩ | ⟨a, k, g, d, rfl, _, e⟩
  · cases z
  · cases a with
    | str z => exact ⟨z, _, rfl⟩
    | _ => cases e
theorem paired_get {α β : Type} {R : α → β → Prop} : ∀ {xs : List α} {ys : List β}, Paired R xs ys → ∀ {i : Nat} {x : α} {y : β}, xs[i]? = some x → ys[i]? = some y → R x y
  | _, _, .nil, i, _, _, h, _ => by simp at h
  | _, _, .cons h t, 0, _, _, h1, h2 => by cases h1; cases h2; exact h
  | _, _, .cons h t, i + 1, _, _, h1, h2 => paired_get t (by simpa using h1) (by simpa using h2)
def spTilesB (Pt : Addr) : USp := fun us M Q => ∃ (u : U) (cs : List Str) (b : Bool), us = [u, .tup (cs.map U.str)] ∧ TilesR cs u b ∧ (∀ c ∈ cs, PyData.strOk c = true) ∧ M Pt = some (.tbl QP) ∧ Q (.bl b) M
theorem ok_are_tiles {Pl : Addr} {t1 : Tok} (F : Fun K "are_tiles" "are_tiles" s_are_tiles f fd) (hm : mg "are_tiles" = some (.ref f)) (m_isinstance : mg "isinstance" = none) (m_tuple : mg "tuple" = none) (m_len : mg "len" = none) (m_all : mg "all" = none) (g_MOST_TILES : mg "MOST_TILES" = some (.int 40 t1)) (C_is_tile : Callee P w K mg base 10 "is_tile" (spTile10 Pl) []) (C_are_unlike : Callee P w K mg base 1 "are_unlike" spUnlike []) : Callee P w K mg base 11 "are_tiles" (spTilesB Pl) [] := by
  refine callee2 F hm sc_are_tiles (ar2 fun _ _ _ _ _ _ _ _ => rfl) (uss_cons (us_if (PWU.pt (uw_or (ut_not (ut_val (ue_b b_isi m_isinstance (ua_cons (uv 0) (ua_cons (ug_ty (n := "tuple") m_tuple) ua_nil))))) (uw_or1 (ut_not (ut_ch k_le k_le un_ (ue_b b_len m_len (ua_cons (uv 0) ua_nil)) (ug_int g_MOST_TILES))))))
  (uss_one (us_ret ub_))
  uss_nil)
  (uss_one (us_ret (ue_and (ue_b b_all m_all (ua_cons (ue_comp false ["tile", "classes"] 1 [1] (ui_seq (uv 0)) (ug_name (k := 1) 0 (by dsimp only [compD]; decide +kernel)) uif_nil (ue_call C_is_tile (ua_cons (uv 0) (ua_cons (uv 1) ua_nil)))) ua_nil)) (ue_one (ue_call C_are_unlike (ua_cons (ue_comp false ["tile"] 1 [] (ui_seq (uv 0)) (ug_name (k := 1) 0 (by dsimp only [compD]; decide +kernel)) uif_nil (ue_ix (uv 0) un_)) ua_nil))))))) ?_
  rintro us M Q ⟨u, cs, b, rfl, ⟨hp, h⟩, hc, hP, q⟩
  refine ⟨rfl, ?_⟩
  refine seq_gen fun V1 hV1 => ?_
  refine if_gen fun A B hA hB => ?_
  have fls : Q (.bl false) M → A M := fun q => by
    subst hA
    simp! only [uRet, items, uEnum, uZip, uEnumL]
    exact rt_same q
  rcases h with ⟨nt, rfl⟩ | ⟨ts, bs, rfl, hb, rfl⟩
  · cases u with
    | tup us => exact (nt us rfl).elim
    | ref a => exact hp.1.elim
    | ty a => exact hp.1.elim
    | dic a b c => exact hp.1.elim
    | _ => simp! only [items, uEnum, uZip, uEnumL]; exact fls q
  · have hl := plain_len hp
    have hlb := hb.length
    simp! only [items, uEnum, uZip, uEnumL]
    by_cases h1 : 1 ≤ ts.length
    · have h1' : (1 : Int) ≤ (ts.length : Int) := by omega
      simp! only [h1, h1', Bool.true_and, items, uEnum, uZip, uEnumL] at q ⊢
      by_cases h2 : ts.length ≤ 40
      · have h2' : (ts.length : Int) ≤ 40 := by omega
        simp! only [h2, h2', Bool.true_and, items, uEnum, uZip, uEnumL] at q ⊢
        subst hB
        simp only [uNext]
        subst hV1
        simp only [uRet, uAndV, uCB, uCons, uNil]
        refine uComp_list (S := ⟨none, ts⟩) (M1 := M) (bs.map U.bl) (fun R r => ?_) (by simp [hlb]) (small (by show ts.length ≤ _; omega)) (fun a e => by cases e) (fun i x y hx hy M' hS R r => ?_) ?_
        · simp! only [items, uEnum, uZip, uEnumL]; exact r
        · rw [List.getElem?_map] at hy
          cases hbi : bs[i]? with
          | none => rw [hbi] at hy; cases hy
          | some bb =>
            rw [hbi] at hy
            cases hy
            simp! only [hName, items, uEnum, uZip, uEnumL]
            exact ⟨x, cs, bb, rfl, paired_get hb hx hbi, hc, hS Pl _ hP, r⟩
        · simp! only [bls_bs, items, uEnum, uZip, uEnumL]
          cases ha : bs.all fun x => x with
          | false =>
            rw [ha] at q
            simp! only [ha, items, uEnum, uZip, uEnumL]
            exact rt_same q
          | true =>
            rw [ha] at q
            simp! only [ha, items, uEnum, uZip, uEnumL]
            have hall : ∀ (i : Nat) x, ts[i]? = some x → ∃ z r, x = .tup (.str z :: r) := fun i x hx => by
              have hi : i < bs.length := by have := (List.getElem?_eq_some_iff.mp hx).1; omega
              obtain ⟨bb, hbi⟩ : ∃ bb, bs[i]? = some bb := ⟨_, List.getElem?_eq_getElem hi⟩
              have : bb = true := List.all_eq_true.mp ha bb (List.mem_of_getElem? hbi)
              subst this
              exact tile_name (paired_get hb hx hbi)
            refine uComp_list (S := ⟨none, ts⟩) (M1 := M) ((ts.map fun t => match t with | .tup (.str z :: _) => z | _ => Str.ofString "").map U.str) (fun R r => ?_) (by simp) (small (by show ts.length ≤ _; omega)) (fun a e => by cases e) (fun i x y hx hy M' hS R r => ?_) ?_
            · simp! only [items, uEnum, uZip, uEnumL]; exact r
            · obtain ⟨z, rr, rfl⟩ := hall i x hx
              rw [List.getElem?_map, List.getElem?_map, hx] at hy
              cases hy
              simp! only [hName, items, uEnum, uZip, uEnumL]
              exact r
            · simp! only [items, uEnum, uZip, uEnumL]
              exact ⟨_, _, rfl, .inr rfl, by simp; omega, rt_same q⟩
      · have h2' : ¬ (ts.length : Int) ≤ 40 := by omega
        simp! only [h2, h2', Bool.false_and, items, uEnum, uZip, uEnumL] at q ⊢
        exact fls q
    · have h1' : ¬ (1 : Int) ≤ (ts.length : Int) := by omega
      simp! only [h1, h1', Bool.false_and, items, uEnum, uZip, uEnumL] at q ⊢
      exact fls q
def TableR (u : U) (b : Bool) : Prop := plain u ∧ (((∀ c t, u ≠ .tup [c, t]) ∧ b = false) ∨ ∃ c t, u = .tup [c, t] ∧ ((classB c = false ∧ b = false) ∨ ∃ cs : List Str, c = .tup (cs.map U.str) ∧ classB c = true ∧ (∀ x ∈ cs, PyData.strOk x = true) ∧ TilesR cs t b))
def spTableB (Pt : Addr) : USp := fun us M Q => ∃ (u : U) (b : Bool), us = [u] ∧ TableR u b ∧ M Pt = some (.tbl QP) ∧ Q (.bl b) M
theorem ok_is_table {Pl : Addr} (F : Fun K "is_table" "is_table" s_is_table f fd) (hm : mg "is_table" = some (.ref f)) (m_isinstance : mg "isinstance" = none) (m_tuple : mg "tuple" = none) (m_len : mg "len" = none) (C_are_classes : Callee P w K mg base 2 "are_classes" spClassesB []) (C_are_tiles : Callee P w K mg base 11 "are_tiles" (spTilesB Pl) []) : Callee P w K mg base 12 "is_table" (spTableB Pl) [] := by
  refine callee2 F hm sc_is_table (ar1 fun _ _ _ _ _ _ _ => rfl) (uss_cons (us_if (PWU.pt (uw_or (ut_not (ut_val (ue_b b_isi m_isinstance (ua_cons (uv 0) (ua_cons (ug_ty (n := "tuple") m_tuple) ua_nil))))) (uw_or1 (ut_c k_neX (ue_b b_len m_len (ua_cons (uv 0) ua_nil)) un_))))
  (uss_one (us_ret ub_))
  uss_nil)
  (uss_one (us_ret (ue_and (ue_call C_are_classes (ua_cons (ue_ix (uv 0) un_) ua_nil)) (ue_one (ue_call C_are_tiles (ua_cons (ue_ix (uv 0) un_) (ua_cons (ue_ix (uv 0) un_) ua_nil)))))))) ?_
  rintro us M Q ⟨u, b, rfl, ⟨hp, h⟩, hP, q⟩
  refine ⟨rfl, ?_⟩
  have neX : ∀ (i j : Int) (M : MHp) (Q : UK), uEqX true (.int i) (.int j) M Q = Q (.bl (!decide (i = j))) M := fun i j M Q => rfl
  refine seq_gen fun V1 hV1 => ?_
  refine if_gen fun A B hA hB => ?_
  rcases h with ⟨n2, rfl⟩ | ⟨c, t, rfl, h⟩
  · have fls : A M := by
      subst hA
      simp! only [uRet, items, uEnum, uZip, uEnumL]
      exact rt_same q
    cases u with
    | tup us =>
      have hl : decide ((us.length : Int) = 2) = false := decide_eq_false fun z => by
        have z : us.length = 2 := by omega
        match us, z with
        | [c, t], _ => exact n2 c t rfl
      simp! only [neX, hl, items, uEnum, uZip, uEnumL]
      exact fls
    | ref a => exact hp.1.elim
    | ty a => exact hp.1.elim
    | dic a b c => exact hp.1.elim
    | _ => simp! only [items, uEnum, uZip, uEnumL]; exact fls
  · have d2 : decide (((0 + 1 + 1 : Nat) : Int) = 2) = true := rfl
    simp! only [neX, d2, items, uEnum, uZip, uEnumL]
    subst hB
    simp only [uNext]
    subst hV1
    simp! only [uRet, items, uEnum, uZip, uEnumL]
    refine ⟨c, rfl, plain_mem hp (by simp), ?_⟩
    rcases h with ⟨hc, rfl⟩ | ⟨cs, rfl, hc, hs, ht⟩
    · simp! only [hc, items, uEnum, uZip, uEnumL]
      exact rt_same q
    · simp! only [hc, items, uEnum, uZip, uEnumL]
      exact ⟨t, cs, b, rfl, ht, hs, hP, rt_same q⟩
def atP : Pt → List Nat → Option Pt
  | p, [] => some p
  | p, k :: w => match p.parts[k]? with
    | some a => atP a w
    | none => none
theorem atP_snoc : ∀ {p a b : Pt} {w : List Nat} {k : Nat}, atP p w = some a → a.parts[k]? = some b → atP p (w ++ [k]) = some b
  | p, a, b, [], k, h, hk => by cases h; simp only [List.nil_append, atP, hk]
  | p, a, b, j :: w, k, h, hk => by
    simp only [List.cons_append, atP] at h ⊢
    cases hj : p.parts[j]? with
    | none => rw [hj] at h; cases h
    | some c => rw [hj] at h; exact atP_snoc h hk
def wayU (w : List Nat) : U := .tup (w.map fun k => .int (k : Nat))
def spWay : USp := fun us M Q => ∃ (p : Pt) (n : Int), us = [p.toU, .int n] ∧ p.dep ≤ 6 ∧ ∀ (w : List Nat) (a : Pt), atP p w = some a → Q (wayU w) M
theorem dep_part {p a : Pt} {k : Nat} (h : p.parts[k]? = some a) : a.dep < p.dep := by
  cases p with
  | turn b =>
    match k, h with
    | 0, h => cases h; simp only [Pt.dep]; omega
    | k + 1, h => simp [Pt.parts] at h
  | two o b c =>
    match k, h with
    | 0, h => cases h; simp only [Pt.dep]; omega
    | 1, h => cases h; simp only [Pt.dep]; omega
    | k + 2, h => simp [Pt.parts] at h
  | _ => simp [Pt.parts] at h
theorem way_dep : ∀ {p a : Pt} {w : List Nat}, atP p w = some a → w.length + a.dep ≤ p.dep
  | p, a, [], h => by cases h; simp
  | p, a, k :: w, h => by
    simp only [atP] at h
    cases hk : p.parts[k]? with
    | none => rw [hk] at h; cases h
    | some c =>
      rw [hk] at h
      have := way_dep h
      have := dep_part hk
      simp only [List.length_cons]; omega
theorem part_ix {p a : Pt} {k : Nat} (h : p.parts[k]? = some a) : ∃ r, p.toU = .tup r ∧ atI r (1 + (k : Int)) = some a.toU := by
  cases p with
  | turn b =>
    match k, h with
    | 0, h => cases h; exact ⟨_, rfl, rfl⟩
    | k + 1, h => simp [Pt.parts] at h
  | two o b c =>
    match k, h with
    | 0, h => cases h; exact ⟨_, rfl, rfl⟩
    | 1, h => cases h; exact ⟨_, rfl, rfl⟩
    | k + 2, h => simp [Pt.parts] at h
  | _ => simp [Pt.parts] at h
def signP : Pt → Bool
  | .turn _ => true
  | .two _ _ _ => true
  | _ => false
theorem head_in (a : Pt) : ∃ z r, a.toU = .tup (.str z :: r) ∧ ([U.str (Str.ofString "turn"), U.str (Str.ofString "sum"), U.str (Str.ofString "less"), U.str (Str.ofString "by")].any fun u => eqF u (.str z)) = signP a ∧ r.length = (if signP a then a.parts.length else r.length) := by
  cases a with
  | hole c => exact ⟨_, _, rfl, by show _ = false; decide +kernel, rfl⟩
  | any => exact ⟨_, _, rfl, by show _ = false; decide +kernel, rfl⟩
  | fr l h => exact ⟨_, _, rfl, by show _ = false; decide +kernel, rfl⟩
  | turn b => exact ⟨_, _, rfl, by show _ = true; decide +kernel, rfl⟩
  | two o b c => exact ⟨_, _, rfl, by show _ = true; cases o <;> decide +kernel, rfl⟩
theorem ok_way (F : Fun K "_law_way" "_law_way" s_law_way f fd) (hm : mg "_law_way" = some (.ref f)) (m_len : mg "len" = none) (m_abs : mg "abs" = none) : Callee P w K mg base 1 "_law_way" spWay [] := by
  refine callee2 F hm sc_law_way (ar2 fun _ _ _ _ _ _ _ _ => rfl) (uss_cons (us_set 2 sc_law_way.nd (ue_tup ua_nil))
  (uss_cons (us_set 1 sc_law_way.nd (ue_b b_abs m_abs (ua_cons (uv 1) ua_nil)))
  (uss_cons (us_while (PWU.pt (uw_and (ut_c k_gt (uv 1) un_) (uw_and1 (ut_c k_in (ue_ix (uv 0) un_) (ue_tup (ua_cons us_ (ua_cons us_ (ua_cons us_ (ua_cons us_ ua_nil)))))))))
  (uss_cons (us_set 3 sc_law_way.nd (ue_sub (ue_b b_len m_len (ua_cons (uv 0) ua_nil)) un_))
  (uss_cons (us_set 4 sc_law_way.nd (ue_mod (ue_sub (uv 1) un_) (uv 3)))
  (uss_cons (us_set 1 sc_law_way.nd (ue_divX (ue_sub (uv 1) un_) (uv 3)))
  (uss_cons (us_set 2 sc_law_way.nd (ue_add (own := false) (uv 2) (ue_tup (ua_cons (uv 4) ua_nil))))
  (uss_one (us_set 0 sc_law_way.nd (ue_ix (uv 0) (ue_add (own := false) un_ (uv 4))))))))))
  (uss_one (us_ret (uv 2)))))) ?_
  rintro us M Q ⟨p, n, rfl, hd, q⟩
  refine ⟨rfl, ?_⟩
  refine seq_gen fun V1 hV1 => ?_
  simp! only [uAsg, hName, items, uEnum, uZip, uEnumL]
  subst hV1
  refine seq_gen fun V2 hV2 => ?_
  simp! only [uAsg, hName, items, uEnum, uZip, uEnumL]
  subst hV2
  refine seq_gen fun V3 hV3 => ?_
  refine while_by (fun τ Mi => ∃ (a : Pt) (m : Int) (w : List Nat) (c e : Option U), τ = [some a.toU, some (.int m), some (wayU w), c, e] ∧ Mi = M ∧ 0 ≤ m ∧ atP p w = some a) (fun τ _ => match τ with | [_, some (.int m), _, _, _] => m.toNat | _ => 0) ⟨p, _, [], _, _, rfl, rfl, by omega, rfl⟩ ?_
  rintro τ Mi ⟨a, m, w, c, e, rfl, rfl, h0, hat⟩
  have fin : V3 [some a.toU, some (.int m), some (wayU w), c, e] Mi := by
    subst hV3
    simp! only [uRet, items, uEnum, uZip, uEnumL]
    exact rt_same (q w a hat)
  obtain ⟨z, r, e1, e2, e3⟩ := head_in a
  have hwd := way_dep hat
  by_cases hm : 0 < m
  · simp! only [hm, e1, uIn, items, items, uEnum, uZip, uEnumL]
    refine ⟨rfl, rfl, ?_⟩
    rw [e2]
    cases hs : signP a with
    | false => rw [if_neg (by simp), ← e1]; exact fin
    | true =>
      rw [if_pos rfl]
      rw [hs, if_pos rfl] at e3
      have hpl : 1 ≤ a.parts.length ∧ a.parts.length ≤ 2 := by
        cases a with
        | turn b => simp [Pt.parts]
        | two o b c => simp [Pt.parts]
        | _ => cases hs
      have hL : ((r.length + 1 : Nat) : Int) - 1 = (a.parts.length : Int) := by omega
      have k0 := Int.emod_nonneg (m - 1) (show (a.parts.length : Int) ≠ 0 by omega)
      have k1 := Int.emod_lt_of_pos (m - 1) (show (0 : Int) < (a.parts.length : Int) by omega)
      obtain ⟨k, hk⟩ : ∃ k : Nat, (m - 1) % (a.parts.length : Int) = k := ⟨_, (Int.toNat_of_nonneg k0).symm⟩
      obtain ⟨b, hb⟩ : ∃ b, a.parts[k]? = some b := ⟨_, List.getElem?_eq_getElem (by omega)⟩
      obtain ⟨r', g1, g2⟩ := part_ix hb
      rw [e1] at g1
      cases g1
      have hdv := Int.ediv_le_self (a.parts.length : Int) (show 0 ≤ m - 1 by omega)
      have hd0 := Int.ediv_nonneg (show 0 ≤ m - 1 by omega) (show 0 ≤ (a.parts.length : Int) by omega)
      have ew : U.tup ((w.map fun k => U.int (k : Nat)) ++ [U.int (k : Int)]) = wayU (w ++ [k]) := by simp [wayU]
      simp! only [uSeq, uAsg, hName, hL, hk, wayU, items, uEnum, uZip, uEnumL]
      refine ⟨by omega, ⟨by omega, by show (a.parts.length : Int) < 2 ^ 64; omega⟩, ?_⟩
      exact ⟨small (by rw [List.length_map]; omega), _, g2, ⟨b, _, w ++ [k], some (.int (a.parts.length : Int)), some (.int (k : Int)), by simp, hd0, atP_snoc hat hb⟩, by omega⟩
  · simp! only [hm, items, uEnum, uZip, uEnumL]
    exact fin
theorem way_next : ∀ {w : List Nat} {p a : Pt} {i k : Nat}, atP p w = some a → w[i]? = some k → ∃ b c, atP p (w.take i) = some b ∧ b.parts[k]? = some c ∧ atP p (w.take (i + 1)) = some c
  | [], p, a, i, k, h, hk => by simp at hk
  | j :: w, p, a, 0, k, h, hk => by
    cases hk
    simp only [atP] at h
    cases hj : p.parts[j]? with
    | none => rw [hj] at h; cases h
    | some c => exact ⟨p, c, rfl, hj, by simp only [List.take_succ_cons, List.take_zero, atP, hj]⟩
  | j :: w, p, a, i + 1, k, h, hk => by
    simp only [atP] at h
    cases hj : p.parts[j]? with
    | none => rw [hj] at h; cases h
    | some c =>
      rw [hj] at h
      obtain ⟨b, d, h1, h2, h3⟩ := way_next (i := i) h (by simpa using hk)
      exact ⟨b, d, by simp only [List.take_succ_cons, atP, hj]; exact h1, h2, by rw [List.take_succ_cons]; simp only [atP, hj]; exact h3⟩
def spAtP : USp := fun us M Q => ∃ (p a : Pt) (w : List Nat), us = [p.toU, wayU w] ∧ atP p w = some a ∧ Q a.toU M
theorem ok_atP (F : Fun K "_law_at" "_law_at" s_law_at f fd) (hm : mg "_law_at" = some (.ref f)) : Callee P w K mg base 1 "_law_at" spAtP [] := by
  refine callee2 F hm sc_law_at (ar2 fun _ _ _ _ _ _ _ _ => rfl) (uss_cons (us_for (ui_seq (uv 1)) (ug_name (k := 1000) 2 sc_law_at.nd)
  (uss_one (us_set 0 sc_law_at.nd (ue_ix (uv 0) (ue_add (own := false) un_ (uv 2))))))
  (uss_one (us_ret (uv 0)))) ?_
  rintro us M Q ⟨p, a, w, rfl, hat, q⟩
  refine ⟨rfl, ?_⟩
  refine seq_gen fun V1 hV1 => ?_
  refine for_by (S := ⟨none, w.map fun k => U.int (k : Nat)⟩) (M1 := M) (fun R r => r)
    (fun i τ Mi => ∃ (b : Pt) (c : Option U), τ = [some b.toU, some (wayU w), c] ∧ Mi = M ∧ atP p (w.take i) = some b) ⟨p, none, rfl, rfl, rfl⟩ nk ?_ ?_
  · rintro i x τ Mi e ⟨b, c, rfl, rfl, hb⟩
    have e' : (w.map fun k => U.int (k : Nat))[i]? = some x := e
    rw [List.getElem?_map] at e'
    cases hk : w[i]? with
    | none => rw [hk] at e'; cases e'
    | some k =>
      rw [hk] at e'
      cases e'
      obtain ⟨b', d, h1, h2, h3⟩ := way_next hat hk
      rw [hb] at h1; cases h1
      obtain ⟨r, g1, g2⟩ := part_ix h2
      simp! only [uAsg, hName, g1, items, uEnum, uZip, uEnumL]
      exact ⟨_, g2, d, _, rfl, h3⟩
  · rintro τ Mi ⟨b, c, rfl, rfl, hb⟩
    have e : w.take (Src.mk none (w.map fun k => U.int (k : Nat))).xs.length = w := List.take_of_length_le (by simp)
    rw [e, hat] at hb
    cases hb
    subst hV1
    simp! only [uRet, items, uEnum, uZip, uEnumL]
    exact rt_same q
def gP : Pt → G
  | .turn a => .turn (gP a)
  | .two o a b => .two o (gP a) (gP b)
  | p => .leaf p.toU true
theorem gP_U : ∀ p : Pt, (gP p).toU = p.toU
  | .turn a => by simp only [gP, G.toU, Pt.toU, gP_U a]
  | .two o a b => by simp only [gP, G.toU, Pt.toU, gP_U a, gP_U b]
  | .hole _ => rfl
  | .any => rfl
  | .fr _ _ => rfl
def putG (u : U) : Pt → List Nat → G
  | _, [] => .leaf u false
  | .turn a, 0 :: w => .turn (putG u a w)
  | .two o a b, 0 :: w => .two o (putG u a w) (gP b)
  | .two o a b, 1 :: w => .two o (gP a) (putG u b w)
  | p, _ => gP p
theorem putG_fit (u : U) : ∀ (w : List Nat) (p a : Pt), atP p w = some a → (putG u p w).fit = false
  | [], p, a, _ => by cases p <;> rfl
  | k :: w, p, a, h => by
    simp only [atP] at h
    cases p with
    | turn b =>
      match k, h with
      | 0, h => simp only [putG, G.fit]; exact putG_fit u w b a h
      | k + 1, h => simp [Pt.parts] at h
    | two o b c =>
      match k, h with
      | 0, h => simp only [putG, G.fit, putG_fit u w b a h, Bool.false_and]
      | 1, h => simp only [putG, G.fit, putG_fit u w c a h, Bool.and_false]
      | k + 2, h => simp [Pt.parts] at h
    | _ => simp [Pt.parts] at h
def spPut (n : Nat) : USp := fun us M Q => ∃ (p a : Pt) (w : List Nat) (u : U), us = [p.toU, wayU w, u] ∧ atP p w = some a ∧ p.dep ≤ n ∧ n ≤ 10 ∧ Q (putG u p w).toU M
theorem ok_put {n : Nat} (F : Fun K "_law_put" "_law_put" s_law_put f fd) (hm : mg "_law_put" = some (.ref f)) (m_len : mg "len" = none) (C_law_put : Callee P w K mg base n "_law_put" (spPut n) []) : Callee P w K mg base (n + 1) "_law_put" (spPut (n + 1)) [] := by
  refine callee2 F hm sc_law_put (ar3 fun _ _ _ _ _ _ _ _ _ => rfl) (uss_cons (us_if (ut_c k_eqX (ue_b b_len m_len (ua_cons (uv 1) ua_nil)) un_)
  (uss_one (us_ret (uv 2)))
  uss_nil)
  (uss_cons (us_set 3 sc_law_put.nd (ue_add (own := false) un_ (ue_ix (uv 1) un_)))
  (uss_one (us_ret (ue_add (own := false) (ue_add (own := false) (ue_slX (own := false) (uv 0) uo_none (uo_some (uv 3))) (ue_tup (ua_cons (ue_call C_law_put (ua_cons (ue_ix (uv 0) (uv 3)) (ua_cons (ue_slX (own := false) (uv 1) (uo_some un_) uo_none) (ua_cons (uv 2) ua_nil)))) ua_nil))) (ue_slX (own := false) (uv 0) (uo_some (ue_add (own := false) (uv 3) un_)) uo_none)))))) ?_
  rintro us M Q ⟨p, a, w, u, rfl, hat, hd, hn, q⟩
  refine ⟨rfl, ?_⟩
  refine seq_gen fun V1 hV1 => ?_
  refine if_gen fun A B hA hB => ?_
  cases w with
  | nil =>
    simp! only [wayU, show decide (((0 : Nat) : Int) = 0) = true from rfl, items, uEnum, uZip, uEnumL]
    subst hA
    simp! only [uRet, items, uEnum, uZip, uEnumL]
    have e : (putG u p []).toU = u := by cases p <;> rfl
    rw [e] at q
    exact rt_same q
  | cons k w =>
    have hne : decide ((((w.map fun k => U.int (k : Nat)).length + 1 : Nat) : Int) = 0) = false := decide_eq_false (by omega)
    have hwl : w.length ≤ 11 := by
      have := way_dep hat
      simp only [List.length_cons] at this
      omega
    simp! only [wayU, hne, items, uEnum, uZip, uEnumL]
    subst hB
    simp only [uNext]
    subst hV1
    refine seq_gen fun V2 hV2 => ?_
    simp! only [uAsg, hName, wayU, items, uEnum, uZip, uEnumL]
    subst hV2
    simp only [atP] at hat
    cases p with
    | turn b =>
      match k, hat, q with
      | 0, hat, q =>
        simp! only [uRet, Pt.toU, items, uEnum, uZip, uEnumL]
        have hd' : b.dep + 1 ≤ n + 1 := hd
        refine ⟨_, rfl, b, a, w, u, by rw [cut1]; rfl, hat, by omega, by omega, ?_⟩
        have c1 : cutU [U.str (Str.ofString "turn"), b.toU] none (some (1 + ((0 : Nat) : Int))) = [U.str (Str.ofString "turn")] := rfl
        have c2 : cutU [U.str (Str.ofString "turn"), b.toU] (some (1 + ((0 : Nat) : Int) + 1)) none = [] := rfl
        simp! only [c1, c2, items, uEnum, uZip, uEnumL]
        exact rt_same q
      | k + 1, hat, q => simp [Pt.parts] at hat
    | two o b c =>
      match k, hat, q with
      | 0, hat, q =>
        simp! only [uRet, Pt.toU, items, uEnum, uZip, uEnumL]
        have hd' : max b.dep c.dep + 1 ≤ n + 1 := hd
        refine ⟨_, rfl, b, a, w, u, by rw [cut1]; rfl, hat, by omega, by omega, ?_⟩
        have c1 : cutU [U.str o.word, b.toU, c.toU] none (some (1 + ((0 : Nat) : Int))) = [U.str o.word] := rfl
        have c2 : cutU [U.str o.word, b.toU, c.toU] (some (1 + ((0 : Nat) : Int) + 1)) none = [c.toU] := rfl
        simp! only [c1, c2, items, uEnum, uZip, uEnumL]
        simp only [putG, G.toU, gP_U] at q
        exact rt_same q
      | 1, hat, q =>
        simp! only [uRet, Pt.toU, items, uEnum, uZip, uEnumL]
        have hd' : max b.dep c.dep + 1 ≤ n + 1 := hd
        refine ⟨_, rfl, c, a, w, u, by rw [cut1]; rfl, hat, by omega, by omega, ?_⟩
        have c1 : cutU [U.str o.word, b.toU, c.toU] none (some (1 + ((1 : Nat) : Int))) = [U.str o.word, b.toU] := rfl
        have c2 : cutU [U.str o.word, b.toU, c.toU] (some (1 + ((1 : Nat) : Int) + 1)) none = [] := rfl
        simp! only [c1, c2, items, uEnum, uZip, uEnumL]
        simp only [putG, G.toU, gP_U] at q
        exact rt_same q
      | k + 2, hat, q => simp [Pt.parts] at hat
    | _ => simp [Pt.parts] at hat
theorem put_all (F : Fun K "_law_put" "_law_put" s_law_put f fd) (hm : mg "_law_put" = some (.ref f)) (m_len : mg "len" = none) : ∀ n : Nat, Callee P w K mg base n "_law_put" (spPut n) []
  | 0 => by
    have no : ∀ us M Q, ¬ spPut 0 us M Q := fun us M Q h => by
      obtain ⟨p, _, _, _, _, _, h, _⟩ := h
      have := pdep_pos p
      omega
    refine ⟨f, fd, ["tree", "way", "thing"], [], [], ⟨fun vs H Q E h => ?_, fun A outer s H args us vs Q E _ _ _ _ h => ?_⟩, hm, F.kp, F.binds (ar3 fun _ _ _ _ _ _ _ _ _ => rfl), .nil, fun H M => .nil⟩
    · obtain ⟨us, M, Q', _, _, h, _⟩ := h; exact absurd h (no us M Q')
    · obtain ⟨us, M, Q', _, _, h, _⟩ := h; exact absurd h (no us M Q')
  | n + 1 => ok_put F hm m_len (put_all F hm m_len n)
def pN (n : Nat) (u : U) : Prop := pl u ∧ lay u n
def pNs (n : Nat) (us : List U) : Prop := pls us ∧ lays us n
theorem psN {n : Nat} : pNs n [] := ⟨trivial, [], rfl, rfl, Nat.zero_le _⟩
theorem psC {n : Nat} {u : U} {us : List U} (h : pN n u) (g : pNs n us) : pNs n (u :: us) := by
  obtain ⟨h1, d, e1, e2, e3⟩ := h
  obtain ⟨g1, ds, f1, f2, f3⟩ := g
  refine ⟨⟨h1, g1⟩, d :: ds, by simp only [toDs, e1, f1], by simp only [PyData.canLayAll0, e2, f2]; rfl, by simp only [PyData.depthAll]; omega⟩
theorem pT {n : Nat} {us : List U} (h : pNs n us) (hl : us.length ≤ 1000) : pN (n + 1) (.tup us) := by
  obtain ⟨g1, ds, f1, f2, f3⟩ := h
  exact ⟨⟨hl, g1⟩, .tuple ds, by simp only [toD, f1, Option.map_some], by simp only [PyData.canLay0]; exact f2, by simp only [PyData.depth]; omega⟩
theorem pL {n : Nat} {us : List U} (h : pNs n us) (hl : us.length ≤ 1000) : pN (n + 1) (.lst us) := by
  obtain ⟨g1, ds, f1, f2, f3⟩ := h
  exact ⟨⟨hl, g1⟩, .list ds, by simp only [toD, f1, Option.map_some], by simp only [PyData.canLay0]; exact f2, by simp only [PyData.depth]; omega⟩
theorem pO {n : Nat} : pN n .non := ⟨trivial, _, rfl, rfl, Nat.zero_le _⟩
theorem pB {n : Nat} {b : Bool} : pN n (.bl b) := ⟨trivial, _, rfl, rfl, Nat.zero_le _⟩
theorem pI {n : Nat} {i : Int} : pN n (.int i) := ⟨trivial, _, rfl, rfl, Nat.zero_le _⟩
theorem pS {n : Nat} {z : Str} (h : PyData.strOk z = true) (hl : z.length ≤ 1000) : pN n (.str z) := ⟨⟨h, hl⟩, _, rfl, (by simp only [PyData.canLay0]; exact h), Nat.zero_le _⟩
theorem pN.mono {n m : Nat} {u : U} (h : pN n u) (hm : n ≤ m) : pN m u := let ⟨a, d, b, c, e⟩ := h; ⟨a, d, b, c, Nat.le_trans e hm⟩
theorem pN.plain {n : Nat} {u : U} (h : pN n u) (hn : n ≤ 60) : plain u := h.mono hn
theorem pP {cs : List Str} : ∀ {p : Pt}, p.ok → p.sm cs → pN p.dep p.toU
  | .hole c, h, k => pT (psC (pS (by decide +kernel) (by decide +kernel)) (psC (pS h (by have := k.1; omega)) psN)) (by simp)
  | .any, h, k => pT (psC (pS (by decide +kernel) (by decide +kernel)) psN) (by simp)
  | .fr l u, h, k => pT (psC (pS (by decide +kernel) (by decide +kernel)) (psC pI (psC pI psN))) (by simp)
  | .turn a, h, k => pT (psC (pS (by decide +kernel) (by decide +kernel)) (psC (pP (p := a) h k) psN)) (by simp)
  | .two o a b, h, k => pT (psC (pS (by cases o <;> decide +kernel) (by cases o <;> decide +kernel)) (psC ((pP (p := a) h.1 k.1).mono (Nat.le_max_left _ _)) (psC ((pP (p := b) h.2 k.2).mono (Nat.le_max_right _ _)) psN))) (by simp)
def badP (cs : List Str) (u : U) : Prop := pN 10 u ∧ signB u = false ∧ leafB cs u = false
theorem sg_none {z : Str} {r : List U} (h : tabGet SIGNS z = none) : signB (.tup (.str z :: r)) = false := by simp only [signB, h]
theorem sg_len {z : Str} {r : List U} {k : Nat} (h : tabGet SIGNS z = some (.int k)) (hl : r.length ≠ k) : signB (.tup (.str z :: r)) = false := by simp only [signB, h]; exact decide_eq_false (by omega)
theorem lf_other {cs : List Str} {z : Str} {r : List U} (h1 : z ≠ Str.ofString "at") (h2 : z ≠ Str.ofString "from") (h3 : z ≠ Str.ofString "any" ∨ r.isEmpty = false) : leafB cs (.tup (.str z :: r)) = false := by
  simp only [leafB, h1, h2, if_false]
  rcases h3 with h | h
  · rw [decide_eq_false h]; rfl
  · rw [h, Bool.and_false]
theorem lf_at {cs : List Str} {r : List U} (h : ∀ x, r = [x] → inS cs x = false) : leafB cs (.tup (.str (Str.ofString "at") :: r)) = false := by
  simp only [leafB, if_true]
  rcases r with _ | ⟨a, _ | ⟨b, r⟩⟩
  · rfl
  · exact h a rfl
  · rfl
theorem lf_from {cs : List Str} {r : List U} (h : ∀ a b, r = [.int a, .int b] → ¬ (0 ≤ a ∧ a ≤ b ∧ b ≤ 1000000000000000000)) : leafB cs (.tup (.str (Str.ofString "from") :: r)) = false := by
  have hne : Str.ofString "from" ≠ Str.ofString "at" := by decide +kernel
  simp only [leafB, hne, if_true, if_false]
  rcases r with _ | ⟨a, _ | ⟨b, _ | ⟨c, r⟩⟩⟩
  · rfl
  · rfl
  · cases a with
    | int i =>
      cases b with
      | int j =>
        have := h i j rfl
        simp only [numB]
        by_cases h1 : 0 ≤ i
        · by_cases h2 : i ≤ 1000000000000000000
          · by_cases h3 : 0 ≤ j
            · by_cases h4 : j ≤ 1000000000000000000
              · by_cases h5 : i ≤ j
                · exact (this ⟨h1, h5, h4⟩).elim
                · simp [h5]
              · simp [h4]
            · simp [h3]
          · simp [h2]
        · simp [h1]
      | _ => simp [numB]
    | _ => simp [numB]
  · rfl
theorem pick_goal {L : List U} {i : Int} {n : Nat} {Pd R : U → Prop} (hl : L.length = n) (h0 : 0 ≤ i) (h1 : i < n) (hall : ∀ u ∈ L, Pd u) (hR : ∀ u, Pd u → R u) : ∃ u, atI L i = some u ∧ R u := by
  obtain ⟨u, hu⟩ := atI_ex L i h0 (by omega)
  exact ⟨u, hu, hR u (hall u (atI_mem hu))⟩
def spBadP : USp := fun us M Q => ∃ (cs : List Str) (p : Pt) (o : Str) (c : Int), us = [p.toU, .str o, .int c] ∧ p.ok ∧ p.sm cs ∧ p.dep ≤ 6 ∧ o ∉ cs ∧ (∀ x ∈ cs, x ≠ Str.ofString "") ∧ PyData.strOk o = true ∧ o.length ≤ 8 ∧ ∀ u, badP cs u → Q u M
theorem ok_bad_piece (F : Fun K "_law_bad_piece" "_law_bad_piece" s_law_bad_piece f fd) (hm : mg "_law_bad_piece" = some (.ref f)) (m_abs : mg "abs" = none) (m_list : mg "list" = none) : Callee P w K mg base 1 "_law_bad_piece" spBadP [] := by
  refine callee2 F hm sc_law_bad_piece (ar3 fun _ _ _ _ _ _ _ _ _ => rfl) (uss_cons (us_set 3 sc_law_bad_piece.nd (ue_mod (ue_divX (ue_b b_abs m_abs (ua_cons (uv 2) ua_nil)) un_) (ue_pow un_ un_)))
  (uss_cons (us_set 4 sc_law_bad_piece.nd (ue_lst (own := false) (ua_cons (ue_tup (ua_cons us_ (ua_cons (uv 1) ua_nil))) (ua_cons (ue_tup (ua_cons us_ ua_nil)) (ua_cons (ue_tup (ua_cons us_ (ua_cons uo_ ua_nil))) (ua_cons (ue_tup (ua_cons us_ (ua_cons (ue_tup (ua_cons us_ ua_nil)) ua_nil))) (ua_cons (ue_tup (ua_cons us_ (ua_cons un_ ua_nil))) (ua_cons (ue_tup (ua_cons us_ (ua_cons un_ (ua_cons un_ ua_nil)))) (ua_cons (ue_tup (ua_cons us_ (ua_cons (ue_sub (ue_sub un_ un_) (uv 3)) (ua_cons un_ ua_nil)))) ua_nil)))))))))
  (uss_cons (us_set 4 sc_law_bad_piece.nd (ue_add (own := false) (uv 4) (ue_lst (own := false) (ua_cons (ue_tup (ua_cons us_ (ua_cons un_ (ua_cons (ue_add (own := false) (ue_add (own := false) (ue_pow un_ un_) un_) (uv 3)) ua_nil)))) (ua_cons (ue_tup (ua_cons us_ (ua_cons ub_ (ua_cons un_ ua_nil)))) (ua_cons (ue_tup (ua_cons us_ (ua_cons un_ (ua_cons ub_ ua_nil)))) (ua_cons (ue_tup (ua_cons us_ (ua_cons un_ ua_nil))) ua_nil)))))))
  (uss_cons (us_set 4 sc_law_bad_piece.nd (ue_add (own := false) (uv 4) (ue_lst (own := false) (ua_cons (ue_tup (ua_cons us_ (ua_cons un_ (ua_cons un_ (ua_cons un_ ua_nil))))) (ua_cons (ue_tup (ua_cons us_ (ua_cons us_ (ua_cons us_ ua_nil)))) (ua_cons (ue_tup (ua_cons us_ (ua_cons uo_ (ua_cons un_ ua_nil)))) (ua_cons (ue_tup (ua_cons us_ ua_nil)) (ua_cons (ue_tup (ua_cons us_ (ua_cons (uv 0) (ua_cons (uv 0) ua_nil)))) ua_nil))))))))
  (uss_cons (us_set 4 sc_law_bad_piece.nd (ue_add (own := false) (uv 4) (ue_lst (own := false) (ua_cons (ue_tup (ua_cons us_ (ua_cons (uv 0) ua_nil))) (ua_cons (ue_tup (ua_cons us_ (ua_cons (uv 0) (ua_cons (uv 0) (ua_cons (uv 0) ua_nil))))) (ua_cons (ue_tup (ua_cons us_ ua_nil)) (ua_cons (ue_tup (ua_cons us_ (ua_cons un_ ua_nil))) (ua_cons (ue_tup (ua_cons us_ (ua_cons us_ ua_nil))) (ua_cons (ue_tup (ua_cons us_ (ua_cons un_ ua_nil))) ua_nil)))))))))
  (uss_cons (us_set 4 sc_law_bad_piece.nd (ue_add (own := false) (uv 4) (ue_lst (own := false) (ua_cons (ue_tup (ua_cons us_ ua_nil)) (ua_cons (ue_tup ua_nil) (ua_cons uo_ (ua_cons ub_ (ua_cons un_ (ua_cons us_ (ua_cons (ue_t (b_list (own := false)) m_list (ua_cons (uv 0) ua_nil)) (ua_cons (ue_lst (own := false) (ua_cons (uv 0) ua_nil)) (ua_cons (ue_tup (ua_cons (ue_lst (own := false) (ua_cons us_ ua_nil)) ua_nil)) (ua_cons (ue_tup (ua_cons (ue_lst (own := false) ua_nil) (ua_cons (uv 0) ua_nil))) (ua_cons (ue_tup (ua_cons us_ (ua_cons (ue_lst (own := false) (ua_cons us_ ua_nil)) ua_nil))) ua_nil))))))))))))))
  (uss_one (us_ret (ue_ix (uv 4) (ue_mod (uv 2) un_)))))))))) ?_
  rintro us M Q ⟨cs, p, o, c, rfl, hk, hs, hd, ho, hce, hok, hol, q⟩
  refine ⟨rfl, ?_⟩
  have pw59 : CPow 10 59 := ⟨by decide, by decide, by decide⟩
  have pw18 : CPow 10 18 := ⟨by decide, by decide, by decide⟩
  obtain ⟨z, r, hz, _⟩ := head_in p
  have hpp := pP hk hs
  rw [hz] at hpp ⊢
  have hrl : r.length ≤ 999 := by
    have := hpp.1
    simp only [pl, List.length_cons] at this
    omega
  refine seq_gen fun V1 hV1 => ?_
  simp! only [uAsg, hName, items, uEnum, uZip, uEnumL]
  refine ⟨⟨by decide, by decide⟩, pw59, by decide, ?_⟩
  generalize hfar : (if c < 0 then -c else c) / 33 % 10 ^ Int.toNat 59 = far
  have f0 : 0 ≤ far := by rw [← hfar]; exact Int.emod_nonneg _ (by decide)
  subst hV1
  simp! only [uSeq, uAsg, hName, uRet, pw18, items, uEnum, uZip, uEnumL]
  refine ⟨by decide, pick_goal (n := 33) (Pd := badP cs) rfl (Int.emod_nonneg _ (by decide)) (Int.emod_lt_of_pos _ (by decide)) (fun u hu => ?_) (fun u hu => rt_same (q u hu))⟩
  have h6 : pN 6 (.tup (.str z :: r)) := hpp.mono hd
  have hps : pNs 6 (.str z :: r) := ⟨(by have := h6.1; simp only [pl] at this; exact this.2), lay_tup h6.2⟩
  have n_at : tabGet SIGNS (Str.ofString "at") = none := by decide +kernel
  have n_any : tabGet SIGNS (Str.ofString "any") = none := by decide +kernel
  have n_from : tabGet SIGNS (Str.ofString "from") = none := by decide +kernel
  have n_turn : tabGet SIGNS (Str.ofString "turn") = some (.int (1 : Nat)) := sgn_turn
  have n_sum : tabGet SIGNS (Str.ofString "sum") = some (.int (2 : Nat)) := sgn_two .sum
  have n_less : tabGet SIGNS (Str.ofString "less") = some (.int (2 : Nat)) := sgn_two .less
  have n_by : tabGet SIGNS (Str.ofString "by") = some (.int (2 : Nat)) := sgn_two .by_
  have dp : ∀ {u : U}, pN 7 u → pN 10 u := fun h => h.mono (by decide)
  clear hfar q
  simp only [List.mem_cons, List.not_mem_nil, or_false] at hu
  rcases hu with rfl | rfl | rfl | rfl | rfl | rfl | rfl | rfl | rfl | rfl | rfl | rfl | rfl | rfl | rfl | rfl | rfl | rfl | rfl | rfl | rfl | rfl | rfl | rfl | rfl | rfl | rfl | rfl | rfl | rfl | rfl | rfl | rfl
  · exact ⟨dp (pT (psC (pS (by decide +kernel) (by decide +kernel)) (psC (pS hok (by omega)) psN)) (by simp)), sg_none n_at, (lf_at fun x e => by cases e; show cs.contains o = false; simpa using ho)⟩
  · exact ⟨dp (pT (psC (pS (by decide +kernel) (by decide +kernel)) psN) (by simp)), sg_none n_at, (lf_at fun x e => by cases e)⟩
  · exact ⟨dp (pT (psC (pS (by decide +kernel) (by decide +kernel)) (psC pO psN)) (by simp)), sg_none n_at, (lf_at fun x e => by cases e; rfl)⟩
  · exact ⟨dp (pT (psC (pS (by decide +kernel) (by decide +kernel)) (psC (pT (psC (pS (by decide +kernel) (by decide +kernel)) psN) (by simp)) psN)) (by simp)), sg_none n_at, (lf_at fun x e => by cases e; rfl)⟩
  · exact ⟨dp (pT (psC (pS (by decide +kernel) (by decide +kernel)) (psC pI psN)) (by simp)), sg_none n_any, lf_other (by decide +kernel) (by decide +kernel) (.inr rfl)⟩
  · exact ⟨dp (pT (psC (pS (by decide +kernel) (by decide +kernel)) (psC pI (psC pI psN))) (by simp)), sg_none n_from, (lf_from fun a b e => by injection e with e1 e2; injection e1 with e1; injection e2 with e2 _; injection e2 with e2; omega)⟩
  · exact ⟨dp (pT (psC (pS (by decide +kernel) (by decide +kernel)) (psC pI (psC pI psN))) (by simp)), sg_none n_from, (lf_from fun a b e => by injection e with e1 e2; injection e1 with e1; injection e2 with e2 _; injection e2 with e2; omega)⟩
  · exact ⟨dp (pT (psC (pS (by decide +kernel) (by decide +kernel)) (psC pI (psC pI psN))) (by simp)), sg_none n_from, (lf_from fun a b e => by injection e with e1 e2; injection e1 with e1; injection e2 with e2 _; injection e2 with e2; have ht : (10 : Int) ^ Int.toNat 18 = 1000000000000000000 := (by decide); omega)⟩
  · exact ⟨dp (pT (psC (pS (by decide +kernel) (by decide +kernel)) (psC pB (psC pI psN))) (by simp)), sg_none n_from, (lf_from fun a b e => by cases e)⟩
  · exact ⟨dp (pT (psC (pS (by decide +kernel) (by decide +kernel)) (psC pI (psC pB psN))) (by simp)), sg_none n_from, (lf_from fun a b e => by cases e)⟩
  · exact ⟨dp (pT (psC (pS (by decide +kernel) (by decide +kernel)) (psC pI psN)) (by simp)), sg_none n_from, (lf_from fun a b e => by cases e)⟩
  · exact ⟨dp (pT (psC (pS (by decide +kernel) (by decide +kernel)) (psC pI (psC pI (psC pI psN)))) (by simp)), sg_none n_from, (lf_from fun a b e => by cases e)⟩
  · exact ⟨dp (pT (psC (pS (by decide +kernel) (by decide +kernel)) (psC (pS (by decide +kernel) (by decide +kernel)) (psC (pS (by decide +kernel) (by decide +kernel)) psN))) (by simp)), sg_none n_from, (lf_from fun a b e => by cases e)⟩
  · exact ⟨dp (pT (psC (pS (by decide +kernel) (by decide +kernel)) (psC pO (psC pI psN))) (by simp)), sg_none n_from, (lf_from fun a b e => by cases e)⟩
  · exact ⟨dp (pT (psC (pS (by decide +kernel) (by decide +kernel)) psN) (by simp)), sg_len (k := 1) n_turn (by simp), (lf_other (by decide +kernel) (by decide +kernel) (.inl (by decide +kernel)))⟩
  · exact ⟨dp (pT (psC (pS (by decide +kernel) (by decide +kernel)) (psC h6 (psC h6 psN))) (by simp)), sg_len (k := 1) n_turn (by simp), (lf_other (by decide +kernel) (by decide +kernel) (.inl (by decide +kernel)))⟩
  · exact ⟨dp (pT (psC (pS (by decide +kernel) (by decide +kernel)) (psC h6 psN)) (by simp)), sg_len (k := 2) n_sum (by simp), (lf_other (by decide +kernel) (by decide +kernel) (.inl (by decide +kernel)))⟩
  · exact ⟨dp (pT (psC (pS (by decide +kernel) (by decide +kernel)) (psC h6 (psC h6 (psC h6 psN)))) (by simp)), sg_len (k := 2) n_by (by simp), (lf_other (by decide +kernel) (by decide +kernel) (.inl (by decide +kernel)))⟩
  · exact ⟨dp (pT (psC (pS (by decide +kernel) (by decide +kernel)) psN) (by simp)), sg_len (k := 2) n_less (by simp), (lf_other (by decide +kernel) (by decide +kernel) (.inl (by decide +kernel)))⟩
  · exact ⟨dp (pT (psC (pS (by decide +kernel) (by decide +kernel)) (psC pI psN)) (by simp)), sg_none (by decide +kernel), (lf_other (by decide +kernel) (by decide +kernel) (.inl (by decide +kernel)))⟩
  · exact ⟨dp (pT (psC (pS (by decide +kernel) (by decide +kernel)) (psC (pS (by decide +kernel) (by decide +kernel)) psN)) (by simp)), sg_none (by decide +kernel), (lf_other (by decide +kernel) (by decide +kernel) (.inl (by decide +kernel)))⟩
  · exact ⟨dp (pT (psC (pS (by decide +kernel) (by decide +kernel)) (psC pI psN)) (by simp)), sg_none (by decide +kernel), (lf_other (by decide +kernel) (by decide +kernel) (.inl (by decide +kernel)))⟩
  · exact ⟨dp (pT (psC (pS (by decide +kernel) (by decide +kernel)) psN) (by simp)), sg_none (by decide +kernel), (lf_other (by decide +kernel) (by decide +kernel) (.inl (by decide +kernel)))⟩
  · exact ⟨dp (pT psN (by simp)), rfl, rfl⟩
  · exact ⟨dp pO, rfl, rfl⟩
  · exact ⟨dp pB, rfl, rfl⟩
  · exact ⟨dp pI, rfl, rfl⟩
  · exact ⟨dp (pS (by decide +kernel) (by decide +kernel)), rfl, rfl⟩
  · exact ⟨dp (pL hps (by simp only [List.length_cons]; omega)), rfl, rfl⟩
  · exact ⟨dp (pL (psC h6 psN) (by simp)), rfl, rfl⟩
  · exact ⟨dp (pT (psC (pL (psC (pS (by decide +kernel) (by decide +kernel)) psN) (by simp)) psN) (by simp)), rfl, rfl⟩
  · exact ⟨dp (pT (psC (pL psN (by simp)) (psC h6 psN)) (by simp)), rfl, rfl⟩
  · exact ⟨dp (pT (psC (pS (by decide +kernel) (by decide +kernel)) (psC (pL (psC (pS (by decide +kernel) (by decide +kernel)) psN) (by simp)) psN)) (by simp)), sg_none n_at, (lf_at fun x e => by cases e; rfl)⟩
theorem gP_wf {cs : List Str} : ∀ {p : Pt}, p.ok → p.sm cs → p.dep ≤ 50 → (gP p).wf (LP cs)
  | .hole c, h, k, _ => ⟨(pP (p := .hole c) h k).plain (by simp [Pt.dep]), sg_none (by decide +kernel), by
      have : c ∈ cs := k.2
      show true = leafB cs (.tup [.str (Str.ofString "at"), .str c])
      simp only [leafB, if_true, inS]
      exact (by simpa using this : cs.contains c = true).symm⟩
  | .any, h, k, _ => ⟨(pP (cs := cs) (p := .any) h k).plain (by decide), sg_none (by decide +kernel), by
      have h1 : Str.ofString "any" ≠ Str.ofString "at" := by decide +kernel
      have h2 : Str.ofString "any" ≠ Str.ofString "from" := by decide +kernel
      show true = leafB cs (.tup [.str (Str.ofString "any")])
      simp only [leafB, h1, h2, if_false, decide_true]
      rfl⟩
  | .fr l u, h, k, _ => ⟨(pP (p := .fr l u) h k).plain (by simp [Pt.dep]), sg_none (by decide +kernel), by
      have h1 : 0 ≤ l := h.1
      have h2 : l ≤ u := h.2
      have h3 : u ≤ 10 ^ 18 := k
      have hne : Str.ofString "from" ≠ Str.ofString "at" := by decide +kernel
      show true = leafB cs (.tup [.str (Str.ofString "from"), .int l, .int u])
      simp only [leafB, hne, if_true, if_false, numB]
      have a1 : decide (0 ≤ l) = true := decide_eq_true h1
      have a2 : decide (l ≤ 1000000000000000000) = true := decide_eq_true (by omega)
      have a3 : decide (0 ≤ u) = true := decide_eq_true (by omega)
      have a4 : decide (u ≤ 1000000000000000000) = true := decide_eq_true (by omega)
      have a5 : decide (l ≤ u) = true := decide_eq_true h2
      rw [a1, a2, a3, a4, a5]; rfl⟩
  | .turn a, h, k, hd => gP_wf (p := a) h k (by simp only [Pt.dep] at hd; omega)
  | .two o a b, h, k, hd => ⟨gP_wf (p := a) h.1 k.1 (by simp only [Pt.dep] at hd; omega), gP_wf (p := b) h.2 k.2 (by simp only [Pt.dep] at hd; omega)⟩
theorem putG_wf {cs : List Str} {u : U} (hu : badP cs u) : ∀ (w : List Nat) (p a : Pt), p.ok → p.sm cs → p.dep ≤ 50 → atP p w = some a → (putG u p w).wf (LP cs) ∧ pN (p.dep + 10) (putG u p w).toU
  | [], p, a, h, k, hd, _ => by
    have e : putG u p [] = .leaf u false := by cases p <;> rfl
    rw [e]
    exact ⟨⟨hu.1.plain (by decide), hu.2.1, hu.2.2.symm⟩, hu.1.mono (by omega)⟩
  | j :: w, p, a, h, k, hd, hat => by
    simp only [atP] at hat
    cases p with
    | turn b =>
      simp only [Pt.dep] at hd ⊢
      match j, hat with
      | 0, hat =>
        obtain ⟨g1, g2⟩ := putG_wf hu w b a h k (by omega) hat
        exact ⟨g1, (pT (psC (pS (by decide +kernel) (by decide +kernel)) (psC g2 psN)) (by simp)).mono (by omega)⟩
      | j + 1, hat => simp [Pt.parts] at hat
    | two o b c =>
      simp only [Pt.dep] at hd ⊢
      have w1 : pN 20 (U.str o.word) := pS (by cases o <;> decide +kernel) (by cases o <;> decide +kernel)
      have w0 : ∀ n, pN n (U.str o.word) := fun n => pS (by cases o <;> decide +kernel) (by cases o <;> decide +kernel)
      match j, hat with
      | 0, hat =>
        obtain ⟨g1, g2⟩ := putG_wf hu w b a h.1 k.1 (by omega) hat
        refine ⟨⟨g1, gP_wf h.2 k.2 (by omega)⟩, ?_⟩
        simp only [putG, G.toU, gP_U]
        exact (pT (psC (w0 (max b.dep c.dep + 10)) (psC (g2.mono (by omega)) (psC ((pP h.2 k.2).mono (by omega)) psN))) (by simp)).mono (by omega)
      | 1, hat =>
        obtain ⟨g1, g2⟩ := putG_wf hu w c a h.2 k.2 (by omega) hat
        refine ⟨⟨gP_wf h.1 k.1 (by omega), g1⟩, ?_⟩
        simp only [putG, G.toU, gP_U]
        exact (pT (psC (w0 (max b.dep c.dep + 10)) (psC ((pP h.1 k.1).mono (by omega)) (psC (g2.mono (by omega)) psN))) (by simp)).mono (by omega)
      | j + 2, hat => simp [Pt.parts] at hat
    | _ => simp [Pt.parts] at hat
theorem at_sub {cs : List Str} : ∀ {w : List Nat} {p a : Pt}, atP p w = some a → p.ok → p.sm cs → a.ok ∧ a.sm cs
  | [], p, a, h, h1, h2 => by cases h; exact ⟨h1, h2⟩
  | j :: w, p, a, h, h1, h2 => by
    simp only [atP] at h
    cases p with
    | turn b =>
      match j, h with
      | 0, h => exact at_sub (p := b) h h1 h2
      | j + 1, h => simp [Pt.parts] at h
    | two o b c =>
      match j, h with
      | 0, h => exact at_sub (p := b) h h1.1 h2.1
      | 1, h => exact at_sub (p := c) h h1.2 h2.2
      | j + 2, h => simp [Pt.parts] at h
    | _ => simp [Pt.parts] at h
def badT (cs : List Str) (u : U) : Prop := pN 20 u ∧ TileR cs u false
theorem bt_not {cs : List Str} {u : U} (h : pN 20 u) (n : ¬ tup4 u) : badT cs u := ⟨h, h.plain (by decide), .inl ⟨n, rfl⟩⟩
theorem bt_g {cs : List Str} {a k d : U} {g : G} (ha : pN 19 a) (hk : pN 19 k) (hg : pN 19 g.toU) (hd : pN 19 d) (hw : g.wf (LP cs)) (h : isName a = false ∨ inS cs k = false ∨ patG g = false ∨ priceB d = false ∨ passOk g.toU k = false) : badT cs (.tup [a, k, g.toU, d]) := by
  have hp : pN 20 (.tup [a, k, g.toU, d]) := pT (psC ha (psC hk (psC hg (psC hd psN)))) (by simp)
  refine ⟨hp, hp.plain (by decide), .inr ⟨a, k, g, d, rfl, hw, ?_⟩⟩
  rcases h with h | h | h | h | h <;> simp [h]
theorem bt_p {cs : List Str} {a k d : U} {p : Pt} (h1 : p.ok) (h2 : p.sm cs) (h3 : p.dep ≤ 6) (ha : pN 19 a) (hk : pN 19 k) (hd : pN 19 d) (h : isName a = false ∨ inS cs k = false ∨ priceB d = false ∨ passOk p.toU k = false) : badT cs (.tup [a, k, p.toU, d]) := by
  have e := gP_U p
  have := bt_g (cs := cs) (g := gP p) ha hk (by rw [e]; exact (pP h1 h2).mono (by omega)) hd (gP_wf h1 h2 (by omega)) (by rw [e]; rcases h with h | h | h | h; exact .inl h; exact .inr (.inl h); exact .inr (.inr (.inr (.inl h))); exact .inr (.inr (.inr (.inr h))))
  rw [e] at this
  exact this
def spBadT : USp := fun us M Q => ∃ (cs : List Str) (t : Tl) (c : Int), us = [t.toU, .tup (cs.map U.str), .int c] ∧ ClsN cs ∧ t.ok cs ∧ ∀ u, badT cs u → Q u M
theorem ok_bad_tile (F : Fun K "_law_bad_tile" "_law_bad_tile" s_law_bad_tile f fd) (hm : mg "_law_bad_tile" = some (.ref f)) (m_abs : mg "abs" = none) (m_list : mg "list" = none) (C_law_way : Callee P w K mg base 1 "_law_way" spWay []) (C_law_at : Callee P w K mg base 1 "_law_at" spAtP []) (C_law_put : Callee P w K mg base 6 "_law_put" (spPut 6) []) (C_law_fresh : Callee P w K mg base 2 "_law_fresh" spFresh []) (C_law_bad_piece : Callee P w K mg base 1 "_law_bad_piece" spBadP []) : Callee P w K mg base 7 "_law_bad_tile" spBadT [] := by
  refine callee2 F hm sc_law_bad_tile (ar3 fun _ _ _ _ _ _ _ _ _ => rfl) (uss_cons (us_asg (uv 0) (ug_tup (n := 4) (ugs_cons (ug_name (k := 1000) 3 sc_law_bad_tile.nd) (ugs_cons (ug_name (k := 1000) 4 sc_law_bad_tile.nd) (ugs_cons (ug_name (k := 1000) 5 sc_law_bad_tile.nd) (ugs_cons (ug_name (k := 1000) 6 sc_law_bad_tile.nd) ugs_nil))))))
  (uss_cons (us_set 7 sc_law_bad_tile.nd (ue_mod (ue_divX (ue_b b_abs m_abs (ua_cons (uv 2) ua_nil)) un_) (ue_pow un_ un_)))
  (uss_cons (us_if (ut_c k_eqX (ue_mod (uv 2) un_) un_)
  (uss_cons (us_set 8 sc_law_bad_tile.nd (ue_call C_law_way (ua_cons (uv 5) (ua_cons (ue_divX (ue_divX (uv 2) un_) un_) ua_nil))))
  (uss_cons (us_set 9 sc_law_bad_tile.nd (ue_call C_law_bad_piece (ua_cons (ue_call C_law_at (ua_cons (uv 5) (ua_cons (uv 8) ua_nil))) (ua_cons (ue_call C_law_fresh (ua_cons (uv 7) (ua_cons (uv 1) ua_nil))) (ua_cons (ue_divX (uv 2) un_) ua_nil)))))
  (uss_one (us_ret (ue_tup (ua_cons (uv 3) (ua_cons (uv 4) (ua_cons (ue_call C_law_put (ua_cons (uv 5) (ua_cons (uv 8) (ua_cons (uv 9) ua_nil)))) (ua_cons (uv 6) ua_nil)))))))))
  uss_nil)
  (uss_cons (us_set 10 sc_law_bad_tile.nd (ue_lst (own := false) (ua_cons (ue_tup (ua_cons us_ (ua_cons (uv 4) (ua_cons (uv 5) (ua_cons (uv 6) ua_nil))))) (ua_cons (ue_tup (ua_cons us_ (ua_cons (uv 4) (ua_cons (uv 5) (ua_cons (uv 6) ua_nil))))) (ua_cons (ue_tup (ua_cons us_ (ua_cons (uv 4) (ua_cons (uv 5) (ua_cons (uv 6) ua_nil))))) ua_nil)))))
  (uss_cons (us_set 10 sc_law_bad_tile.nd (ue_add (own := false) (uv 10) (ue_lst (own := false) (ua_cons (ue_tup (ua_cons un_ (ua_cons (uv 4) (ua_cons (uv 5) (ua_cons (uv 6) ua_nil))))) (ua_cons (ue_tup (ua_cons uo_ (ua_cons (uv 4) (ua_cons (uv 5) (ua_cons (uv 6) ua_nil))))) (ua_cons (ue_tup (ua_cons us_ (ua_cons (uv 4) (ua_cons (uv 5) (ua_cons (uv 6) ua_nil))))) ua_nil))))))
  (uss_cons (us_set 10 sc_law_bad_tile.nd (ue_add (own := false) (uv 10) (ue_lst (own := false) (ua_cons (ue_tup (ua_cons (uv 3) (ua_cons (ue_call C_law_fresh (ua_cons (uv 7) (ua_cons (uv 1) ua_nil))) (ua_cons (uv 5) (ua_cons (uv 6) ua_nil))))) (ua_cons (ue_tup (ua_cons (uv 3) (ua_cons uo_ (ua_cons (uv 5) (ua_cons (uv 6) ua_nil))))) ua_nil)))))
  (uss_cons (us_set 10 sc_law_bad_tile.nd (ue_add (own := false) (uv 10) (ue_lst (own := false) (ua_cons (ue_tup (ua_cons (uv 3) (ua_cons un_ (ua_cons (uv 5) (ua_cons (uv 6) ua_nil))))) (ua_cons (ue_tup (ua_cons (uv 3) (ua_cons (uv 4) (ua_cons (uv 5) (ua_cons (ue_sub (ue_sub un_ un_) (uv 7)) ua_nil))))) (ua_cons (ue_tup (ua_cons (uv 3) (ua_cons (uv 4) (ua_cons (uv 5) (ua_cons (ue_add (own := false) un_ (uv 7)) ua_nil))))) ua_nil))))))
  (uss_cons (us_set 10 sc_law_bad_tile.nd (ue_add (own := false) (uv 10) (ue_lst (own := false) (ua_cons (ue_tup (ua_cons (uv 3) (ua_cons (uv 4) (ua_cons (uv 5) (ua_cons ub_ ua_nil))))) (ua_cons (ue_tup (ua_cons (uv 3) (ua_cons (uv 4) (ua_cons (uv 5) (ua_cons uo_ ua_nil))))) (ua_cons (ue_tup (ua_cons (uv 3) (ua_cons (uv 4) (ua_cons (uv 5) (ua_cons us_ ua_nil))))) ua_nil))))))
  (uss_cons (us_set 10 sc_law_bad_tile.nd (ue_add (own := false) (uv 10) (ue_lst (own := false) (ua_cons (ue_t (b_list (own := false)) m_list (ua_cons (uv 0) ua_nil)) (ua_cons (ue_slX (own := false) (uv 0) uo_none (uo_some un_)) (ua_cons (ue_add (own := false) (uv 0) (ue_tup (ua_cons un_ ua_nil))) (ua_cons uo_ (ua_cons (ue_tup ua_nil) (ua_cons (uv 3) (ua_cons (ue_tup (ua_cons (uv 3) (ua_cons (uv 4) (ua_cons (ue_tup (ua_cons us_ (ua_cons (uv 4) ua_nil))) (ua_cons (uv 6) ua_nil))))) ua_nil))))))))))
  (uss_cons (us_set 10 sc_law_bad_tile.nd (ue_add (own := false) (uv 10) (ue_lst (own := false) (ua_cons (ue_tup (ua_cons (uv 3) (ua_cons (uv 4) (ua_cons (uv 5) (ua_cons ub_ ua_nil))))) (ua_cons (ue_tup (ua_cons (uv 3) (ua_cons (ue_tup (ua_cons (uv 4) ua_nil)) (ua_cons (uv 5) (ua_cons (uv 6) ua_nil))))) ua_nil)))))
  (uss_cons (us_set 10 sc_law_bad_tile.nd (ue_add (own := false) (uv 10) (ue_lst (own := false) (ua_cons (ue_tup (ua_cons (ue_lst (own := false) (ua_cons (uv 3) ua_nil)) (ua_cons (uv 4) (ua_cons (uv 5) (ua_cons (uv 6) ua_nil))))) (ua_cons (ue_tup (ua_cons (uv 3) (ua_cons (ue_lst (own := false) (ua_cons (uv 4) ua_nil)) (ua_cons (uv 5) (ua_cons (uv 6) ua_nil))))) (ua_cons (ue_tup (ua_cons (uv 3) (ua_cons (uv 4) (ua_cons (uv 5) (ua_cons (ue_lst (own := false) (ua_cons (uv 6) ua_nil)) ua_nil))))) ua_nil))))))
  (uss_one (us_ret (ue_ix (uv 10) (ue_mod (ue_divX (uv 2) un_) un_))))))))))))))) ?_
  rintro us M Q ⟨cs, t, c, rfl, hcn, ht, q⟩
  refine ⟨rfl, ?_⟩
  have pw59 : CPow 10 59 := ⟨by decide, by decide, by decide⟩
  have hfit := ht.pt
  have hdp := hfit.dep
  refine seq_gen fun V1 hV1 => ?_
  simp! only [uAsg, hName, hTup, hCons, hNil, Tl.toU, items, uEnum, uZip, uEnumL]
  subst hV1
  refine seq_gen fun V2 hV2 => ?_
  simp! only [uAsg, hName, items, uEnum, uZip, uEnumL]
  refine ⟨⟨by decide, by decide⟩, pw59, by decide, ?_⟩
  generalize hfar : (if c < 0 then -c else c) / 60 % 10 ^ Int.toNat 59 = far
  have f0 : 0 ≤ far := by rw [← hfar]; exact Int.emod_nonneg _ (by decide)
  clear hfar
  subst hV2
  refine seq_gen fun V3 hV3 => ?_
  refine if_gen fun A B hA hB => ?_
  simp! only [items, uEnum, uZip, uEnumL]
  refine ⟨by decide, ?_⟩
  by_cases h2 : c % 2 = 0
  · simp only [h2, decide_true, if_true]
    subst hA
    refine seq_gen fun V4 hV4 => ?_
    simp! only [uAsg, hName, items, uEnum, uZip, uEnumL]
    refine ⟨⟨by decide, by decide⟩, ⟨by decide, by decide⟩, t.pt, _, rfl, by omega, fun w a hat => ?_⟩
    subst hV4
    refine seq_gen fun V5 hV5 => ?_
    simp! only [uAsg, hName, items, uEnum, uZip, uEnumL]
    refine ⟨t.pt, a, w, rfl, hat, far, _, cs, rfl, f0, rfl, by have := hcn.ok.2.1; omega, fun m hm0 hnot => ?_⟩
    have hsub := at_sub hat hfit.ok hfit.sm
    have hwd := way_dep hat
    refine ⟨⟨by decide, by decide⟩, cs, a, nameF m, _, rfl, hsub.1, hsub.2, by omega, hnot, fun x hx z => ?_, nameF_ok m, (nameF_len m).2, fun u hu => ?_⟩
    · have := hcn.nm x hx
      rw [z] at this
      have hn : isName (.str (Str.ofString "")) = false := by decide +kernel
      rw [hn] at this; cases this
    subst hV5
    simp! only [uRet, items, uEnum, uZip, uEnumL]
    refine ⟨t.pt, a, w, u, rfl, hat, by omega, by decide, rt_same (q _ ?_)⟩
    obtain ⟨g1, g2⟩ := putG_wf hu w t.pt a hfit.ok hfit.sm (by omega) hat
    have hf := putG_fit u w t.pt a hat
    exact bt_g (pS ht.no (by have := ht.nm; omega)) (pS (hcn.ok.2.2 _ ht.ci).1 (by have := (hcn.ok.2.2 _ ht.ci).2; omega)) (g2.mono (by omega)) pI g1 (.inr (.inr (.inl (by unfold patG verd; rw [hf]; simp))))
  · simp only [h2, decide_false, if_false, Bool.false_eq_true]
    subst hB
    simp only [uNext]
    subst hV3
    simp! only [uSeq, uAsg, hName, uRet, items, uEnum, uZip, uEnumL]
    refine ⟨far, _, cs, rfl, f0, rfl, by have := hcn.ok.2.1; omega, fun m hm0 hnot => ?_⟩
    refine ⟨⟨by decide, by decide⟩, by decide, pick_goal (n := 26) (Pd := badT cs) rfl (Int.emod_nonneg _ (by decide)) (Int.emod_lt_of_pos _ (by decide)) (fun u hu => ?_) (fun u hu => rt_same (q u hu))⟩
    have nP : ∀ n, pN n (U.str t.name) := fun n => pS ht.no (by have := ht.nm; omega)
    have cP : ∀ n, pN n (U.str t.cls) := fun n => pS (hcn.ok.2.2 _ ht.ci).1 (by have := ht.cl; omega)
    have p6 : pN 6 t.pt.toU := (pP hfit.ok hfit.sm).mono (by omega)
    clear hA q
    have c3 : cutU [U.str t.name, U.str t.cls, t.pt.toU, U.int t.cost] none (some 3) = [U.str t.name, U.str t.cls, t.pt.toU] := rfl
    simp only [c3, List.mem_cons, List.not_mem_nil, or_false] at hu
    rcases hu with rfl | rfl | rfl | rfl | rfl | rfl | rfl | rfl | rfl | rfl | rfl | rfl | rfl | rfl | rfl | rfl | rfl | rfl | rfl | rfl | rfl | rfl | rfl | rfl | rfl | rfl
    · exact bt_p hfit.ok hfit.sm (by omega) (pS (by decide +kernel) (by decide +kernel)) (cP _) pI (.inl (by decide +kernel))
    · exact bt_p hfit.ok hfit.sm (by omega) (pS (by decide +kernel) (by decide +kernel)) (cP _) pI (.inl (by decide +kernel))
    · exact bt_p hfit.ok hfit.sm (by omega) (pS (by decide +kernel) (by decide +kernel)) (cP _) pI (.inl (by decide +kernel))
    · exact bt_p hfit.ok hfit.sm (by omega) pI (cP _) pI (.inl rfl)
    · exact bt_p hfit.ok hfit.sm (by omega) pO (cP _) pI (.inl rfl)
    · exact bt_p hfit.ok hfit.sm (by omega) (pS (by decide +kernel) (by decide +kernel)) (cP _) pI (.inl (by decide +kernel))
    · exact bt_p hfit.ok hfit.sm (by omega) (nP _) (pS (nameF_ok m) (by have := (nameF_len m).2; omega)) pI (.inr (.inl (by show cs.contains (nameF m) = false; simpa using hnot)))
    · exact bt_p hfit.ok hfit.sm (by omega) (nP _) pO pI (.inr (.inl rfl))
    · exact bt_p hfit.ok hfit.sm (by omega) (nP _) pI pI (.inr (.inl rfl))
    · exact bt_p hfit.ok hfit.sm (by omega) (nP _) (cP _) pI (.inr (.inr (.inl (by simp only [priceB]; rw [decide_eq_false (by omega)]; rfl))))
    · exact bt_p hfit.ok hfit.sm (by omega) (nP _) (cP _) pI (.inr (.inr (.inl (by simp only [priceB]; rw [decide_eq_false (show ¬ (1001 + far ≤ 1000) by omega)]; simp))))
    · exact bt_p hfit.ok hfit.sm (by omega) (nP _) (cP _) pB (.inr (.inr (.inl rfl)))
    · exact bt_p hfit.ok hfit.sm (by omega) (nP _) (cP _) pO (.inr (.inr (.inl rfl)))
    · exact bt_p hfit.ok hfit.sm (by omega) (nP _) (cP _) (pS (by decide +kernel) (by decide +kernel)) (.inr (.inr (.inl rfl)))
    · exact bt_not ((pL (psC (nP _) (psC (cP _) (psC p6 (psC pI psN)))) (by simp)).mono (by decide)) (fun ⟨_, _, _, _, e⟩ => by cases e)
    · exact bt_not ((pT (psC (nP _) (psC (cP _) (psC p6 psN))) (by simp)).mono (by decide)) (fun ⟨_, _, _, _, e⟩ => by cases e)
    · exact bt_not ((pT (psC (nP _) (psC (cP _) (psC p6 (psC pI (psC pI psN))))) (by simp)).mono (by decide)) (fun ⟨_, _, _, _, e⟩ => by cases e)
    · exact bt_not pO (fun ⟨_, _, _, _, e⟩ => by cases e)
    · exact bt_not ((pT (n := 0) psN (by simp)).mono (by decide)) (fun ⟨_, _, _, _, e⟩ => by cases e)
    · exact bt_not (nP _) (fun ⟨_, _, _, _, e⟩ => by cases e)
    · exact bt_p (p := .hole t.cls) (hcn.ok.2.2 _ ht.ci).1 ⟨ht.cl, ht.ci⟩ (by simp [Pt.dep]) (nP _) (cP _) pI (.inr (.inr (.inr (by simp [passOk, Pt.toU]))))
    · exact bt_p hfit.ok hfit.sm (by omega) (nP _) (cP _) pB (.inr (.inr (.inl rfl)))
    · exact bt_p hfit.ok hfit.sm (by omega) (nP _) ((pT (n := 0) (psC (cP _) psN) (by simp)).mono (by decide)) pI (.inr (.inl rfl))
    · exact bt_p hfit.ok hfit.sm (by omega) ((pL (n := 0) (psC (nP _) psN) (by simp)).mono (by decide)) (cP _) pI (.inl rfl)
    · exact bt_p hfit.ok hfit.sm (by omega) (nP _) ((pL (n := 0) (psC (cP _) psN) (by simp)).mono (by decide)) pI (.inr (.inl rfl))
    · exact bt_p hfit.ok hfit.sm (by omega) (nP _) (cP _) ((pL (n := 0) (psC pI psN) (by simp)).mono (by decide)) (.inr (.inr (.inl rfl)))
theorem at_uniq {cs : List Str} {p : Pt} {c : Str} (h : p.toU = .tup [.str (Str.ofString "at"), .str c]) : p = .hole c := by
  cases p with
  | hole d => simp only [Pt.toU, U.tup.injEq, List.cons.injEq, U.str.injEq, and_true, true_and] at h; rw [h]
  | any => simp [Pt.toU] at h
  | fr l u => simp [Pt.toU] at h
  | turn a =>
    simp only [Pt.toU, U.tup.injEq, List.cons.injEq, U.str.injEq] at h
    exact absurd h.1 (by decide +kernel)
  | two o a b => simp [Pt.toU] at h
theorem passOk_of {p : Pt} {c : Str} (h : p ≠ .hole c) : passOk p.toU (.str c) = true := by
  unfold passOk
  split
  · rename_i z d y e1 e2
    cases e2
    cases hz : decide (z = Str.ofString "at") && decide (d = c) with
    | false => rfl
    | true =>
      rw [Bool.and_eq_true] at hz
      have h1 := of_decide_eq_true hz.1
      have h2 := of_decide_eq_true hz.2
      subst h1; subst h2
      exact (h (at_uniq (cs := []) e1)).elim
  · rfl
theorem gP_fit : ∀ p : Pt, (gP p).fit = true
  | .turn a => by simp only [gP, G.fit]; exact gP_fit a
  | .two o a b => by simp only [gP, G.fit, gP_fit a, gP_fit b]; rfl
  | .hole _ => rfl
  | .any => rfl
  | .fr _ _ => rfl
theorem gP_size : ∀ p : Pt, (gP p).size = p.size ∧ (gP p).dep = p.dep ∧ (gP p).holes = p.holes
  | .turn a => by obtain ⟨a1, a2, a3⟩ := gP_size a; simp only [gP, G.size, G.dep, G.holes, Pt.size, Pt.dep, Pt.holes, a1, a2, a3]; exact ⟨trivial, trivial, trivial⟩
  | .two o a b => by obtain ⟨a1, a2, a3⟩ := gP_size a; obtain ⟨b1, b2, b3⟩ := gP_size b; simp only [gP, G.size, G.dep, G.holes, Pt.size, Pt.dep, Pt.holes, a1, a2, a3, b1, b2, b3]; exact ⟨trivial, trivial, trivial⟩
  | .hole c => ⟨rfl, rfl, by simp [gP, G.holes, isAt, Pt.toU, Pt.holes]⟩
  | .any => ⟨rfl, rfl, by
      have : Str.ofString "any" ≠ Str.ofString "at" := by decide +kernel
      simp [gP, G.holes, isAt, Pt.toU, Pt.holes, this]⟩
  | .fr l u => ⟨rfl, rfl, by
      have : Str.ofString "from" ≠ Str.ofString "at" := by decide +kernel
      simp [gP, G.holes, isAt, Pt.toU, Pt.holes, this]⟩
theorem tl_plain {cs : List Str} (hc : ClsN cs) {t : Tl} (ht : t.ok cs) : pN 20 t.toU :=
  (pT (n := 6) (psC (pS ht.no (by have := ht.nm; omega)) (psC (pS (hc.ok.2.2 _ ht.ci).1 (by have := ht.cl; omega)) (psC ((pP ht.pt.ok ht.pt.sm).mono (by have := ht.pt.dep; omega)) (psC pI psN)))) (by simp)).mono (by decide)
theorem tl_good {cs : List Str} (hc : ClsN cs) {t : Tl} (ht : t.ok cs) : TileR cs t.toU true := by
  have hf := ht.pt
  obtain ⟨s1, s2, s3⟩ := gP_size t.pt
  have e := gP_U t.pt
  refine ⟨(tl_plain hc ht).plain (by decide), .inr ⟨.str t.name, .str t.cls, gP t.pt, .int t.cost, by rw [e]; rfl, gP_wf hf.ok hf.sm (by have := hf.dep; omega), ?_⟩⟩
  have h1 : patG (gP t.pt) = true := by
    unfold patG verd
    rw [gP_fit, s1, s2, s3, decide_eq_true hf.siz, decide_eq_true hf.dep, decide_eq_true hf.hol]
    rfl
  have h2 : inS cs (.str t.cls) = true := by show cs.contains t.cls = true; simpa using ht.ci
  have h3 : priceB (.int t.cost) = true := by
    simp only [priceB]
    rw [decide_eq_true ht.c0, decide_eq_true ht.c1]; rfl
  rw [ht.nn, h1, h2, h3, e, passOk_of ht.np]
  rfl
theorem paired_good {cs : List Str} (hc : ClsN cs) : ∀ {tl : List Tl}, (∀ t ∈ tl, t.ok cs) → Paired (TileR cs) (tl.map Tl.toU) (tl.map fun _ => true)
  | [], _ => .nil
  | t :: tl, h => .cons (tl_good hc (h t List.mem_cons_self)) (paired_good hc fun x hx => h x (List.mem_cons_of_mem _ hx))
theorem tls_plain {cs : List Str} (hc : ClsN cs) : ∀ {tl : List Tl}, (∀ t ∈ tl, t.ok cs) → pNs 20 (tl.map Tl.toU)
  | [], _ => psN
  | t :: tl, h => psC (tl_plain hc (h t List.mem_cons_self)) (tls_plain hc fun x hx => h x (List.mem_cons_of_mem _ hx))
theorem strs_plain : ∀ {cs : List Str}, (∀ c ∈ cs, PyData.strOk c = true ∧ c.length ≤ 8) → ∀ n, pNs n (cs.map U.str)
  | [], _, n => psN
  | c :: cs, h, n => psC (pS (h c List.mem_cons_self).1 (by have := (h c List.mem_cons_self).2; omega)) (strs_plain (fun x hx => h x (List.mem_cons_of_mem _ hx)) n)
theorem map_name (tl : List Tl) : ((tl.map Tl.toU).map fun t => match t with | .tup (.str z :: _) => z | _ => Str.ofString "") = tl.map Tl.name := by
  rw [List.map_map]; rfl
theorem strOf_map (cs : List Str) : (cs.map U.str).map strOf = cs := by
  rw [List.map_map]
  conv => rhs; rw [← List.map_id cs]
  rfl
theorem unB_iff (l : List Str) : unB l = true ↔ l.Nodup := by
  unfold unB
  rw [decide_eq_true_eq]
  exact ddS_nodup l
theorem all_names {cs : List Str} (h : ∀ c ∈ cs, isName (.str c) = true) : (cs.map U.str).all isName = true := by
  rw [List.all_map, List.all_eq_true]
  exact h
theorem cls_good {cs : List Str} (hc : ClsN cs) : classB (.tup (cs.map U.str)) = true := by
  have h1 := List.length_pos_iff.mpr hc.ok.1
  have h2 := hc.ok.2.1
  simp only [classB, List.length_map, strOf_map]
  rw [decide_eq_true (show 1 ≤ cs.length by omega), decide_eq_true h2, all_names hc.nm, (unB_iff cs).mpr hc.nd]
  rfl
theorem tab_tiles {cs : List Str} (hc : ClsN cs) {ts : List U} {bs : List Bool} {b : Bool} (hp : pNs 20 ts) (hl : ts.length ≤ 1000) (h : Paired (TileR cs) ts bs) (hb : b = (decide (1 ≤ ts.length) && (decide (ts.length ≤ 40) && ((bs.all fun x => x) && unB (ts.map fun t => match t with | .tup (.str z :: _) => z | _ => Str.ofString ""))))) : TableR (.tup [.tup (cs.map U.str), .tup ts]) b := by
  have p1 : pN 21 (.tup (cs.map U.str)) := pT (strs_plain hc.ok.2.2 20) (by rw [List.length_map]; have := hc.ok.2.1; omega)
  have p2 : pN 21 (.tup ts) := pT hp hl
  have p3 : pN 22 (.tup [.tup (cs.map U.str), .tup ts]) := pT (psC p1 (psC p2 psN)) (by simp)
  exact ⟨p3.plain (by decide), .inr ⟨_, _, rfl, .inr ⟨cs, rfl, cls_good hc, (fun x hx => (hc.ok.2.2 x hx).1), p2.plain (by decide), .inr ⟨ts, bs, rfl, h, hb⟩⟩⟩⟩
theorem tab_good {cs : List Str} (hc : ClsN cs) {tl : List Tl} (h1 : 1 ≤ tl.length) (h2 : tl.length ≤ 40) (h : ∀ t ∈ tl, t.ok cs) (hn : (tl.map Tl.name).Nodup) : TableR (.tup [.tup (cs.map U.str), .tup (tl.map Tl.toU)]) true := by
  refine tab_tiles hc (tls_plain hc h) (by rw [List.length_map]; omega) (paired_good hc h) ?_
  rw [List.length_map, map_name, decide_eq_true h1, decide_eq_true h2, (unB_iff _).mpr hn]
  have : ((tl.map fun _ => true).all fun x => x) = true := by rw [List.all_map, List.all_eq_true]; intro _ _; rfl
  rw [this]; rfl
theorem tab_bad {cs : List Str} (hc : ClsN cs) {l r : List Tl} {u : U} (hl : l.length + r.length ≤ 40) (h1 : ∀ t ∈ l, t.ok cs) (h2 : ∀ t ∈ r, t.ok cs) (hu : badT cs u) : TableR (.tup [.tup (cs.map U.str), .tup (l.map Tl.toU ++ [u] ++ r.map Tl.toU)]) false := by
  have pa : ∀ {xs ys : List U} {as bs : List Bool}, Paired (TileR cs) xs as → Paired (TileR cs) ys bs → Paired (TileR cs) (xs ++ ys) (as ++ bs) := by
    intro xs ys as bs h g
    induction h with
    | nil => exact g
    | cons a _ ih => exact .cons a ih
  have pp : ∀ {xs ys : List U}, pNs 20 xs → pNs 20 ys → pNs 20 (xs ++ ys) := by
    intro xs ys h g
    induction xs with
    | nil => exact g
    | cons a xs ih =>
      obtain ⟨h1, ds, e1, e2, e3⟩ := h
      have ha : pN 20 a := ⟨h1.1, lays_mem ⟨ds, e1, e2, e3⟩ List.mem_cons_self⟩
      refine psC ha (ih ⟨h1.2, ?_⟩)
      simp only [toDs] at e1
      cases hx : toD a with
      | none => rw [hx] at e1; cases e1
      | some d =>
        cases hs : toDs xs with
        | none => rw [hx, hs] at e1; cases e1
        | some es =>
          rw [hx, hs] at e1
          cases e1
          simp only [PyData.canLayAll0, Bool.and_eq_true, PyData.depthAll] at e2 e3
          exact ⟨es, hs, e2.2, by omega⟩
  refine tab_tiles hc (bs := (l.map fun _ => true) ++ [false] ++ (r.map fun _ => true)) (pp (pp (tls_plain hc h1) (psC hu.1 psN)) (tls_plain hc h2)) (by simp; omega) (pa (pa (paired_good hc h1) (.cons hu.2 .nil)) (paired_good hc h2)) ?_
  have : (((l.map fun _ => true) ++ [false] ++ (r.map fun _ => true)).all fun x => x) = false := by simp
  rw [this]
  simp
def spAnswers (Pt : Addr) : USp := fun us M Q => ∃ (u : U) (b : Bool), us = [u, .bl b] ∧ TableR u b ∧ M Pt = some (.tbl QP) ∧ Q (.bl true) M
theorem ok_answers {Pl : Addr} (F : Fun K "_law_answers" "_law_answers" s_law_answers f fd) (hm : mg "_law_answers" = some (.ref f)) (m_isinstance : mg "isinstance" = none) (m_bool : mg "bool" = none) (C_is_table : Callee P w K mg base 12 "is_table" (spTableB Pl) []) : Callee P w K mg base 13 "_law_answers" (spAnswers Pl) [] := by
  refine callee2 F hm sc_law_answers (ar2 fun _ _ _ _ _ _ _ _ => rfl) (uss_cons (us_set 2 sc_law_answers.nd (ue_call C_is_table (ua_cons (uv 0) ua_nil)))
  (uss_one (us_ret (ue_and (ue_b b_isi m_isinstance (ua_cons (uv 2) (ua_cons (ug_ty (n := "bool") m_bool) ua_nil))) (ue_one (ue_c k_eqX (uv 2) (uv 1))))))) ?_
  rintro us M Q ⟨u, b, rfl, ht, hP, q⟩
  refine ⟨rfl, ?_⟩
  refine seq_gen fun V1 hV1 => ?_
  simp! only [uAsg, hName, items, uEnum, uZip, uEnumL]
  refine ⟨u, b, rfl, ht, hP, ?_⟩
  subst hV1
  have e : ∀ b : Bool, uEqX false (.bl b) (.bl b) M (rtU Q) = rtU Q (.bl (decide (b = b))) M := fun b => rfl
  simp! only [uRet, e, items, uEnum, uZip, uEnumL]
  exact rt_same q
def spCell : USp := fun us M Q => ∃ (ns : List Int) (k : Nat), us = [.lst (ns.map .int), .int (k : Int)] ∧ Q (.int (ns.getD k 0)) M
theorem ok_cell_at (F : Fun K "_law_cell_at" "_law_cell_at" s_law_cell_at f fd) (hm : mg "_law_cell_at" = some (.ref f)) (m_len : mg "len" = none) : Callee P w K mg base 1 "_law_cell_at" spCell [] := by
  refine callee2 F hm sc_law_cell_at (ar2 fun _ _ _ _ _ _ _ _ => rfl) (uss_cons (us_if (ut_c k_ltX (uv 1) (ue_b b_len m_len (ua_cons (uv 0) ua_nil)))
  (uss_one (us_ret (ue_ix (uv 0) (uv 1))))
  uss_nil)
  (uss_one (us_ret un_))) ?_
  rintro us M Q ⟨ns, k, rfl, q⟩
  refine ⟨rfl, ?_⟩
  simp_all! only [uSl]
  refine ite2 (fun h => ?_) (fun h => ?_)
  · have hk : k < ns.length := by
      have := of_decide_eq_true h
      rw [List.length_map] at this
      omega
    refine ⟨.int (ns.getD k 0), atI_nat ?_, rt_same q⟩
    simp [hk]
  · have hk : ¬ k < ns.length := fun z => h (by simpa using z)
    have : ns.getD k 0 = 0 := by simp [hk]
    rw [this] at q
    exact rt_same q
theorem tb_np {u : U} (h : pN 30 u) (n : ∀ c t, u ≠ .tup [c, t]) : TableR u false := ⟨h.plain (by decide), .inl ⟨n, rfl⟩⟩
theorem tb_cls {c t : U} (hc : pN 29 c) (ht : pN 29 t) (h : classB c = false) : TableR (.tup [c, t]) false :=
  ⟨(pT (psC hc (psC ht psN)) (by simp)).plain (by decide), .inr ⟨c, t, rfl, .inl ⟨h, rfl⟩⟩⟩
theorem tb_nt {cs : List Str} {t : U} (hc : ClsN cs) (ht : pN 29 t) (n : ∀ ts, t ≠ .tup ts) : TableR (.tup [.tup (cs.map U.str), t]) false :=
  ⟨(pT (psC (pT (strs_plain hc.ok.2.2 28) (by rw [List.length_map]; have := hc.ok.2.1; omega)) (psC ht psN)) (by simp)).plain (by decide), .inr ⟨_, t, rfl, .inr ⟨cs, rfl, cls_good hc, (fun x hx => (hc.ok.2.2 x hx).1), ht.plain (by decide), .inl ⟨n, rfl⟩⟩⟩⟩
theorem cls_no {us : List U} (h : us.all isName = false) : classB (.tup us) = false := by simp only [classB, h]; simp
def spBadB : USp := fun us M Q => ∃ (cs : List Str) (tl : List Tl) (c : Int), us = [.tup (cs.map U.str), .tup (tl.map Tl.toU), .int c] ∧ ClsN cs ∧ 1 ≤ tl.length ∧ tl.length ≤ 40 ∧ (∀ t ∈ tl, t.ok cs) ∧ (tl.map Tl.name).Nodup ∧ ∀ u, TableR u false → Q u M
theorem ok_bad_table (F : Fun K "_law_bad_table" "_law_bad_table" s_law_bad_table f fd) (hm : mg "_law_bad_table" = some (.ref f)) (m_len : mg "len" = none) (m_list : mg "list" = none) (m_tuple : mg "tuple" = none) (C_law_fresh : Callee P w K mg base 2 "_law_fresh" spFresh []) : Callee P w K mg base 3 "_law_bad_table" spBadB [] := by
  refine callee2 F hm sc_law_bad_table (ar3 fun _ _ _ _ _ _ _ _ _ => rfl) (uss_cons (us_set 3 sc_law_bad_table.nd (ue_t (b_list (own := true)) m_list (ua_cons (uv 0) ua_nil)))
  (uss_cons (us_while (ut_c k_ltX (ue_b b_len m_len (ua_cons (uv 3) ua_nil)) un_)
  (uss_cons (us_set 4 sc_law_bad_table.nd (ue_call C_law_fresh (ua_cons (ue_mod (ue_divX (uv 2) un_) (ue_pow un_ un_)) (ua_cons (uv 3) ua_nil))))
  (uss_one (us_expr (ue_append (uv 3) (ua_cons (uv 4) ua_nil))))))
  (uss_cons (us_set 5 sc_law_bad_table.nd (ue_lst (own := false) (ua_cons (ue_tup (ua_cons (ue_tup ua_nil) (ua_cons (uv 1) ua_nil))) (ua_cons (ue_tup (ua_cons (ue_t (b_list (own := false)) m_list (ua_cons (uv 0) ua_nil)) (ua_cons (uv 1) ua_nil))) (ua_cons (ue_tup (ua_cons (ue_add (own := false) (uv 0) (ue_tup (ua_cons (ue_ix (uv 0) (ue_mod (ue_divX (uv 2) un_) (ue_b b_len m_len (ua_cons (uv 0) ua_nil)))) ua_nil))) (ua_cons (uv 1) ua_nil))) ua_nil)))))
  (uss_cons (us_set 5 sc_law_bad_table.nd (ue_add (own := false) (uv 5) (ue_lst (own := false) (ua_cons (ue_tup (ua_cons (ue_t b_tuple m_tuple (ua_cons (uv 3) ua_nil)) (ua_cons (uv 1) ua_nil))) (ua_cons (ue_tup (ua_cons (ue_add (own := false) (ue_tup (ua_cons us_ ua_nil)) (ue_slX (own := false) (uv 0) (uo_some un_) uo_none)) (ua_cons (uv 1) ua_nil))) (ua_cons (ue_tup (ua_cons (ue_add (own := false) (ue_tup (ua_cons us_ ua_nil)) (ue_slX (own := false) (uv 0) (uo_some un_) uo_none)) (ua_cons (uv 1) ua_nil))) ua_nil))))))
  (uss_cons (us_set 5 sc_law_bad_table.nd (ue_add (own := false) (uv 5) (ue_lst (own := false) (ua_cons (ue_tup (ua_cons (uv 0) (ua_cons (ue_tup ua_nil) ua_nil))) (ua_cons (ue_tup (ua_cons (uv 0) (ua_cons (ue_t (b_list (own := false)) m_list (ua_cons (uv 1) ua_nil)) ua_nil))) (ua_cons (ue_tup (ua_cons (uv 0) (ua_cons (ue_add (own := false) (uv 1) (ue_tup (ua_cons (ue_ix (uv 1) (ue_mod (ue_divX (uv 2) un_) (ue_b b_len m_len (ua_cons (uv 1) ua_nil)))) ua_nil))) ua_nil))) ua_nil))))))
  (uss_cons (us_set 5 sc_law_bad_table.nd (ue_add (own := false) (uv 5) (ue_lst (own := false) (ua_cons (ue_tup (ua_cons (uv 0) ua_nil)) (ua_cons (ue_tup (ua_cons (uv 0) (ua_cons (uv 1) (ua_cons un_ ua_nil)))) (ua_cons (ue_lst (own := false) (ua_cons (uv 0) (ua_cons (uv 1) ua_nil))) (ua_cons uo_ (ua_cons (uv 0) (ua_cons (uv 1) (ua_cons ub_ (ua_cons us_ (ua_cons un_ (ua_cons (ue_tup ua_nil) ua_nil)))))))))))))
  (uss_cons (us_set 5 sc_law_bad_table.nd (ue_add (own := false) (uv 5) (ue_lst (own := false) (ua_cons (ue_tup (ua_cons (uv 1) (ua_cons (uv 0) ua_nil))) (ua_cons (ue_tup (ua_cons (uv 0) (ua_cons uo_ ua_nil))) (ua_cons (ue_tup (ua_cons uo_ (ua_cons (uv 1) ua_nil))) (ua_cons (ue_tup (ua_cons (uv 0) (ua_cons (ue_ix (uv 1) un_) ua_nil))) ua_nil)))))))
  (uss_cons (us_set 5 sc_law_bad_table.nd (ue_add (own := false) (uv 5) (ue_lst (own := false) (ua_cons (ue_tup (ua_cons (ue_add (own := false) (ue_tup (ua_cons (ue_lst (own := false) (ua_cons (ue_ix (uv 0) un_) ua_nil)) ua_nil)) (ue_slX (own := false) (uv 0) (uo_some un_) uo_none)) (ua_cons (uv 1) ua_nil))) ua_nil))))
  (uss_one (us_ret (ue_ix (uv 5) (ue_mod (uv 2) un_)))))))))))) ?_
  rintro us M Q ⟨cs, tl, c, rfl, hcn, h1, h40, hok, hnd, q⟩
  refine ⟨rfl, ?_⟩
  have pw14 : CPow 10 14 := ⟨by decide, by decide, by decide⟩
  have hc6 := hcn.ok.2.1
  have hc1 := List.length_pos_iff.mpr hcn.ok.1
  refine seq_gen fun V1 hV1 => ?_
  simp! only [uAsg, hName, items, uEnum, uZip, uEnumL]
  intro p hp
  subst hV1
  refine seq_gen fun V2 hV2 => ?_
  refine while_by (fun τ Mi => ∃ (ss : List Str) (b : Option U), τ = [some (.tup (cs.map U.str)), some (.tup (tl.map Tl.toU)), some (.int c), some (.ref p), b, none] ∧ Mi = mup M p (.lst (ss.map U.str)) ∧ ss.length ≤ 7 ∧ ∀ x ∈ ss, PyData.strOk x = true ∧ x.length ≤ 8) (fun _ M => 7 - lenAt p M) ⟨cs, none, rfl, rfl, by omega, hcn.ok.2.2⟩ ?_
  rintro τ Mi ⟨ss, b, rfl, rfl, hs7, hss⟩
  by_cases hlt : ss.length < 7
  · have hlt' : ((ss.length : Nat) : Int) < 7 := by omega
    simp! only [hlt', List.length_map, items, uEnum, uZip, uEnumL]
    refine seq_gen fun V3 hV3 => ?_
    simp! only [uAsg, hName, items, uEnum, uZip, uEnumL]
    refine ⟨⟨by decide, by decide⟩, pw14, by decide, _, .ref p, ss, rfl, Int.emod_nonneg _ (by decide), by simp only [items, mup_same], by omega, fun m hm0 hnot => ?_⟩
    subst hV3
    simp! only [uDrop, items, uEnum, uZip, uEnumL]
    refine ⟨isL_own, big (by simp; omega), ⟨ss ++ [nameF m], _, rfl, by simp, by simp; omega, fun x hx => ?_⟩, ?_⟩
    · rcases List.mem_append.mp hx with hx | hx
      · exact hss x hx
      · cases List.mem_singleton.mp hx; exact ⟨nameF_ok m, (nameF_len m).2⟩
    · simp only [lenAt_mup, List.length_append, List.length_map, List.length_cons, List.length_nil]; omega
  · have hlt' : ¬ ((ss.length : Nat) : Int) < 7 := by omega
    have h7 : ss.length = 7 := by omega
    simp! only [hlt', List.length_map, items, uEnum, uZip, uEnumL]
    subst hV2
    simp! only [uSeq, uAsg, hName, uRet, items, uEnum, uZip, uEnumL]
    obtain ⟨c0, cr, rfl⟩ : ∃ c0 cr, cs = c0 :: cr := by
      cases cs with
      | nil => simp at hc1
      | cons a r => exact ⟨a, r, rfl⟩
    have ecut : cutU (((c0 :: cr).map U.str)) (some 1) none = cr.map U.str := by rw [List.map_cons, cut1]
    obtain ⟨x, hx⟩ := atI_ex (c0 :: cr) (c / 30 % (((c0 :: cr).map U.str).length : Int)) (Int.emod_nonneg _ (by rw [List.length_map]; omega)) (by rw [List.length_map]; exact Int.emod_lt_of_pos _ (by omega))
    have hxm := atI_mem hx
    obtain ⟨u1, hu1⟩ := atI_ex (tl.map Tl.toU) (c / 30 % ((tl.map Tl.toU).length : Int)) (Int.emod_nonneg _ (by rw [List.length_map]; omega)) (Int.emod_lt_of_pos _ (by rw [List.length_map]; omega))
    obtain ⟨t1, ht1, rfl⟩ := List.mem_map.mp (atI_mem hu1)
    obtain ⟨u2, hu2⟩ := atI_ex (tl.map Tl.toU) 0 (by decide) (by rw [List.length_map]; omega)
    obtain ⟨t2, ht2, rfl⟩ := List.mem_map.mp (atI_mem hu2)
    rw [ecut]
    have hcr : cr.length ≤ 5 := by simp only [List.length_cons] at hc6; omega
    refine ⟨⟨by decide, by decide⟩, by rw [List.length_map]; omega, _, cls_at hx, small (by simp; omega), small (by simp; omega), small (by simp; omega), ⟨by decide, by decide⟩, by rw [List.length_map]; omega, _, hu1, small (by simp; omega), _, hu2, .str c0, (by rw [List.map_cons]; exact at0), small (by simp; omega), by decide, pick_goal (n := 24) (Pd := fun u => TableR u false) rfl (Int.emod_nonneg _ (by decide)) (Int.emod_lt_of_pos _ (by decide)) (fun u hu => ?_) (fun u hu => ⟨_, M, (Sub.refl M).mup hp, .inl rfl, q u hu⟩)⟩
    have pC1 : pN 29 (.tup ((c0 :: cr).map U.str)) := pT (strs_plain hcn.ok.2.2 28) (by rw [List.length_map]; omega)
    have pC2 : pN 29 (.lst ((c0 :: cr).map U.str)) := pL (strs_plain hcn.ok.2.2 28) (by rw [List.length_map]; omega)
    have pT1 : pN 29 (.tup (tl.map Tl.toU)) := (pT (tls_plain hcn hok) (by rw [List.length_map]; omega)).mono (by decide)
    have pT2 : pN 29 (.lst (tl.map Tl.toU)) := (pL (tls_plain hcn hok) (by rw [List.length_map]; omega)).mono (by decide)
    have pS7 : pN 29 (.tup (ss.map U.str)) := pT (strs_plain hss 28) (by rw [List.length_map]; omega)
    have hmx : ∀ x : Str, ((c0 :: cr) ++ [x]).map U.str = (c0 :: cr).map U.str ++ [.str x] := fun x => by simp
    have pC3 : ∀ y, y ∈ c0 :: cr → pN 29 (.tup ((c0 :: cr).map U.str ++ [.str y])) := fun y hy => by
      rw [← hmx]
      exact pT (strs_plain (fun z hz => by rcases List.mem_append.mp hz with hz | hz; exact hcn.ok.2.2 z hz; cases List.mem_singleton.mp hz; exact hcn.ok.2.2 _ hy) 28) (by simp; omega)
    have hx3 : unB ((c0 :: cr) ++ [x]) = false := by
      cases h : unB ((c0 :: cr) ++ [x]) with
      | false => rfl
      | true =>
        have := (unB_iff _).mp h
        rw [List.nodup_append] at this
        exact (this.2.2 x hxm x (by simp) rfl).elim
    have pA : ∀ v : U, pN 28 v → pN 29 (.tup (v :: cr.map U.str)) := fun v hv => pT (psC hv (strs_plain (fun z hz => hcn.ok.2.2 z (List.mem_cons_of_mem _ hz)) 28)) (by simp; omega)
    have tn : ∀ t : Tl, isName t.toU = false := fun _ => rfl
    have clsT : classB (.tup (tl.map Tl.toU)) = false := cls_no (by
      cases tl with
      | nil => simp at h1
      | cons t r => rw [List.map_cons, List.all_cons, tn]; rfl)
    have onlyC : TableR (.tup ((c0 :: cr).map U.str)) false := by
      rcases cr with _ | ⟨c1, _ | ⟨c2, cr⟩⟩
      · exact tb_np (pC1.mono (by decide)) (fun c t z => by cases z)
      · exact tb_cls (pS (hcn.ok.2.2 c0 (by simp)).1 (by have := (hcn.ok.2.2 c0 (by simp)).2; omega)) (pS (hcn.ok.2.2 c1 (by simp)).1 (by have := (hcn.ok.2.2 c1 (by simp)).2; omega)) rfl
      · exact tb_np (pC1.mono (by decide)) (fun c t z => by cases z)
    have clsTl : ∀ t : Tl, classB t.toU = false := fun t => cls_no (by
      have : isName t.pt.toU = false := by cases t.pt <;> rfl
      simp [this])
    have onlyT : TableR (.tup (tl.map Tl.toU)) false := by
      rcases tl with _ | ⟨a, _ | ⟨b, _ | ⟨d, r⟩⟩⟩
      · exact tb_np (pT1.mono (by decide)) (fun c t z => by cases z)
      · exact tb_np (pT1.mono (by decide)) (fun c t z => by cases z)
      · exact tb_cls ((tl_plain hcn (hok a (by simp))).mono (by decide)) ((tl_plain hcn (hok b (by simp))).mono (by decide)) (clsTl a)
      · exact tb_np (pT1.mono (by decide)) (fun c t z => by cases z)
    have dupl : TableR (.tup [.tup ((c0 :: cr).map U.str), .tup (tl.map Tl.toU ++ [t1.toU])]) false := by
      have e : tl.map Tl.toU ++ [t1.toU] = (tl ++ [t1]).map Tl.toU := by simp
      rw [e]
      have hok2 : ∀ t ∈ tl ++ [t1], t.ok (c0 :: cr) := fun t ht => by
        rcases List.mem_append.mp ht with ht | ht
        · exact hok t ht
        · cases List.mem_singleton.mp ht; exact hok _ ht1
      refine tab_tiles hcn (tls_plain hcn hok2) (by simp; omega) (paired_good hcn hok2) ?_
      rw [map_name]
      have hu : unB ((tl ++ [t1]).map Tl.name) = false := by
        cases h : unB ((tl ++ [t1]).map Tl.name) with
        | false => rfl
        | true =>
          have := (unB_iff _).mp h
          rw [List.map_append, List.nodup_append] at this
          exact (this.2.2 t1.name (List.mem_map.mpr ⟨t1, ht1, rfl⟩) t1.name (by simp) rfl).elim
      rw [hu]; simp
    have oneT : TableR (.tup [.tup ((c0 :: cr).map U.str), t2.toU]) false := by
      have ht := hok t2 ht2
      have no4 : ∀ p : Pt, ¬ tup4 p.toU := fun p ⟨_, _, _, _, e⟩ => by cases p <;> cases e
      refine tab_tiles (bs := [false, false, false, false]) hcn (psC (pS ht.no (by have := ht.nm; omega)) (psC (pS (hcn.ok.2.2 _ ht.ci).1 (by have := ht.cl; omega)) (psC ((pP ht.pt.ok ht.pt.sm).mono (by have := ht.pt.dep; omega)) (psC pI psN)))) (by simp) ?_ rfl
      exact .cons (bt_not (pS ht.no (by have := ht.nm; omega)) (fun ⟨_, _, _, _, e⟩ => by cases e)).2 (.cons (bt_not (pS (hcn.ok.2.2 _ ht.ci).1 (by have := ht.cl; omega)) (fun ⟨_, _, _, _, e⟩ => by cases e)).2 (.cons (bt_not ((pP ht.pt.ok ht.pt.sm).mono (by have := ht.pt.dep; omega)) (no4 _)).2 (.cons (bt_not pI (fun ⟨_, _, _, _, e⟩ => by cases e)).2 .nil)))
    simp only [List.mem_cons, List.not_mem_nil, or_false] at hu
    rcases hu with rfl | rfl | rfl | rfl | rfl | rfl | rfl | rfl | rfl | rfl | rfl | rfl | rfl | rfl | rfl | rfl | rfl | rfl | rfl | rfl | rfl | rfl | rfl | rfl
    · exact tb_cls ((pT (n := 0) psN (by simp)).mono (by decide)) pT1 rfl
    · exact tb_cls pC2 pT1 rfl
    · exact tb_cls (pC3 x hxm) pT1 (by simp only [classB, ← hmx, strOf_map, List.length_map]; rw [hx3]; simp)
    · exact tb_cls pS7 pT1 (by simp only [classB, List.length_map, h7]; simp)
    · exact tb_cls (pA _ (pS (by decide +kernel) (by decide +kernel))) pT1 (cls_no (by rw [List.all_cons, show isName (.str (Str.ofString "aB")) = false by decide +kernel]; rfl))
    · exact tb_cls (pA _ (pS (by decide +kernel) (by decide +kernel))) pT1 (cls_no (by rw [List.all_cons, show isName (.str (Str.ofString "")) = false by decide +kernel]; rfl))
    · exact tab_tiles hcn psN (by simp) .nil rfl
    · exact tb_nt hcn pT2 (fun ts z => by cases z)
    · exact dupl
    · exact tb_np ((pT (psC pC1 psN) (by simp)).mono (by decide)) (fun c t z => by cases z)
    · exact tb_np ((pT (psC pC1 (psC pT1 (psC pI psN))) (by simp)).mono (by decide)) (fun c t z => by cases z)
    · exact tb_np ((pL (psC pC1 (psC pT1 psN)) (by simp)).mono (by decide)) (fun c t z => by cases z)
    · exact tb_np pO (fun c t z => by cases z)
    · exact onlyC
    · exact onlyT
    · exact tb_np pB (fun c t z => by cases z)
    · exact tb_np (pS (by decide +kernel) (by decide +kernel)) (fun c t z => by cases z)
    · exact tb_np pI (fun c t z => by cases z)
    · exact tb_np ((pT (n := 0) psN (by simp)).mono (by decide)) (fun c t z => by cases z)
    · exact tb_cls pT1 pC1 clsT
    · exact tb_nt hcn pO (fun ts z => by cases z)
    · exact tb_cls pO pT1 rfl
    · exact oneT
    · exact tb_cls (pA _ ((pL (n := 0) (psC (pS (hcn.ok.2.2 c0 (by simp)).1 (by have := (hcn.ok.2.2 c0 (by simp)).2; omega)) psN) (by simp)).mono (by decide))) pT1 (cls_no (by rw [List.all_cons]; rfl))
theorem cut_to {α : Type} {l : List α} {k : Nat} (h : k < l.length) : cutU l none (some (k : Int)) = l.take k := by
  unfold cutU
  simp only [HT.sIx]
  have e1 : ¬ ((k : Int) < 0) := by omega
  simp [e1]
  try omega
theorem cut_from {α : Type} {l : List α} {k : Nat} (h : k < l.length) : cutU l (some ((k : Int) + 1)) none = l.drop (k + 1) := by
  unfold cutU
  simp only [HT.sIx]
  have e1 : ¬ ((k : Int) + 1 < 0) := by omega
  simp [e1]
  rw [Nat.min_eq_left (show k + 1 ≤ l.length by omega)]
  exact List.take_of_length_le (by rw [List.length_drop]; exact Nat.le_refl _)
def spLaw (Pt : Addr) : USp := fun us M Q => ∃ ns : List Int, us = [.lst (ns.map .int)] ∧ ns.length ≤ 63 ∧ (∀ m ∈ ns, Builtin.Int.intBits m ≤ 2 ^ 20) ∧ M Pt = some (.tbl QP) ∧ Q (.bl true) M
theorem ok_law {Pl : Addr} (F : Fun K "law" "law" s_law f fd) (m_len : mg "len" = none) (C_law_cell_at : Callee P w K mg base 1 "_law_cell_at" spCell []) (C_law_table : Callee P w K mg base 4 "_law_table" spTable []) (C_law_answers : Callee P w K mg base 13 "_law_answers" (spAnswers Pl) []) (C_law_bad_tile : Callee P w K mg base 7 "_law_bad_tile" spBadT []) (C_law_bad_table : Callee P w K mg base 3 "_law_bad_table" spBadB []) : FnOk P w K mg base CX0 14 f fd ["script"] (liftSp K (spLaw Pl)) := by
  refine fnok_of F sc_law (fun us M Q h => by obtain ⟨x, rfl, _⟩ := h; rfl) (uss_cons (us_set 1 sc_law.nd (ue_call C_law_cell_at (ua_cons (uv 0) (ua_cons un_ ua_nil))))
  (uss_cons (us_asg (ue_call C_law_table (ua_cons (ue_slX (own := false) (uv 0) (uo_some un_) (uo_some un_)) ua_nil)) (ug_tup (n := 3) (ugs_cons (ug_name (k := 1000) 2 sc_law.nd) (ugs_cons (ug_name (k := 1000) 3 sc_law.nd) (ugs_cons (ug_name (k := 1000) 4 sc_law.nd) ugs_nil)))))
  (uss_cons (us_if (ut_not (ut_val (ue_call C_law_answers (ua_cons (ue_tup (ua_cons (uv 2) (ua_cons (uv 3) ua_nil))) (ua_cons ub_ ua_nil)))))
  (uss_one (us_ret ub_))
  uss_nil)
  (uss_cons (us_set 5 sc_law.nd (ue_mod (uv 1) (ue_b b_len m_len (ua_cons (uv 3) ua_nil))))
  (uss_cons (us_set 6 sc_law.nd (ue_call C_law_bad_tile (ua_cons (ue_ix (uv 3) (uv 5)) (ua_cons (uv 2) (ua_cons (ue_divX (uv 1) (ue_b b_len m_len (ua_cons (uv 3) ua_nil))) ua_nil)))))
  (uss_cons (us_if (ut_not (ut_val (ue_call C_law_answers (ua_cons (ue_tup (ua_cons (uv 2) (ua_cons (ue_add (own := false) (ue_add (own := false) (ue_slX (own := false) (uv 3) uo_none (uo_some (uv 5))) (ue_tup (ua_cons (uv 6) ua_nil))) (ue_slX (own := false) (uv 3) (uo_some (ue_add (own := false) (uv 5) un_)) uo_none)) ua_nil))) (ua_cons ub_ ua_nil)))))
  (uss_one (us_ret ub_))
  uss_nil)
  (uss_one (us_ret (ue_call C_law_answers (ua_cons (ue_call C_law_bad_table (ua_cons (uv 2) (ua_cons (uv 3) (ua_cons (uv 1) ua_nil)))) (ua_cons ub_ ua_nil))))))))))) ?_
  rintro us M Q ⟨ns, rfl, hl, hb, hP, q⟩
  refine seq_gen fun V1 hV1 => ?_
  simp! only [uAsg, hName, items, uEnum, uZip, uEnumL]
  refine ⟨ns, 0, rfl, ?_⟩
  generalize ns.getD 0 0 = dr
  subst hV1
  refine seq_gen fun V2 hV2 => ?_
  simp! only [uAsg, hName, hTup, hCons, hNil, cut_map, items, uEnum, uZip, uEnumL]
  refine ⟨cutU ns (some 1) (some 42), rfl, Nat.le_trans (cut_len _ _ _) hl, fun m hm => hb m (List.mem_of_mem_drop (List.mem_of_mem_take hm)), fun cs tl qa hcn h1 h40 hok hnd hqa => ?_⟩
  have hPq : Pl ≠ qa := fun z => by rw [← z, hP] at hqa; cases hqa
  have hS : Sub M (mup M qa (.lst ((linesOf cs tl).map .str))) := (Sub.refl M).mup hqa
  have hP1 : mup M qa (.lst ((linesOf cs tl).map .str)) Pl = some (.tbl QP) := by rw [mup_ne hPq]; exact hP
  generalize mup M qa (.lst ((linesOf cs tl).map .str)) = M1 at hS hP1
  simp! only [sortsU, items, uEnum, uZip, uEnumL]
  subst hV2
  refine seq_gen fun V3 hV3 => ?_
  refine if_gen fun A B hA hB => ?_
  simp! only [items, uEnum, uZip, uEnumL]
  refine ⟨_, true, rfl, tab_good hcn h1 h40 hok hnd, hP1, ?_⟩
  simp! only [items, uEnum, uZip, uEnumL]
  subst hB
  simp only [uNext]
  subst hV3
  refine seq_gen fun V4 hV4 => ?_
  simp! only [uAsg, hName, List.length_map, items, uEnum, uZip, uEnumL]
  refine ⟨by omega, ?_⟩
  obtain ⟨k, hk⟩ : ∃ k : Nat, dr % (tl.length : Int) = k := ⟨_, (Int.toNat_of_nonneg (Int.emod_nonneg dr (show (tl.length : Int) ≠ 0 by omega))).symm⟩
  have hkl := Int.emod_lt_of_pos dr (show (0 : Int) < (tl.length : Int) by omega)
  rw [hk] at hkl ⊢
  have hkl : k < tl.length := by omega
  subst hV4
  refine seq_gen fun V5 hV5 => ?_
  simp! only [uAsg, hName, List.length_map, items, uEnum, uZip, uEnumL]
  have hat : atI (tl.map Tl.toU) (k : Int) = some (tl[k].toU) := atI_nat (by rw [List.getElem?_map, List.getElem?_eq_getElem hkl]; rfl)
  refine ⟨_, hat, ⟨by omega, by show (tl.length : Int) < 2 ^ 64; omega⟩, cs, tl[k], _, rfl, hcn, hok _ (List.getElem_mem hkl), fun u hu => ?_⟩
  subst hV5
  refine seq_gen fun V6 hV6 => ?_
  refine if_gen fun A B hA hB => ?_
  have e1 : cutU (tl.map Tl.toU) none (some (k : Int)) = (tl.take k).map Tl.toU := by
    rw [cut_map]
    congr 1
    exact cut_to hkl
  have e2 : cutU (tl.map Tl.toU) (some ((k : Int) + 1)) none = (tl.drop (k + 1)).map Tl.toU := by
    rw [cut_map]
    congr 1
    exact cut_from hkl
  simp! only [e1, e2, items, uEnum, uZip, uEnumL]
  have hlen : (tl.take k).length + (tl.drop (k + 1)).length ≤ 40 := by rw [List.length_take, List.length_drop]; omega
  refine ⟨small (by simp only [List.length_map]; omega), small (by simp only [List.length_append, List.length_map, List.length_cons, List.length_nil]; omega), _, false, rfl, tab_bad hcn hlen (fun t ht => hok t (List.mem_of_mem_take ht)) (fun t ht => hok t (List.mem_of_mem_drop ht)) hu, hP1, ?_⟩
  simp! only [items, uEnum, uZip, uEnumL]
  subst hB
  simp only [uNext]
  subst hV6
  simp! only [uRet, items, uEnum, uZip, uEnumL]
  refine ⟨cs, tl, dr, rfl, hcn, h1, h40, hok, hnd, fun u2 hu2 => ?_⟩
  simp! only [items, uEnum, uZip, uEnumL]
  exact ⟨u2, false, rfl, hu2, hP1, _, M, hS, .inl rfl, q⟩
end
end K10
namespace K10
open PySem L2 U2
open PyProof.Rows in
theorem all_mk (Pt0 : Addr) {l : PySem.W.OpenLaw} {w : World} {K : PySem.W.Frag} {h : Heap} {mg : Str → Option Value} {fa f0 f1 f2 f3 f4 f5 f6 f7 f8 f9 f10 f11 f12 f13 f14 f15 f16 f17 f18 f19 f20 f21 f22 f23 f24 f25 f26 f27 f28 f29 f30 f31 f32 f33 f34 f35 : Addr} (X : K.In h) (G : h.Ns mainGlobals mg) (hfa : mg "law" = some (.ref fa))
    {od0 an0 : Option Addr} {sl0 : Array (Option Value)} {oc0 kV0 dc0 pm0 cd0 ct0 : Value}
    {od1 an1 : Option Addr} {sl1 : Array (Option Value)} {oc1 kV1 dc1 pm1 cd1 ct1 : Value}
    {od2 an2 : Option Addr} {sl2 : Array (Option Value)} {oc2 kV2 dc2 pm2 cd2 ct2 : Value}
    {od3 an3 : Option Addr} {sl3 : Array (Option Value)} {oc3 kV3 dc3 pm3 cd3 ct3 : Value}
    {od4 an4 : Option Addr} {sl4 : Array (Option Value)} {oc4 kV4 dc4 pm4 cd4 ct4 : Value}
    {od5 an5 : Option Addr} {sl5 : Array (Option Value)} {oc5 kV5 dc5 pm5 cd5 ct5 : Value}
    {od6 an6 : Option Addr} {sl6 : Array (Option Value)} {oc6 kV6 dc6 pm6 cd6 ct6 : Value}
    {od7 an7 : Option Addr} {sl7 : Array (Option Value)} {oc7 kV7 dc7 pm7 cd7 ct7 : Value}
    {od8 an8 : Option Addr} {sl8 : Array (Option Value)} {oc8 kV8 dc8 pm8 cd8 ct8 : Value}
    {od9 an9 : Option Addr} {sl9 : Array (Option Value)} {oc9 kV9 dc9 pm9 cd9 ct9 : Value}
    {od10 an10 : Option Addr} {sl10 : Array (Option Value)} {oc10 kV10 dc10 pm10 cd10 ct10 : Value}
    {od11 an11 : Option Addr} {sl11 : Array (Option Value)} {oc11 kV11 dc11 pm11 cd11 ct11 : Value}
    {cd12 : Addr} {od12 an12 : Option Addr} {sl12 : Array (Option Value)} {oc12 kV12 dc12 pm12 ct12 : Value}
    {od13 an13 : Option Addr} {sl13 : Array (Option Value)} {oc13 kV13 dc13 pm13 cd13 ct13 : Value}
    {od14 an14 : Option Addr} {sl14 : Array (Option Value)} {oc14 kV14 dc14 pm14 cd14 ct14 : Value}
    {od15 an15 : Option Addr} {sl15 : Array (Option Value)} {oc15 kV15 dc15 pm15 cd15 ct15 : Value}
    {od16 an16 : Option Addr} {sl16 : Array (Option Value)} {oc16 kV16 dc16 pm16 cd16 ct16 : Value}
    {od17 an17 : Option Addr} {sl17 : Array (Option Value)} {oc17 kV17 dc17 pm17 cd17 ct17 : Value}
    {od18 an18 : Option Addr} {sl18 : Array (Option Value)} {oc18 kV18 dc18 pm18 cd18 ct18 : Value}
    {od19 an19 : Option Addr} {sl19 : Array (Option Value)} {oc19 kV19 dc19 pm19 cd19 ct19 : Value}
    {od20 an20 : Option Addr} {sl20 : Array (Option Value)} {oc20 kV20 dc20 pm20 cd20 ct20 : Value}
    {od21 an21 : Option Addr} {sl21 : Array (Option Value)} {oc21 kV21 dc21 pm21 cd21 ct21 : Value}
    {od22 an22 : Option Addr} {sl22 : Array (Option Value)} {oc22 kV22 dc22 pm22 cd22 ct22 : Value}
    {od23 an23 : Option Addr} {sl23 : Array (Option Value)} {oc23 kV23 dc23 pm23 cd23 ct23 : Value}
    {od24 an24 : Option Addr} {sl24 : Array (Option Value)} {oc24 kV24 dc24 pm24 cd24 ct24 : Value}
    {od25 an25 : Option Addr} {sl25 : Array (Option Value)} {oc25 kV25 dc25 pm25 cd25 ct25 : Value}
    {od26 an26 : Option Addr} {sl26 : Array (Option Value)} {oc26 kV26 dc26 pm26 cd26 ct26 : Value}
    {od27 an27 : Option Addr} {sl27 : Array (Option Value)} {oc27 kV27 dc27 pm27 cd27 ct27 : Value}
    {od28 an28 : Option Addr} {sl28 : Array (Option Value)} {oc28 kV28 dc28 pm28 cd28 ct28 : Value}
    {od29 an29 : Option Addr} {sl29 : Array (Option Value)} {oc29 kV29 dc29 pm29 cd29 ct29 : Value}
    {od30 an30 : Option Addr} {sl30 : Array (Option Value)} {oc30 kV30 dc30 pm30 cd30 ct30 : Value}
    {od31 an31 : Option Addr} {sl31 : Array (Option Value)} {oc31 kV31 dc31 pm31 cd31 ct31 : Value}
    {od32 an32 : Option Addr} {sl32 : Array (Option Value)} {oc32 kV32 dc32 pm32 cd32 ct32 : Value}
    {od33 an33 : Option Addr} {sl33 : Array (Option Value)} {oc33 kV33 dc33 pm33 cd33 ct33 : Value}
    {od34 an34 : Option Addr} {sl34 : Array (Option Value)} {oc34 kV34 dc34 pm34 cd34 ct34 : Value}
    {od35 an35 : Option Addr} {sl35 : Array (Option Value)} {oc35 kV35 dc35 pm35 cd35 ct35 : Value}
    {tk0 : Tok}
    {tk1 : Tok}
    {tk2 : Tok}
    {tk3 : Tok}
    {tk4 : Tok}
    {tk5 : Tok}
    {tk6 : Tok}
    {tk7 : Tok}
    {tk8 : Tok}
    (a0 : PySem.W.nsIn K mainGlobals "is_whole" = some (some (.ref f0))) (l0 : K.lookup f0 = some ⟨oc0, od0, .func (PySem.W.fnOf "is_whole" "is_whole" (defArgs s_is_whole) (defBody s_is_whole) (defScope s_is_whole) .none kV0 dc0 pm0 an0 cd0 ct0), sl0⟩) (c0 : PySem.W.codeIn K cd0 "is_whole" = true) (k0 : PySem.W.keepIn K (.ref f0) = true)
    (a1 : PySem.W.nsIn K mainGlobals "is_number" = some (some (.ref f1))) (l1 : K.lookup f1 = some ⟨oc1, od1, .func (PySem.W.fnOf "is_number" "is_number" (defArgs s_is_number) (defBody s_is_number) (defScope s_is_number) .none kV1 dc1 pm1 an1 cd1 ct1), sl1⟩) (c1 : PySem.W.codeIn K cd1 "is_number" = true) (k1 : PySem.W.keepIn K (.ref f1) = true)
    (a2 : PySem.W.nsIn K mainGlobals "is_sign" = some (some (.ref f2))) (l2 : K.lookup f2 = some ⟨oc2, od2, .func (PySem.W.fnOf "is_sign" "is_sign" (defArgs s_is_sign) (defBody s_is_sign) (defScope s_is_sign) .none kV2 dc2 pm2 an2 cd2 ct2), sl2⟩) (c2 : PySem.W.codeIn K cd2 "is_sign" = true) (k2 : PySem.W.keepIn K (.ref f2) = true)
    (a3 : PySem.W.nsIn K mainGlobals "is_shape" = some (some (.ref f3))) (l3 : K.lookup f3 = some ⟨oc3, od3, .func (PySem.W.fnOf "is_shape" "is_shape" (defArgs s_is_shape) (defBody s_is_shape) (defScope s_is_shape) .none kV3 dc3 pm3 an3 cd3 ct3), sl3⟩) (c3 : PySem.W.codeIn K cd3 "is_shape" = true) (k3 : PySem.W.keepIn K (.ref f3) = true)
    (a4 : PySem.W.nsIn K mainGlobals "parts_of" = some (some (.ref f4))) (l4 : K.lookup f4 = some ⟨oc4, od4, .func (PySem.W.fnOf "parts_of" "parts_of" (defArgs s_parts_of) (defBody s_parts_of) (defScope s_parts_of) .none kV4 dc4 pm4 an4 cd4 ct4), sl4⟩) (c4 : PySem.W.codeIn K cd4 "parts_of" = true) (k4 : PySem.W.keepIn K (.ref f4) = true)
    (a5 : PySem.W.nsIn K mainGlobals "places_of" = some (some (.ref f5))) (l5 : K.lookup f5 = some ⟨oc5, od5, .func (PySem.W.fnOf "places_of" "places_of" (defArgs s_places_of) (defBody s_places_of) (defScope s_places_of) .none kV5 dc5 pm5 an5 cd5 ct5), sl5⟩) (c5 : PySem.W.codeIn K cd5 "places_of" = true) (k5 : PySem.W.keepIn K (.ref f5) = true)
    (a6 : PySem.W.nsIn K mainGlobals "shape_at" = some (some (.ref f6))) (l6 : K.lookup f6 = some ⟨oc6, od6, .func (PySem.W.fnOf "shape_at" "shape_at" (defArgs s_shape_at) (defBody s_shape_at) (defScope s_shape_at) .none kV6 dc6 pm6 an6 cd6 ct6), sl6⟩) (c6 : PySem.W.codeIn K cd6 "shape_at" = true) (k6 : PySem.W.keepIn K (.ref f6) = true)
    (a7 : PySem.W.nsIn K mainGlobals "is_pass" = some (some (.ref f7))) (l7 : K.lookup f7 = some ⟨oc7, od7, .func (PySem.W.fnOf "is_pass" "is_pass" (defArgs s_is_pass) (defBody s_is_pass) (defScope s_is_pass) .none kV7 dc7 pm7 an7 cd7 ct7), sl7⟩) (c7 : PySem.W.codeIn K cd7 "is_pass" = true) (k7 : PySem.W.keepIn K (.ref f7) = true)
    (a8 : PySem.W.nsIn K mainGlobals "is_name" = some (some (.ref f8))) (l8 : K.lookup f8 = some ⟨oc8, od8, .func (PySem.W.fnOf "is_name" "is_name" (defArgs s_is_name) (defBody s_is_name) (defScope s_is_name) .none kV8 dc8 pm8 an8 cd8 ct8), sl8⟩) (c8 : PySem.W.codeIn K cd8 "is_name" = true) (k8 : PySem.W.keepIn K (.ref f8) = true)
    (a9 : PySem.W.nsIn K mainGlobals "are_unlike" = some (some (.ref f9))) (l9 : K.lookup f9 = some ⟨oc9, od9, .func (PySem.W.fnOf "are_unlike" "are_unlike" (defArgs s_are_unlike) (defBody s_are_unlike) (defScope s_are_unlike) .none kV9 dc9 pm9 an9 cd9 ct9), sl9⟩) (c9 : PySem.W.codeIn K cd9 "are_unlike" = true) (k9 : PySem.W.keepIn K (.ref f9) = true)
    (a10 : PySem.W.nsIn K mainGlobals "are_classes" = some (some (.ref f10))) (l10 : K.lookup f10 = some ⟨oc10, od10, .func (PySem.W.fnOf "are_classes" "are_classes" (defArgs s_are_classes) (defBody s_are_classes) (defScope s_are_classes) .none kV10 dc10 pm10 an10 cd10 ct10), sl10⟩) (c10 : PySem.W.codeIn K cd10 "are_classes" = true) (k10 : PySem.W.keepIn K (.ref f10) = true)
    (a11 : PySem.W.nsIn K mainGlobals "is_pattern_leaf" = some (some (.ref f11))) (l11 : K.lookup f11 = some ⟨oc11, od11, .func (PySem.W.fnOf "is_pattern_leaf" "is_pattern_leaf" (defArgs s_is_pattern_leaf) (defBody s_is_pattern_leaf) (defScope s_is_pattern_leaf) .none kV11 dc11 pm11 an11 cd11 ct11), sl11⟩) (c11 : PySem.W.codeIn K cd11 "is_pattern_leaf" = true) (k11 : PySem.W.keepIn K (.ref f11) = true)
    (a12 : PySem.W.nsIn K mainGlobals "is_pattern" = some (some (.ref f12))) (l12 : K.lookup f12 = some ⟨oc12, od12, .func (PySem.W.fnOf "is_pattern" "is_pattern" (defArgs s_is_pattern) (defBody s_is_pattern) (defScope s_is_pattern) .none kV12 dc12 pm12 an12 (.ref cd12) ct12), sl12⟩) (c12 : PySem.W.codeIn K (.ref cd12) "is_pattern" = true) (k12 : PySem.W.keepIn K (.ref f12) = true)
    (q12 : PySem.W.codeHdIn K cd12 Pt0 = true)
    (a13 : PySem.W.nsIn K mainGlobals "is_tile" = some (some (.ref f13))) (l13 : K.lookup f13 = some ⟨oc13, od13, .func (PySem.W.fnOf "is_tile" "is_tile" (defArgs s_is_tile) (defBody s_is_tile) (defScope s_is_tile) .none kV13 dc13 pm13 an13 cd13 ct13), sl13⟩) (c13 : PySem.W.codeIn K cd13 "is_tile" = true) (k13 : PySem.W.keepIn K (.ref f13) = true)
    (a14 : PySem.W.nsIn K mainGlobals "are_tiles" = some (some (.ref f14))) (l14 : K.lookup f14 = some ⟨oc14, od14, .func (PySem.W.fnOf "are_tiles" "are_tiles" (defArgs s_are_tiles) (defBody s_are_tiles) (defScope s_are_tiles) .none kV14 dc14 pm14 an14 cd14 ct14), sl14⟩) (c14 : PySem.W.codeIn K cd14 "are_tiles" = true) (k14 : PySem.W.keepIn K (.ref f14) = true)
    (a15 : PySem.W.nsIn K mainGlobals "is_table" = some (some (.ref f15))) (l15 : K.lookup f15 = some ⟨oc15, od15, .func (PySem.W.fnOf "is_table" "is_table" (defArgs s_is_table) (defBody s_is_table) (defScope s_is_table) .none kV15 dc15 pm15 an15 cd15 ct15), sl15⟩) (c15 : PySem.W.codeIn K cd15 "is_table" = true) (k15 : PySem.W.keepIn K (.ref f15) = true)
    (a16 : PySem.W.nsIn K mainGlobals "holes" = some (some (.ref f16))) (l16 : K.lookup f16 = some ⟨oc16, od16, .func (PySem.W.fnOf "holes" "holes" (defArgs s_holes) (defBody s_holes) (defScope s_holes) .none kV16 dc16 pm16 an16 cd16 ct16), sl16⟩) (c16 : PySem.W.codeIn K cd16 "holes" = true) (k16 : PySem.W.keepIn K (.ref f16) = true)
    (a17 : PySem.W.nsIn K mainGlobals "_law_cell_at" = some (some (.ref f17))) (l17 : K.lookup f17 = some ⟨oc17, od17, .func (PySem.W.fnOf "_law_cell_at" "_law_cell_at" (defArgs s_law_cell_at) (defBody s_law_cell_at) (defScope s_law_cell_at) .none kV17 dc17 pm17 an17 cd17 ct17), sl17⟩) (c17 : PySem.W.codeIn K cd17 "_law_cell_at" = true) (k17 : PySem.W.keepIn K (.ref f17) = true)
    (a18 : PySem.W.nsIn K mainGlobals "_law_name_of" = some (some (.ref f18))) (l18 : K.lookup f18 = some ⟨oc18, od18, .func (PySem.W.fnOf "_law_name_of" "_law_name_of" (defArgs s_law_name_of) (defBody s_law_name_of) (defScope s_law_name_of) .none kV18 dc18 pm18 an18 cd18 ct18), sl18⟩) (c18 : PySem.W.codeIn K cd18 "_law_name_of" = true) (k18 : PySem.W.keepIn K (.ref f18) = true)
    (a19 : PySem.W.nsIn K mainGlobals "_law_wide" = some (some (.ref f19))) (l19 : K.lookup f19 = some ⟨oc19, od19, .func (PySem.W.fnOf "_law_wide" "_law_wide" (defArgs s_law_wide) (defBody s_law_wide) (defScope s_law_wide) .none kV19 dc19 pm19 an19 cd19 ct19), sl19⟩) (c19 : PySem.W.codeIn K cd19 "_law_wide" = true) (k19 : PySem.W.keepIn K (.ref f19) = true)
    (a20 : PySem.W.nsIn K mainGlobals "_law_fresh" = some (some (.ref f20))) (l20 : K.lookup f20 = some ⟨oc20, od20, .func (PySem.W.fnOf "_law_fresh" "_law_fresh" (defArgs s_law_fresh) (defBody s_law_fresh) (defScope s_law_fresh) .none kV20 dc20 pm20 an20 cd20 ct20), sl20⟩) (c20 : PySem.W.codeIn K cd20 "_law_fresh" = true) (k20 : PySem.W.keepIn K (.ref f20) = true)
    (a21 : PySem.W.nsIn K mainGlobals "_law_leaf" = some (some (.ref f21))) (l21 : K.lookup f21 = some ⟨oc21, od21, .func (PySem.W.fnOf "_law_leaf" "_law_leaf" (defArgs s_law_leaf) (defBody s_law_leaf) (defScope s_law_leaf) .none kV21 dc21 pm21 an21 cd21 ct21), sl21⟩) (c21 : PySem.W.codeIn K cd21 "_law_leaf" = true) (k21 : PySem.W.keepIn K (.ref f21) = true)
    (a22 : PySem.W.nsIn K mainGlobals "_law_fits" = some (some (.ref f22))) (l22 : K.lookup f22 = some ⟨oc22, od22, .func (PySem.W.fnOf "_law_fits" "_law_fits" (defArgs s_law_fits) (defBody s_law_fits) (defScope s_law_fits) .none kV22 dc22 pm22 an22 cd22 ct22), sl22⟩) (c22 : PySem.W.codeIn K cd22 "_law_fits" = true) (k22 : PySem.W.keepIn K (.ref f22) = true)
    (a23 : PySem.W.nsIn K mainGlobals "_law_paired" = some (some (.ref f23))) (l23 : K.lookup f23 = some ⟨oc23, od23, .func (PySem.W.fnOf "_law_paired" "_law_paired" (defArgs s_law_paired) (defBody s_law_paired) (defScope s_law_paired) .none kV23 dc23 pm23 an23 cd23 ct23), sl23⟩) (c23 : PySem.W.codeIn K cd23 "_law_paired" = true) (k23 : PySem.W.keepIn K (.ref f23) = true)
    (a24 : PySem.W.nsIn K mainGlobals "_law_pattern" = some (some (.ref f24))) (l24 : K.lookup f24 = some ⟨oc24, od24, .func (PySem.W.fnOf "_law_pattern" "_law_pattern" (defArgs s_law_pattern) (defBody s_law_pattern) (defScope s_law_pattern) .none kV24 dc24 pm24 an24 cd24 ct24), sl24⟩) (c24 : PySem.W.codeIn K cd24 "_law_pattern" = true) (k24 : PySem.W.keepIn K (.ref f24) = true)
    (a25 : PySem.W.nsIn K mainGlobals "_law_classes" = some (some (.ref f25))) (l25 : K.lookup f25 = some ⟨oc25, od25, .func (PySem.W.fnOf "_law_classes" "_law_classes" (defArgs s_law_classes) (defBody s_law_classes) (defScope s_law_classes) .none kV25 dc25 pm25 an25 cd25 ct25), sl25⟩) (c25 : PySem.W.codeIn K cd25 "_law_classes" = true) (k25 : PySem.W.keepIn K (.ref f25) = true)
    (a26 : PySem.W.nsIn K mainGlobals "_law_tile" = some (some (.ref f26))) (l26 : K.lookup f26 = some ⟨oc26, od26, .func (PySem.W.fnOf "_law_tile" "_law_tile" (defArgs s_law_tile) (defBody s_law_tile) (defScope s_law_tile) .none kV26 dc26 pm26 an26 cd26 ct26), sl26⟩) (c26 : PySem.W.codeIn K cd26 "_law_tile" = true) (k26 : PySem.W.keepIn K (.ref f26) = true)
    (a27 : PySem.W.nsIn K mainGlobals "_law_table" = some (some (.ref f27))) (l27 : K.lookup f27 = some ⟨oc27, od27, .func (PySem.W.fnOf "_law_table" "_law_table" (defArgs s_law_table) (defBody s_law_table) (defScope s_law_table) .none kV27 dc27 pm27 an27 cd27 ct27), sl27⟩) (c27 : PySem.W.codeIn K cd27 "_law_table" = true) (k27 : PySem.W.keepIn K (.ref f27) = true)
    (a28 : PySem.W.nsIn K mainGlobals "_law_way" = some (some (.ref f28))) (l28 : K.lookup f28 = some ⟨oc28, od28, .func (PySem.W.fnOf "_law_way" "_law_way" (defArgs s_law_way) (defBody s_law_way) (defScope s_law_way) .none kV28 dc28 pm28 an28 cd28 ct28), sl28⟩) (c28 : PySem.W.codeIn K cd28 "_law_way" = true) (k28 : PySem.W.keepIn K (.ref f28) = true)
    (a29 : PySem.W.nsIn K mainGlobals "_law_at" = some (some (.ref f29))) (l29 : K.lookup f29 = some ⟨oc29, od29, .func (PySem.W.fnOf "_law_at" "_law_at" (defArgs s_law_at) (defBody s_law_at) (defScope s_law_at) .none kV29 dc29 pm29 an29 cd29 ct29), sl29⟩) (c29 : PySem.W.codeIn K cd29 "_law_at" = true) (k29 : PySem.W.keepIn K (.ref f29) = true)
    (a30 : PySem.W.nsIn K mainGlobals "_law_put" = some (some (.ref f30))) (l30 : K.lookup f30 = some ⟨oc30, od30, .func (PySem.W.fnOf "_law_put" "_law_put" (defArgs s_law_put) (defBody s_law_put) (defScope s_law_put) .none kV30 dc30 pm30 an30 cd30 ct30), sl30⟩) (c30 : PySem.W.codeIn K cd30 "_law_put" = true) (k30 : PySem.W.keepIn K (.ref f30) = true)
    (a31 : PySem.W.nsIn K mainGlobals "_law_bad_piece" = some (some (.ref f31))) (l31 : K.lookup f31 = some ⟨oc31, od31, .func (PySem.W.fnOf "_law_bad_piece" "_law_bad_piece" (defArgs s_law_bad_piece) (defBody s_law_bad_piece) (defScope s_law_bad_piece) .none kV31 dc31 pm31 an31 cd31 ct31), sl31⟩) (c31 : PySem.W.codeIn K cd31 "_law_bad_piece" = true) (k31 : PySem.W.keepIn K (.ref f31) = true)
    (a32 : PySem.W.nsIn K mainGlobals "_law_bad_tile" = some (some (.ref f32))) (l32 : K.lookup f32 = some ⟨oc32, od32, .func (PySem.W.fnOf "_law_bad_tile" "_law_bad_tile" (defArgs s_law_bad_tile) (defBody s_law_bad_tile) (defScope s_law_bad_tile) .none kV32 dc32 pm32 an32 cd32 ct32), sl32⟩) (c32 : PySem.W.codeIn K cd32 "_law_bad_tile" = true) (k32 : PySem.W.keepIn K (.ref f32) = true)
    (a33 : PySem.W.nsIn K mainGlobals "_law_bad_table" = some (some (.ref f33))) (l33 : K.lookup f33 = some ⟨oc33, od33, .func (PySem.W.fnOf "_law_bad_table" "_law_bad_table" (defArgs s_law_bad_table) (defBody s_law_bad_table) (defScope s_law_bad_table) .none kV33 dc33 pm33 an33 cd33 ct33), sl33⟩) (c33 : PySem.W.codeIn K cd33 "_law_bad_table" = true) (k33 : PySem.W.keepIn K (.ref f33) = true)
    (a34 : PySem.W.nsIn K mainGlobals "_law_answers" = some (some (.ref f34))) (l34 : K.lookup f34 = some ⟨oc34, od34, .func (PySem.W.fnOf "_law_answers" "_law_answers" (defArgs s_law_answers) (defBody s_law_answers) (defScope s_law_answers) .none kV34 dc34 pm34 an34 cd34 ct34), sl34⟩) (c34 : PySem.W.codeIn K cd34 "_law_answers" = true) (k34 : PySem.W.keepIn K (.ref f34) = true)
    (a35 : PySem.W.nsIn K mainGlobals "law" = some (some (.ref f35))) (l35 : K.lookup f35 = some ⟨oc35, od35, .func (PySem.W.fnOf "law" "law" (defArgs s_law) (defBody s_law) (defScope s_law) .none kV35 dc35 pm35 an35 cd35 ct35), sl35⟩) (c35 : PySem.W.codeIn K cd35 "law" = true) (k35 : PySem.W.keepIn K (.ref f35) = true)
    (e0 : PySem.W.nsIn K mainGlobals "LETTERS" = some (some (.str (LET) tk0)))
    (e1 : PySem.W.nsIn K mainGlobals "LONGEST_NAME" = some (some (.int (8) tk1)))
    (e2 : PySem.W.nsIn K mainGlobals "GREATEST" = some (some (.int (1000000000000000000) tk2)))
    (e3 : PySem.W.nsIn K mainGlobals "MOST_CLASSES" = some (some (.int (6) tk3)))
    (e4 : PySem.W.nsIn K mainGlobals "MOST_TILES" = some (some (.int (40) tk4)))
    (e5 : PySem.W.nsIn K mainGlobals "MOST_PIECES" = some (some (.int (9) tk5)))
    (e6 : PySem.W.nsIn K mainGlobals "MOST_WITHIN" = some (some (.int (5) tk6)))
    (e7 : PySem.W.nsIn K mainGlobals "MOST_HOLES" = some (some (.int (4) tk7)))
    (e8 : PySem.W.nsIn K mainGlobals "GREATEST_PRICE" = some (some (.int (1000) tk8)))
    {dt0 : Addr} (ta0 : PySem.W.nsIn K mainGlobals "SIGNS" = some (some (.ref dt0))) (tb0 : KTD.tabLook KTD.flatLooks (fun b => K.lookup b) dt0 (tabP SIGNS) = true) (tc0 : KTD.hashesOf (fun b => K.lookup b) dt0 = (tabP SIGNS).map fun p => (PySem.strKind l.prog w).hash p.1)
    (z0 : PySem.W.nsIn K mainGlobals "len" = some none)
    (z1 : PySem.W.nsIn K mainGlobals "isinstance" = some none)
    (z2 : PySem.W.nsIn K mainGlobals "max" = some none)
    (z3 : PySem.W.nsIn K mainGlobals "range" = some none)
    (z4 : PySem.W.nsIn K mainGlobals "enumerate" = some none)
    (z5 : PySem.W.nsIn K mainGlobals "int" = some none)
    (z6 : PySem.W.nsIn K mainGlobals "bool" = some none)
    (z7 : PySem.W.nsIn K mainGlobals "tuple" = some none)
    (z8 : PySem.W.nsIn K mainGlobals "str" = some none)
    (z9 : PySem.W.nsIn K mainGlobals "all" = some none)
    (z10 : PySem.W.nsIn K mainGlobals "set" = some none)
    (z11 : PySem.W.nsIn K mainGlobals "abs" = some none)
    (z12 : PySem.W.nsIn K mainGlobals "list" = some none)
    : ∃ fd : FuncData, (∀ (s : Shared) (v : Value), BindsTo s fd ⟨[v], []⟩ [("script", v)]) ∧ ∀ base : Heap, K.In base → base.Ns mainGlobals mg → BmOk base mg → FnOk l.prog w K mg base CX0 14 fa fd ["script"] (liftSp K (spLaw Pt0)) := by
  have e := hfa.symm.trans (PySem.W.mg_of X G a35)
  cases e
  have F_is_whole := fun_mk (st := s_is_whole) l0 c0 k0
  have v_is_whole := PySem.W.mg_of X G a0
  have F_is_number := fun_mk (st := s_is_number) l1 c1 k1
  have v_is_number := PySem.W.mg_of X G a1
  have F_is_sign := fun_mk (st := s_is_sign) l2 c2 k2
  have v_is_sign := PySem.W.mg_of X G a2
  have F_is_shape := fun_mk (st := s_is_shape) l3 c3 k3
  have v_is_shape := PySem.W.mg_of X G a3
  have F_parts_of := fun_mk (st := s_parts_of) l4 c4 k4
  have v_parts_of := PySem.W.mg_of X G a4
  have F_places_of := fun_mk (st := s_places_of) l5 c5 k5
  have v_places_of := PySem.W.mg_of X G a5
  have F_shape_at := fun_mk (st := s_shape_at) l6 c6 k6
  have v_shape_at := PySem.W.mg_of X G a6
  have F_is_pass := fun_mk (st := s_is_pass) l7 c7 k7
  have v_is_pass := PySem.W.mg_of X G a7
  have F_is_name := fun_mk (st := s_is_name) l8 c8 k8
  have v_is_name := PySem.W.mg_of X G a8
  have F_are_unlike := fun_mk (st := s_are_unlike) l9 c9 k9
  have v_are_unlike := PySem.W.mg_of X G a9
  have F_are_classes := fun_mk (st := s_are_classes) l10 c10 k10
  have v_are_classes := PySem.W.mg_of X G a10
  have F_is_pattern_leaf := fun_mk (st := s_is_pattern_leaf) l11 c11 k11
  have v_is_pattern_leaf := PySem.W.mg_of X G a11
  have F_is_pattern := fun_mk (st := s_is_pattern) l12 c12 k12
  have v_is_pattern := PySem.W.mg_of X G a12
  have F_is_tile := fun_mk (st := s_is_tile) l13 c13 k13
  have v_is_tile := PySem.W.mg_of X G a13
  have F_are_tiles := fun_mk (st := s_are_tiles) l14 c14 k14
  have v_are_tiles := PySem.W.mg_of X G a14
  have F_is_table := fun_mk (st := s_is_table) l15 c15 k15
  have v_is_table := PySem.W.mg_of X G a15
  have F_holes := fun_mk (st := s_holes) l16 c16 k16
  have v_holes := PySem.W.mg_of X G a16
  have F_law_cell_at := fun_mk (st := s_law_cell_at) l17 c17 k17
  have v_law_cell_at := PySem.W.mg_of X G a17
  have F_law_name_of := fun_mk (st := s_law_name_of) l18 c18 k18
  have v_law_name_of := PySem.W.mg_of X G a18
  have F_law_wide := fun_mk (st := s_law_wide) l19 c19 k19
  have v_law_wide := PySem.W.mg_of X G a19
  have F_law_fresh := fun_mk (st := s_law_fresh) l20 c20 k20
  have v_law_fresh := PySem.W.mg_of X G a20
  have F_law_leaf := fun_mk (st := s_law_leaf) l21 c21 k21
  have v_law_leaf := PySem.W.mg_of X G a21
  have F_law_fits := fun_mk (st := s_law_fits) l22 c22 k22
  have v_law_fits := PySem.W.mg_of X G a22
  have F_law_paired := fun_mk (st := s_law_paired) l23 c23 k23
  have v_law_paired := PySem.W.mg_of X G a23
  have F_law_pattern := fun_mk (st := s_law_pattern) l24 c24 k24
  have v_law_pattern := PySem.W.mg_of X G a24
  have F_law_classes := fun_mk (st := s_law_classes) l25 c25 k25
  have v_law_classes := PySem.W.mg_of X G a25
  have F_law_tile := fun_mk (st := s_law_tile) l26 c26 k26
  have v_law_tile := PySem.W.mg_of X G a26
  have F_law_table := fun_mk (st := s_law_table) l27 c27 k27
  have v_law_table := PySem.W.mg_of X G a27
  have F_law_way := fun_mk (st := s_law_way) l28 c28 k28
  have v_law_way := PySem.W.mg_of X G a28
  have F_law_at := fun_mk (st := s_law_at) l29 c29 k29
  have v_law_at := PySem.W.mg_of X G a29
  have F_law_put := fun_mk (st := s_law_put) l30 c30 k30
  have v_law_put := PySem.W.mg_of X G a30
  have F_law_bad_piece := fun_mk (st := s_law_bad_piece) l31 c31 k31
  have v_law_bad_piece := PySem.W.mg_of X G a31
  have F_law_bad_tile := fun_mk (st := s_law_bad_tile) l32 c32 k32
  have v_law_bad_tile := PySem.W.mg_of X G a32
  have F_law_bad_table := fun_mk (st := s_law_bad_table) l33 c33 k33
  have v_law_bad_table := PySem.W.mg_of X G a33
  have F_law_answers := fun_mk (st := s_law_answers) l34 c34 k34
  have v_law_answers := PySem.W.mg_of X G a34
  have F_law := fun_mk (st := s_law) l35 c35 k35
  have v_law := PySem.W.mg_of X G a35
  have g_LETTERS := PySem.W.mg_of X G e0
  have g_LONGEST_NAME := PySem.W.mg_of X G e1
  have g_GREATEST := PySem.W.mg_of X G e2
  have g_MOST_CLASSES := PySem.W.mg_of X G e3
  have g_MOST_TILES := PySem.W.mg_of X G e4
  have g_MOST_PIECES := PySem.W.mg_of X G e5
  have g_MOST_WITHIN := PySem.W.mg_of X G e6
  have g_MOST_HOLES := PySem.W.mg_of X G e7
  have g_GREATEST_PRICE := PySem.W.mg_of X G e8
  have g_SIGNS := PySem.W.mg_of X G ta0
  have T_SIGNS : IsTab l.prog w K dt0 SIGNS := tab_of (by decide +kernel) tb0 tc0
  have m_len := PySem.W.mg_none_of X G z0
  have m_isinstance := PySem.W.mg_none_of X G z1
  have m_max := PySem.W.mg_none_of X G z2
  have m_range := PySem.W.mg_none_of X G z3
  have m_enumerate := PySem.W.mg_none_of X G z4
  have m_int := PySem.W.mg_none_of X G z5
  have m_bool := PySem.W.mg_none_of X G z6
  have m_tuple := PySem.W.mg_none_of X G z7
  have m_str := PySem.W.mg_none_of X G z8
  have m_all := PySem.W.mg_none_of X G z9
  have m_set := PySem.W.mg_none_of X G z10
  have m_abs := PySem.W.mg_none_of X G z11
  have m_list := PySem.W.mg_none_of X G z12
  refine ⟨PySem.W.fnOf "law" "law" (defArgs s_law) (defBody s_law) (defScope s_law) .none kV35 dc35 pm35 an35 cd35 ct35, fun s v => .of_eq rfl, fun base _ _ hB => ?_⟩
  have a0 : ∀ base, Callee l.prog w K mg base 1 "is_whole" spWholeG [] := fun base => ok_is_whole F_is_whole v_is_whole m_isinstance m_int m_bool
  have a1 : ∀ base, Callee l.prog w K mg base 2 "is_number" spNumber [] := fun base => ok_is_number F_is_number v_is_number g_GREATEST (a0 base)
  have a2 : ∀ base, Callee l.prog w K mg base 1 "is_sign" spSign [] := fun base => ok_is_sign F_is_sign v_is_sign m_isinstance m_tuple m_len m_str T_SIGNS g_SIGNS
  have a3 : ∀ base, Callee l.prog w K mg base 3 "is_pattern_leaf" spPLeaf [] := fun base => ok_pleaf F_is_pattern_leaf v_is_pattern_leaf m_isinstance m_tuple m_len (a1 base)
  have a4 := ok_is_name (P := l.prog) (w := w) (base := base) F_is_name v_is_name m_len m_isinstance m_str m_all g_LETTERS g_LONGEST_NAME
  have c0 := ok_parts_of (P := l.prog) (w := w) (base := base) F_parts_of v_parts_of T_SIGNS g_SIGNS
  have b0 := places_all F_places_of v_places_of m_enumerate c0 6
  have b1 := ok_shape_at F_shape_at v_shape_at c0
  have b5 := ok_holes F_holes v_holes b0 b1
  have e0 := ok_is_pattern F_is_pattern rfl v_is_pattern q12 hB v_is_shape k3 m_len g_MOST_PIECES g_MOST_WITHIN g_MOST_HOLES (fun base fl s _ A => ok_is_shape F_is_shape v_is_shape (a2 base) (ka := 3) A) (fun base _ => a3 base) b5
  have e1 := ok_is_tile F_is_tile v_is_tile m_isinstance m_tuple m_len g_GREATEST_PRICE a4 e0 (a0 base) (ok_is_pass F_is_pass v_is_pass)
  have e2 := ok_unlike (P := l.prog) (w := w) (base := base) F_are_unlike v_are_unlike m_len m_set
  have e3 := ok_are_classes F_are_classes v_are_classes m_isinstance m_tuple m_len m_all g_MOST_CLASSES a4 e2
  have e4 := ok_are_tiles F_are_tiles v_are_tiles m_isinstance m_tuple m_len m_all g_MOST_TILES e1 e2
  have e5 := ok_is_table F_is_table v_is_table m_isinstance m_tuple m_len e3 e4
  have e6 := ok_answers F_law_answers v_law_answers m_isinstance m_bool e5
  have d2 := ok_name_of (P := l.prog) (w := w) (base := base) F_law_name_of v_law_name_of m_len
  have d3 := ok_wide (P := l.prog) (w := w) (base := base) F_law_wide v_law_wide
  have d4 := ok_fresh F_law_fresh v_law_fresh d2
  have d5 := ok_leafK (P := l.prog) (w := w) (base := base) F_law_leaf v_law_leaf m_len m_str
  have d6 := ok_fits (P := l.prog) (w := w) (base := base) F_law_fits v_law_fits m_max
  have d7 := ok_paired (P := l.prog) (w := w) (base := base) F_law_paired v_law_paired m_max
  have d8 := ok_pat F_law_pattern v_law_pattern m_len m_int d6 d7 d5
  have d9 := ok_classes F_law_classes v_law_classes m_range m_tuple d3 d4
  have d10 := ok_tile F_law_tile v_law_tile m_len m_str d3 d4 d8
  have d11 := ok_table F_law_table v_law_table m_len m_int m_tuple d9 d10
  have g0 := ok_way (P := l.prog) (w := w) (base := base) F_law_way v_law_way m_len m_abs
  have g1 := ok_atP (P := l.prog) (w := w) (base := base) F_law_at v_law_at
  have g2 := put_all (P := l.prog) (w := w) (base := base) F_law_put v_law_put m_len 6
  have g3 := ok_bad_piece (P := l.prog) (w := w) (base := base) F_law_bad_piece v_law_bad_piece m_abs m_list
  have g4 := ok_bad_tile F_law_bad_tile v_law_bad_tile m_abs m_list g0 g1 g2 d4 g3
  have g5 := ok_bad_table F_law_bad_table v_law_bad_table m_len m_list m_tuple d4
  exact ok_law F_law m_len (ok_cell_at F_law_cell_at v_law_cell_at m_len) d11 e6 g4 g5
theorem tk0 {K : PySem.W.Frag} {f c Pt : Addr} {od an : Option Addr} {sl : Array (Option Value)} {oc kV dc pm ct : Value} (n : K.lookup Pt = none) (a : PySem.W.nsIn K mainGlobals "is_pattern" = some (some (.ref f))) (lk : K.lookup f = some ⟨oc, od, .func (PySem.W.fnOf "is_pattern" "is_pattern" (defArgs s_is_pattern) (defBody s_is_pattern) (defScope s_is_pattern) .none kV dc pm an (.ref c) ct), sl⟩) (q : PySem.W.codeHdIn K c Pt = true) : K.lookup Pt = none ∧ ∃ c, PySem.W.codeHdIn K c Pt = true := ⟨n, c, q⟩
theorem law_entry {K : PySem.W.Frag} {H : Hp} {a : Addr} {ns : List Int} {E : XK} (hl : ns.length ≤ 63) (hb : ∀ m ∈ ns, Builtin.Int.intBits m ≤ 2 ^ 20) (hS : SqL K H a (ns.map V.int)) (hT : ∀ p ∈ [(93 : Addr)], H p = some (.tbl #[])) : liftSp K (spLaw (93 : Addr)) [.ref a] H (fun v _ => v = .bl true) E :=
  entryT (ts := [((93 : Addr), QP)]) hS hT (by decide +kernel) ⟨ns, rfl, hl, hb, rfl, rfl⟩
theorem walk {l : PySem.W.OpenLaw} {q : Program} {loose : List Str} {XP : (Str → Option Value) → Heap → Prop} {YP : World → Heap → Prop} {d : DefRec} {K : Params → PySem.W.Frag} (hn : l.most = some 63) (hdf : d.params.defaults = [])
    (hY : ∀ (w : World) (h : Heap), YP w h → (K w.params).In h ∧ ∀ P ∈ [(93 : Addr)], h.get? P = some (PySem.W.tabObj #[]))
    (hTK : ∀ (w : World), ∀ P ∈ [(93 : Addr)], (K w.params).lookup P = none ∧ ∃ c, PySem.W.codeHdIn (K w.params) c P = true)
    (F : ∀ (w : World) (mg : Str → Option Value) (fa : Addr) (h : Heap), (K w.params).In h → h.Ns mainGlobals mg → mg d.name = some (.ref fa) →
      ∃ fd : FuncData, (∀ (s : Shared) (u : Value), BindsTo s fd ⟨[u], []⟩ [("script", u)]) ∧ ∀ base : Heap, (K w.params).In base → base.Ns mainGlobals mg → BmOk base mg → FnOk l.prog w (K w.params) mg base CX0 14 fa fd ["script"] (liftSp (K w.params) (spLaw (93 : Addr)))) :
    PySem.W.WalkO q loose XP YP l.row.toRowW d [] (fun f vs => PySem.call f vs) :=
  walk_ofTB (n := 63) (k := 14) (x := "script") (ts := [(93 : Addr)]) (sp := fun w => liftSp (K w.params) (spLaw (93 : Addr))) hn (by decide) hdf ⟨rfl, by decide, by decide⟩ hY hTK F (fun w H a ns hl hb _ hS hT => law_entry hl hb hS hT)
end K10
namespace PySem.W.Fast
def tw10088605880111722174:=0
def tw10262521585370573915:=0
def tw1034833565462822095:=0
def tw10361167814646664113:=0
def tw10435712491505001984:=0
def tw10775533564906110479:=0
def tw10835172276787697297:=0
def tw11175476494262835698:=0
def tw11354332905832830824:=0
def tw1150835509144541399:=0
def tw11529452081641733578:=0
def tw11590842993191668733:=0
def tw11793687631777218240:=0
def tw11854108767085216966:=0
def tw11917268024562812722:=0
def tw12090481913080408376:=0
def tw1209236857047200293:=0
def tw12093937907488717565:=0
def tw12099934353758080218:=0
def tw12207345855738362758:=0
def tw12219965479427740125:=0
def tw12266239513579100966:=0
def tw122865893230932946:=0
def tw12427627032340677976:=0
def tw12445529856914003070:=0
def tw12647686598056359846:=0
def tw12765978966655995645:=0
def tw12808027787801103800:=0
def tw12916964389014697276:=0
def tw12926510073807170942:=0
def tw13030789026383208267:=0
def tw13060236667452887307:=0
def tw1309144805164767570:=0
def tw13095411468878020409:=0
def tw13098379952368227672:=0
def tw13121947115961963654:=0
def tw13174105229033053395:=0
def tw13249679613370061867:=0
def tw13255552113950032084:=0
def tw13378844462437387007:=0
def tw13389215039221992602:=0
def tw13503604492064349377:=0
def tw13563372533238904618:=0
def tw13582459923309738927:=0
def tw13969137160045001572:=0
def tw13971616423133847336:=0
def tw14068855821790081026:=0
def tw14077094760422482143:=0
def tw14083954504648848253:=0
def tw14270875031560205906:=0
def tw14362896460483771421:=0
def tw14395868157336880956:=0
def tw14430160340157335893:=0
def tw14439402271478343166:=0
def tw14444199809223101073:=0
def tw14480384609855644672:=0
def tw14595445439982818987:=0
def tw14597530306594588210:=0
def tw14795233651058246522:=0
def tw14816423295898531245:=0
def tw14861334362852051430:=0
def tw1499795998468980688:=0
def tw15156259587781523530:=0
def tw15157903190277434109:=0
def tw15189943538178138808:=0
def tw15195295621621515978:=0
def tw15213190579368715165:=0
def tw15429576518263408349:=0
def tw15437163317636830988:=0
def tw15520657192974324811:=0
def tw15563916837152390543:=0
def tw15577670197071480912:=0
def tw15599485463205758815:=0
def tw15666138220716620446:=0
def tw1568778681823393882:=0
def tw15710314032201659034:=0
def tw15919538405517260117:=0
def tw16000187040481735392:=0
def tw16127717911882489406:=0
def tw16194259640366923119:=0
def tw16289047446641329506:=0
def tw16302597120321417560:=0
def tw16307968812639872944:=0
def tw16443996184600562861:=0
def tw16652350758863212957:=0
def tw16698081443663110882:=0
def tw16728602105075235142:=0
def tw1693344814834750434:=0
def tw16990891498335141713:=0
def tw17065437767417772124:=0
def tw17155290981990044613:=0
def tw17162583173833875867:=0
def tw1732052808982135777:=0
def tw1738379308892921252:=0
def tw17418518720685043215:=0
def tw17441225012910640431:=0
def tw17442857643054545829:=0
def tw17522627222866201876:=0
def tw17531904157785347543:=0
def tw17617387591332658339:=0
def tw17695844665057558705:=0
def tw17714718055881753872:=0
def tw17744003646278112869:=0
def tw17810877188182799908:=0
def tw18032361653764344244:=0
def tw18156799832946923942:=0
def tw18178420409040223765:=0
def tw18181990763636581545:=0
def tw18290261633268976948:=0
def tw18379183527538420117:=0
def tw1875369788995156471:=0
def tw2058050712795959575:=0
def tw210111310648161393:=0
def tw2125034197141677731:=0
def tw2305822594430586398:=0
def tw2348858064287396677:=0
def tw2426473748538243500:=0
def tw2590394621599837344:=0
def tw2610341006182238046:=0
def tw2649378357332483743:=0
def tw2712963338120818660:=0
def tw280477014144219503:=0
def tw2979673325521227630:=0
def tw3000349629919753891:=0
def tw3004863345441667544:=0
def tw3090757196024137371:=0
def tw314923021665737235:=0
def tw3263063517615082807:=0
def tw3325204692816431628:=0
def tw3366334881314990427:=0
def tw3431752913319636401:=0
def tw3460067614057397206:=0
def tw3551406032540294781:=0
def tw3563331439863448588:=0
def tw3624458635535413713:=0
def tw3857731393674401227:=0
def tw3889642467696764008:=0
def tw4050735941646870684:=0
def tw4158390765338372448:=0
def tw425005736674810707:=0
def tw4354528662119086912:=0
def tw440642988770134170:=0
def tw4526495947611618564:=0
def tw4544265703215009133:=0
def tw4628025759205371413:=0
def tw4663550945883670411:=0
def tw4746114372608550683:=0
def tw482608344444776064:=0
def tw4876044821542219041:=0
def tw4889781488617479673:=0
def tw4957627234331787269:=0
def tw5036285687713463520:=0
def tw5039911078401580754:=0
def tw5128072072894931606:=0
def tw5148779874940704516:=0
def tw5164003634632215238:=0
def tw5233324370877219110:=0
def tw5371307511871990860:=0
def tw5545950475790204286:=0
def tw564592735170370429:=0
def tw5700676408676046941:=0
def tw5805367191048951798:=0
def tw5885525382359400628:=0
def tw5903529470972105440:=0
def tw5939639987895159458:=0
def tw614661433497266361:=0
def tw6155082279569164943:=0
def tw6177541926468888873:=0
def tw6262793871877132661:=0
def tw6266672165074363164:=0
def tw6268007897868834219:=0
def tw6299090211212951240:=0
def tw6329993067457987105:=0
def tw6381904296310727545:=0
def tw6490412758101056898:=0
def tw659291557056581212:=0
def tw6594350382974961242:=0
def tw6614236435603380509:=0
def tw666250248822030609:=0
def tw6712446677060629224:=0
def tw6733533728537708909:=0
def tw6811689296987710762:=0
def tw6905075156312729410:=0
def tw6999808064855265245:=0
def tw7036789620011149743:=0
def tw7132083123249854358:=0
def tw7224816505635545599:=0
def tw7324572869941418756:=0
def tw7386975548494039703:=0
def tw7484452424819452727:=0
def tw7524836413097470340:=0
def tw7604983397471024427:=0
def tw7992605009374137176:=0
def tw8099371669772475399:=0
def tw8140178106862944488:=0
def tw8192655337484639543:=0
def tw8247334885517885832:=0
def tw8249586969146278772:=0
def tw8373076484379436342:=0
def tw8381214928292362515:=0
def tw839368116435124291:=0
def tw8399215922174196888:=0
def tw8482897601802769242:=0
def tw8537141386764729038:=0
def tw8550199866044601739:=0
def tw8623964637295577633:=0
def tw8653133410454619850:=0
def tw8668476724867589136:=0
def tw8731284484721993165:=0
def tw8767325136926033620:=0
def tw8822650707478153223:=0
def tw8822878874261409063:=0
def tw8880720360303288590:=0
def tw8940981682590720077:=0
def tw8984187078212272437:=0
def tw9033821898733042979:=0
def tw9064075310371073375:=0
def tw909040295656925891:=0
def tw9116556686362836436:=0
def tw9228384744039634855:=0
def tw9347496082986539668:=0
def tw9580153770908662845:=0
def tw9595202895718811174:=0
def tw962929910075850213:=0
def tw9675722691558475163:=0
def tw9709732822117634233:=0
def tw9743232733250186619:=0
def tw9759589862613632740:=0
end PySem.W.Fast
open PySem PySem.W PyProof.Rows
set_option maxRecDepth 100000 in
set_option maxHeartbeats 0 in
theorem PySem.Challenge.cw_rowsmith_k10_tables_holds : PySem.Challenge.rw_rowsmith_k10_tables.Holds := by
  w_on; o_law; k_head; (case hw => w_witness2)
  k_fill
  refine K10.walk (l := PySem.Challenge.rw_rowsmith_k10_tables) rfl rfl (fun w h Y => ⟨PySem.W.km_in_of Y, PySem.W.km_tabs_of Y⟩) ?T ?F
  case T =>
    intro w P hP
    simp only [List.mem_cons, List.not_mem_nil, or_false] at hP
    rcases hP with rfl
    · refine' K10.tk0 ?tkn ?tka ?tkl ?tkq
      (case tkn => kernel_rfl)
      (case tka => k_is)
      (case tkl => k_is)
      (case tkq => kernel_rfl)
  case F =>
    intro w mg fa h KX G hmg
    refine' K10.all_mk (93 : Addr) KX G hmg ?a0 ?l0 ?c0 ?k0 ?a1 ?l1 ?c1 ?k1 ?a2 ?l2 ?c2 ?k2 ?a3 ?l3 ?c3 ?k3 ?a4 ?l4 ?c4 ?k4 ?a5 ?l5 ?c5 ?k5 ?a6 ?l6 ?c6 ?k6 ?a7 ?l7 ?c7 ?k7 ?a8 ?l8 ?c8 ?k8 ?a9 ?l9 ?c9 ?k9 ?a10 ?l10 ?c10 ?k10 ?a11 ?l11 ?c11 ?k11 ?a12 ?l12 ?c12 ?k12 ?q12 ?a13 ?l13 ?c13 ?k13 ?a14 ?l14 ?c14 ?k14 ?a15 ?l15 ?c15 ?k15 ?a16 ?l16 ?c16 ?k16 ?a17 ?l17 ?c17 ?k17 ?a18 ?l18 ?c18 ?k18 ?a19 ?l19 ?c19 ?k19 ?a20 ?l20 ?c20 ?k20 ?a21 ?l21 ?c21 ?k21 ?a22 ?l22 ?c22 ?k22 ?a23 ?l23 ?c23 ?k23 ?a24 ?l24 ?c24 ?k24 ?a25 ?l25 ?c25 ?k25 ?a26 ?l26 ?c26 ?k26 ?a27 ?l27 ?c27 ?k27 ?a28 ?l28 ?c28 ?k28 ?a29 ?l29 ?c29 ?k29 ?a30 ?l30 ?c30 ?k30 ?a31 ?l31 ?c31 ?k31 ?a32 ?l32 ?c32 ?k32 ?a33 ?l33 ?c33 ?k33 ?a34 ?l34 ?c34 ?k34 ?a35 ?l35 ?c35 ?k35 ?e0 ?e1 ?e2 ?e3 ?e4 ?e5 ?e6 ?e7 ?e8 ?ta0 ?tb0 ?tc0 ?z0 ?z1 ?z2 ?z3 ?z4 ?z5 ?z6 ?z7 ?z8 ?z9 ?z10 ?z11 ?z12
    (case a0 => k_is)
    (case l0 => k_is)
    (case c0 => k_is)
    (case k0 => k_is)
    (case a1 => k_is)
    (case l1 => k_is)
    (case c1 => k_is)
    (case k1 => k_is)
    (case a2 => k_is)
    (case l2 => k_is)
    (case c2 => k_is)
    (case k2 => k_is)
    (case a3 => k_is)
    (case l3 => k_is)
    (case c3 => k_is)
    (case k3 => k_is)
    (case a4 => k_is)
    (case l4 => k_is)
    (case c4 => k_is)
    (case k4 => k_is)
    (case a5 => k_is)
    (case l5 => k_is)
    (case c5 => k_is)
    (case k5 => k_is)
    (case a6 => k_is)
    (case l6 => k_is)
    (case c6 => k_is)
    (case k6 => k_is)
    (case a7 => k_is)
    (case l7 => k_is)
    (case c7 => k_is)
    (case k7 => k_is)
    (case a8 => k_is)
    (case l8 => k_is)
    (case c8 => k_is)
    (case k8 => k_is)
    (case a9 => k_is)
    (case l9 => k_is)
    (case c9 => k_is)
    (case k9 => k_is)
    (case a10 => k_is)
    (case l10 => k_is)
    (case c10 => k_is)
    (case k10 => k_is)
    (case a11 => k_is)
    (case l11 => k_is)
    (case c11 => k_is)
    (case k11 => k_is)
    (case a12 => k_is)
    (case l12 => k_is)
    (case c12 => k_is)
    (case k12 => k_is)
    (case q12 => kernel_rfl)
    (case a13 => k_is)
    (case l13 => k_is)
    (case c13 => k_is)
    (case k13 => k_is)
    (case a14 => k_is)
    (case l14 => k_is)
    (case c14 => k_is)
    (case k14 => k_is)
    (case a15 => k_is)
    (case l15 => k_is)
    (case c15 => k_is)
    (case k15 => k_is)
    (case a16 => k_is)
    (case l16 => k_is)
    (case c16 => k_is)
    (case k16 => k_is)
    (case a17 => k_is)
    (case l17 => k_is)
    (case c17 => k_is)
    (case k17 => k_is)
    (case a18 => k_is)
    (case l18 => k_is)
    (case c18 => k_is)
    (case k18 => k_is)
    (case a19 => k_is)
    (case l19 => k_is)
    (case c19 => k_is)
    (case k19 => k_is)
    (case a20 => k_is)
    (case l20 => k_is)
    (case c20 => k_is)
    (case k20 => k_is)
    (case a21 => k_is)
    (case l21 => k_is)
    (case c21 => k_is)
    (case k21 => k_is)
    (case a22 => k_is)
    (case l22 => k_is)
    (case c22 => k_is)
    (case k22 => k_is)
    (case a23 => k_is)
    (case l23 => k_is)
    (case c23 => k_is)
    (case k23 => k_is)
    (case a24 => k_is)
    (case l24 => k_is)
    (case c24 => k_is)
    (case k24 => k_is)
    (case a25 => k_is)
    (case l25 => k_is)
    (case c25 => k_is)
    (case k25 => k_is)
    (case a26 => k_is)
    (case l26 => k_is)
    (case c26 => k_is)
    (case k26 => k_is)
    (case a27 => k_is)
    (case l27 => k_is)
    (case c27 => k_is)
    (case k27 => k_is)
    (case a28 => k_is)
    (case l28 => k_is)
    (case c28 => k_is)
    (case k28 => k_is)
    (case a29 => k_is)
    (case l29 => k_is)
    (case c29 => k_is)
    (case k29 => k_is)
    (case a30 => k_is)
    (case l30 => k_is)
    (case c30 => k_is)
    (case k30 => k_is)
    (case a31 => k_is)
    (case l31 => k_is)
    (case c31 => k_is)
    (case k31 => k_is)
    (case a32 => k_is)
    (case l32 => k_is)
    (case c32 => k_is)
    (case k32 => k_is)
    (case a33 => k_is)
    (case l33 => k_is)
    (case c33 => k_is)
    (case k33 => k_is)
    (case a34 => k_is)
    (case l34 => k_is)
    (case c34 => k_is)
    (case k34 => k_is)
    (case a35 => k_is)
    (case l35 => k_is)
    (case c35 => k_is)
    (case k35 => k_is)
    (case e0 => k_is)
    (case e1 => k_is)
    (case e2 => k_is)
    (case e3 => k_is)
    (case e4 => k_is)
    (case e5 => k_is)
    (case e6 => k_is)
    (case e7 => k_is)
    (case e8 => k_is)
    (case ta0 => k_is)
    (case tb0 => kernel_rfl)
    (case tc0 => kernel_rfl)
    (case z0 => k_is)
    (case z1 => k_is)
    (case z2 => k_is)
    (case z3 => k_is)
    (case z4 => k_is)
    (case z5 => k_is)
    (case z6 => k_is)
    (case z7 => k_is)
    (case z8 => k_is)
    (case z9 => k_is)
    (case z10 => k_is)
    (case z11 => k_is)
    (case z12 => k_is)
#print axioms PySem.Challenge.cw_rowsmith_k10_tables_holds