import PyProof.Rows.All
import Wide.All
import OpenK.AllK
import Wide.FinOn
import Lean
import PyProof.EqAt
import PyProof.EqKinds
import PyProof.TupleCall
import PySem.Challenge.RW_rowsmith_k09_whole_texts_judged
import PyProof.TupleKey
import KE.KRevIter
import PyProof.ListRange
import PyProof.CollectIter
import PyProof.Rows.SortWalk
import PyProof.ListMulRoad
import PyProof.AutoListH
import PyProof.Rows.SortStr
import PyProof.FactsAll.tuple_2
import KE.KLam
import KE.KNestM
import PyProof.ExcInit
import PyProof.InstStoreFacts
import PyProof.RulesAs
import PyProof.NsDelKeeps
import PyProof.ExcBaseAll.ValueError
import PyProof.ExcArgsOwn
import KE.KIsAll
import PyProof.Rows.FStr
import PyProof.CollectWalk
import PyProof.TupleOfGen
import PyProof.EnumMake
import PyProof.Rows.StrSplitMax
import PyProof.StrLawsTight
set_option linter.all false
set_option maxRecDepth 100000
set_option maxHeartbeats 4000000
namespace PySem
open Sem (wp)
section
variable {prog : Program} {w : World} {K : Type} [DecidableEq K] (knd : KeyKind prog w K)
def IsPairKey (h : Heap) (x : List K × K) (a : Addr) : Prop := ∃ o n b v, h.get? a = some o ∧ o.cls = .type "tuple" ∧ o.data = .seq #[.ref b, v] n ∧ IsTupleKey knd h x.1 b ∧ knd.is x.2 v = true
variable {knd}
theorem IsPairKey.typeIs {s : Shared} {x : List K × K} {a : Addr} (p : IsPairKey knd s.heap x a) : s.TypeIs (.ref a) "tuple" := let ⟨o, _, _, _, ho, hc, _⟩ := p; ⟨o, ho, hc⟩
theorem IsPairKey.inj {h : Heap} {a : Addr} {x y : List K × K} (hx : IsPairKey knd h x a) (hy : IsPairKey knd h y a) : x = y := by
  obtain ⟨o, n, b, v, ho, _, hd, h1, h2⟩ := hx
  obtain ⟨o', n', b', v', ho', _, hd', h1', h2'⟩ := hy
  obtain rfl : o = o' := Option.some.inj (ho.symm.trans ho')
  rw [hd] at hd'
  injection hd' with e _
  have e1 : (.ref b : Value) = .ref b' ∧ v = v' := by simpa using e
  obtain ⟨e2, rfl⟩ := e1
  cases e2
  exact Prod.ext (h1.inj h1') (knd.inj _ _ _ h2 h2')
theorem IsPairKey.keeps {h h' : Heap} {x : List K × K} {a d : Addr} {o : Obj} {es ep} (p : IsPairKey knd h x a) (ho : h.get? d = some o) (hd : o.data = .dict es ep) (hs : Heap.SameBut d h h') : IsPairKey knd h' x a := by
  obtain ⟨o', n, b, v, ho', hc, hd', h1, h2⟩ := p
  have hne : a ≠ d := by
    rintro rfl
    obtain rfl : o' = o := Option.some.inj (ho'.symm.trans ho)
    rw [hd] at hd'; exact nomatch hd'
  exact ⟨o', n, b, v, (hs.2 a hne).trans ho', hc, hd', h1.keeps ho hd hs, h2⟩
def pairKeyHash (knd : KeyKind prog w K) (x : List K × K) : Int := reduceHash (Builtin.Tuple.tupleHashOf [tupleKeyHash knd x.1, knd.hash x.2])
variable {A : Around} {E : Value → Shared → Prop} {s : Shared}
theorem wpAny_pyHash_pair {x : List K × K} {a : Addr} {Q : Int → Shared → Prop} (hu : A.units + 1 < cLine) (hk : IsPairKey knd s.heap x a) (h : Q (pairKeyHash knd x) { s with toks := s.toks + (x.1.length + 3) }) :
    wpAny (model prog w) A (pyHash (.ref a)) Q E s := by
  have hT := hk.typeIs
  obtain ⟨o, n, b, v, ho, _, hd, h1, h2⟩ := hk
  unfold pyHash
  first | unfold pyHashByItsType | skip
  first | refine wpAny_bind (wpAny_cRoomFor_or (.inr (by omega)) ?_) | skip
  refine wpAny_bind (wpAny_specialOf hT F.slot_tuple_hash.lookup ?_)
  show wpAny _ _ (if (some (Value.builtin "tuple.__hash__") == some Value.none) = true then _ else _) Q E s
  rw [if_neg (by rw [beq_builtin_none]; exact Bool.false_ne_true)]
  refine wpAny_bind (wpAny_specialOf hT F.slot_tuple_hash.lookup ?_)
  show wpAny _ _ (callSpecialIfBoundUnlessNone? (.ref a) "__hash__" _ >>= _) Q E s
  refine wpAny_bind (wpAny_callSpecialIfBoundUnlessNone?_slot hT F.slot_tuple_hash (wpAny_call_entry F.slot_tuple_hash hT F.entry_tuple_hash ?_ (F.args_tuple_hash_1 _)))
  show wpAny _ _ (Builtin.Tuple.tupleItemsOf (.ref a) >>= _) _ _ s
  refine wpAny_bind (wpAny_tupleItemsOf ho hd ?_)
  refine wpAny_bind ?_
  rw [← Array.forIn_toList]
  refine wpAny_forIn_list _
    (fun rest (r : Array Int) s' => (rest = [.ref b, v] ∧ r.toList = [] ∧ s' = s) ∨ (rest = [v] ∧ r.toList = [tupleKeyHash knd x.1] ∧ s' = { s with toks := s.toks + (x.1.length + 1) }) ∨ (rest = [] ∧ r.toList = [tupleKeyHash knd x.1, knd.hash x.2] ∧ s' = { s with toks := s.toks + (x.1.length + 1) + 1 }))
    _ ?_ ?_ _ _ (.inl ⟨rfl, rfl, rfl⟩)
  · rintro y rest r s' (⟨hr, hb, rfl⟩ | ⟨hr, hb, rfl⟩ | ⟨hr, _⟩)
    · cases hr
      refine wpAny_bind (wpAny_pyHash_tuple (by first | exact hu | (show A.units + 1 < cLine; exact hu)) h1 ?_)
      first
        | exact wpAny_pure (.inr (.inl ⟨rfl, by simp [hb], rfl⟩))
        | exact wpAny_bind (wpAny_pure (wpAny_pure (.inr (.inl ⟨rfl, by simp [hb], rfl⟩))))
    · cases hr
      refine wpAny_bind (knd.pyHash h2 ?_)
      first
        | exact wpAny_pure (.inr (.inr ⟨rfl, by simp [hb], rfl⟩))
        | exact wpAny_bind (wpAny_pure (wpAny_pure (.inr (.inr ⟨rfl, by simp [hb], rfl⟩))))
    · cases hr
  · rintro r s' (⟨hr, _⟩ | ⟨hr, _⟩ | ⟨_, hb, rfl⟩)
    · cases hr
    · cases hr
    · show wpAny _ _ (retInt (Builtin.Tuple.tupleHashOf r.toList)) _ _ _
      rw [hb]
      refine wpAny_ret_mkInt ?_
      show wpAny _ _ (if (decide (-(2 : Int) ^ 63 ≤ Builtin.Tuple.tupleHashOf [tupleKeyHash knd x.1, knd.hash x.2]) && decide (Builtin.Tuple.tupleHashOf [tupleKeyHash knd x.1, knd.hash x.2] < 2 ^ 63)) = true then _ else _) Q E _
      unfold pairKeyHash reduceHash at h
      by_cases hr : (decide (-(2 : Int) ^ 63 ≤ Builtin.Tuple.tupleHashOf [tupleKeyHash knd x.1, knd.hash x.2]) && decide (Builtin.Tuple.tupleHashOf [tupleKeyHash knd x.1, knd.hash x.2] < 2 ^ 63)) = true
      · rw [if_pos hr]
        rw [if_pos hr] at h
        exact wpAny_pure (by simpa [Nat.add_assoc] using h)
      · rw [if_neg hr]
        rw [if_neg hr] at h
        exact wpAny_bind (wpAny_rule (wpAny_pure (by simpa [Nat.add_assoc] using h)))
theorem pair_eq_tree {x y : List K × K} {a b : Addr} {P : Fin → Shared → Prop} (hu : A.units < cLine) (hx : IsPairKey knd s.heap x a) (hy : IsPairKey knd s.heap y b) (h : P (.done (.ret (.bool (decide (x = y))))) s) :
    wpAny (model prog w) A (Builtin.«tuple.__eq__» ⟨[.ref a, .ref b], []⟩) P E s := by
  have hTb := hy.typeIs
  obtain ⟨oa, na, a1, v1, hoa, _, hda, p1, q1⟩ := hx
  obtain ⟨ob, nb, a2, v2, hob, _, hdb, p2, q2⟩ := hy
  show wpAny _ _ (isInstance (.ref b) (.type "tuple") >>= _) _ _ s
  refine wpAny_bind (wpAny_isInstance hTb isSubtype_tuple_tuple ?_)
  simp only [Bool.not_true, Bool.false_eq_true, if_false]
  refine wpAny_bind (wpAny_tupleItemsOf hoa hda ?_)
  refine wpAny_bind (wpAny_tupleItemsOf hob hdb ?_)
  refine wpAny_bind ?_
  refine wpAny_forIn_list _
    (fun rest r s' => r.1 = none ∧ s' = s ∧ ((rest = [(.ref a1, .ref a2), (v1, v2)]) ∨ (rest = [(v1, v2)] ∧ x.1 = y.1) ∨ (rest = [] ∧ x = y)))
    _ ?_ ?_ _ _ ⟨rfl, rfl, .inl rfl⟩
  · rintro ⟨u, v⟩ rest r s' ⟨hr, rfl, hz | ⟨hz, e⟩ | ⟨hz, _⟩⟩
    · cases hz
      refine wpAny_bind (wpAny_eqBool_tuple hu p1 p2 ?_)
      by_cases hk : x.1 = y.1
      · rw [decide_eq_true hk]
        simp only [Bool.not_true, Bool.false_eq_true, if_false]
        exact wpAny_pure ⟨rfl, rfl, by simp [hk]⟩
      · rw [decide_eq_false hk]
        simp only [Bool.not_false, if_true]
        have hf : decide (x = y) = false := decide_eq_false fun z => hk (by rw [z])
        rw [hf] at h
        exact wpAny_bind (wpAny_pure (wpAny_pure (wpAny_pure h)))
    · cases hz
      refine wpAny_bind (knd.eqBool (a := x.2) (b := y.2) q1 q2 ?_)
      by_cases hk : x.2 = y.2
      · rw [decide_eq_true hk]
        simp only [Bool.not_true, Bool.false_eq_true, if_false]
        exact wpAny_pure ⟨rfl, rfl, .inr (.inr ⟨trivial, Prod.ext e hk⟩)⟩
      · rw [decide_eq_false hk]
        simp only [Bool.not_false, if_true]
        have hf : decide (x = y) = false := decide_eq_false fun z => hk (by rw [z])
        rw [hf] at h
        exact wpAny_bind (wpAny_pure (wpAny_pure (wpAny_pure h)))
    · cases hz
  · rintro ⟨r1, r2⟩ s' ⟨hr, rfl, hz | ⟨hz, _⟩ | ⟨_, e⟩⟩
    · cases hz
    · cases hz
    · simp only at hr
      subst hr
      refine wpAny_pure ?_
      rw [decide_eq_true e] at h
      exact h
theorem wpAny_eqBool_pair {x y : List K × K} {a b : Addr} {Q : Bool → Shared → Prop} (hu : A.units + 1 < cLine) (hx : IsPairKey knd s.heap x a) (hy : IsPairKey knd s.heap y b) (h : Q (decide (x = y)) s) :
    wpAny (model prog w) A (eqBool (.ref a) (.ref b)) Q E s := by
  unfold eqBool
  try with_reducible refine wpAny_holding ?_
  show wpAny _ _ (if (Value.ref a == Value.ref b) = true then _ else _) Q E s
  by_cases hab : (Value.ref a == Value.ref b) = true
  · rw [if_pos hab]
    have e : a = b := by have := eq_of_beq hab; injection this
    subst e
    obtain rfl := hx.inj hy
    exact wpAny_bind (wpAny_rule (wpAny_pure (by simpa using h)))
  · rw [if_neg hab]
    exact wpAny_bind (wpAny_richCompare_same_room (op := .Eq) hx.typeIs hy.typeIs F.slot_tuple_eq
      (wpAny_call_entry F.slot_tuple_eq hx.typeIs F.entry_tuple_eq (pair_eq_tree (by first | exact hu | (show A.units + 1 < cLine; exact hu)) hx hy ⟨_, rfl, (fun e => nomatch e), wpAny_truthy_bool h⟩) (F.args_tuple_eq_2 _ _)) (by omega))
theorem wpAny_eqIsQuiet_pair {x : List K × K} {a : Addr} {Q : Bool → Shared → Prop} (hk : IsPairKey knd s.heap x a) (h : Q true s) : wpAny (model prog w) A (eqIsQuiet 8 (.ref a)) Q E s := by
  have hT := hk.typeIs
  obtain ⟨o, n, b, v, ho, _, hd, h1, h2⟩ := hk
  have inner : ∀ {Q : Bool → Shared → Prop}, Q true s → wpAny (model prog w) A (eqIsQuiet 7 (.ref b)) Q E s := by
    intro Q h
    have hT := h1.typeIs
    obtain ⟨o, items, n, ho, _, hd, hi⟩ := h1
    unfold eqIsQuiet
    refine wpAny_bind (wpAny_specialOf hT F.slot_tuple_eq.lookup ?_)
    show wpAny _ _ (isInstance (.ref b) (.type "tuple") >>= _) _ _ s
    refine wpAny_bind (wpAny_isInstance hT isSubtype_tuple_tuple ?_)
    simp only [Bool.not_true, Bool.false_eq_true, if_false]
    refine wpAny_bind (wpAny_seqItems ho hd ?_)
    refine wpAny_bind ?_
    show wpAny _ _ (forIn items _ _) _ _ s
    rw [← Array.forIn_toList]
    refine wpAny_forIn_list _ (fun rest r s' => r.1 = none ∧ s' = s ∧ ∀ v ∈ rest, carriedByValue v = true) _ ?_ ?_ _ _ ⟨rfl, rfl, hi.byValue⟩
    · rintro v rest r s' ⟨hr, rfl, hall⟩
      rw [eqIsQuiet_byValue _ (hall v List.mem_cons_self)]
      refine wpAny_bind (wpAny_pure ?_)
      simp only [Bool.not_true, Bool.false_eq_true, if_false]
      exact wpAny_pure ⟨rfl, rfl, fun u hu' => hall u (List.mem_cons_of_mem _ hu')⟩
    · rintro ⟨r1, r2⟩ s' ⟨hr, rfl, _⟩
      simp only at hr
      subst hr
      exact wpAny_pure h
  unfold eqIsQuiet
  refine wpAny_bind (wpAny_specialOf hT F.slot_tuple_eq.lookup ?_)
  show wpAny _ _ (isInstance (.ref a) (.type "tuple") >>= _) _ _ s
  refine wpAny_bind (wpAny_isInstance hT isSubtype_tuple_tuple ?_)
  simp only [Bool.not_true, Bool.false_eq_true, if_false]
  refine wpAny_bind (wpAny_seqItems ho hd ?_)
  refine wpAny_bind ?_
  show wpAny _ _ (forIn #[Value.ref b, v] _ _) _ _ s
  rw [← Array.forIn_toList]
  refine wpAny_forIn_list _ (fun rest r s' => r.1 = none ∧ s' = s ∧ (rest = [.ref b, v] ∨ rest = [v] ∨ rest = [])) _ ?_ ?_ _ _ ⟨rfl, rfl, .inl rfl⟩
  · rintro u rest r s' ⟨hr, rfl, hz | hz | hz⟩
    · cases hz
      refine wpAny_bind (inner ?_)
      simp only [Bool.not_true, Bool.false_eq_true, if_false]
      exact wpAny_pure ⟨rfl, rfl, by simp⟩
    · cases hz
      rw [eqIsQuiet_byValue _ (knd.byValue _ _ h2)]
      refine wpAny_bind (wpAny_pure ?_)
      simp only [Bool.not_true, Bool.false_eq_true, if_false]
      exact wpAny_pure ⟨rfl, rfl, by simp⟩
    · cases hz
  · rintro ⟨r1, r2⟩ s' ⟨hr, rfl, _⟩
    simp only at hr
    subst hr
    exact wpAny_pure h
end
def pairKind {prog : Program} {w : World} {K : Type} [DecidableEq K] (knd : KeyKind prog w K) : HeapKind prog w (List K × K) where
  is := IsPairKey knd
  hash := pairKeyHash knd
  draws := fun x => x.1.length + 3
  room := fun A => A.units + 1 < cLine
  inj := fun hx hy => hx.inj hy
  keeps := fun x ho hd hs => x.keeps ho hd hs
  pyHash := fun hu hk h => wpAny_pyHash_pair hu hk h
  eqBool := fun hu hx hy h => wpAny_eqBool_pair hu hx hy h
  quiet := fun hk h => wpAny_eqIsQuiet_pair hk h
end PySem
set_option Elab.async false
namespace L2
open PySem PySem.Spec PyProof.Rows
abbrev Key := Sum Int Str
def keyIs : Key → Value → Bool
  | .inl k, v => Value.isInt k v
  | .inr x, v => Value.isStrOf x v
def keyH (w : World) : Key → Int
  | .inl k => hashInt k
  | .inr x => hashStr w x
theorem keyIs_shape : ∀ {k : Key} {v : Value}, keyIs k v = true → (∃ i t, k = Sum.inl i ∧ v = Value.int i t) ∨ (∃ x t, k = Sum.inr x ∧ v = Value.str x t)
  | .inl i, v, h => by
    obtain ⟨t, e⟩ := Value.isInt_shape (k := i) (v := v) h
    exact .inl ⟨i, t, rfl, e⟩
  | .inr x, v, h => by
    obtain ⟨t, e⟩ := Value.isStrOf_shape (x := x) (v := v) h
    exact .inr ⟨x, t, rfl, e⟩
theorem key_ll (a b : Int) : decide ((Sum.inl a : Key) = Sum.inl b) = (a == b) := by
  by_cases e : a = b
  · subst e; simp
  · have h : ¬ (Sum.inl a : Key) = Sum.inl b := fun q => e (Sum.inl.inj q)
    rw [decide_eq_false h]
    exact (beq_eq_false_iff_ne.mpr e).symm
theorem key_rr (a b : Str) : decide ((Sum.inr a : Key) = Sum.inr b) = decide (a = b) := by
  by_cases e : a = b
  · subst e; simp
  · have h : ¬ (Sum.inr a : Key) = Sum.inr b := fun q => e (Sum.inr.inj q)
    rw [decide_eq_false h, decide_eq_false e]
theorem key_lr (a : Int) (b : Str) : decide ((Sum.inl a : Key) = Sum.inr b) = false := decide_eq_false (fun q => nomatch q)
theorem key_rl (a : Str) (b : Int) : decide ((Sum.inr a : Key) = Sum.inl b) = false := decide_eq_false (fun q => nomatch q)
def mixKind (prog : Program) (w : World) : PySem.KeyKind prog w Key where
  is := keyIs
  hash := keyH w
  inj := fun v a b ha hb => by
    rcases keyIs_shape ha with ⟨i, t, rfl, rfl⟩ | ⟨x, t, rfl, rfl⟩
    · rcases keyIs_shape hb with ⟨j, u, rfl, e⟩ | ⟨y, u, rfl, e⟩
      · injection e with e1 _; rw [e1]
      · exact nomatch e
    · rcases keyIs_shape hb with ⟨j, u, rfl, e⟩ | ⟨y, u, rfl, e⟩
      · exact nomatch e
      · injection e with e1 _; rw [e1]
  byValue := fun k v h => by
    rcases keyIs_shape h with ⟨i, t, rfl, rfl⟩ | ⟨x, t, rfl, rfl⟩ <;> rfl
  pyHash := fun hv h => by
    rcases keyIs_shape hv with ⟨i, t, rfl, rfl⟩ | ⟨x, t, rfl, rfl⟩
    · exact wpAny_pyHash_int h
    · exact wpAny_pyHash_str h
  eqBool := fun hu hv h => by
    rcases keyIs_shape hu with ⟨i, t, rfl, rfl⟩ | ⟨x, t, rfl, rfl⟩
    · rcases keyIs_shape hv with ⟨j, u, rfl, rfl⟩ | ⟨y, u, rfl, rfl⟩
      · rw [key_ll] at h; exact wpAny_eqBool_int h
      · rw [key_lr] at h; exact SeqAt.EqAt.int_str i t y u _ _ _ _ h
    · rcases keyIs_shape hv with ⟨j, u, rfl, rfl⟩ | ⟨y, u, rfl, rfl⟩
      · rw [key_rl] at h; exact SeqAt.EqAt.str_int x t j u _ _ _ _ h
      · rw [key_rr] at h; exact wpAny_eqBool_str h
  «strs» := fun k x t v h => by
    rcases keyIs_shape h with ⟨i, u, rfl, e⟩ | ⟨y, u, rfl, e⟩
    · exact nomatch e
    · injection e with e1 _
      subst e1
      cases v <;> rfl
inductive V where
  | non | bl (b : Bool) | int (i : Int) | str (x : Str) | byt (b : Array UInt8) | flt (b : UInt64) | ref (a : Addr) | ty (n : String)
  deriving DecidableEq
def RelV : V → Value → Prop
  | .non, u => u = Value.none
  | .bl b, u => u = Value.bool b
  | .int i, u => ∃ t, u = Value.int i t
  | .str x, u => ∃ t, u = Value.str x t
  | .byt b, u => ∃ t, u = Value.bytes b t
  | .flt b, u => ∃ t, u = Value.float b t
  | .ref a, u => u = Value.ref a
  | .ty n, u => u = Value.type n
abbrev Vals : List V → List Value → Prop := Paired RelV
theorem Vals.length {xs : List V} {us : List Value} (r : Vals xs us) : xs.length = us.length := Paired.length r
theorem Vals.get : ∀ {xs : List V} {us : List Value} {i : Nat} {x : V}, Vals xs us → xs[i]? = some x → ∃ u, us[i]? = some u ∧ RelV x u
  | _, _, _, _, .nil, e => by simp at e
  | _, _, 0, _, .cons r _, e => by simp at e; subst e; exact ⟨_, rfl, r⟩
  | _, _, i + 1, x, .cons _ t, e => by
    obtain ⟨u, h1, h2⟩ := Vals.get (i := i) (x := x) t (by simpa using e)
    exact ⟨u, by simpa using h1, h2⟩
theorem Vals.set {x : V} {u : Value} (r : RelV x u) : ∀ {xs : List V} {us : List Value} (i : Nat), Vals xs us → Vals (xs.set i x) (us.set i u)
  | _, _, _, .nil => .nil
  | _, _, 0, .cons _ t => .cons r t
  | _, _, i + 1, .cons q t => .cons q (Vals.set r i t)
theorem Vals.append : ∀ {xs ys : List V} {us ws : List Value}, Vals xs us → Vals ys ws → Vals (xs ++ ys) (us ++ ws)
  | _, _, _, _, .nil, s => s
  | _, _, _, _, .cons r t, s => .cons r (Vals.append t s)
theorem Vals.take : ∀ {xs : List V} {us : List Value} (n : Nat), Vals xs us → Vals (xs.take n) (us.take n)
  | _, _, 0, _ => .nil
  | _, _, _ + 1, .nil => .nil
  | _, _, n + 1, .cons r t => .cons r (Vals.take n t)
theorem Vals.drop : ∀ {xs : List V} {us : List Value} (n : Nat), Vals xs us → Vals (xs.drop n) (us.drop n)
  | _, _, 0, r => r
  | _, _, _ + 1, .nil => .nil
  | _, _, n + 1, .cons _ t => Vals.drop n t
def RelO : Option V → Option Value → Prop
  | some v, some u => RelV v u
  | none, none => True
  | _, _ => False
def KV {κ : Type} : List (κ × V) → List (κ × Value) → Prop := Paired fun (p : κ × V) (q : κ × Value) => p.1 = q.1 ∧ RelV p.2 q.2
def kV : Key → V
  | .inl i => .int i
  | .inr x => .str x
inductive HO where
    | lst (xs : List V)
    | tup (xs : List V)
    | dK (kvs : List (Key × V)) | dT (kvs : List (List Key × V)) | dN (kvs : List ((List Key × Key) × V))
    | set (S : Int → Bool) (n : Nat)
    | ins (C dx : Addr) (fs : List (Str × V))
    | own (x : Addr)
    | xd (fs : List (Str × V))
    | met (f x : Addr)
    | rng (lo hi : Int)
    | frz (o : Obj) (u : HO)
    | tbl (ps : Array Value)
    | ext (φ : Heap → Prop)
abbrev Hp := Addr → Option HO
def upd (H : Hp) (a : Addr) (o : HO) : Hp := fun b => if b = a then some o else H b
theorem upd_same {H : Hp} {a : Addr} {o : HO} : upd H a o a = some o := by unfold upd; rw [if_pos rfl]
theorem upd_ne {H : Hp} {a b : Addr} {o : HO} (h : b ≠ a) : upd H a o b = H b := by unfold upd; rw [if_neg h]
theorem ne_of {H : Hp} {a b : Addr} {o u : HO} (h : H a = some o) (h' : H b = some u) (d : o ≠ u) : a ≠ b := by
  intro e; subst e; rw [h] at h'; exact d (Option.some.inj h')
theorem ne_of_none {H : Hp} {a b : Addr} {o : HO} (h : H a = some o) (h' : H b = none) : a ≠ b := by
  intro e; subst e; rw [h] at h'; cases h'
def IsTupP (h : Heap) (a : Addr) (items : Array Value) : Prop := ∃ o, h.get? a = some o ∧ o.cls = .type "tuple" ∧ o.dict = none ∧ ∃ n, o.data = .seq items n
theorem IsTupP.tup {h : Heap} {a : Addr} {items : Array Value} (x : IsTupP h a items) : IsTup h a items := let ⟨o, h1, h2, _, h3⟩ := x; ⟨o, h1, h2, h3⟩
theorem IsTupP.new (h : Heap) (items : Array Value) : IsTupP (h.push { cls := .type "tuple", data := .seq items }) h.objs.size items := ⟨_, Heap.get?_push_size _ rfl, rfl, rfl, _, rfl⟩
section
variable (P : Program) (w : World)
def ObjOk (H : Hp) (h : Heap) (a : Addr) : HO → Prop
  | .lst xs => xs.length ≤ sizeLine ∧ ∃ (its : List Value) (n : Nat), Vals xs its ∧ h.get? a = some { cls := .type "list", data := .seq its.toArray n }
  | .tup xs => xs.length ≤ sizeLine ∧ ∃ its : List Value, Vals xs its ∧ IsTupP h a its.toArray
  | .dK kvs => kvs.length ≤ sizeLine ∧ (a == sysModules) = false ∧ ∃ vs, KV kvs vs ∧ h.DictOf (mixKind P w) a vs
  | .dT kvs => kvs.length ≤ sizeLine ∧ (a == sysModules) = false ∧ ∃ xs : List (List Key × Addr × Value),
      Paired (fun (p : List Key × V) (q : List Key × Addr × Value) => p.1 = q.1 ∧ H q.2.1 = some (.tup (p.1.map kV)) ∧ RelV p.2 q.2.2) kvs xs ∧
      ∃ o es ep, h.get? a = some o ∧ o.ExactDict ∧ o.data = .dict es ep ∧ es.toList = xs.map (entryOfKey (tupleKind (mixKind P w))) ∧ (xs.map (·.1)).Nodup
  | .dN kvs => kvs.length ≤ sizeLine ∧ (a == sysModules) = false ∧ ∃ xs : List ((List Key × Key) × Addr × Value),
      Paired (fun (p : (List Key × Key) × V) (q : (List Key × Key) × Addr × Value) => p.1 = q.1 ∧ (∃ c, H q.2.1 = some (.tup [.ref c, kV p.1.2]) ∧ H c = some (.tup (p.1.1.map kV))) ∧ RelV p.2 q.2.2) kvs xs ∧
      ∃ o es ep, h.get? a = some o ∧ o.ExactDict ∧ o.data = .dict es ep ∧ es.toList = xs.map (entryOfKey (pairKind (mixKind P w))) ∧ (xs.map (·.1)).Nodup
  | .set S n => h.SetOf (intKind P w) a S n
  | .ins C dx fs => H dx = some (.own a) ∧ fs.length ≤ 1000 ∧ dx ≠ a ∧ h.get? a = some (PySem.W.instObj C dx) ∧
      ∃ mA, h.Ns1 dx mA ∧ (∀ f, RelO (fs.lookup f) (mA f)) ∧ PySem.Within mA (fs.map (·.1))
  | .own _ => ∃ o, h.get? a = some o
  | .xd fs => ∃ mA, h.Ns1 a mA ∧ ∀ f, RelO (fs.lookup f) (mA f)
  | .rng lo hi => ∃ t u v, h.get? a = some { cls := .type "range", data := .fields #[.int lo t, .int hi u, .int 1 v] }
  | .frz o u => h.get? a = some o ∧ ObjOk H h a u
  | .tbl ps => h.get? a = some { cls := .none, data := .fields ps }
  | .met f x => h.get? a = some (PySem.W.methodObj (.ref f) (.ref x))
  | .ext φ => φ h ∧ (∃ o, h.get? a = some o) ∧ ∀ h1 h2 : Heap, φ h1 → (∀ o, h1.get? a = some o → h2.get? a = some o) → φ h2
def HOk (H : Hp) (h : Heap) : Prop := ∀ a o, H a = some o → ObjOk P w H h a o
end
section
variable {P : Program} {w : World} {H H' : Hp} {h h' : Heap} {a : Addr} {o : HO}
theorem ObjOk.lt (x : ObjOk P w H h a o) : a < h.objs.size := by
  cases o with
  | lst xs => obtain ⟨_, _, _, _, e⟩ := x; exact Heap.lt_size e
  | tup xs => obtain ⟨_, _, _, p⟩ := x; exact IsTup.lt (IsTupP.tup p)
  | dK kvs => obtain ⟨_, _, _, _, o, _, _, e, _⟩ := x; exact Heap.lt_size e
  | dT kvs => obtain ⟨_, _, _, _, o, _, _, e, _⟩ := x; exact Heap.lt_size e
  | dN kvs => obtain ⟨_, _, _, _, o, _, _, e, _⟩ := x; exact Heap.lt_size e
  | set S n => obtain ⟨o, _, _, _, e, _⟩ := x; exact Heap.lt_size e
  | ins C dx fs => obtain ⟨_, _, _, e, _⟩ := x; exact Heap.lt_size e
  | own y => obtain ⟨_, e⟩ := x; exact Heap.lt_size e
  | xd fs => obtain ⟨_, ⟨_, _, _, e, _⟩, _⟩ := x; exact Heap.lt_size e
  | rng lo hi => obtain ⟨_, _, _, e⟩ := x; exact Heap.lt_size e
  | frz ob u => obtain ⟨e, _⟩ := x; exact Heap.lt_size e
  | tbl ps => exact Heap.lt_size (show h.get? a = some _ from x)
  | met f y => exact Heap.lt_size (show h.get? a = some _ from x)
  | ext φ => obtain ⟨_, ⟨_, e⟩, _⟩ := x; exact Heap.lt_size e
theorem Paired.mapP {α β : Type} {F G : α → β → Prop} : ∀ {l₁ : List α} {l₂ : List β}, Paired F l₁ l₂ → (∀ a b, F a b → G a b) → Paired G l₁ l₂
  | _, _, .nil, _ => .nil
  | _, _, .cons r t, f => .cons (f _ _ r) (Paired.mapP t f)
theorem ObjOk.stay (x : ObjOk P w H h a o) (k : ∀ b u, (b = a ∨ H b = some (.own a)) → h.get? b = some u → h'.get? b = some u)
    (ho : ∀ b, H b = some (.own a) → H' b = some (.own a)) (ht : ∀ b xs, H b = some (.tup xs) → H' b = some (.tup xs)) : ObjOk P w H' h' a o := by
  induction o with
  | lst xs => obtain ⟨z, its, n, r, e⟩ := x; exact ⟨z, its, n, r, k _ _ (.inl rfl) e⟩
  | tup xs => obtain ⟨z, its, r, ob, e, c⟩ := x; exact ⟨z, its, r, ob, k _ _ (.inl rfl) e, c⟩
  | dK kvs => obtain ⟨z, y, vs, r, ob, es, ep, e, c⟩ := x; exact ⟨z, y, vs, r, ob, es, ep, k _ _ (.inl rfl) e, c⟩
  | dT kvs =>
    obtain ⟨z, y, xs, r, ob, es, ep, e, c⟩ := x
    exact ⟨z, y, xs, Paired.mapP r fun p q z => ⟨z.1, ht _ _ z.2.1, z.2.2⟩, ob, es, ep, k _ _ (.inl rfl) e, c⟩
  | dN kvs =>
    obtain ⟨z, y, xs, r, ob, es, ep, e, c⟩ := x
    exact ⟨z, y, xs, Paired.mapP r fun p q z => ⟨z.1, let ⟨c, h1, h2⟩ := z.2.1; ⟨c, ht _ _ h1, ht _ _ h2⟩, z.2.2⟩, ob, es, ep, k _ _ (.inl rfl) e, c⟩
  | set S n => obtain ⟨ob, es, ep, t, e, c⟩ := x; exact ⟨ob, es, ep, t, k _ _ (.inl rfl) e, c⟩
  | ins C dx fs =>
    obtain ⟨d, z, ne, e, mA, ⟨od, es, ep, e2, c⟩, r⟩ := x
    exact ⟨ho _ d, z, ne, k _ _ (.inl rfl) e, mA, ⟨od, es, ep, k _ _ (.inr d) e2, c⟩, r⟩
  | own y => obtain ⟨ob, e⟩ := x; exact ⟨ob, k _ _ (.inl rfl) e⟩
  | xd fs => obtain ⟨mA, ⟨od, es, ep, e, c⟩, r⟩ := x; exact ⟨mA, ⟨od, es, ep, k _ _ (.inl rfl) e, c⟩, r⟩
  | rng lo hi => obtain ⟨t, u, v, e⟩ := x; exact ⟨t, u, v, k _ _ (.inl rfl) e⟩
  | frz ob u ih => obtain ⟨e, q⟩ := x; exact ⟨k _ _ (.inl rfl) e, ih q⟩
  | tbl ps =>
    have e : h.get? a = some { cls := .none, data := .fields ps } := x
    show h'.get? a = some { cls := .none, data := .fields ps }
    exact k a _ (.inl rfl) e
  | met f y =>
    have e : h.get? a = some (PySem.W.methodObj (.ref f) (.ref y)) := x
    show h'.get? a = some (PySem.W.methodObj (.ref f) (.ref y))
    exact k a _ (.inl rfl) e
  | ext φ => obtain ⟨p, ⟨o, e⟩, st⟩ := x; exact ⟨st _ _ p fun o q => k _ _ (.inl rfl) q, ⟨o, k _ _ (.inl rfl) e⟩, st⟩
theorem HOk.lt (x : HOk P w H h) (e : H a = some o) : a < h.objs.size := (x a o e).lt
theorem HOk.fresh (x : HOk P w H h) (e : h.objs.size ≤ a) : H a = none := by
  cases q : H a with
  | none => rfl
  | some u => exact absurd (Nat.lt_of_lt_of_le (x.lt q) e) (Nat.lt_irrefl _)
theorem HOk.kept (x : HOk P w H h) (k : ∀ b u, h.get? b = some u → h'.get? b = some u) : HOk P w H h' := fun a o e =>
  (x a o e).stay (fun b u _ q => k b u q) (fun _ q => q) fun _ _ q => q
theorem HOk.laid (x : HOk P w H h) (k : ∀ b u, h.get? b = some u → h'.get? b = some u) (hp : h.objs.size ≤ a) (new : ObjOk P w (upd H a o) h' a o) : HOk P w (upd H a o) h' := fun b u e => by
  have hn := x.fresh hp
  by_cases hb : b = a
  · subst hb; rw [upd_same] at e; cases e; exact new
  · rw [upd_ne hb] at e
    exact (x b u e).stay (fun c v _ q => k c v q) (fun c q => by rw [upd_ne (ne_of_none q hn)]; exact q) fun c xs q => by rw [upd_ne (ne_of_none q hn)]; exact q
end
def Rd (H : Hp) (a : Addr) (u : HO) : Prop := H a = some u ∨ ∃ o, H a = some (.frz o u)
theorem Rd.ok {P : Program} {w : World} {H : Hp} {h : Heap} {a : Addr} {u : HO} (r : Rd H a u) (x : HOk P w H h) : ObjOk P w H h a u := by
  rcases r with r | ⟨o, r⟩
  · exact x a u r
  · obtain ⟨_, q⟩ := x a _ r
    exact q
def Mut : Option HO → Prop
  | some (.lst _) => True
  | some (.dK _) => True
  | some (.dT _) => True
  | some (.dN _) => True
  | some (.set _ _) => True
  | some (.ins _ _ _) => True
  | some (.ext _) => True
  | _ => False
section
variable {P : Program} {w : World} {H : Hp} {h h' : Heap} {x e : Addr} {o' : HO}
theorem HOk.write (ok : HOk P w H h) (mu : Mut (H x)) (he : e = x ∨ H e = some (.own x)) (k : ∀ b u, b ≠ e → h.get? b = some u → h'.get? b = some u) (heo : ∃ u, h'.get? e = some u)
    (new : ObjOk P w (upd H x o') h' x o') : HOk P w (upd H x o') h' := fun b u q => by
  have nown : ∀ c y, H c = some (.own y) → c ≠ x := fun c y r z => by subst z; rw [r] at mu; exact mu
  have ntup : ∀ c xs, H c = some (.tup xs) → c ≠ x := fun c xs r z => by subst z; rw [r] at mu; exact mu
  by_cases hb : b = x
  · subst hb; rw [upd_same] at q; cases q; exact new
  · rw [upd_ne hb] at q
    by_cases hbe : b = e
    · have q' : H b = some (.own x) := by
        rcases he with z | z
        · exact absurd (hbe.trans z) hb
        · rw [hbe]; exact z
      rw [q] at q'; cases q'
      obtain ⟨v, hv⟩ := heo
      exact ⟨v, by rw [hbe]; exact hv⟩
    · refine (ok b u q).stay (fun c v hc r => k c v ?_ r) (fun c r => by rw [upd_ne (nown c b r)]; exact r) fun c xs r => by rw [upd_ne (ntup c xs r)]; exact r
      rcases hc with rfl | hc
      · exact hbe
      · rintro rfl
        rcases he with z | z
        · exact nown c b hc z
        · rw [hc] at z; cases z; exact hb rfl
end
structure Un (fs ex : List Addr) (H H' : Hp) (h h' : Heap) : Prop where
  keep : ∀ b o, h.get? b = some o → H b = none → b ∉ fs → b ∉ ex → h'.get? b = some o
  slot : ∀ b o, h.get? b = some o → H b = none → b ∈ fs → b ∉ ex → ∃ sl, h'.get? b = some { o with slots := sl }
  free : ∀ b o, h.get? b = some o → H b = none → b ∉ ex → H' b = none
  there : ∀ b o, h.get? b = some o → b ∉ ex → ∃ o', h'.get? b = some o'
  tups : ∀ b xs, H b = some (.tup xs) → H' b = some (.tup xs)
  frzs : ∀ b o u, H b = some (.frz o u) → H' b = some (.frz o u)
  tbls : ∀ b ps, H b = some (.tbl ps) → ∃ more, H' b = some (.tbl (ps ++ more))
section
variable {fs fs' ex ex' : List Addr} {H H1 H2 : Hp} {h h1 h2 h' : Heap} {a x e : Addr} {o : HO}
theorem Un.any (u : Un fs ex H H1 h h1) {b : Addr} {ob : Obj} (q : h.get? b = some ob) (n : H b = none) (hx : b ∉ ex) : ∃ sl, h1.get? b = some { ob with slots := sl } := by
  by_cases hb : b ∈ fs
  · exact u.slot b ob q n hb hx
  · exact ⟨ob.slots, u.keep b ob q n hb hx⟩
theorem Un.kept (k : ∀ b u, h.get? b = some u → h'.get? b = some u) : Un fs ex H H h h' :=
  ⟨fun b ob q _ _ _ => k b ob q, fun b ob q _ _ _ => ⟨ob.slots, k b ob q⟩, fun _ _ _ n _ => n, fun b ob q _ => ⟨ob, k b ob q⟩, fun _ _ q => q, fun _ _ _ q => q, fun _ ps q => ⟨#[], by rw [q]; simp⟩⟩
theorem Un.refl : Un fs ex H H h h := Un.kept fun _ _ q => q
theorem Un.laid (k : ∀ b u, h.get? b = some u → h'.get? b = some u) (hp : h.objs.size ≤ a) (hn : H a = none) : Un fs ex H (upd H a o) h h' where
  keep := fun b u q _ _ _ => k b u q
  slot := fun b u q _ _ _ => ⟨u.slots, k b u q⟩
  free := fun b u q n _ => by rw [upd_ne (Nat.ne_of_lt (Nat.lt_of_lt_of_le (Heap.lt_size q) hp))]; exact n
  there := fun b u q _ => ⟨u, k b u q⟩
  tups := fun b xs q => by rw [upd_ne (ne_of_none q hn)]; exact q
  frzs := fun b u xs q => by rw [upd_ne (ne_of_none q hn)]; exact q
  tbls := fun b ps q => ⟨#[], by rw [upd_ne (ne_of_none q hn), q]; simp⟩
theorem Un.write (mu : Mut (H x)) (he : e = x ∨ H e = some (.own x)) (k : ∀ b u, b ≠ e → h.get? b = some u → h'.get? b = some u) (heo : ∃ u, h'.get? e = some u) : Un fs ex H (upd H x o) h h' := by
  have hx : ∀ b, H b = none → b ≠ x := fun b n z => by subst z; rw [n] at mu; exact mu
  have hb : ∀ b, H b = none → b ≠ e := fun b n z => by
    subst z
    rcases he with r | r
    · exact hx b n r
    · rw [n] at r; cases r
  have hm : ∀ b u, H b = some u → ¬ Mut (some u) → b ≠ x := fun b u q nm z => by subst z; rw [q] at mu; exact nm mu
  refine ⟨fun b u q n _ _ => k b u (hb b n) q, fun b u q n _ _ => ⟨u.slots, k b u (hb b n) q⟩, fun b u q n _ => by rw [upd_ne (hx b n)]; exact n, fun b u q _ => ?_,
    fun b xs q => by rw [upd_ne (hm b _ q fun z => z)]; exact q, fun b u xs q => by rw [upd_ne (hm b _ q fun z => z)]; exact q, fun b ps q => ⟨#[], by rw [upd_ne (hm b _ q fun z => z), q]; simp⟩⟩
  by_cases hbe : b = e
  · subst hbe; exact heo
  · exact ⟨u, k b u hbe q⟩
end
def trk (h : Heap) (H : Hp) : List Addr := (List.range h.objs.size).filter fun a => (H a).isSome
def hidT (h : Heap) (H : Hp) : Heap := PySem.W.hideAll h (trk h H)
theorem hidT_size (h : Heap) (H : Hp) : (hidT h H).objs.size = h.objs.size := PySem.W.hideAll_size _ _
theorem hidT_get {h : Heap} {H : Hp} {b : Addr} {o : Obj} (e : h.get? b = some o) (n : H b = none) : (hidT h H).get? b = some o :=
  PySem.W.hideAll_get _ e fun hm => by
    have q : (H b).isSome = true := (List.mem_filter.mp hm).2
    rw [n] at q; simp at q
theorem of_hidT {h : Heap} {H : Hp} {b : Addr} {o : Obj} (e : (hidT h H).get? b = some o) : h.get? b = some o ∧ H b = none := by
  have e' : h.get? b = some o := PySem.W.of_hideAll (trk h H) e
  refine ⟨e', ?_⟩
  cases q : H b with
  | none => rfl
  | some x =>
    have hm : b ∈ trk h H := List.mem_filter.mpr ⟨List.mem_range.mpr (Heap.lt_size e'), by simp [q]⟩
    have z : (hidT h H).get? b = none := PySem.W.hideAll_none (trk h H) hm
    rw [z] at e; cases e
structure Mod (K : PySem.W.Frag) (mg : Str → Option Value) (base : Heap) : Prop where
  kin : K.In base
  glob : base.Ns mainGlobals mg
  blt : ∃ mb, base.Ns builtinsNs mb ∧ ∀ x : Str, x ≠ "__name__" → mb x = bootBuiltins x
  nolimit : base.NoLimit
structure Cx where
  prog : Program
  w : World
  K : PySem.W.Frag
  mg : Str → Option Value
  base : Heap
  A : Around
  N : List Str
  s₀ : Shared
  H₀ : Hp
  env : Env
  outer : List Env
  stack : List Env
  ex : List Addr
  fn : Str → Bool
  calm : Bool
  pn : List (Addr × Obj)
  xe : Value → Shared → Prop
def frs (l : List Env) : List Addr := l.filterMap (·.frame)
abbrev Cx.fs (X : Cx) : List Addr := frs X.outer
def Vis (sc : Scope) (x : Str) : Prop := sc.names.lookup x = some .local ∨ sc.names.lookup x = some .cell ∨ sc.names.lookup x = some .free
def Loc (sc : Scope) (x : Str) : Prop := sc.names.lookup x = some .local ∨ sc.names.lookup x = some .cell
def Look (env : Env) (h : Heap) (m : Str → Option Value) (x : Str) (u : Value) : Prop :=
  (env.kindOf x = some .local ∧ m x = some u) ∨ ((env.kindOf x = some .cell ∨ env.kindOf x = some .free) ∧ ∃ c, env.cells.lookup x = some c ∧ h.IsCell c (some u))
structure Cx.Ok (X : Cx) : Prop where
  mod : Mod X.K X.mg X.base
  kind : X.env.scope.kind = .function
  glob : X.env.globals = mainGlobals
  blt : X.env.builtins = builtinsNs
  above : X.s₀.heap.objs.size ≤ X.env.locals
  inj : ∀ x y c, X.env.cells.lookup x = some c → X.env.cells.lookup y = some c → x = y
  has : ∀ x, (X.env.kindOf x = some .cell ∨ X.env.kindOf x = some .free) → ∃ c, X.env.cells.lookup x = some c
  cab : ∀ x c, X.fn x = true → X.env.cells.lookup x = some c → X.s₀.heap.objs.size ≤ c
  hd : X.calm = true → X.A.handled = none
  frames : X.A.frames = some X.stack
  stk : X.stack = X.outer ∨ (X.stack = X.env :: X.outer ∧ X.env.frame = some X.env.locals)
  exf : ∀ b ∈ X.ex, b ≠ X.env.locals ∧ ∀ x c, X.env.cells.lookup x = some c → c ≠ b
  bs : ∀ b o, X.base.get? b = some o → X.s₀.heap.get? b = some o ∧ X.H₀ b = none
  bsz : X.base.objs.size ≤ X.s₀.heap.objs.size
  noex : ∀ b o, X.base.get? b = some o → b ∉ X.ex
  exfs : ∀ b ∈ X.ex, b ∉ X.fs
  funs : X.s₀.heap.FunFrames X.base X.outer
  frf : ∀ b ∈ X.fs, X.H₀ b = none
structure Inv (X : Cx) (pins : List (Addr × Obj)) (σ : List (Option V)) (H : Hp) (s : Shared) : Prop where
  ok : X.Ok
  os : s.os = X.s₀.os
  bare : AllBare s.gens
  base : Un X.fs X.ex X.H₀ H X.s₀.heap s.heap
  loc : ∃ m, s.heap.Ns X.env.locals m ∧ ∀ (i : Nat) (x : Str) (v : V), X.N[i]? = some x → σ[i]? = some (some v) → Vis X.env.scope x → ∃ u, RelV v u ∧ Look X.env s.heap m x u
  cell : ∀ x c, X.env.cells.lookup x = some c → ∃ v, s.heap.IsCell c v
  free : H X.env.locals = none
  freeC : ∀ x c, X.env.cells.lookup x = some c → H c = none
  pin : ∀ p ∈ X.pn ++ pins, s.heap.get? p.1 = some p.2 ∧ H p.1 = none ∧ p.1 ≠ X.env.locals ∧ p.1 ∉ X.fs ∧ ∀ v, p.2.data ≠ .cell v
  hok : HOk X.prog X.w H s.heap
  len : σ.length = X.N.length
section
variable {X : Cx} {pins : List (Addr × Obj)} {σ : List (Option V)} {H H' : Hp} {s : Shared} {h' : Heap}
theorem Cx.Ok.nofr (ok : X.Ok) {b : Addr} {o : Obj} (e : X.base.get? b = some o) : b ∉ X.fs := fun hb => by
  have := (ok.funs.mem hb).1
  rw [e] at this; cases this
theorem Inv.bs (I : Inv X pins σ H s) : ∀ b o, X.base.get? b = some o → s.heap.get? b = some o ∧ H b = none := fun b o e =>
  ⟨I.base.keep b o (I.ok.bs b o e).1 (I.ok.bs b o e).2 (I.ok.nofr e) (I.ok.noex b o e), I.base.free b o (I.ok.bs b o e).1 (I.ok.bs b o e).2 (I.ok.noex b o e)⟩
theorem Inv.bk (I : Inv X pins σ H s) : ∀ b o, X.base.get? b = some o → s.heap.get? b = some o := fun b o e => (I.bs b o e).1
theorem Inv.mod (I : Inv X pins σ H s) : Mod X.K X.mg X.base := I.ok.mod
theorem Inv.kIn (I : Inv X pins σ H s) : X.K.In s.heap := I.ok.mod.kin.keeps I.bk
theorem Inv.fr (I : Inv X pins σ H s) : ∃ m, Fr X.base X.env.locals s.heap m :=
  let ⟨m, hn, _⟩ := I.loc
  ⟨m, hn, I.bk, Nat.le_trans I.ok.bsz I.ok.above⟩
theorem Inv.lt (I : Inv X pins σ H s) : X.env.locals < s.heap.objs.size := let ⟨_, hn, _⟩ := I.loc; hn.lt
theorem Inv.sz (I : Inv X pins σ H s) : X.s₀.heap.objs.size ≤ s.heap.objs.size := Nat.le_trans I.ok.above (Nat.le_of_lt I.lt)
theorem Inv.nofs (I : Inv X pins σ H s) {a : Addr} (h : s.heap.objs.size ≤ a) : a ∉ X.fs := fun hb => by
  obtain ⟨_, o, ho, _⟩ := I.ok.funs.mem hb
  exact absurd (Nat.lt_of_lt_of_le (Heap.lt_size ho) (Nat.le_trans I.sz h)) (Nat.lt_irrefl _)
theorem Inv.cne (I : Inv X pins σ H s) : ∀ x c, X.env.cells.lookup x = some c → c ≠ X.env.locals := fun x c e z => by
  obtain ⟨v, o, ho, hd⟩ := I.cell x c e
  obtain ⟨m, ⟨o', es, ep, ho', hd', _⟩, _⟩ := I.loc
  rw [z, ho'] at ho; cases ho; rw [hd'] at hd; cases hd
theorem Inv.funs (I : Inv X pins σ H s) : s.heap.FunFrames X.base X.outer := by
  have all : ∀ (l : List Env), (∀ b ∈ frs l, b ∈ X.fs) → X.s₀.heap.FunFrames X.base l → s.heap.FunFrames X.base l := by
    intro l
    induction l with
    | nil => intro _ _; trivial
    | cons env r ih =>
      intro hs hl
      obtain ⟨hk, ⟨L, o, hf, hn, ho, hd⟩, hr⟩ := hl
      have hL : L ∈ X.fs := hs L (by unfold frs; rw [List.filterMap_cons, hf]; exact List.mem_cons_self)
      obtain ⟨sl, e⟩ := I.base.slot L o ho (I.ok.frf L hL) hL fun z => I.ok.exfs L z hL
      exact ⟨hk, ⟨L, _, hf, hn, e, hd⟩, ih (fun b hb => hs b (by unfold frs; rw [List.filterMap_cons, hf]; exact List.mem_cons_of_mem _ hb)) hr⟩
  exact all X.outer (fun _ hb => hb) I.ok.funs
theorem Inv.stack (I : Inv X pins σ H s) : s.heap.FunFrames X.base X.stack := by
  rcases I.ok.stk with e | ⟨e, hf⟩
  · rw [e]; exact I.funs
  · rw [e]
    obtain ⟨m, hn, _⟩ := I.loc
    refine .cons (by rw [I.ok.kind]; decide) hf hn ?_ I.funs
    exact Heap.get?_none_of_le (Nat.le_trans I.ok.bsz I.ok.above)
theorem Inv.stkSub (I : Inv X pins σ H s) : ∀ b ∈ frs X.stack, b ∈ X.env.locals :: X.fs := fun b hb => by
  rcases I.ok.stk with e | ⟨e, hf⟩
  · rw [e] at hb; exact List.mem_cons_of_mem _ hb
  · rw [e] at hb
    unfold frs at hb
    rw [List.filterMap_cons, hf] at hb
    exact hb
theorem Inv.stkFree (I : Inv X pins σ H s) : ∀ b ∈ frs X.stack, H b = none := fun b hb => by
  rcases List.mem_cons.mp (I.stkSub b hb) with e | hb
  · rw [e]; exact I.free
  · obtain ⟨_, o, ho, _⟩ := I.ok.funs.mem hb
    exact I.base.free b o ho (I.ok.frf b hb) fun z => I.ok.exfs b z hb
theorem Inv.step {g' : Array GenState} {t' : Nat} {d' : Drawn} {ch : List Addr} (I : Inv X pins σ H s)
    (hch : ∀ b ∈ ch, (b ∈ X.ex ∨ X.s₀.heap.objs.size ≤ b) ∧ b ≠ X.env.locals ∧ (∀ x c, X.env.cells.lookup x = some c → c ≠ b) ∧ ∀ p ∈ X.pn ++ pins, p.1 ≠ b)
    (keep : ∀ b o, b ≠ X.env.locals → b ∉ X.fs → b ∉ ch → s.heap.get? b = some o → H b = none → h'.get? b = some o)
    (slot : ∀ b o, b ≠ X.env.locals → b ∈ X.fs → b ∉ ch → s.heap.get? b = some o → H b = none → ∃ sl, h'.get? b = some { o with slots := sl }) (free : ∀ b o, b ∉ ch → s.heap.get? b = some o → H b = none → H' b = none)
    (there : ∀ b o, b ∉ ch → s.heap.get? b = some o → ∃ o', h'.get? b = some o')
    (tups : ∀ b xs, H b = some (.tup xs) → H' b = some (.tup xs)) (frzs : ∀ b o u, H b = some (.frz o u) → H' b = some (.frz o u)) (tbls : ∀ b ps, H b = some (.tbl ps) → ∃ more, H' b = some (.tbl (ps ++ more)))
    (ns : ∀ m, s.heap.Ns X.env.locals m → h'.Ns X.env.locals m) (hok : HOk X.prog X.w H' h') (hg : AllBare g') :
    Inv X pins σ H' { s with heap := h', gens := g', drawn := d', toks := t' } := by
  have neL : ∀ b o, X.s₀.heap.get? b = some o → b ≠ X.env.locals := fun b o e => Nat.ne_of_lt (Nat.lt_of_lt_of_le (Heap.lt_size e) I.ok.above)
  have neC : ∀ b o, X.s₀.heap.get? b = some o → b ∉ X.ex → b ∉ ch := fun b o e hx hb => by
    rcases (hch b hb).1 with z | z
    · exact hx z
    · exact absurd (Nat.lt_of_lt_of_le (Heap.lt_size e) z) (Nat.lt_irrefl _)
  have cellK : ∀ x c, X.env.cells.lookup x = some c → ∀ v, s.heap.IsCell c v → h'.IsCell c v := fun x c e v ⟨o, ho, hd⟩ => by
    have nch : c ∉ ch := fun z => (hch c z).2.2.1 x c e rfl
    by_cases hc : c ∈ X.fs
    · obtain ⟨sl, q⟩ := slot c o (I.cne x c e) hc nch ho (I.freeC x c e)
      exact ⟨_, q, hd⟩
    · exact ⟨o, keep c o (I.cne x c e) hc nch ho (I.freeC x c e), hd⟩
  refine ⟨I.ok, I.os, hg, ⟨fun b o e n hb hx => ?_, fun b o e n hb hx => ?_, fun b o e n hx => ?_, fun b o e hx => ?_, fun b xs e => tups b xs (I.base.tups b xs e), fun b o xs e => frzs b o xs (I.base.frzs b o xs e), fun b ps e => ?_⟩, ?_, fun x c e => ?_, ?_, fun x c e => ?_, fun p hp => ?_, hok, I.len⟩
  · exact keep b o (neL b o e) hb (neC b o e hx) (I.base.keep b o e n hb hx) (I.base.free b o e n hx)
  · obtain ⟨sl, e1⟩ := I.base.slot b o e n hb hx
    obtain ⟨sl', e2⟩ := slot b _ (neL b o e) hb (neC b o e hx) e1 (I.base.free b o e n hx)
    exact ⟨sl', e2⟩
  · obtain ⟨o', e1⟩ := I.base.there b o e hx
    exact free b o' (neC b o e hx) e1 (I.base.free b o e n hx)
  · obtain ⟨o', e1⟩ := I.base.there b o e hx
    exact there b o' (neC b o e hx) e1
  · obtain ⟨m1, e1⟩ := I.base.tbls b ps e
    obtain ⟨m2, e2⟩ := tbls b _ e1
    exact ⟨m1 ++ m2, by rw [e2, Array.append_assoc]⟩
  · obtain ⟨m, hn, hl⟩ := I.loc
    refine ⟨m, ns m hn, fun i x v e1 e2 e3 => ?_⟩
    obtain ⟨u, r, l⟩ := hl i x v e1 e2 e3
    refine ⟨u, r, ?_⟩
    rcases l with l | ⟨k, c, e, z⟩
    · exact .inl l
    · exact .inr ⟨k, c, e, cellK x c e _ z⟩
  · obtain ⟨v, z⟩ := I.cell x c e
    exact ⟨v, cellK x c e v z⟩
  · obtain ⟨m, ⟨o, _, _, ho, _⟩, _⟩ := I.loc
    exact free _ o (fun z => (hch _ z).2.1 rfl) ho I.free
  · obtain ⟨v, o, ho, hd⟩ := I.cell x c e
    exact free c o (fun z => (hch c z).2.2.1 x c e rfl) ho (I.freeC x c e)
  · obtain ⟨e, n, ne, nf, d⟩ := I.pin p hp
    have nch : p.1 ∉ ch := fun z => (hch p.1 z).2.2.2 p hp rfl
    exact ⟨keep p.1 p.2 ne nf nch e n, free p.1 p.2 nch e n, ne, nf, d⟩
theorem Inv.un {t' : Nat} (I : Inv X pins σ H s) (u : Un X.fs [] H H' s.heap h') (hok : HOk X.prog X.w H' h') : Inv X pins σ H' { s with heap := h', toks := t' } := by
  obtain ⟨m, ⟨o, es, ep, ho, r⟩, _⟩ := id I.loc
  obtain ⟨sl, hL⟩ := u.any ho I.free (by simp)
  exact I.step (g' := s.gens) (d' := s.drawn) (ch := []) (fun _ z => nomatch z) (fun b o _ hb _ e n => u.keep b o e n hb (by simp)) (fun b o _ hb _ e n => u.slot b o e n hb (by simp)) (fun b o _ e n => u.free b o e n (by simp)) (fun b o _ e => u.there b o e (by simp)) u.tups u.frzs u.tbls (fun m' hm => by
    obtain ⟨o', es', ep', ho', r'⟩ := hm
    rw [ho] at ho'; cases ho'
    exact ⟨_, es', ep', hL, r'⟩) hok I.bare
theorem Inv.call {g' : Array GenState} {t' : Nat} {d' : Drawn} {ch : List Addr} (I : Inv X pins σ H s) (u : Un (frs X.stack) ch H H' s.heap h') (hok : HOk X.prog X.w H' h') (hg : AllBare g')
    (hch : ∀ b ∈ ch, (b ∈ X.ex ∨ X.s₀.heap.objs.size ≤ b) ∧ b ≠ X.env.locals ∧ (∀ x c, X.env.cells.lookup x = some c → c ≠ b) ∧ ∀ p ∈ X.pn ++ pins, p.1 ≠ b) :
    Inv X pins σ H' { s with heap := h', gens := g', drawn := d', toks := t' } := by
  obtain ⟨m, ⟨o, es, ep, ho, r⟩, _⟩ := id I.loc
  obtain ⟨sl, hL⟩ := u.any ho I.free fun z => (hch _ z).2.1 rfl
  exact I.step (ch := ch) hch (fun b o hL hb hc e n => u.keep b o e n (fun z => (List.mem_cons.mp (I.stkSub b z)).elim hL hb) hc) (fun b o _ _ hc e n => u.any e n hc) (fun b o hc e n => u.free b o e n hc) (fun b o hc e => u.there b o e hc) u.tups u.frzs u.tbls (fun m' hm => by
    obtain ⟨o', es', ep', ho', r'⟩ := hm
    rw [ho] at ho'; cases ho'
    exact ⟨_, es', ep', hL, r'⟩) hok hg
theorem Inv.turned {t' : Nat} {it : Addr} (I : Inv X pins σ H s) (k : ∀ b o, b ≠ it → s.heap.get? b = some o → h'.get? b = some o) (hn : H it = none) (hL : it ≠ X.env.locals)
    (h1 : it ∈ X.ex ∨ X.s₀.heap.objs.size ≤ it) (h2 : ∀ x c, X.env.cells.lookup x = some c → c ≠ it) (h3 : ∀ p ∈ X.pn ++ pins, p.1 ≠ it) : Inv X pins σ H { s with heap := h', toks := t' } := by
  have nit : ∀ b u, H b = some u → b ≠ it := fun b u e z => by rw [z, hn] at e; cases e
  refine I.step (g' := s.gens) (d' := s.drawn) (ch := [it]) (fun b hb => ?_) (fun b o _ _ hc e _ => k b o (fun z => hc (by simp [z])) e) (fun b o _ _ hc e _ => ⟨o.slots, k b o (fun z => hc (by simp [z])) e⟩) (fun _ _ _ _ n => n)
    (fun b o hc e => ⟨o, k b o (fun z => hc (by simp [z])) e⟩) (fun _ _ e => e) (fun _ _ _ e => e) (fun b ps e => ⟨#[], by rw [e]; simp⟩) (fun m hm => ?_) (fun b u e => ?_) I.bare
  · have e : b = it := by simpa using hb
    subst e
    exact ⟨h1, hL, h2, h3⟩
  · obtain ⟨o, es, ep, ho, r⟩ := hm
    exact ⟨o, es, ep, k _ o (Ne.symm hL) ho, r⟩
  · refine (I.hok b u e).stay (fun c v hc q => k c v ?_ q) (fun _ q => q) fun _ _ q => q
    rcases hc with z | z
    · rw [z]; exact nit b u e
    · exact nit c _ z
theorem Inv.tok (I : Inv X pins σ H s) (t : Nat) : Inv X pins σ H { s with toks := t } := I.un (h' := s.heap) (t' := t) Un.refl I.hok
theorem Inv.kept {t' : Nat} (I : Inv X pins σ H s) (k : ∀ b u, s.heap.get? b = some u → h'.get? b = some u) : Inv X pins σ H { s with heap := h', toks := t' } := I.un (Un.kept k) (I.hok.kept k)
theorem Inv.laid {a : Addr} {o : HO} {t' : Nat} (I : Inv X pins σ H s) (k : ∀ b u, s.heap.get? b = some u → h'.get? b = some u) (hp : s.heap.objs.size ≤ a) (new : ObjOk X.prog X.w (upd H a o) h' a o) :
    Inv X pins σ (upd H a o) { s with heap := h', toks := t' } := I.un (Un.laid k hp (I.hok.fresh hp)) (I.hok.laid k hp new)
theorem Inv.write {x e : Addr} {o : HO} {t' : Nat} (I : Inv X pins σ H s) (mu : Mut (H x)) (he : e = x ∨ H e = some (.own x)) (k : ∀ b u, b ≠ e → s.heap.get? b = some u → h'.get? b = some u) (heo : ∃ u, h'.get? e = some u)
    (new : ObjOk X.prog X.w (upd H x o) h' x o) : Inv X pins σ (upd H x o) { s with heap := h', toks := t' } := I.un (Un.write mu he k heo) (I.hok.write mu he k heo new)
theorem Inv.weak {σ' : List (Option V)} (I : Inv X pins σ H s) (hl : σ'.length = σ.length) (w : ∀ (i : Nat) v, σ'[i]? = some (some v) → σ[i]? = some (some v)) : Inv X pins σ' H s :=
  ⟨I.ok, I.os, I.bare, I.base, let ⟨m, hn, hl'⟩ := I.loc; ⟨m, hn, fun i x v e1 e2 e3 => hl' i x v e1 (w i v e2) e3⟩, I.cell, I.free, I.freeC, I.pin, I.hok, hl.trans I.len⟩
theorem Inv.pins_of {pins' : List (Addr × Obj)} (I : Inv X pins σ H s) (h : ∀ p ∈ pins', s.heap.get? p.1 = some p.2 ∧ H p.1 = none ∧ p.1 ≠ X.env.locals ∧ p.1 ∉ X.fs ∧ ∀ v, p.2.data ≠ .cell v) : Inv X pins' σ H s :=
  ⟨I.ok, I.os, I.bare, I.base, I.loc, I.cell, I.free, I.freeC, fun p hp => (List.mem_append.mp hp).elim (fun z => I.pin p (List.mem_append_left _ z)) (h p), I.hok, I.len⟩
theorem nodup_ix {N : List Str} (hN : N.Nodup) {i j : Nat} {x : Str} (a : N[i]? = some x) (b : N[j]? = some x) : i = j := by
  obtain ⟨h1, e1⟩ := List.getElem?_eq_some_iff.mp a
  obtain ⟨h2, e2⟩ := List.getElem?_eq_some_iff.mp b
  exact (List.getElem_inj hN).mp (e1.trans e2.symm)
theorem store_ok2 {M : Model} {A : Around} {E : Value → Shared → Prop} {i : Nat} {x : Str} {v : V} {u : Value} {Q : Unit → Shared → Prop} (I : Inv X pins σ H s) (hN : X.N.Nodup) (hi : X.N[i]? = some x) (hx : Loc X.env.scope x) (r : RelV v u)
    (h : ∀ s', Inv X pins (σ.set i (some v)) H s' → (∃ a, Heap.SameBut a s.heap s'.heap ∧ (a = X.env.locals ∨ X.env.cells.lookup x = some a)) → Q () s') (hf : X.fn x = true ∨ X.env.scope.names.lookup x = some .local := by first | exact .inl rfl | exact .inr rfl | assumption) : wpAny M A (storeName X.env x u) Q E s := by
  obtain ⟨m, hn, hl⟩ := id I.loc
  have hcls : (X.env.scope.kind == .class || (X.env.scope.kind == .module && X.env.locals != X.env.globals)) = false := by rw [I.ok.kind]; rfl
  have hiσ : i < σ.length := by rw [I.len]; exact (List.getElem?_eq_some_iff.mp hi).1
  have cne := I.cne
  have tracked : ∀ {a : Addr} {h' : Heap}, (∃ o, s.heap.get? a = some o ∧ H a = none) → Heap.SameBut a s.heap h' → HOk X.prog X.w H h' := fun {a h'} ha hs b ob e => by
    obtain ⟨_, _, hfree⟩ := ha
    refine (I.hok b ob e).stay (fun c w' hc q => (hs.2 c ?_).trans q) (fun _ q => q) fun _ _ q => q
    rintro rfl
    rcases hc with rfl | hc
    · rw [hfree] at e; cases e
    · rw [hfree] at hc; cases hc
  rcases hx with hk | hk
  · refine wpAny_storeName_local hk hn (fun h' hn' hs => ?_) hcls
    obtain ⟨oL, _, _, hoL, _⟩ := id hn
    refine h _ ⟨I.ok, I.os, I.bare, ⟨fun b o e n hb hx => ?_, fun b o e n hb hx => ?_, I.base.free, fun b o e hx => ?_, I.base.tups, I.base.frzs, I.base.tbls⟩, ⟨_, hn', fun j y v' e1 e2 e3 => ?_⟩, fun y c e => ?_, I.free, I.freeC, fun p hp => ?_, tracked ⟨oL, hoL, I.free⟩ hs, by simpa using I.len⟩ ⟨_, hs, .inl rfl⟩
    · exact (hs.2 b (Nat.ne_of_lt (Nat.lt_of_lt_of_le (Heap.lt_size e) I.ok.above))).trans (I.base.keep b o e n hb hx)
    · obtain ⟨sl, e1⟩ := I.base.slot b o e n hb hx
      exact ⟨sl, (hs.2 b (Nat.ne_of_lt (Nat.lt_of_lt_of_le (Heap.lt_size e) I.ok.above))).trans e1⟩
    · obtain ⟨o', e1⟩ := I.base.there b o e hx
      exact ⟨o', (hs.2 b (Nat.ne_of_lt (Nat.lt_of_lt_of_le (Heap.lt_size e) I.ok.above))).trans e1⟩
    · by_cases hj : j = i
      · subst hj
        rw [hi] at e1; cases e1
        rw [List.getElem?_set_self hiσ] at e2
        cases e2
        exact ⟨u, r, .inl ⟨hk, by simp⟩⟩
      · rw [List.getElem?_set_ne (Ne.symm hj)] at e2
        obtain ⟨u', r', q⟩ := hl j y v' e1 e2 e3
        refine ⟨u', r', ?_⟩
        rcases q with ⟨k, e⟩ | ⟨k, c, e, z⟩
        · refine .inl ⟨k, ?_⟩
          have : y ≠ x := fun e => hj (nodup_ix hN e1 (e ▸ hi))
          simp [this, e]
        · exact .inr ⟨k, c, e, z.sameBut hs (cne y c e)⟩
    · obtain ⟨w', z⟩ := I.cell y c e
      exact ⟨w', z.sameBut hs (cne y c e)⟩
    · obtain ⟨e, n, ne, nf, d⟩ := I.pin p hp
      exact ⟨(hs.2 p.1 ne).trans e, n, ne, nf, d⟩
  · have hfn : X.fn x = true := by
      rcases hf with z | z
      · exact z
      · rw [z] at hk; cases hk
    obtain ⟨c, hc⟩ := I.ok.has x (.inl hk)
    obtain ⟨w', z⟩ := I.cell x c hc
    refine wpAny_storeName_cell I.ok.kind hk hc z (fun h' hc' hs => ?_)
    obtain ⟨oc, hoc, hocd⟩ := id z
    refine h { s with heap := h' } ⟨I.ok, I.os, I.bare, ⟨fun b o e n hb hx => ?_, fun b o e n hb hx => ?_, I.base.free, fun b o e hx => ?_, I.base.tups, I.base.frzs, I.base.tbls⟩, ⟨m, hn.sameBut hs (Ne.symm (cne x c hc)), fun j y v' e1 e2 e3 => ?_⟩, fun y c' e => ?_, I.free, I.freeC, fun p hp => ?_, tracked ⟨oc, hoc, I.freeC x c hc⟩ hs, by simpa using I.len⟩ ⟨c, hs, .inr hc⟩
    · exact (hs.2 b (Nat.ne_of_lt (Nat.lt_of_lt_of_le (Heap.lt_size e) (I.ok.cab x c hfn hc)))).trans (I.base.keep b o e n hb hx)
    · obtain ⟨sl, e1⟩ := I.base.slot b o e n hb hx
      exact ⟨sl, (hs.2 b (Nat.ne_of_lt (Nat.lt_of_lt_of_le (Heap.lt_size e) (I.ok.cab x c hfn hc)))).trans e1⟩
    · obtain ⟨o', e1⟩ := I.base.there b o e hx
      exact ⟨o', (hs.2 b (Nat.ne_of_lt (Nat.lt_of_lt_of_le (Heap.lt_size e) (I.ok.cab x c hfn hc)))).trans e1⟩
    · by_cases hj : j = i
      · subst hj
        rw [hi] at e1; cases e1
        rw [List.getElem?_set_self hiσ] at e2
        cases e2
        exact ⟨u, r, .inr ⟨.inl hk, c, hc, hc'⟩⟩
      · rw [List.getElem?_set_ne (Ne.symm hj)] at e2
        obtain ⟨u', r', q⟩ := hl j y v' e1 e2 e3
        refine ⟨u', r', ?_⟩
        rcases q with q | ⟨k, c', e, z'⟩
        · exact .inl q
        · refine .inr ⟨k, c', e, z'.sameBut hs ?_⟩
          rintro rfl
          exact hj (nodup_ix hN e1 (I.ok.inj _ _ _ e hc ▸ hi))
    · by_cases hcc : c' = c
      · subst hcc; exact ⟨_, hc'⟩
      · obtain ⟨w2, z2⟩ := I.cell y c' e
        exact ⟨w2, z2.sameBut hs hcc⟩
    · obtain ⟨e, n, ne, nf, d⟩ := I.pin p hp
      refine ⟨(hs.2 p.1 ?_).trans e, n, ne, nf, d⟩
      intro q
      rw [q, hoc] at e
      have q' : oc = p.2 := Option.some.inj e
      exact d w' (by rw [← q']; exact hocd)
theorem store_ok {M : Model} {A : Around} {E : Value → Shared → Prop} {i : Nat} {x : Str} {v : V} {u : Value} {Q : Unit → Shared → Prop} (I : Inv X pins σ H s) (hN : X.N.Nodup) (hi : X.N[i]? = some x) (hx : Loc X.env.scope x) (r : RelV v u)
    (h : ∀ s', Inv X pins (σ.set i (some v)) H s' → Q () s') (hf : X.fn x = true ∨ X.env.scope.names.lookup x = some .local := by first | exact .inl rfl | exact .inr rfl | assumption) : wpAny M A (storeName X.env x u) Q E s :=
  store_ok2 I hN hi hx r (fun s' I' _ => h s' I') hf
theorem Inv.call' {s' : Shared} {ch : List Addr} (I : Inv X pins σ H s) (ho : s'.os = s.os) (u : Un (frs X.stack) ch H H' s.heap s'.heap) (hok : HOk X.prog X.w H' s'.heap) (hg : AllBare s'.gens)
    (hch : ∀ b ∈ ch, (b ∈ X.ex ∨ X.s₀.heap.objs.size ≤ b) ∧ b ≠ X.env.locals ∧ (∀ x c, X.env.cells.lookup x = some c → c ≠ b) ∧ ∀ p ∈ X.pn ++ pins, p.1 ≠ b) : Inv X pins σ H' s' := by
  obtain ⟨h', g', d', t', o'⟩ := s'
  have e : o' = s.os := ho
  subst e
  exact I.call (g' := g') (t' := t') (d' := d') u hok hg hch
end
abbrev XK := Value → Option Addr → Hp → Prop
abbrev St := List (Option V)
abbrev VK := V → Hp → Prop
abbrev TE := St → Hp → VK → Prop
abbrev TT := St → Hp → (Bool → Hp → Prop) → Prop
abbrev TA := St → Hp → (List V → Hp → Prop) → Prop
structure Ends where
  nx : St → Hp → Prop
  rt : VK
  bk : St → Hp → Prop := fun _ _ => False
  ct : St → Hp → Prop := fun _ _ => False
abbrev TS := Ends → St → Hp → Prop
def EP (X : Cx) (pins : List (Addr × Obj)) (σ : St) (Q : VK) (u : Value) (s' : Shared) : Prop := ∃ v H', Inv X pins σ H' s' ∧ RelV v u ∧ Q v H'
def TP (X : Cx) (pins : List (Addr × Obj)) (σ : St) (Q : Bool → Hp → Prop) (b : Bool) (s' : Shared) : Prop := ∃ H', Inv X pins σ H' s' ∧ Q b H'
def AP (X : Cx) (pins : List (Addr × Obj)) (σ : St) (Q : List V → Hp → Prop) (us : List Value) (s' : Shared) : Prop := ∃ vs H', Inv X pins σ H' s' ∧ Vals vs us ∧ Q vs H'
def SP (X : Cx) (pins : List (Addr × Obj)) (D : Ends) (f : Flow) (s' : Shared) : Prop :=
  match f with
  | .next => ∃ σ' H', Inv X pins σ' H' s' ∧ D.nx σ' H'
  | .brk => ∃ σ' H', Inv X pins σ' H' s' ∧ D.bk σ' H'
  | .cont => ∃ σ' H', Inv X pins σ' H' s' ∧ D.ct σ' H'
  | .ret u => ∃ v σ' H', Inv X pins σ' H' s' ∧ RelV v u ∧ D.rt v H'
def PE (X : Cx) (e : Expr) (t : TE) : Prop :=
  ∀ (pins : List (Addr × Obj)) (s : Shared) (σ : St) (H : Hp) (Q : VK), Inv X pins σ H s → t σ H Q → wpAny (model X.prog X.w) X.A (eval e X.env) (EP X pins σ Q) X.xe s
def PT (X : Cx) (e : Expr) (t : TT) : Prop :=
  ∀ (pins : List (Addr × Obj)) (s : Shared) (σ : St) (H : Hp) (Q : Bool → Hp → Prop), Inv X pins σ H s → t σ H Q → wpAny (model X.prog X.w) X.A (isTrue e X.env (eval e X.env)) (TP X pins σ Q) X.xe s
def PW (X : Cx) (e : Expr) (t : TT) : Prop :=
  ∀ (whole : Sem Value) (pins : List (Addr × Obj)) (s : Shared) (σ : St) (H : Hp) (Q : Bool → Hp → Prop), Inv X pins σ H s → t σ H Q → wpAny (model X.prog X.w) X.A (isTrue e X.env whole) (TP X pins σ Q) X.xe s
theorem PW.pt {X : Cx} {e : Expr} {t : TT} (h : PW X e t) : PT X e t := h _
def PA (X : Cx) (es : List Expr) (t : TA) : Prop :=
  ∀ (pos : Pos) (pins : List (Addr × Obj)) (s : Shared) (σ : St) (H : Hp) (Q : List V → Hp → Prop), Inv X pins σ H s → t σ H Q → wpAny (model X.prog X.w) X.A (spliced (backTo pos (starEach es X.env))) (AP X pins σ Q) X.xe s
def PS (X : Cx) (st : Stmt) (t : TS) : Prop :=
  ∀ (pins : List (Addr × Obj)) (s : Shared) (σ : St) (H : Hp) (D : Ends), Inv X pins σ H s → t D σ H → wpAny (model X.prog X.w) X.A (exec st X.env) (SP X pins D) X.xe s
def PSs (X : Cx) (st : List Stmt) (t : TS) : Prop :=
  ∀ (pins : List (Addr × Obj)) (s : Shared) (σ : St) (H : Hp) (D : Ends), Inv X pins σ H s → t D σ H → wpAny (model X.prog X.w) X.A (execs st X.env) (SP X pins D) X.xe s
theorem thn {α : Type} {t : Sem α} {Q Q' : α → Shared → Prop} {M : Model} {A : Around} {E : Value → Shared → Prop} {s : Shared} (h : wpAny M A t Q E s) (hQ : ∀ a s, Q a s → Q' a s) : wpAny M A t Q' E s := wpAny_mono h hQ fun _ _ x => x
section
variable {X : Cx}
theorem bin {a b : Expr} {ta tb : TE} (ha : PE X a ta) (hb : PE X b tb) {pins : List (Addr × Obj)} {s : Shared} {σ : St} {H : Hp} {R : V → V → Hp → Prop} (I : Inv X pins σ H s) (h : ta σ H fun x H1 => tb σ H1 fun y H2 => R x y H2)
    {α : Type} {Q : α → Shared → Prop} {f : Value → Value → Sem α}
    (hf : ∀ v u s2 x y H2, Inv X pins σ H2 s2 → RelV x v → RelV y u → R x y H2 → wpAny (model X.prog X.w) X.A (f v u) Q X.xe s2) :
    wpAny (model X.prog X.w) X.A (eval a X.env) (fun v s₁ => wpAny (model X.prog X.w) X.A (eval b X.env) (fun u s₂ => wpAny (model X.prog X.w) X.A (f v u) Q X.xe s₂) X.xe s₁) X.xe s := by
  refine thn (ha pins s σ H _ I h) fun v s1 ⟨x, H1, I1, r1, q1⟩ => ?_
  refine thn (hb pins s1 σ H1 _ I1 q1) fun u s2 ⟨y, H2, I2, r2, q2⟩ => ?_
  exact hf v u s2 x y H2 I2 r1 r2 q2
def tVar (i : Nat) : TE := fun σ H Q => ∃ v, σ[i]? = some (some v) ∧ Q v H
def tC (v : V) : TE := fun _ H Q => Q v H
theorem pe_var {i : Nat} {x : Str} {pos : Pos} (hN : X.N[i]? = some x) (hv : Vis X.env.scope x) (hd : (x == ("__debug__" : Str)) = false := by decide) (hcd : (x == ("__classdict__" : Str)) = false := by decide) : PE X (.Name x pos) (tVar i) := by
  intro pins s σ H Q I h
  obtain ⟨v, e, h⟩ := h
  obtain ⟨m, hn, hl⟩ := I.loc
  obtain ⟨u, r, l⟩ := hl i x v hN e hv
  have fin : EP X pins σ Q u s := ⟨v, H, I, r, h⟩
  rcases l with ⟨hk, hm⟩ | ⟨hk, c, hc, hcell⟩
  · exact wpAny_Name (wpAny_loadName_local I.ok.kind hk hn hm fin) hd
  · rcases hk with hk | hk
    · exact wpAny_Name (wpAny_loadName_cell I.ok.kind hk hc hcell fin) hd
    · exact wpAny_Name (wpAny_loadName_free I.ok.kind hk hc hcell fin hcd) hd
theorem pe_int {i j pos} : PE X (.Constant (.int i) j pos) (tC (.int i)) := fun _ _ _ H _ I h => wpAny_Constant_int ⟨.int i, H, I.tok _, ⟨_, rfl⟩, h⟩
theorem pe_bl {b j pos} : PE X (.Constant (.bool b) j pos) (tC (.bl b)) := fun _ _ _ H _ I h => Constant_bool ⟨.bl b, H, I, rfl, h⟩
theorem pe_non {j pos} : PE X (.Constant .none j pos) (tC .non) := fun _ _ _ H _ I h => Constant_none ⟨.non, H, I, rfl, h⟩
theorem pe_str {x j pos} : PE X (.Constant (.str x) j pos) (tC (.str x)) := fun _ _ _ H _ I h => Calls.Constant_str ⟨.str x, H, I.tok _, ⟨_, rfl⟩, h⟩
def Gl (X : Cx) (x : Str) : Prop := X.env.kindOf x = some .globalImplicit
theorem ld_glob {E : Value → Shared → Prop} {pins : List (Addr × Obj)} {s : Shared} {σ : St} {H : Hp} {x : Str} {u : Value} {pos : Pos} {Q : Value → Shared → Prop} (I : Inv X pins σ H s) (hg : Gl X x) (hm : X.mg x = some u) (h : Q u s)
    (hd : (x == ("__debug__" : Str)) = false := by decide) : wpAny (model X.prog X.w) X.A (eval (.Name x pos) X.env) Q E s :=
  Calls.Name_function_global I.ok.kind hg (Calls.loadGlobal_global (by rw [I.ok.glob]; exact I.mod.glob.keeps I.bk) hm h) hd
theorem ld_blt {E : Value → Shared → Prop} {pins : List (Addr × Obj)} {s : Shared} {σ : St} {H : Hp} {x : Str} {u : Value} {pos : Pos} {Q : Value → Shared → Prop} (I : Inv X pins σ H s) (hg : Gl X x) (hm : X.mg x = none) (hv : bootBuiltins x = some u) (h : Q u s)
    (hn : x ≠ "__name__" := by decide) (hd : (x == ("__debug__" : Str)) = false := by decide) : wpAny (model X.prog X.w) X.A (eval (.Name x pos) X.env) Q E s := by
  obtain ⟨mb, h1, h2⟩ := I.mod.blt
  exact Calls.Name_function_global I.ok.kind hg (Calls.loadGlobal_builtin (by rw [I.ok.glob]; exact I.mod.glob.keeps I.bk) hm (by rw [I.ok.blt]; exact h1.keeps I.bk) ((h2 x hn).trans hv) h) hd
theorem pe_glob {x : Str} {v : V} {u : Value} {pos : Pos} (hg : Gl X x) (hm : X.mg x = some u) (r : RelV v u) (hd : (x == ("__debug__" : Str)) = false := by decide) : PE X (.Name x pos) (tC v) :=
  fun _ _ _ H _ I h => ld_glob I hg hm ⟨v, H, I, r, h⟩ hd
theorem pe_bltn {x : Str} {v : V} {u : Value} {pos : Pos} (hg : Gl X x) (hm : X.mg x = none) (hv : bootBuiltins x = some u) (r : RelV v u) (hn : x ≠ "__name__" := by decide) (hd : (x == ("__debug__" : Str)) = false := by decide) : PE X (.Name x pos) (tC v) :=
  fun _ _ _ H _ I h => ld_blt I hg hm hv ⟨v, H, I, r, h⟩ hn hd
def t2I (ta tb : TE) (k : Int → Int → Hp → Prop) : St → Hp → Prop := fun σ H => ta σ H fun x H1 => tb σ H1 fun y H2 => ∃ i j, x = .int i ∧ y = .int j ∧ k i j H2
variable {a b : Expr} {ta tb : TE} {pos : Pos}
def tCmp (p : Int → Int → Bool) (ta tb : TE) : TE := fun σ H Q => t2I ta tb (fun i j H2 => Q (.bl (p i j)) H2) σ H
abbrev tLt : TE → TE → TE := tCmp fun i j => decide (i < j)
abbrev tLe : TE → TE → TE := tCmp fun i j => decide (i ≤ j)
abbrev tGt : TE → TE → TE := tCmp fun i j => decide (j < i)
abbrev tGe : TE → TE → TE := tCmp fun i j => decide (j ≤ i)
abbrev tEqI : TE → TE → TE := tCmp fun i j => decide (i = j)
abbrev tNeI : TE → TE → TE := tCmp fun i j => !decide (i = j)
variable {tA tB' : TT} {rest : List Expr}
def tAnd (t u : TT) : TT := fun σ H Q => t σ H fun c H1 => if c = true then u σ H1 Q else Q false H1
def tOr (t u : TT) : TT := fun σ H Q => t σ H fun c H1 => if c = true then Q true H1 else u σ H1 Q
def tNot (t : TT) : TT := fun σ H Q => t σ H fun c H1 => Q (!c) H1
theorem pw_and1 (ha : PT X a tA) : PW X (.BoolOp .And [a] pos) tA := by
  intro wh pins s σ H Q I h
  refine isTrue_and (thn (ha pins s σ H Q I h) fun c s1 e => ?_)
  cases c with
  | true => exact isTrue_and_nil e
  | false => exact e
theorem pw_or1 (ha : PT X a tA) : PW X (.BoolOp .Or [a] pos) tA := by
  intro wh pins s σ H Q I h
  refine isTrue_or (thn (ha pins s σ H Q I h) fun c s1 e => ?_)
  cases c with
  | false => exact isTrue_or_nil e
  | true => exact e
theorem pw_and (ha : PT X a tA) (hb : PW X (.BoolOp .And (b :: rest) pos) tB') : PW X (.BoolOp .And (a :: b :: rest) pos) (tAnd tA tB') := by
  intro wh pins s σ H Q I h
  refine isTrue_and (thn (ha pins s σ H _ I h) fun c s1 ⟨H1, I1, q1⟩ => ?_)
  cases c with
  | true => exact hb wh pins s1 σ H1 Q I1 q1
  | false => exact ⟨H1, I1, q1⟩
theorem pw_or (ha : PT X a tA) (hb : PW X (.BoolOp .Or (b :: rest) pos) tB') : PW X (.BoolOp .Or (a :: b :: rest) pos) (tOr tA tB') := by
  intro wh pins s σ H Q I h
  refine isTrue_or (thn (ha pins s σ H _ I h) fun c s1 ⟨H1, I1, q1⟩ => ?_)
  cases c with
  | true => exact ⟨H1, I1, q1⟩
  | false => exact hb wh pins s1 σ H1 Q I1 q1
theorem pt_not (ha : PT X a tA) : PT X (.UnaryOp .Not a pos) (tNot tA) := by
  intro pins s σ H Q I h
  exact isTrue_not (ha pins s σ H (fun c H1 => Q (!c) H1) I h)
def tAndV (ta tb : TE) : TE := fun σ H Q => ta σ H fun x H1 => ∃ c, x = .bl c ∧ if c = true then tb σ H1 Q else Q (.bl false) H1
def tNotV (ta : TE) : TE := fun σ H Q => ta σ H fun x H1 => ∃ c, x = .bl c ∧ Q (.bl (!c)) H1
theorem pe_one {op} {t : TE} (h : PE X a t) : PE X (.BoolOp op [a] pos) t := fun pins s σ H Q I hw => BoolOp_one (h pins s σ H Q I hw)
theorem pe_and (ha : PE X a ta) (hb : PE X (.BoolOp .And (b :: rest) pos) tb) : PE X (.BoolOp .And (a :: b :: rest) pos) (tAndV ta tb) := by
  intro pins s σ H Q I h
  refine BoolOp_and (thn (ha pins s σ H _ I h) fun v s1 ⟨x, H1, I1, r1, q1⟩ => ?_)
  obtain ⟨c, rfl, q1⟩ := q1
  cases r1
  refine wpAny_truthy_bool ?_
  cases c with
  | true => exact hb pins s1 σ H1 Q I1 q1
  | false => exact ⟨.bl false, H1, I1, rfl, q1⟩
theorem pe_not (ha : PE X a ta) : PE X (.UnaryOp .Not a pos) (tNotV ta) := by
  intro pins s σ H Q I h
  refine UnaryOp_ (thn (ha pins s σ H _ I h) fun v s1 ⟨x, H1, I1, r1, q1⟩ => ?_)
  obtain ⟨c, rfl, q1⟩ := q1
  cases r1
  exact not_of (wpAny_truthy_bool ⟨.bl (!c), H1, I1, rfl, q1⟩)
end
def SqL (K : PySem.W.Frag) (H : Hp) (a : Addr) (xs : List V) : Prop :=
  Rd H a (.lst xs) ∨
    ∃ (o : Obj) (its : Array Value) (n : Nat), K.lookup a = some o ∧ o.cls = .type "list" ∧ o.dict = none ∧ o.data = .seq its n ∧ its.size ≤ sizeLine ∧ Vals xs its.toList
def SqT (K : PySem.W.Frag) (H : Hp) (a : Addr) (xs : List V) : Prop :=
  Rd H a (.tup xs) ∨
    ∃ (o : Obj) (its : Array Value) (n : Nat), K.lookup a = some o ∧ o.cls = .type "tuple" ∧ o.dict = none ∧ o.data = .seq its n ∧ its.size ≤ sizeLine ∧ Vals xs its.toList
def absV : Value → Option V
  | .none => some .non
  | .bool b => some (.bl b)
  | .int i _ => some (.int i)
  | .str x _ => some (.str x)
  | .bytes b _ => some (.byt b)
  | .float b _ => some (.flt b)
  | .ref a => some (.ref a)
  | .type n => some (.ty n)
  | _ => none
theorem RelV.abs {x : V} {u : Value} (r : RelV x u) : absV u = some x := by
  cases x with
  | non => cases r; rfl
  | bl _ => cases r; rfl
  | int _ => obtain ⟨t, rfl⟩ := r; rfl
  | str _ => obtain ⟨t, rfl⟩ := r; rfl
  | byt _ => obtain ⟨t, rfl⟩ := r; rfl
  | flt _ => obtain ⟨t, rfl⟩ := r; rfl
  | ref _ => cases r; rfl
  | ty _ => cases r; rfl
theorem RelV.inj {x y : V} {u : Value} (r : RelV x u) (q : RelV y u) : x = y := Option.some.inj (r.abs.symm.trans q.abs)
theorem Vals.inj : ∀ {xs ys : List V} {us : List Value}, Vals xs us → Vals ys us → xs = ys
  | _, _, _, .nil, .nil => rfl
  | _, _, _, .cons r t, .cons r' t' => by rw [r.inj r', Vals.inj t t']
section
variable {X : Cx} {pins : List (Addr × Obj)} {σ : St} {H : Hp} {s : Shared} {a : Addr} {xs ys : List V}
theorem Inv.list (I : Inv X pins σ H s) (h : SqL X.K H a xs) : ∃ its : List Value, Vals xs its ∧ PlainL s.heap a its.toArray ∧ xs.length ≤ sizeLine := by
  rcases h with h | ⟨o, its, n, hk, hc, hd, hs, hz, r⟩
  · obtain ⟨z, its, n, r, e⟩ := h.ok I.hok
    exact ⟨its, r, ⟨_, n, e, rfl, rfl, rfl⟩, z⟩
  · refine ⟨its.toList, r, ⟨o, n, I.kIn a o hk, hc, hd, by simpa using hs⟩, ?_⟩
    have e := r.length
    simp only [Array.length_toList] at e
    omega
theorem Inv.tupleP (I : Inv X pins σ H s) (h : SqT X.K H a xs) : ∃ its : List Value, Vals xs its ∧ IsTupP s.heap a its.toArray ∧ xs.length ≤ sizeLine := by
  rcases h with h | ⟨o, its, n, hk, hc, hd, hs, hz, r⟩
  · obtain ⟨z, its, r, p⟩ := h.ok I.hok
    exact ⟨its, r, p, z⟩
  · refine ⟨its.toList, r, ⟨o, I.kIn a o hk, hc, hd, n, by simpa using hs⟩, ?_⟩
    have e := r.length
    simp only [Array.length_toList] at e
    omega
theorem Inv.tuple (I : Inv X pins σ H s) (h : SqT X.K H a xs) : ∃ its : List Value, Vals xs its ∧ IsTup s.heap a its.toArray ∧ xs.length ≤ sizeLine := by
  obtain ⟨its, r, p, z⟩ := I.tupleP h
  exact ⟨its, r, p.tup, z⟩
theorem Inv.list_inj (I : Inv X pins σ H s) (h : SqL X.K H a xs) (h' : SqL X.K H a ys) : xs = ys := by
  obtain ⟨its, r, ⟨o, n, e, _, _, d⟩, _⟩ := I.list h
  obtain ⟨its', r', ⟨o', n', e', _, _, d'⟩, _⟩ := I.list h'
  rw [e] at e'; cases e'
  rw [d] at d'
  injection d' with d1 _
  have : its = its' := by simpa using congrArg Array.toList d1
  subst this
  exact r.inj r'
theorem Inv.tuple_inj (I : Inv X pins σ H s) (h : SqT X.K H a xs) (h' : SqT X.K H a ys) : xs = ys := by
  obtain ⟨its, r, ⟨o, e, _, n, d⟩, _⟩ := I.tuple h
  obtain ⟨its', r', ⟨o', e', _, n', d'⟩, _⟩ := I.tuple h'
  rw [e] at e'; cases e'
  rw [d] at d'
  injection d' with d1 _
  have : its = its' := by simpa using congrArg Array.toList d1
  subst this
  exact r.inj r'
end
abbrev Cx.wish (X : Cx) (E : Value → Shared → Prop) : Cx := { X with xe := E }
abbrev Cx.nox (X : Cx) : Cx := X.wish fun _ _ => False
theorem Cx.Ok.wish {X : Cx} (ok : X.Ok) (E : Value → Shared → Prop) : (X.wish E).Ok :=
  ⟨ok.mod, ok.kind, ok.glob, ok.blt, ok.above, ok.inj, ok.has, ok.cab, ok.hd, ok.frames, ok.stk, ok.exf, ok.bs, ok.bsz, ok.noex, ok.exfs, ok.funs, ok.frf⟩
theorem Cx.Ok.unwish {X : Cx} {E : Value → Shared → Prop} (ok : (X.wish E).Ok) : X.Ok :=
  ⟨ok.mod, ok.kind, ok.glob, ok.blt, ok.above, ok.inj, ok.has, ok.cab, ok.hd, ok.frames, ok.stk, ok.exf, ok.bs, ok.bsz, ok.noex, ok.exfs, ok.funs, ok.frf⟩
section
variable {X : Cx} {pins : List (Addr × Obj)} {σ : St} {H : Hp} {s : Shared} {E : Value → Shared → Prop}
theorem Inv.wish (I : Inv X pins σ H s) (E : Value → Shared → Prop) : Inv (X.wish E) pins σ H s := ⟨I.ok.wish E, I.os, I.bare, I.base, I.loc, I.cell, I.free, I.freeC, I.pin, I.hok, I.len⟩
theorem Inv.unwish (I : Inv (X.wish E) pins σ H s) : Inv X pins σ H s := ⟨I.ok.unwish, I.os, I.bare, I.base, I.loc, I.cell, I.free, I.freeC, I.pin, I.hok, I.len⟩
theorem SP.unwish {D : Ends} {f : Flow} {s' : Shared} (h : SP (X.wish E) pins D f s') : SP X pins D f s' := by
  cases f with
  | next => obtain ⟨σ', H', I, q⟩ := h; exact ⟨σ', H', I.unwish, q⟩
  | brk => obtain ⟨σ', H', I, q⟩ := h; exact ⟨σ', H', I.unwish, q⟩
  | cont => obtain ⟨σ', H', I, q⟩ := h; exact ⟨σ', H', I.unwish, q⟩
  | ret u => obtain ⟨v, σ', H', I, r, q⟩ := h; exact ⟨v, σ', H', I.unwish, r, q⟩
theorem PSs.nox {st : List Stmt} {t : TS} (h : PSs X.nox st t) : PSs X st t := fun pins s σ H D I hw =>
  wpAny_mono (h pins s σ H D (I.wish _) hw) (fun _ _ q => q.unwish) fun _ _ z => False.elim z
end
section
variable {X : Cx} {st : Stmt} {rest : List Stmt} {t u : TS} {e : Expr} {te : TE} {pos : Pos}
def tNext : TS := fun D σ H => D.nx σ H
def tSeq (t u : TS) : TS := fun D σ H => t { D with nx := u D } σ H
theorem pss_nil : PSs X [] tNext := fun _ _ σ H _ I h => wpAny_execs_nil ⟨σ, H, I, h⟩
theorem pss_cons (h1 : PS X st t) (h2 : PSs X rest u) : PSs X (st :: rest) (tSeq t u) := by
  intro pins s σ H D I h
  refine wpAny_execs_cons (thn (h1 pins s σ H { D with nx := u D } I h) fun f s1 q => ?_)
  cases f with
  | next =>
    obtain ⟨σ', H', I', q⟩ := q
    exact h2 pins s1 σ' H' D I' q
  | ret v => exact q
  | brk => exact q
  | cont => exact q
theorem pss_one (h1 : PS X st t) : PSs X [st] t := by
  intro pins s σ H D I h
  refine wpAny_execs_cons (thn (h1 pins s σ H D I h) fun f s1 q => ?_)
  cases f with
  | next => exact wpAny_execs_nil q
  | ret v => exact q
  | brk => exact q
  | cont => exact q
def tBreak : TS := fun D σ H => D.bk σ H
theorem ps_break : PS X (.Break pos) tBreak := fun _ _ σ H _ I h => wpAny_Break ⟨σ, H, I, h⟩
theorem Inv.quiet {pins : List (Addr × Obj)} {σ : St} {H : Hp} {s : Shared} (I : Inv X pins σ H s) : interactive X.env = false := by simp [interactive, I.ok.kind]
def tDrop (te : TE) : TS := fun D σ H => te σ H fun _ H1 => D.nx σ H1
theorem ps_expr (he : PE X e te) (hs : swapsWith e none pos.line X.env = pure false := by rfl) : PS X (.Expr e pos) (tDrop te) := by
  intro pins s σ H D I h
  exact wpAny_Expr_any (thn (he pins s σ H _ I h) fun v s1 ⟨x, H1, I1, r1, q1⟩ => ⟨σ, H1, I1, q1⟩) I.quiet hs
def tRet (te : TE) : TS := fun D σ H => te σ H D.rt
theorem ps_ret (he : PE X e te) : PS X (.Return (some e) pos) (tRet te) := by
  intro pins s σ H D I h
  exact wpAny_Return_some (thn (he pins s σ H _ I h) fun v s1 ⟨x, H1, I1, r1, q1⟩ => ⟨x, σ, H1, I1, r1, q1⟩)
def tIfS (c : TT) (t u : TS) : TS := fun D σ H => c σ H fun b H1 => if b = true then t D σ H1 else u D σ H1
theorem ps_if {c : Expr} {a b : List Stmt} {tc : TT} (hc : PT X c tc) (ha : PSs X a t) (hb : PSs X b u) : PS X (.If c a b pos) (tIfS tc t u) := by
  intro pins s σ H D I h
  refine wpAny_If (thn (hc pins s σ H _ I h) fun d s1 ⟨H1, I1, q1⟩ => ?_)
  cases d with
  | true => exact ha pins s1 σ H1 D I1 q1
  | false => exact hb pins s1 σ H1 D I1 q1
end
abbrev TG := V → St → Hp → (St → Hp → Prop) → Prop
abbrev TGs := List V → St → Hp → (St → Hp → Prop) → Prop
def PG (X : Cx) (target : Expr) (t : TG) : Prop :=
  ∀ (pins : List (Addr × Obj)) (s : Shared) (σ : St) (H : Hp) (v : V) (u : Value) (Q : St → Hp → Prop), Inv X pins σ H s → RelV v u → t v σ H Q →
    wpAny (model X.prog X.w) X.A (assign target X.env u) (fun _ s' => ∃ σ' H', Inv X pins σ' H' s' ∧ Q σ' H') X.xe s
def PGs (X : Cx) (ts : List Expr) (t : TGs) : Prop :=
  ∀ (pins : List (Addr × Obj)) (s : Shared) (σ : St) (H : Hp) (vs : List V) (us : List Value) (Q : St → Hp → Prop), Inv X pins σ H s → Vals vs us → t vs σ H Q →
    wpAny (model X.prog X.w) X.A (assignInOrder ((assignEach ts X.env).map (·.2)) us) (fun _ s' => ∃ σ' H', Inv X pins σ' H' s' ∧ Q σ' H') X.xe s
abbrev TSet := V → V → V → Hp → (Hp → Prop) → Prop
def PSet (X : Cx) (t : TSet) : Prop :=
  ∀ (pins : List (Addr × Obj)) (s : Shared) (σ : St) (H : Hp) (o i v : V) (ov iv u : Value) (Q : Hp → Prop), Inv X pins σ H s → RelV o ov → RelV i iv → RelV v u → t o i v H Q →
    wpAny (model X.prog X.w) X.A (setItem ov iv u) (fun _ s' => ∃ H', Inv X pins σ H' s' ∧ Q H') X.xe s
abbrev TIp := V → V → Hp → VK → Prop
section
variable {X : Cx} {pos : Pos}
def gName (i : Nat) : TG := fun v σ H Q => Q (σ.set i (some v)) H
theorem pg_name {i : Nat} {x : Str} (hN : X.N.Nodup) (hi : X.N[i]? = some x) (hx : Loc X.env.scope x) (hf : X.fn x = true ∨ X.env.scope.names.lookup x = some .local := by first | exact .inl rfl | exact .inr rfl | assumption) : PG X (.Name x pos) (gName i) := by
  intro pins s σ H v u Q I r h
  exact wpAny_assign_Name (store_ok I hN hi hx r (fun s' I' => ⟨_, H, I', h⟩) hf)
def gNil : TGs := fun vs σ H Q => vs = [] ∧ Q σ H
def gCons (t : TG) (u : TGs) : TGs := fun vs σ H Q => ∃ v r, vs = v :: r ∧ t v σ H fun σ' H' => u r σ' H' Q
theorem pgs_nil : PGs X [] gNil := by
  intro pins s σ H vs us Q I r h
  obtain ⟨e, h⟩ := h
  subst e
  cases r
  exact assignInOrder_nil ⟨σ, H, I, h⟩
theorem pgs_cons {e : Expr} {es : List Expr} {t : TG} {u : TGs} (h1 : PG X e t) (h2 : PGs X es u)
    (hs : (assignEach (e :: es) X.env).map (·.2) = assign e X.env :: (assignEach es X.env).map (·.2) := by rfl) : PGs X (e :: es) (gCons t u) := by
  intro pins s σ H vs us Q I r h
  obtain ⟨v, vr, e1, h⟩ := h
  subst e1
  cases r with
  | cons r rr =>
    rw [hs]
    refine assignInOrder_cons (thn (h1 pins s σ H _ _ _ I r h) fun _ s1 ⟨σ1, H1, I1, q1⟩ => ?_)
    exact h2 pins s1 σ1 H1 _ _ Q I1 rr q1
def gTup (K : PySem.W.Frag) (n : Nat) (t : TGs) : TG := fun v σ H Q => ∃ a xs, v = .ref a ∧ SqT K H a xs ∧ xs.length = n ∧ t xs σ H Q
theorem pg_tup {es : List Expr} {k : Nat} {t : TGs} {n : Nat} (hc : X.calm = true) (h : PGs X es t)
    (hn : (assignEach es X.env).length = n := by rfl) (hst : (assignEach es X.env).findIdx? (·.1) = none := by rfl) : PG X (.Tuple es k pos) (gTup X.K n t) := by
  intro pins s σ H v u Q I r hw
  obtain ⟨a, xs, e1, hq, hl, hw⟩ := hw
  subst e1
  cases r
  obtain ⟨its, rv, ht, hz⟩ := I.tuple hq
  refine assign_Tuple_tuple (I.ok.hd hc) ht (by simp [hn, ← hl, rv.length]) hst fun h' hx => ?_
  have I1 : Inv X pins σ H { s with heap := h' } := I.kept (t' := s.toks) fun b o e => hx b o (Nat.ne_of_lt (Heap.lt_size e)) e
  exact h pins _ σ H xs _ Q I1 (by simpa using rv) hw
def gSub (to ti : TE) (t : TSet) : TG := fun v σ H Q => to σ H fun o H1 => ti σ H1 fun i H2 => t o i v H2 fun H3 => Q σ H3
theorem pg_sub {o i : Expr} {to ti : TE} {t : TSet} (ho : PE X o to) (hi : PE X i ti) (hs : PSet X t)
    (ha : ∀ v, assign (.Subscript o i pos) X.env v = (do
      let ov ← holding [v] (eval o X.env)
      let iv ← holding [v, ov] (eval i X.env)
      standAt pos
      holding [v, ov, iv] (setItem ov iv v)
      release [v, ov, iv] []) := by intro _; rfl) : PG X (.Subscript o i pos) (gSub to ti t) := by
  intro pins s σ H v u Q I r h
  rw [ha]
  refine wpAny_bind (wpAny_holding (thn (ho pins s σ H _ I h) fun ov s1 ⟨x, H1, I1, r1, q1⟩ => ?_))
  refine wpAny_bind (wpAny_holding (thn (hi pins s1 σ H1 _ I1 q1) fun iv s2 ⟨y, H2, I2, r2, q2⟩ => ?_))
  refine wpAny_bind (wpAny_standAt (wpAny_bind (wpAny_holding (thn (hs pins s2 σ H2 x y v ov iv u _ I2 r1 r2 r q2) fun _ s3 ⟨H3, I3, q3⟩ => ?_))))
  exact wpAny_release ⟨σ, H3, I3, q3⟩
def tAsg (te : TE) (g : TG) : TS := fun D σ H => te σ H fun x H1 => g x σ H1 D.nx
theorem ps_asg {tg e : Expr} {te : TE} {g : TG} (he : PE X e te) (hg : PG X tg g) (hs : swapsWithSole [tg] e pos.line X.env = pure false := by rfl) (hw : swappedStores [tg] e X.env = pure none := by rfl)
    (h1 : (assignEach [tg] X.env).map (·.2) = [assign tg X.env] := by rfl) : PS X (.Assign [tg] e pos) (tAsg te g) := by
  intro pins s σ H D I h
  refine wpAny_Assign_stores (thn (he pins s σ H _ I h) fun v s1 ⟨x, H1, I1, r1, q1⟩ => ?_) hs hw
  rw [h1]
  exact thn (hg pins s1 σ H1 x v _ I1 r1 q1) fun _ s2 q => q
theorem ps_set {i : Nat} {x : Str} {e : Expr} {te : TE} {pos' : Pos} (hN : X.N.Nodup) (hi : X.N[i]? = some x) (hx : Loc X.env.scope x) (he : PE X e te) (hs : swapsWith e (some (.Name x pos')) pos.line X.env = pure false := by rfl) (hf : X.fn x = true ∨ X.env.scope.names.lookup x = some .local := by first | exact .inl rfl | exact .inr rfl | assumption) :
    PS X (.Assign [.Name x pos'] e pos) (tAsg te (gName i)) := by
  intro pins s σ H D I h
  refine wpAny_Assign_Name (thn (he pins s σ H _ I h) fun v s1 ⟨y, H1, I1, r1, q1⟩ => ?_) hs
  exact store_ok I1 hN hi hx r1 (fun s2 I2 => ⟨_, H1, I2, q1⟩) hf
end
section
variable {X : Cx} {pos : Pos}
def tWhile (c : TT) (tb : TS) : TS := fun D σ H => ∃ W : Nat → St → Hp → Prop, (∃ m, W m σ H) ∧ ∀ m σ H, W m σ H →
  c σ H fun b H1 => if b = true then ∃ N : St → Hp → Prop, (∀ σ' H', N σ' H' → ∃ m', m' < m ∧ W m' σ' H') ∧ tb { D with nx := N, ct := N, bk := D.nx } σ H1 else D.nx σ H1
theorem ps_while {c : Expr} {body : List Stmt} {tc : TT} {tb : TS} (hp : PassesOwn (model X.prog X.w) X.A X.env X.xe) (hc : PT X c tc) (hb : PSs X body tb) : PS X (.While c body [] pos) (tWhile tc tb) := by
  intro pins s σ H D I h
  obtain ⟨W, ⟨m0, w0⟩, turn⟩ := h
  refine wpAny_While (codeAny_whileLoop (fun n s' => ∃ σ' H', Inv X pins σ' H' s' ∧ W n σ' H') ?_ m0 ⟨σ, H, I, w0⟩)
  rintro n s1 ⟨σ1, H1, I1, w1⟩
  refine wpAny_passesOwn hp (thn (hc pins s1 σ1 H1 _ I1 (turn n σ1 H1 w1)) fun b s2 ⟨H2, I2, q2⟩ => ?_)
  cases b with
  | true =>
    obtain ⟨N, hN, q2⟩ := q2
    rw [if_pos rfl]
    refine wpAny_passesOwn hp (thn (hb pins s2 σ1 H2 _ I2 q2) fun f s3 q3 => ?_)
    cases f with
    | next =>
      obtain ⟨σ3, H3, I3, n3⟩ := q3
      obtain ⟨m', hm, w3⟩ := hN σ3 H3 n3
      exact ⟨m', hm, σ3, H3, I3, w3⟩
    | cont =>
      obtain ⟨σ3, H3, I3, n3⟩ := q3
      obtain ⟨m', hm, w3⟩ := hN σ3 H3 n3
      exact ⟨m', hm, σ3, H3, I3, w3⟩
    | brk => exact q3
    | ret v => exact q3
  | false =>
    rw [if_neg Bool.false_ne_true]
    exact wpAny_execs_nil ⟨σ1, H2, I2, q2⟩
end
structure It where
  go : Nat → Hp → Prop
  yld : Nat → Hp → V → Hp → Prop
  stop : Nat → Hp → Prop
def FpOk (X : Cx) (pins : List (Addr × Obj)) (H : Hp) (b : Addr) : Prop :=
  H b = none ∧ b ≠ X.env.locals ∧ b ∉ X.fs ∧ (b ∈ X.ex ∨ X.s₀.heap.objs.size ≤ b) ∧ (∀ x c, X.env.cells.lookup x = some c → c ≠ b) ∧ ∀ p ∈ X.pn ++ pins, p.1 ≠ b
theorem Inv.fpOk {X : Cx} {pins : List (Addr × Obj)} {σ : St} {H H' : Hp} {s : Shared} {b : Addr} (I : Inv X pins σ H s) (hb : s.heap.objs.size ≤ b) (hn : H' b = none) : FpOk X pins H' b := by
  refine ⟨hn, Nat.ne_of_gt (Nat.lt_of_lt_of_le I.lt hb), I.nofs hb, .inr (Nat.le_trans I.sz hb), fun x c e z => ?_, fun p hp z => ?_⟩
  · obtain ⟨v, q⟩ := I.cell x c e
    exact absurd (Nat.lt_of_lt_of_le q.lt (by rw [z]; exact hb)) (Nat.lt_irrefl _)
  · exact absurd (Nat.lt_of_lt_of_le (Heap.lt_size (I.pin p hp).1) (by rw [z]; exact hb)) (Nat.lt_irrefl _)
structure Turn (P : Program) (w : World) (K : PySem.W.Frag) (tg : Expr) (J : It) (fp : List Addr) (it : Addr) (tn : Nat → Heap → Prop) : Prop where
  mem : it ∈ fp
  obj : ∀ i h, tn i h → ∀ b ∈ fp, ∃ o, h.get? b = some o ∧ ∀ v, o.data ≠ .cell v
  keep : ∀ i h h', tn i h → (∀ b ∈ fp, ∀ o, h.get? b = some o → h'.get? b = some o) → tn i h'
  item : ∀ (X : Cx), X.prog = P → X.w = w → X.K = K → X.calm = true → ∀ (i : Nat) (pins : List (Addr × Obj)) (s : Shared) (σ : St) (H : Hp) (E : Value → Shared → Prop), Inv X pins σ H s → (∀ b ∈ fp, FpOk X pins H b) → tn i s.heap → J.go i H →
    wpAny (model P w) X.A (pyNext (.ref it)) (fun r s1 => ∃ u, r = some u ∧
      wpAny (model P w) X.A (letOwnedTupleGo tg (.ref it) u) (fun _ s2 => ∃ x H', Inv X pins σ H' s2 ∧ RelV x u ∧ J.yld i H x H' ∧ tn (i + 1) s2.heap ∧ ∀ b ∈ fp, H' b = none) E s1) E s
  done : ∀ (X : Cx), X.prog = P → X.w = w → X.K = K → X.calm = true → ∀ (i : Nat) (pins : List (Addr × Obj)) (s : Shared) (σ : St) (H : Hp) (E : Value → Shared → Prop), Inv X pins σ H s → (∀ b ∈ fp, FpOk X pins H b) → tn i s.heap → J.stop i H →
    wpAny (model P w) X.A (pyNext (.ref it)) (fun r s1 => r = none ∧ Inv X pins σ H s1) E s
  self : ∀ (A : Around) (i : Nat) (s : Shared) (Q : Value → Shared → Prop) (E : Value → Shared → Prop), tn i s.heap → Q (.ref it) s → wpAny (model P w) A (pyIter (.ref it)) Q E s
abbrev TI := St → Hp → (It → Hp → Prop) → Prop
def PIE (X : Cx) (pins : List (Addr × Obj)) (σ : St) (tg : Expr) (R : It → Hp → Prop) (itv : Value) (s2 : Shared) : Prop :=
  ∃ (it : Addr) (fp : List Addr) (tn : Nat → Heap → Prop) (J : It) (H' : Hp), itv = .ref it ∧ Inv X pins σ H' s2 ∧ Turn X.prog X.w X.K tg J fp it tn ∧ tn 0 s2.heap ∧ (∀ b ∈ fp, FpOk X pins H' b) ∧ R J H'
def PI (X : Cx) (tg iter : Expr) (wi : TI) : Prop :=
  ∀ (pins : List (Addr × Obj)) (s : Shared) (σ : St) (H : Hp) (R : It → Hp → Prop), Inv X pins σ H s → wi σ H R →
    wpAny (model X.prog X.w) X.A (eval iter X.env) (fun v s1 => wpAny (model X.prog X.w) X.A (pyIter v) (PIE X pins σ tg R) X.xe s1) X.xe s
theorem go_of {M : Model} {A : Around} {E : Value → Shared → Prop} {s : Shared} {tg : Expr} {it : Addr} {u : Value} {o : Obj} {n : String} {vs : Array Value} {Q : Unit → Shared → Prop} (ho : s.heap.get? it = some o) (hc : o.cls = .type n) (hd : o.data = .fields vs)
    (hn : ["enumerate", "zip", "dict_itemiterator", "dict_reverseitemiterator", "odict_iterator", "itertools.zip_longest", "itertools.pairwise"].contains n = false) (hQ : Q () s) : wpAny M A (letOwnedTupleGo tg (.ref it) u) Q E s := by
  unfold letOwnedTupleGo
  cases tg <;> first
    | exact wpAny_pure hQ
    | (cases u <;> first
        | exact wpAny_pure hQ
        | (refine wpAny_bind (wpAny_load ho ?_)
           rw [hc, hd]
           show wpAny M A (if (["enumerate", "zip", "dict_itemiterator", "dict_reverseitemiterator", "odict_iterator", "itertools.zip_longest", "itertools.pairwise"].contains n && vs[0]? == some (rawInt _)) = true then _ else _) Q E s
           rw [if_neg (by intro h; rw [hn, Bool.false_and] at h; cases h)]
           exact wpAny_pure hQ))
def Itl (K : PySem.W.Frag) (a : Addr) : It :=
  ⟨fun i H => ∃ xs x, SqL K H a xs ∧ xs[i]? = some x, fun i H x H' => H' = H ∧ ∀ xs, SqL K H a xs → xs[i]? = some x, fun i H => ∃ xs, SqL K H a xs ∧ xs.length ≤ i⟩
def Itt (K : PySem.W.Frag) (a : Addr) : It :=
  ⟨fun i H => ∃ xs x, SqT K H a xs ∧ xs[i]? = some x, fun i H x H' => H' = H ∧ ∀ xs, SqT K H a xs → xs[i]? = some x, fun i H => ∃ xs, SqT K H a xs ∧ xs.length ≤ i⟩
theorem turn_list {P : Program} {w : World} {K : PySem.W.Frag} {tg : Expr} (a it : Addr) : Turn P w K tg (Itl K a) [it] it (fun i h => h.IsListIter it a i) where
  mem := by simp
  obj := fun i h st b hb => by
    have e : b = it := by simpa using hb
    subst e
    obtain ⟨o, e, c, d⟩ := st
    exact ⟨o, e, fun v z => by rw [d] at z; cases z⟩
  keep := fun i h h' st k => st.at fun o e => k it (by simp) o e
  item := by
    intro X hP hw hK hc i pins s σ H E I hf st hg
    subst hP hw hK
    obtain ⟨xs, x, hq, hx⟩ := hg
    obtain ⟨its, rv, p, hz⟩ := I.list hq
    obtain ⟨u, hu, ru⟩ := rv.get hx
    obtain ⟨f0, f1, f2, f3, f4, f5⟩ := hf it (by simp)
    refine wpAny_pyNext_list_item st p.isList (x := u) (by simpa using hu) fun h' st' sb => ?_
    have I1 : Inv X pins σ H { s with heap := h' } := I.turned (t' := s.toks) (fun b o hb e => (sb.2 b hb).trans e) f0 f1 f3 f4 f5
    obtain ⟨o, e, c, d⟩ := id st'
    exact ⟨u, rfl, go_of (s := { s with heap := h' }) e c d (by decide) ⟨x, H, I1, ru, ⟨rfl, fun ys hy => by rw [I.list_inj hy hq]; exact hx⟩, st', fun b hb => (hf b hb).1⟩⟩
  done := by
    intro X hP hw hK hc i pins s σ H E I hf st hg
    subst hP hw hK
    obtain ⟨xs, hq, hx⟩ := hg
    obtain ⟨its, rv, p, hz⟩ := I.list hq
    obtain ⟨f0, f1, f2, f3, f4, f5⟩ := hf it (by simp)
    have hl := rv.length
    exact wpAny_pyNext_list_end (I.ok.hd hc) st p.isList (by simp; omega) fun h' eb => ⟨rfl, I.turned (t' := s.toks) (fun b o hb e => eb b o hb e) f0 f1 f3 f4 f5⟩
  self := fun _ _ _ _ _ st h => wpAny_pyIter_listiter st h
theorem turn_tuple {P : Program} {w : World} {K : PySem.W.Frag} {tg : Expr} (a it : Addr) : Turn P w K tg (Itt K a) [it] it (fun i h => h.IsTupleIter it a i) where
  mem := by simp
  obj := fun i h st b hb => by
    have e : b = it := by simpa using hb
    subst e
    obtain ⟨o, e, c, d⟩ := st
    exact ⟨o, e, fun v z => by rw [d] at z; cases z⟩
  keep := fun i h h' st k => st.at fun o e => k it (by simp) o e
  item := by
    intro X hP hw hK hc i pins s σ H E I hf st hg
    subst hP hw hK
    obtain ⟨xs, x, hq, hx⟩ := hg
    obtain ⟨its, rv, p, hz⟩ := I.tuple hq
    obtain ⟨u, hu, ru⟩ := rv.get hx
    obtain ⟨f0, f1, f2, f3, f4, f5⟩ := hf it (by simp)
    refine wpAny_pyNext_tuple_item st (show s.heap.IsTuple a its.toArray from p) (x := u) (by simpa using hu) fun h' st' sb => ?_
    have I1 : Inv X pins σ H { s with heap := h' } := I.turned (t' := s.toks) (fun b o hb e => (sb.2 b hb).trans e) f0 f1 f3 f4 f5
    obtain ⟨o, e, c, d⟩ := id st'
    exact ⟨u, rfl, go_of (s := { s with heap := h' }) e c d (by decide) ⟨x, H, I1, ru, ⟨rfl, fun ys hy => by rw [I.tuple_inj hy hq]; exact hx⟩, st', fun b hb => (hf b hb).1⟩⟩
  done := by
    intro X hP hw hK hc i pins s σ H E I hf st hg
    subst hP hw hK
    obtain ⟨xs, hq, hx⟩ := hg
    obtain ⟨its, rv, p, hz⟩ := I.tuple hq
    obtain ⟨f0, f1, f2, f3, f4, f5⟩ := hf it (by simp)
    have hl := rv.length
    exact wpAny_pyNext_tuple_end (I.ok.hd hc) st (show s.heap.IsTuple a its.toArray from p) (by simp; omega) fun h' eb => ⟨rfl, I.turned (t' := s.toks) (fun b o hb e => eb b o hb e) f0 f1 f3 f4 f5⟩
  self := fun _ _ _ _ _ st h => wpAny_pyIter_tupleiter st h
section
variable {X : Cx} {tg : Expr}
def tFor (wi : TI) (g : TG) (tb : TS) : TS := fun D σ H => wi σ H fun J H1 => ∃ W : Nat → Nat → St → Hp → Prop, (∃ m, W 0 m σ H1) ∧ ∀ i m σ H, W i m σ H →
  (J.stop i H ∧ D.nx σ H) ∨ (J.go i H ∧ ∃ N : St → Hp → Prop, (∀ σ' H', N σ' H' → ∃ m', m' < m ∧ W (i + 1) m' σ' H') ∧ ∀ x H', J.yld i H x H' → g x σ H' fun σ2 H2 => tb { D with nx := N, ct := N, bk := D.nx } σ2 H2)
def pinsAt (fp : List Addr) (h : Heap) : List (Addr × Obj) := fp.filterMap fun b => (h.get? b).map fun o => (b, o)
theorem mem_pinsAt {fp : List Addr} {h : Heap} {b : Addr} {o : Obj} (hb : b ∈ fp) (e : h.get? b = some o) : (b, o) ∈ pinsAt fp h := List.mem_filterMap.mpr ⟨b, hb, by rw [e]; rfl⟩
theorem of_pinsAt {fp : List Addr} {h : Heap} {p : Addr × Obj} (hp : p ∈ pinsAt fp h) : p.1 ∈ fp ∧ h.get? p.1 = some p.2 := by
  obtain ⟨b, hb, e⟩ := List.mem_filterMap.mp hp
  cases q : h.get? b with
  | none => rw [q] at e; cases e
  | some o =>
    rw [q] at e
    have e' : (b, o) = p := Option.some.inj e
    subst e'
    exact ⟨hb, q⟩
theorem Inv.pinned {pins : List (Addr × Obj)} {σ : St} {H : Hp} {s : Shared} {fp : List Addr} (I : Inv X pins σ H s) (hf : ∀ b ∈ fp, FpOk X pins H b) (ho : ∀ b ∈ fp, ∃ o, s.heap.get? b = some o ∧ ∀ v, o.data ≠ .cell v) : Inv X (pins ++ pinsAt fp s.heap) σ H s :=
  I.pins_of fun p hp => (List.mem_append.mp hp).elim (fun z => I.pin p (List.mem_append_right _ z)) fun z => by
    obtain ⟨hb, e⟩ := of_pinsAt z
    obtain ⟨f0, f1, f2, _⟩ := hf p.1 hb
    obtain ⟨o, e', d⟩ := ho p.1 hb
    rw [e] at e'; cases e'
    exact ⟨e, f0, f1, f2, d⟩
theorem Inv.unpinned {pins pl : List (Addr × Obj)} {σ : St} {H : Hp} {s : Shared} (I : Inv X (pins ++ pl) σ H s) : Inv X pins σ H s := I.pins_of fun p hp => I.pin p (List.mem_append_right _ (List.mem_append_left _ hp))
theorem ps_for {iter : Expr} {body : List Stmt} {wi : TI} {g : TG} {tb : TS} {pos : Pos} (hp : PassesOwn (model X.prog X.w) X.A X.env X.xe) (hc : X.calm = true) (hi : PI X tg iter wi) (hg : PG X tg g) (hb : PSs X body tb)
    (hs : ∀ x, foldedSetIterable iter X.env x = pure x := by intro _; rfl) : PS X (.For tg iter body [] pos) (tFor wi g tb) := by
  intro pins s σ H D I h
  refine wpAny_For (thn (hi pins s σ H _ I h) fun v s1 h1 => thn h1 fun itv s2 h2 => ?_) hs
  obtain ⟨it, fp, tn, J, H2, e, I2, T, st2, f2, W, ⟨m0, w0⟩, turn⟩ := h2
  subst e
  -- what stays true of the iterator's objects through the loop
  have stat : ∀ {H' : Hp}, (∀ b ∈ fp, H' b = none) → ∀ b ∈ fp, FpOk X pins H' b := fun hn b hb => ⟨hn b hb, (f2 b hb).2⟩
  refine codeAny_forLoop_any (fun n s' => ∃ i σ' H', Inv X pins σ' H' s' ∧ tn i s'.heap ∧ (∀ b ∈ fp, H' b = none) ∧ W i n σ' H') ?_ m0 ⟨0, σ, H2, I2, st2, fun b hb => (f2 b hb).1, w0⟩
  rintro n s3 ⟨i, σ3, H3, I3, st3, fr3, w3⟩
  rcases turn i n σ3 H3 w3 with ⟨stop, qn⟩ | ⟨go, N, hN, step⟩
  · refine wpAny_passesOwn hp (thn (T.done X rfl rfl rfl hc i pins s3 σ3 H3 X.xe I3 (stat fr3) st3 stop) fun r s4 ⟨hr, I4⟩ => ?_)
    subst hr
    exact wpAny_execs_nil ⟨σ3, H3, I4, qn⟩
  · refine wpAny_passesOwn hp (thn (T.item X rfl rfl rfl hc i pins s3 σ3 H3 X.xe I3 (stat fr3) st3 go) fun r s4 ⟨u, hr, h4⟩ => ?_)
    subst hr
    refine wpAny_passesOwn hp (thn h4 fun _ s5 ⟨x, H5, I5, r5, y5, st5, fr5⟩ => ?_)
    have I5' := I5.pinned (stat fr5) (T.obj _ _ st5)
    refine wpAny_passesOwn hp (thn (hg _ s5 σ3 H5 x u _ I5' r5 (step x H5 y5)) fun _ s6 ⟨σ6, H6, I6, q6⟩ => ?_)
    refine wpAny_passesOwn hp (thn (hb _ s6 σ6 H6 _ I6 q6) fun f s7 q7 => ?_)
    have again : ∀ {σ7 : St} {H7 : Hp}, Inv X (pins ++ pinsAt fp s5.heap) σ7 H7 s7 → N σ7 H7 → ∃ m, m < n ∧ ∃ i σ' H', Inv X pins σ' H' s7 ∧ tn i s7.heap ∧ (∀ b ∈ fp, H' b = none) ∧ W i m σ' H' := fun {σ7 H7} I7 n7 => by
      obtain ⟨m', hm, w7⟩ := hN σ7 H7 n7
      refine ⟨m', hm, i + 1, σ7, H7, I7.unpinned, T.keep _ _ _ st5 fun b hb o e => (I7.pin (b, o) (List.mem_append_right _ (List.mem_append_right _ (mem_pinsAt hb e)))).1, fun b hb => ?_, w7⟩
      obtain ⟨o, e, d⟩ := T.obj _ _ st5 b hb
      exact (I7.pin (b, o) (List.mem_append_right _ (List.mem_append_right _ (mem_pinsAt hb e)))).2.1
    cases f with
    | next => obtain ⟨σ7, H7, I7, n7⟩ := q7; exact again I7 n7
    | cont => obtain ⟨σ7, H7, I7, n7⟩ := q7; exact again I7 n7
    | brk => obtain ⟨σ7, H7, I7, q7⟩ := q7; exact ⟨σ7, H7, I7.unpinned, q7⟩
    | ret v => obtain ⟨x7, σ7, H7, I7, r7, q7⟩ := q7; exact ⟨x7, σ7, H7, I7.unpinned, r7, q7⟩
end
abbrev R2 := V → V → Hp → VK → Prop
def OpR (X : Cx) (f : Value → Value → Sem Value) (r : R2) : Prop :=
  ∀ (pins : List (Addr × Obj)) (s : Shared) (σ : St) (H : Hp) (x y : V) (v u : Value) (Q : VK), Inv X pins σ H s → RelV x v → RelV y u → r x y H Q →
    wpAny (model X.prog X.w) X.A (f v u) (EP X pins σ Q) X.xe s
def UnR (X : Cx) (f : Value → Sem Value) (r : V → Hp → VK → Prop) : Prop :=
  ∀ (pins : List (Addr × Obj)) (s : Shared) (σ : St) (H : Hp) (x : V) (v : Value) (Q : VK), Inv X pins σ H s → RelV x v → r x H Q →
    wpAny (model X.prog X.w) X.A (f v) (EP X pins σ Q) X.xe s
def CallR (X : Cx) (f : Value) (r : List V → Hp → VK → Prop) : Prop :=
  ∀ (pins : List (Addr × Obj)) (s : Shared) (σ : St) (H : Hp) (xs : List V) (us : List Value) (Q : VK), Inv X pins σ H s → Vals xs us → r xs H Q →
    wpAny (model X.prog X.w) X.A (call f us) (EP X pins σ Q) X.xe s
def TruR (X : Cx) (r : V → Hp → (Bool → Hp → Prop) → Prop) : Prop :=
  ∀ (pins : List (Addr × Obj)) (s : Shared) (σ : St) (H : Hp) (x : V) (v : Value) (Q : Bool → Hp → Prop), Inv X pins σ H s → RelV x v → r x H Q →
    wpAny (model X.prog X.w) X.A (truthy v) (TP X pins σ Q) X.xe s
def tOp (r : R2) (ta tb : TE) : TE := fun σ H Q => ta σ H fun x H1 => tb σ H1 fun y H2 => r x y H2 Q
def tUn (r : V → Hp → VK → Prop) (ta : TE) : TE := fun σ H Q => ta σ H fun x H1 => r x H1 Q
def rI (C : Int → Int → Prop) (g : Int → Int → V) : R2 := fun x y H Q => ∃ i j, x = .int i ∧ y = .int j ∧ C i j ∧ Q (g i j) H
def rI0 (g : Int → Int → V) : R2 := fun x y H Q => ∃ i j, x = .int i ∧ y = .int j ∧ Q (g i j) H
def rU (g : Int → V) : V → Hp → VK → Prop := fun x H Q => ∃ i, x = .int i ∧ Q (g i) H
section
variable {X : Cx} {a b c : Expr} {ta tb tc : TE} {pos : Pos}
theorem binT (ha : PE X a ta) (hb : PE X b tb) {pins : List (Addr × Obj)} {s : Shared} {σ : St} {H : Hp} {R : V → V → Hp → Prop} (I : Inv X pins σ H s)
    (h : ta σ H fun x H1 => tb σ H1 fun y H2 => R x y H2) {Q : Value → Shared → Prop} {f : Value → Value → Sem Value}
    (hf : ∀ v u s2 x y H2, Inv X pins σ H2 s2 → RelV x v → RelV y u → R x y H2 → wpAny (model X.prog X.w) X.A (f v u) Q X.xe s2) :
    wpAny (model X.prog X.w) X.A (eval a X.env) (fun v s₁ => wpAny (model X.prog X.w) X.A (eval b X.env) (fun u s₂ => wpAny (model X.prog X.w) X.A (f v u) Q X.xe s₂) X.xe s₁) X.xe s := by
  refine thn (ha pins s σ H _ I h) fun v s1 ⟨x, H1, I1, r1, q1⟩ => ?_
  refine thn (hb pins s1 σ H1 _ I1 q1) fun u s2 ⟨y, H2, I2, r2, q2⟩ => ?_
  exact hf v u s2 x y H2 I2 r1 r2 q2
theorem pe_op {op : Operator} {r : R2} (ho : OpR X (binaryOp op) r) (ha : PE X a ta) (hb : PE X b tb) : PE X (.BinOp a op b pos) (tOp r ta tb) := by
  intro pins s σ H Q I h
  exact wpAny_BinOp (binT ha hb I h fun v u s2 x y H2 I2 rx ry q => ho pins s2 σ H2 x y v u Q I2 rx ry q)
theorem pe_un {op : UnaryOp} {r : V → Hp → VK → Prop} (ho : UnR X (unaryOp op) r) (ha : PE X a ta) : PE X (.UnaryOp op a pos) (tUn r ta) := by
  intro pins s σ H Q I h
  exact UnaryOp_ (thn (ha pins s σ H _ I h) fun v s1 ⟨x, H1, I1, r1, q1⟩ => ho pins s1 σ H1 x v Q I1 r1 q1)
theorem opI {f : Value → Value → Sem Value} {C : Int → Int → Prop} {g : Int → Int → Int}
    (rule : ∀ (i j : Int) (t u : Tok) (s : Shared) (Q : Value → Shared → Prop) (E : Value → Shared → Prop), C i j → Q (.int (g i j) s.toks) { s with toks := s.toks + 1 } → wpAny (model X.prog X.w) X.A (f (.int i t) (.int j u)) Q E s) :
    OpR X f (rI C fun i j => .int (g i j)) := by
  intro pins s σ H x y v u Q I rx ry h
  obtain ⟨i, j, rfl, rfl, hc, q⟩ := h
  obtain ⟨t, rfl⟩ := rx
  obtain ⟨t', rfl⟩ := ry
  exact rule i j t t' s _ _ hc ⟨.int (g i j), H, I.tok _, ⟨_, rfl⟩, q⟩
theorem opI0 {f : Value → Value → Sem Value} {g : Int → Int → Int}
    (rule : ∀ (i j : Int) (t u : Tok) (s : Shared) (Q : Value → Shared → Prop) (E : Value → Shared → Prop), Q (.int (g i j) s.toks) { s with toks := s.toks + 1 } → wpAny (model X.prog X.w) X.A (f (.int i t) (.int j u)) Q E s) :
    OpR X f (rI0 fun i j => .int (g i j)) := by
  intro pins s σ H x y v u Q I rx ry h
  obtain ⟨i, j, rfl, rfl, q⟩ := h
  obtain ⟨t, rfl⟩ := rx
  obtain ⟨t', rfl⟩ := ry
  exact rule i j t t' s _ _ ⟨.int (g i j), H, I.tok _, ⟨_, rfl⟩, q⟩
theorem opB0 {f : Value → Value → Sem Value} {g : Int → Int → Bool}
    (rule : ∀ (i j : Int) (t u : Tok) (s : Shared) (Q : Value → Shared → Prop) (E : Value → Shared → Prop), Q (.bool (g i j)) s → wpAny (model X.prog X.w) X.A (f (.int i t) (.int j u)) Q E s) :
    OpR X f (rI0 fun i j => .bl (g i j)) := by
  intro pins s σ H x y v u Q I rx ry h
  obtain ⟨i, j, rfl, rfl, q⟩ := h
  obtain ⟨t, rfl⟩ := rx
  obtain ⟨t', rfl⟩ := ry
  exact rule i j t t' s _ _ ⟨.bl (g i j), H, I, rfl, q⟩
def CDiv (i j : Int) : Prop := 0 < j ∧ j < 1073741824
def CPow (i j : Int) : Prop := 0 ≤ j ∧ j ≤ 1000000 ∧ i.natAbs < 2 ^ 64
def CMul (i j : Int) : Prop := (-(2 ^ 64) < i ∧ i < 2 ^ 64) ∨ (-(2 ^ 64) < j ∧ j < 2 ^ 64)
theorem CMul.ok {i j : Int} (h : CMul i j) : IntMulOk i j := by
  rcases h with ⟨h1, h2⟩ | ⟨h1, h2⟩
  · exact .of_left (intBits_le_64 h1 h2)
  · exact .of_right (intBits_le_64 h1 h2)
theorem two_pow_nn (k : Nat) : (0 : Int) ≤ 2 ^ k := by
  rw [two_pow_cast]
  exact Int.natCast_nonneg _
theorem op_add : OpR X (binaryOp .Add) (rI0 fun i j => .int (i + j)) := opI0 fun _ _ _ _ _ _ _ q => add_int q
theorem op_sub : OpR X (binaryOp .Sub) (rI0 fun i j => .int (i - j)) := opI0 fun _ _ _ _ _ _ _ q => sub_int q
theorem op_fdiv : OpR X (binaryOp .FloorDiv) (rI CDiv fun i j => .int (i / j)) := opI fun i j _ _ _ _ _ hc q => by
  have h1 : (0 : Int) < j := hc.1
  have h2 : j < 1073741824 := hc.2
  exact floordiv_int (by omega) (by rw [Int.fdiv_eq_ediv_of_nonneg i (by omega)]; exact q) (.inl (PyProof.noPylong_small (by omega)))
theorem op_mod : OpR X (binaryOp .Mod) (rI (fun _ j => 0 < j) fun i j => .int (i % j)) := opI fun i j _ _ _ _ _ hc q => by
  have h1 : (0 : Int) < j := hc
  exact mod_int' (by omega) (by rw [Int.fmod_eq_emod_of_nonneg i (by omega)]; exact q)
theorem op_pow : OpR X (binaryOp .Pow) (rI CPow fun i j => .int (i ^ j.toNat)) := opI fun _ _ _ _ _ _ _ hc q => pow_int_small hc.1 hc.2.1 hc.2.2 q
theorem unI {f : Value → Sem Value} {g : Int → Int}
    (rule : ∀ (i : Int) (t : Tok) (s : Shared) (Q : Value → Shared → Prop) (E : Value → Shared → Prop), Q (.int (g i) s.toks) { s with toks := s.toks + 1 } → wpAny (model X.prog X.w) X.A (f (.int i t)) Q E s) :
    UnR X f (rU fun i => .int (g i)) := by
  intro pins s σ H x v Q I rx h
  obtain ⟨i, rfl, q⟩ := h
  obtain ⟨t, rfl⟩ := rx
  exact rule i t s _ _ ⟨.int (g i), H, I.tok _, ⟨_, rfl⟩, q⟩
theorem un_neg : UnR X (unaryOp .USub) (rU fun i => .int (-i)) := unI fun _ _ _ _ _ q => neg_int q
end
def scal : V → V → Bool
  | .non, .non => true | .non, .int _ => true | .int _, .non => true | .non, .bl _ => true | .bl _, .non => true | .non, .str _ => true | .str _, .non => true
  | .int _, .int _ => true | .bl _, .bl _ => true | .str _, .str _ => true | .byt _, .byt _ => true
  | .int _, .str _ => true | .str _, .int _ => true | .bl _, .str _ => true | .str _, .bl _ => true
  | _, _ => false
def rEq : R2 := fun x y H Q => scal x y = true ∧ Q (.bl (decide (x = y))) H
def rNe : R2 := fun x y H Q => scal x y = true ∧ Q (.bl (!decide (x = y))) H
theorem dec_int {i j : Int} : decide (V.int i = V.int j) = (i == j) := by
  rw [Bool.eq_iff_iff]
  simp
theorem dec_bl {i j : Bool} : decide (V.bl i = V.bl j) = (i == j) := by
  rw [Bool.eq_iff_iff]
  simp
theorem dec_str {i j : Str} : decide (V.str i = V.str j) = (i == j) := by
  rw [Bool.eq_iff_iff]
  simp
theorem dec_byt {i j : Array UInt8} : decide (V.byt i = V.byt j) = (i.toList == j.toList) := by
  rw [Bool.eq_iff_iff]
  cases i
  cases j
  simp
section
variable {X : Cx} {a b c : Expr} {ta tb tc : TE} {pos : Pos}
theorem fin_bl {pins : List (Addr × Obj)} {σ : St} {H : Hp} {s : Shared} {Q : VK} {k k' : Bool} (I : Inv X pins σ H s) (q : Q (.bl k) H) (e : k = k') : EP X pins σ Q (.bool k') s := by
  subst e
  exact ⟨.bl k, H, I, rfl, q⟩
theorem op_eq : OpR X (compareOp .Eq) rEq := by
  intro pins s σ H x y v u Q I rx ry h
  obtain ⟨hs, q⟩ := h
  cases x with
  | non =>
    cases rx
    cases y with
    | non => cases ry; exact PySem.EqNone.eq_none_none (fin_bl I q (by simp))
    | bl j => cases ry; exact PySem.EqNone.eq_none_bool (fin_bl I q (by simp))
    | int j => obtain ⟨t', rfl⟩ := ry; exact PySem.EqNone.eq_none_int (fin_bl I q (by simp))
    | str j => obtain ⟨t', rfl⟩ := ry; exact PySem.EqNone.eq_none_str (fin_bl I q (by simp))
    | _ => exact absurd (show false = true from hs) Bool.false_ne_true
  | bl i =>
    cases rx
    cases y with
    | non => cases ry; exact PySem.EqNone.eq_bool_none (fin_bl I q (by simp))
    | bl j => cases ry; exact eq_bool (fin_bl I q dec_bl)
    | str j => obtain ⟨t', rfl⟩ := ry; exact PySem.EqMixed.eq_bool_str (fin_bl I q (by simp))
    | _ => exact absurd (show false = true from hs) Bool.false_ne_true
  | int i =>
    obtain ⟨t, rfl⟩ := rx
    cases y with
    | non => cases ry; exact PySem.EqNone.eq_int_none (fin_bl I q (by simp))
    | int j => obtain ⟨t', rfl⟩ := ry; exact eq_int (fin_bl I q dec_int)
    | str j => obtain ⟨t', rfl⟩ := ry; exact PySem.EqMixed.eq_int_str (fin_bl I q (by simp))
    | _ => exact absurd (show false = true from hs) Bool.false_ne_true
  | str i =>
    obtain ⟨t, rfl⟩ := rx
    cases y with
    | non => cases ry; exact PySem.EqNone.eq_str_none (fin_bl I q (by simp))
    | bl j => cases ry; exact PySem.EqMixed.eq_str_bool (fin_bl I q (by simp))
    | int j => obtain ⟨t', rfl⟩ := ry; exact PySem.EqMixed.eq_str_int (fin_bl I q (by simp))
    | str j => obtain ⟨t', rfl⟩ := ry; exact eq_str (fin_bl I q dec_str)
    | _ => exact absurd (show false = true from hs) Bool.false_ne_true
  | byt i =>
    obtain ⟨t, rfl⟩ := rx
    cases y with
    | byt j => obtain ⟨t', rfl⟩ := ry; exact PySem.W.eq_bytes (fin_bl I q dec_byt)
    | _ => exact absurd (show false = true from hs) Bool.false_ne_true
  | _ => cases y <;> exact absurd (show false = true from hs) Bool.false_ne_true
theorem op_ne : OpR X (compareOp .NotEq) rNe := by
  intro pins s σ H x y v u Q I rx ry h
  obtain ⟨hs, q⟩ := h
  cases x with
  | non =>
    cases rx
    cases y with
    | non => cases ry; exact PySem.EqNone.ne_none_none (fin_bl I q (by simp))
    | bl j => cases ry; exact PySem.EqNone.ne_none_bool (fin_bl I q (by simp))
    | int j => obtain ⟨t', rfl⟩ := ry; exact PySem.EqNone.ne_none_int (fin_bl I q (by simp))
    | str j => obtain ⟨t', rfl⟩ := ry; exact PySem.EqNone.ne_none_str (fin_bl I q (by simp))
    | _ => exact absurd (show false = true from hs) Bool.false_ne_true
  | bl i =>
    cases rx
    cases y with
    | non => cases ry; exact PySem.EqNone.ne_bool_none (fin_bl I q (by simp))
    | bl j => cases ry; exact ne_bool (fin_bl I q (congrArg not dec_bl))
    | str j => obtain ⟨t', rfl⟩ := ry; exact PySem.EqMixed.ne_bool_str (fin_bl I q (by simp))
    | _ => exact absurd (show false = true from hs) Bool.false_ne_true
  | int i =>
    obtain ⟨t, rfl⟩ := rx
    cases y with
    | non => cases ry; exact PySem.EqNone.ne_int_none (fin_bl I q (by simp))
    | int j => obtain ⟨t', rfl⟩ := ry; exact ne_int (fin_bl I q (congrArg not dec_int))
    | str j => obtain ⟨t', rfl⟩ := ry; exact PySem.EqMixed.ne_int_str (fin_bl I q (by simp))
    | _ => exact absurd (show false = true from hs) Bool.false_ne_true
  | str i =>
    obtain ⟨t, rfl⟩ := rx
    cases y with
    | non => cases ry; exact PySem.EqNone.ne_str_none (fin_bl I q (by simp))
    | bl j => cases ry; exact PySem.EqMixed.ne_str_bool (fin_bl I q (by simp))
    | int j => obtain ⟨t', rfl⟩ := ry; exact PySem.EqMixed.ne_str_int (fin_bl I q (by simp))
    | str j => obtain ⟨t', rfl⟩ := ry; exact ne_str (fin_bl I q (congrArg not dec_str))
    | _ => exact absurd (show false = true from hs) Bool.false_ne_true
  | byt i =>
    obtain ⟨t, rfl⟩ := rx
    cases y with
    | byt j => obtain ⟨t', rfl⟩ := ry; exact PySem.W.ne_bytes (fin_bl I q (congrArg not dec_byt))
    | _ => exact absurd (show false = true from hs) Bool.false_ne_true
  | _ => cases y <;> exact absurd (show false = true from hs) Bool.false_ne_true
theorem op_lt : OpR X (compareOp .Lt) (rI0 fun i j => .bl (decide (i < j))) := opB0 fun _ _ _ _ _ _ _ q => lt_int q
theorem op_le : OpR X (compareOp .LtE) (rI0 fun i j => .bl (decide (i ≤ j))) := opB0 fun _ _ _ _ _ _ _ q => le_int q
theorem op_gt : OpR X (compareOp .Gt) (rI0 fun i j => .bl (decide (j < i))) := opB0 fun _ _ _ _ _ _ _ q => gt_int q
theorem op_in_str : OpR X (compareOp .In) (fun x y H Q => ∃ i j, x = .str i ∧ y = .str j ∧ Q (.bl (!(Builtin.Str.occurrences j i 0 j.length 1).isEmpty)) H) := by
  intro pins s σ H x y v u Q I rx ry h
  obtain ⟨i, j, rfl, rfl, q⟩ := h
  obtain ⟨t, rfl⟩ := rx
  obtain ⟨t', rfl⟩ := ry
  exact in_str (fin_bl I q rfl)
theorem op_isN : OpR X (compareOp .Is) (fun x y H Q => y = .non ∧ Q (.bl (decide (x = .non))) H) := by
  intro pins s σ H x y v u Q I rx ry h
  obtain ⟨rfl, q⟩ := h
  cases ry
  refine is_none_gen (fin_bl I q ?_)
  cases x <;> first
    | (cases rx; rfl)
    | (obtain ⟨t, rfl⟩ := rx; rfl)
theorem op_notin_str : OpR X (compareOp .NotIn) (fun x y H Q => ∃ i j, x = .str i ∧ y = .str j ∧ Q (.bl (!(!(Builtin.Str.occurrences j i 0 j.length 1).isEmpty))) H) := by
  intro pins s σ H x y v u Q I rx ry h
  obtain ⟨i, j, rfl, rfl, q⟩ := h
  obtain ⟨t, rfl⟩ := rx
  obtain ⟨t', rfl⟩ := ry
  exact notIn_str (fin_bl I q rfl)
theorem OpR.or {f : Value → Value → Sem Value} {r r' : R2} (h : OpR X f r) (h' : OpR X f r') : OpR X f (fun x y H Q => r x y H Q ∨ r' x y H Q) := by
  intro pins s σ H x y v u Q I rx ry q
  rcases q with q | q
  · exact h pins s σ H x y v u Q I rx ry q
  · exact h' pins s σ H x y v u Q I rx ry q
theorem nomark (b : Expr) {op : CmpOp} (h : op ≠ .In := by decide) (h2 : op ≠ .NotIn := by decide) : behindInMarks op b = false := by
  have e1 : (op == CmpOp.In) = false := by cases op <;> first | rfl | exact absurd rfl h
  have e2 : (op == CmpOp.NotIn) = false := by cases op <;> first | rfl | exact absurd rfl h2
  cases b <;> simp [behindInMarks, e1, e2]
theorem pe_cmpR {op : CmpOp} {r : R2} (ho : OpR X (compareOp op) r) (ha : PE X a ta) (hb : PE X b tb) (hm : behindInMarks op b = false) : PE X (.Compare a [op] [b] pos) (tOp r ta tb) := by
  intro pins s σ H Q I h
  exact wpAny_Compare1 (binT ha hb I h fun v u s2 x y H2 I2 rx ry q => ho pins s2 σ H2 x y v u Q I2 rx ry q) hm
def tTest (t : TE) : TT := fun σ H Q => t σ H fun x H' => ∃ k, x = .bl k ∧ Q k H'
theorem pt_cmpR {op : CmpOp} {r : R2} (ho : OpR X (compareOp op) r) (ha : PE X a ta) (hb : PE X b tb) (hm : behindInMarks op b = false) : PT X (.Compare a [op] [b] pos) (tTest (tOp r ta tb)) := by
  intro pins s σ H Q I h
  refine wpAny_isTrue_Compare1 (thn (ha pins s σ H _ I h) fun v s1 ⟨x, H1, I1, r1, q1⟩ => thn (hb pins s1 σ H1 _ I1 q1) fun u s2 ⟨y, H2, I2, r2, q2⟩ =>
    thn (ho pins s2 σ H2 x y v u _ I2 r1 r2 q2) fun c s3 ⟨z, H3, I3, r3, k, e, q3⟩ => ?_) hm
  subst e
  cases r3
  exact wpAny_truthy_bool ⟨H3, I3, q3⟩
def tChain (r r' : R2) (ta tb tc : TE) : TE := fun σ H Q => ta σ H fun x H1 => tb σ H1 fun y H2 => r x y H2 fun z H3 => ∃ k, z = .bl k ∧
  (if k = true then tc σ H3 fun w' H4 => r' y w' H4 Q else Q (.bl false) H3)
theorem pe_chain {op op' : CmpOp} {r r' : R2} (ho : OpR X (compareOp op) r) (ho' : OpR X (compareOp op') r') (ha : PE X a ta) (hb : PE X b tb) (hc : PE X c tc)
    (hm : lastMarks [op, op'] [b, c] = false := by with_unfolding_all rfl) : PE X (.Compare a [op, op'] [b, c] pos) (tChain r r' ta tb tc) := by
  intro pins s σ H Q I h
  refine Compare_chain (thn (ha pins s σ H _ I h) fun v s1 ⟨x, H1, I1, r1, q1⟩ => chain_link (thn (hb pins s1 σ H1 _ I1 q1) fun u s2 ⟨y, H2, I2, r2, q2⟩ =>
    thn (ho pins s2 σ H2 x y v u _ I2 r1 r2 q2) fun d s3 ⟨z, H3, I3, r3, k, e, q3⟩ => ?_)) hm
  subst e
  cases r3
  refine wpAny_truthy_bool ?_
  cases k with
  | false => exact ite_ff ⟨.bl false, H3, I3, rfl, q3⟩
  | true => exact ite_tt (chain_last (thn (hc pins s3 σ H3 _ I3 q3) fun w' s4 ⟨z', H4, I4, r4, q4⟩ => ho' pins s4 σ H4 y z' u w' Q I4 r2 r4 q4))
theorem pt_chain {op op' : CmpOp} {r r' : R2} (ho : OpR X (compareOp op) r) (ho' : OpR X (compareOp op') r') (ha : PE X a ta) (hb : PE X b tb) (hc : PE X c tc)
    (hm : lastMarks [op, op'] [b, c] = false := by with_unfolding_all rfl) : PT X (.Compare a [op, op'] [b, c] pos) (tTest (tChain r r' ta tb tc)) := by
  intro pins s σ H Q I h
  refine isTrue_chain (thn (ha pins s σ H _ I h) fun v s1 ⟨x, H1, I1, r1, q1⟩ => test_link (thn (hb pins s1 σ H1 _ I1 q1) fun u s2 ⟨y, H2, I2, r2, q2⟩ =>
    thn (ho pins s2 σ H2 x y v u _ I2 r1 r2 q2) fun d s3 ⟨z, H3, I3, r3, k, e, q3⟩ => ?_)) hm
  subst e
  cases r3
  refine wpAny_truthy_bool ?_
  cases k with
  | false =>
    obtain ⟨k', e', q'⟩ := q3
    cases e'
    exact ite_ff ⟨H3, I3, q'⟩
  | true =>
    refine ite_tt (test_last (thn (hc pins s3 σ H3 _ I3 q3) fun w' s4 ⟨z', H4, I4, r4, q4⟩ => thn (ho' pins s4 σ H4 y z' u w' _ I4 r2 r4 q4) fun d' s5 ⟨z2, H5, I5, r5, k2, e2, q5⟩ => ?_))
    subst e2
    cases r5
    exact wpAny_truthy_bool ⟨H5, I5, q5⟩
def TruV (K : PySem.W.Frag) (x : V) (H : Hp) (k : Bool) : Prop :=
  match x with
  | .non => k = false
  | .bl b => k = b
  | .int i => k = (i != 0)
  | .str y => y.length ≤ sizeLine ∧ k = ((y.length : Int) != 0)
  | .byt y => y.size ≤ sizeLine ∧ k = ((y.size : Int) != 0)
  | .ref p => (∃ xs, SqL K H p xs ∧ k = !xs.isEmpty) ∨ (∃ xs, SqT K H p xs ∧ k = !xs.isEmpty) ∨ ∃ kvs, H p = some (.dK kvs) ∧ k = !kvs.isEmpty
  | _ => False
theorem isEmpty_kv {κ : Type} {kvs : List (κ × V)} {vs : List (κ × Value)} (r : KV kvs vs) : (!vs.isEmpty) = !kvs.isEmpty := by
  cases r <;> rfl
theorem isEmpty_of {xs : List V} {its : List Value} (r : Vals xs its) : (!its.toArray.isEmpty) = !xs.isEmpty := by
  cases r <;> simp
theorem line63 : (sizeLine : Nat) < 2 ^ 63 := by rw [sizeLine_eq]; decide
theorem tru_ok : TruR X (fun x H Q => ∃ k, TruV X.K x H k ∧ Q k H) := by
  intro pins s σ H x v Q I rx h
  obtain ⟨k, e, q⟩ := h
  have hl := line63
  have hs : sizeLine = 16777216 := sizeLine_eq
  cases x with
  | non =>
    cases rx
    have e' : k = false := e
    subst e'
    exact truthy_none ⟨H, I, q⟩
  | bl b =>
    cases rx
    have e' : k = b := e
    subst e'
    exact wpAny_truthy_bool ⟨H, I, q⟩
  | int i =>
    obtain ⟨t, rfl⟩ := rx
    have e' : k = (i != 0) := e
    subst e'
    exact PySem.P.truthy_int ⟨H, I, q⟩
  | str y =>
    obtain ⟨t, rfl⟩ := rx
    obtain ⟨hy, e'⟩ : y.length ≤ sizeLine ∧ k = ((y.length : Int) != 0) := e
    subst e'
    exact PySem.P.truthy_str (by omega) ⟨H, I.tok _, q⟩
  | byt y =>
    obtain ⟨t, rfl⟩ := rx
    obtain ⟨hy, e'⟩ : y.size ≤ sizeLine ∧ k = ((y.size : Int) != 0) := e
    subst e'
    exact PySem.W.truthy_bytes (by omega) ⟨H, I.tok _, q⟩
  | ref p =>
    cases rx
    have e' : (∃ xs, SqL X.K H p xs ∧ k = !xs.isEmpty) ∨ (∃ xs, SqT X.K H p xs ∧ k = !xs.isEmpty) ∨ ∃ kvs, H p = some (.dK kvs) ∧ k = !kvs.isEmpty := e
    rcases e' with ⟨xs, hx, e'⟩ | ⟨xs, hx, e'⟩ | ⟨kvs, hx, e'⟩
    · subst e'
      obtain ⟨its, r, pl, hz⟩ := I.list hx
      have hlen := r.length
      exact wpAny_truthy_list pl.isList (by simp only [List.size_toArray]; omega) ⟨H, I.tok _, by rw [isEmpty_of r]; exact q⟩
    · subst e'
      obtain ⟨its, r, pl, hz⟩ := I.tuple hx
      have hlen := r.length
      exact truthy_tuple pl (by simp only [List.size_toArray]; omega) ⟨H, I.tok _, by rw [isEmpty_of r]; exact q⟩
    · subst e'
      obtain ⟨hz, hS, vs, r, m⟩ : kvs.length ≤ sizeLine ∧ (p == sysModules) = false ∧ ∃ vs, KV kvs vs ∧ s.heap.DictOf (mixKind X.prog X.w) p vs := I.hok p _ hx
      have hlen : kvs.length = vs.length := Paired.length r
      exact wpAny_truthy_dict hS m (by omega) ⟨H, I.tok _, by rw [isEmpty_kv r]; exact q⟩
  | _ => exact (show False from e).elim
theorem pt_truth (ha : PE X a ta) (he : ∀ whole, isTrue a X.env whole = (do let v ← whole; standAt a.pos; holding [v] (truthy v))) :
    PT X a (fun σ H Q => ta σ H fun x H' => ∃ k, TruV X.K x H' k ∧ Q k H') := by
  intro pins s σ H Q I h
  exact isTrue_plain (thn (ha pins s σ H _ I h) fun v s1 ⟨x, H1, I1, r1, q1⟩ => tru_ok pins s1 σ H1 x v Q I1 r1 q1) (he _)
theorem op_add_str : OpR X (binaryOp .Add) (fun x y H Q => ∃ i j, x = .str i ∧ y = .str j ∧ i.length + j.length ≤ sizeLine ∧ Q (.str (i ++ j)) H) := by
  intro pins s σ H x y v u Q I rx ry h
  obtain ⟨i, j, rfl, rfl, hz, q⟩ := h
  obtain ⟨t, rfl⟩ := rx
  obtain ⟨t', rfl⟩ := ry
  exact add_str (fun t' tk => ⟨.str (i ++ j), H, I.tok _, ⟨_, rfl⟩, q⟩) hz
theorem vals1 {x : V} {us : List Value} (r : Vals [x] us) : ∃ u, us = [u] ∧ RelV x u := by
  cases r with
  | cons r1 r2 => cases r2; exact ⟨_, rfl, r1⟩
theorem vals2 {x y : V} {us : List Value} (r : Vals [x, y] us) : ∃ u w', us = [u, w'] ∧ RelV x u ∧ RelV y w' := by
  cases r with
  | cons r1 r2 =>
    cases r2 with
    | cons r3 r4 => cases r4; exact ⟨_, _, rfl, r1, r3⟩
theorem call_abs : CallR X (.builtin "abs") (fun xs H Q => ∃ i, xs = [.int i] ∧ Q (.int (if i < 0 then -i else i)) H) := by
  intro pins s σ H xs us Q I r h
  obtain ⟨i, rfl, q⟩ := h
  obtain ⟨u, rfl, t, rfl⟩ := vals1 r
  exact call_abs_int fun u tk => ⟨.int (if i < 0 then -i else i), H, I.tok _, ⟨_, rfl⟩, q⟩
theorem call_max2 (hc : X.calm = true) : CallR X (.builtin "max") (fun xs H Q => ∃ i j, xs = [.int i, .int j] ∧ Q (.int (if j > i then j else i)) H) := by
  intro pins s σ H xs us Q I r h
  obtain ⟨i, j, rfl, q⟩ := h
  obtain ⟨u, w', rfl, ⟨t, rfl⟩, ⟨t', rfl⟩⟩ := vals2 r
  refine max_two_ints (I.ok.hd hc) fun h' tk k => ⟨_, H, I.kept k, ?_, q⟩
  by_cases hj : j > i
  · rw [if_pos hj, if_pos hj]; exact ⟨_, rfl⟩
  · rw [if_neg hj, if_neg hj]; exact ⟨_, rfl⟩
theorem call_str_int : CallR X (.type "str") (fun xs H Q => ∃ i, xs = [.int i] ∧ i.natAbs.log2 < 1920 ∧ Q (.str (toString i)) H) := by
  intro pins s σ H xs us Q I r h
  obtain ⟨i, rfl, hz, q⟩ := h
  obtain ⟨u, rfl, t, rfl⟩ := vals1 r
  exact PySem.P.str_of_int hz ⟨.str _, H, I.tok _, ⟨_, rfl⟩, q⟩
def LenV (K : PySem.W.Frag) (x : V) (H : Hp) (n : Nat) : Prop :=
  match x with
  | .str y => y.length ≤ sizeLine ∧ n = y.length
  | .byt y => y.size ≤ sizeLine ∧ n = y.size
  | .ref p => (∃ xs, SqL K H p xs ∧ n = xs.length) ∨ ∃ xs, SqT K H p xs ∧ n = xs.length
  | _ => False
theorem call_len : CallR X (.builtin "len") (fun xs H Q => ∃ x n, xs = [x] ∧ LenV X.K x H n ∧ Q (.int n) H) := by
  intro pins s σ H xs us Q I r h
  obtain ⟨x, n, rfl, e, q⟩ := h
  obtain ⟨u, rfl, rx⟩ := vals1 r
  have hl := line63
  have hs : sizeLine = 16777216 := sizeLine_eq
  cases x with
  | str y =>
    obtain ⟨t, rfl⟩ := rx
    obtain ⟨hy, e'⟩ : y.length ≤ sizeLine ∧ n = y.length := e
    subst e'
    exact len_str (by omega) ⟨.int _, H, I.tok _, ⟨_, rfl⟩, q⟩
  | byt y =>
    obtain ⟨t, rfl⟩ := rx
    obtain ⟨hy, e'⟩ : y.size ≤ sizeLine ∧ n = y.size := e
    subst e'
    exact PySem.W.len_bytes (by omega) ⟨.int _, H, I.tok _, ⟨_, rfl⟩, q⟩
  | ref p =>
    cases rx
    have e' : (∃ xs, SqL X.K H p xs ∧ n = xs.length) ∨ ∃ xs, SqT X.K H p xs ∧ n = xs.length := e
    rcases e' with ⟨xs, hx, e'⟩ | ⟨xs, hx, e'⟩
    · subst e'
      obtain ⟨its, r', pl, hz⟩ := I.list hx
      have hlen := r'.length
      exact Calls.call_len_list pl.isList (by simp only [List.size_toArray]; omega) ⟨.int xs.length, H, I.tok _, ⟨_, by simp only [List.size_toArray]; rw [hlen]⟩, q⟩
    · subst e'
      obtain ⟨its, r', pl, hz⟩ := I.tuple hx
      have hlen := r'.length
      exact len_tuple pl (by simp only [List.size_toArray]; omega) ⟨.int xs.length, H, I.tok _, ⟨_, by simp only [List.size_toArray]; rw [hlen]⟩, q⟩
  | _ => exact (show False from e).elim
end
structure ObjM (h : Heap) (x dx C : Addr) (mA : Str → Option Value) : Prop where
  obj : h.get? x = some (PySem.W.instObj C dx)
  ns : h.Ns1 dx mA
  ne : dx ≠ x
theorem lookIn_ns {h : Heap} {dx : Addr} {mA : Str → Option Value} (n : h.Ns1 dx mA) : ∃ od, h.get? dx = some od ∧ ∀ name, PySem.W.lookIn name od = some (mA name) := by
  obtain ⟨o, es, ep, ho, hd, hk, _, hm⟩ := n
  refine ⟨o, ho, fun name => ?_⟩
  have e := hm name
  unfold nsFind findBy at e
  rw [← Array.find?_toList] at e
  unfold PySem.W.lookIn
  rw [hd]
  dsimp only
  split
  · rename_i y q
    rw [q] at e
    exact congrArg some e
  · rename_i q
    rw [q] at e
    have a : es.toList.any (·.refKey) = false := by
      rw [List.any_eq_false]
      intro y hy
      obtain ⟨z, t, hkey⟩ := hk y (Array.mem_toList_iff.mp hy)
      simp [DictEntry.refKey, hkey]
    have a' : ¬ es.toList.any (·.refKey) = true := by rw [a]; exact Bool.false_ne_true
    rw [if_neg a']
    exact congrArg some e
theorem ObjM.look {h : Heap} {x dx C : Addr} {mA : Str → Option Value} (I : ObjM h x dx C mA) : ∃ od, PySem.W.InstAt h x (PySem.W.instObj C dx) C (some od) ∧ ∀ name, PySem.W.lookIn name od = some (mA name) :=
  let ⟨od, ho, hl⟩ := lookIn_ns I.ns
  ⟨od, ⟨I.obj, rfl, rfl, ho⟩, hl⟩
section
variable {prog : Program} {w : World} {A : Around} {E : Value → Shared → Prop} {s : Shared} {K : PySem.W.Frag} {x dx C f : Addr} {mA : Str → Option Value} {name : Str} {v : Value}
end
def putF (f : Str) (v : V) : List (Str × V) → List (Str × V)
  | [] => [(f, v)]
  | (g, x) :: r => if g = f then (g, v) :: r else (g, x) :: putF f v r
theorem lookup_putF (f g : Str) (v : V) : ∀ fs : List (Str × V), (putF f v fs).lookup g = if g = f then some v else fs.lookup g
  | [] => by
    show List.lookup g [(f, v)] = _
    by_cases h : g = f
    · have hb : (g == f) = true := beq_iff_eq.mpr h
      simp only [List.lookup, hb, if_pos h]
    · have hb : (g == f) = false := beq_eq_false_iff_ne.mpr h
      simp only [List.lookup, hb, if_neg h]
  | (k, x) :: r => by
    have ih := lookup_putF f g v r
    rw [show putF f v ((k, x) :: r) = (if k = f then (k, v) :: r else (k, x) :: putF f v r) from rfl]
    by_cases hk : k = f
    · rw [if_pos hk]
      by_cases h : g = k
      · have hb : (g == k) = true := beq_iff_eq.mpr h
        simp only [List.lookup, hb, if_pos (h.trans hk)]
      · have hb : (g == k) = false := beq_eq_false_iff_ne.mpr h
        simp only [List.lookup, hb, if_neg (fun e : g = f => h (e.trans hk.symm))]
    · rw [if_neg hk]
      by_cases h : g = k
      · have hb : (g == k) = true := beq_iff_eq.mpr h
        simp only [List.lookup, hb, if_neg (fun e : g = f => hk (h.symm.trans e))]
      · have hb : (g == k) = false := beq_eq_false_iff_ne.mpr h
        simp only [List.lookup, hb]
        exact ih
section
variable {P : Program} {w : World} {H H' : Hp} {h h' : Heap} {a C dx : Addr} {fs fs' : List (Str × V)}
theorem ins_get (hok : HOk P w H h) (e : H a = some (.ins C dx fs)) : ∃ mA, ObjM h a dx C mA ∧ (∀ f, RelO (fs.lookup f) (mA f)) ∧ PySem.Within mA (fs.map (·.1)) ∧ fs.length ≤ 1000 ∧ H dx = some (.own a) := by
  obtain ⟨d, z, ne, ob, mA, n, r, q⟩ := (show ObjOk P w H h a (.ins C dx fs) from hok a _ e)
  exact ⟨mA, ⟨ob, n, ne⟩, r, q, z, d⟩
end
structure Cls (K : PySem.W.Frag) (C : Addr) : Prop where
  pg : PySem.W.plainGet K C Str.empty = true
  hd : PySem.W.hasDictIn K C = true
  po : PySem.W.plainOver K C = true
  sa : PySem.W.findIn K (.ref C) "__setattr__" = some (some (.builtin "object.__setattr__"))
theorem Cls.get {K : PySem.W.Frag} {C : Addr} (c : Cls K C) (f : Str) : PySem.W.plainGet K C f = true := c.pg
def NoAttr (K : PySem.W.Frag) (C : Addr) (f : Str) : Prop := PySem.W.findIn K (.ref C) f = some none
section
variable {X : Cx} {pins : List (Addr × Obj)} {σ : St} {H : Hp} {s : Shared} {a C dx : Addr} {fs : List (Str × V)} {f : Str} {v : V} {A : Around} {E : Value → Shared → Prop}
theorem attr_of {prog : Program} {w : World} {env : Env} {e : Expr} {f : Str} {pos : Pos} {s : Shared} {Q : Value → Shared → Prop} (hb : attributeBase e f env (eval e env) = eval e env)
    (h : wpAny (model prog w) A (eval e env) (fun o s₁ => wpAny (model prog w) A (getAttr o f true) Q E s₁) E s) : wpAny (model prog w) A (eval (.Attribute e f pos) env) Q E s :=
  Attribute_any_ h (by rw [arm_eval_Attribute, hb])
end
section
variable {X : Cx} {o e value : Expr} {f : Str} {pos pos' tpos : Pos} {ta tv : TE}
end
section
variable {X : Cx} {pins : List (Addr × Obj)} {σ : St} {H : Hp} {s : Shared} {A : Around} {E : Value → Shared → Prop} {Q : Value → Shared → Prop} {c : Value} {b : Bool}
inductive TyOf (K : PySem.W.Frag) (H : Hp) : V → Value → Prop where
  | non : TyOf K H .non (.type "NoneType")
  | bl (x : Bool) : TyOf K H (.bl x) (.type "bool")
  | int (i : Int) : TyOf K H (.int i) (.type "int")
  | str (x : Str) : TyOf K H (.str x) (.type "str")
  | flt (x : UInt64) : TyOf K H (.flt x) (.type "float")
  | lst {a : Addr} {xs : List V} (e : H a = some (.lst xs)) : TyOf K H (.ref a) (.type "list")
  | frz {a : Addr} {o : Obj} {xs : List V} (e : H a = some (.frz o (.lst xs))) : TyOf K H (.ref a) (.type "list")
  | tup {a : Addr} {xs : List V} (e : H a = some (.tup xs)) : TyOf K H (.ref a) (.type "tuple")
  | dK {a : Addr} {kvs : List (Key × V)} (e : H a = some (.dK kvs)) : TyOf K H (.ref a) (.type "dict")
  | dT {a : Addr} {kvs : List (List Key × V)} (e : H a = some (.dT kvs)) : TyOf K H (.ref a) (.type "dict")
  | ins {a C dx : Addr} {fs : List (Str × V)} (e : H a = some (.ins C dx fs)) (cl : Cls K C) (ha : PySem.W.findIn K (.ref C) "__class__" = some (some (.builtin "object.__class__")))
      (hn : PySem.W.specialIn K (.builtin "object.__class__") "__get__" = some (some (.builtin "getset_descriptor.__get__"))) (htk : PySem.W.takesIn K (.builtin "object.__class__") = some true)
      (hm : PySem.W.mroIn K C (.type "object") = some true) : TyOf K H (.ref a) (.ref C)
theorem isinst_ok {x : V} {u t : Value} (I : Inv X pins σ H s) (rx : RelV x u) (ty : TyOf X.K H x t) (e : PySem.W.kitOne X.K t c = some b) (h : ∀ tk, Q (.bool b) { s with toks := tk }) :
    wpAny (model X.prog X.w) A (call (.builtin "isinstance") [u, c]) Q E s := by
  cases ty with
  | non => cases (show u = Value.none from rx); exact PySem.W.kia_one PySem.W.kitx_none I.kIn True.intro e (fun z => nomatch z) h
  | bl y => cases (show u = Value.bool y from rx); exact PySem.W.kia_one PySem.W.kitx_bool I.kIn True.intro e (fun z => nomatch z) h
  | int i => obtain ⟨t, q⟩ := (show ∃ t, u = Value.int i t from rx); cases q; exact PySem.W.kia_one PySem.W.kitx_int I.kIn True.intro e (fun z => nomatch z) h
  | str y => obtain ⟨t, q⟩ := (show ∃ t, u = Value.str y t from rx); cases q; exact PySem.W.kia_one PySem.W.kitx_str I.kIn True.intro e (fun z => nomatch z) h
  | flt y => obtain ⟨t, q⟩ := (show ∃ t, u = Value.float y t from rx); cases q; exact PySem.W.kia_one PySem.W.kitx_float I.kIn True.intro e (fun z => nomatch z) h
  | @lst a xs ea =>
    cases (show u = Value.ref a from rx)
    obtain ⟨_, _, n, _, h1⟩ := (show ObjOk X.prog X.w H s.heap a (.lst xs) from I.hok a _ ea)
    exact PySem.W.kia_one PySem.W.kitx_list I.kIn ⟨_, h1, rfl⟩ e (fun z => nomatch z) h
  | @frz a ob xs ea =>
    cases (show u = Value.ref a from rx)
    obtain ⟨_, _, _, n, _, h1⟩ := (show ObjOk X.prog X.w H s.heap a (.frz ob (.lst xs)) from I.hok a _ ea)
    exact PySem.W.kia_one PySem.W.kitx_list I.kIn ⟨_, h1, rfl⟩ e (fun z => nomatch z) h
  | @tup a xs ea =>
    cases (show u = Value.ref a from rx)
    obtain ⟨_, _, _, p⟩ := (show ObjOk X.prog X.w H s.heap a (.tup xs) from I.hok a _ ea)
    obtain ⟨o, h1, h2, _⟩ := p
    exact PySem.W.kia_one PySem.W.kitx_tuple I.kIn ⟨o, h1, h2⟩ e (fun z => nomatch z) h
  | @dK a kvs ea =>
    cases (show u = Value.ref a from rx)
    obtain ⟨_, _, vs, _, p⟩ := (show ObjOk X.prog X.w H s.heap a (.dK kvs) from I.hok a _ ea)
    obtain ⟨o, es, ep, h1, h2, _⟩ := p
    exact PySem.W.kia_one PySem.W.kitx_dict I.kIn ⟨o, h1, h2.1⟩ e (fun z => nomatch z) h
  | @dT a kvs ea =>
    cases (show u = Value.ref a from rx)
    obtain ⟨_, _, xs, _, o, es, ep, h1, h2, _⟩ := (show ObjOk X.prog X.w H s.heap a (.dT kvs) from I.hok a _ ea)
    exact PySem.W.kia_one PySem.W.kitx_dict I.kIn ⟨o, h1, h2.1⟩ e (fun z => nomatch z) h
  | @ins a C dx fs ea cl ha hn htk hm =>
    cases (show u = Value.ref a from rx)
    obtain ⟨mA, O, _⟩ := ins_get I.hok ea
    obtain ⟨od, J, _⟩ := O.look
    exact PySem.W.kia_one (PySem.W.kitx_own (cl.get _) cl.hd ha hn htk hm) I.kIn J e (fun z => nomatch z) h
end
structure Room (k : Nat) (A : Around) : Prop where
  hd : A.handled = none
  dp : A.depth + 3 * k + 5 < recursionLimit
  un : A.units + 16 * k + 200 < cLine
theorem Room.mono {j k : Nat} {A : Around} (r : Room k A) (h : j ≤ k) : Room j A := ⟨r.hd, by have := r.dp; omega, by have := r.un; omega⟩
theorem Room.deeper {k : Nat} {A : Around} (r : Room (k + 1) A) (env : Env) : Room k (A.deeper env) :=
  ⟨r.hd, by have := r.dp; show A.depth + 1 + 3 * k + 5 < _; omega, by have := r.un; show A.units + 3 + 16 * k + 200 < _; omega⟩
theorem make_depth {A : Around} {C : Addr} {us : List Value} {kw : List (Str × Value)} : (A.under (.builtin "type.__call__" ⟨.ref C :: us, kw⟩)).depth = A.depth + 1 := by
  first | rfl | simp [Around.under, Code.weight, Code.isCreation, Code.isGuard, Code.isCaller, Code.frames, Code.isFrame, guardIds]
theorem make_units {A : Around} {C : Addr} {us : List Value} {kw : List (Str × Value)} : (A.under (.builtin "type.__call__" ⟨.ref C :: us, kw⟩)).units = A.units + 1 := by
  first | rfl | simp [Around.under, Code.cUnits, Code.frames, Code.isFrame]
theorem Room.depth {k : Nat} {A : Around} (r : Room k A) : A.depth < recursionLimit := by have := r.dp; omega
theorem Room.units {k : Nat} {A : Around} (r : Room k A) : A.units + 64 < cLine := by have := r.un; omega
theorem Room.units0 {k : Nat} {A : Around} (r : Room k A) : A.units < cLine := by have := r.un; omega
def tNil : TA := fun _ H Q => Q [] H
def tCons (ta : TE) (tr : TA) : TA := fun σ H Q => ta σ H fun x H1 => tr σ H1 fun xs H2 => Q (x :: xs) H2
section
variable {X : Cx} {e : Expr} {es : List Expr} {te : TE} {t : TA} {pos : Pos}
theorem pa_nil : PA X [] tNil := fun _ _ _ _ H Q I h => Calls.spliced_nil ⟨[], H, I, .nil, h⟩
theorem pa_cons (ha : PE X e te) (hr : PA X es t) (hs : starEach (e :: es) X.env = (false, eval e X.env) :: starEach es X.env := by rfl) : PA X (e :: es) (tCons te t) := by
  intro pos pins s σ H Q I h
  rw [hs]
  show wpAny _ _ (spliced ((false, eval e X.env) :: backTo pos (starEach es X.env))) _ _ s
  refine Calls.spliced_cons (thn (ha pins s σ H _ I h) fun u s1 ⟨x, H1, I1, r1, q1⟩ => ?_)
  exact thn (hr pos pins s1 σ H1 _ I1 q1) fun us s2 ⟨xs, H2, I2, r2, q2⟩ => ⟨x :: xs, H2, I2, .cons r1 r2, q2⟩
def tTup (t : TA) : TE := fun σ H Q => t σ H fun xs H1 => xs.length ≤ sizeLine ∧ ∀ p, H1 p = none → Q (.ref p) (upd H1 p (.tup xs))
def tLst (t : TA) : TE := fun σ H Q => t σ H fun xs H1 => xs.length ≤ sizeLine ∧ ∀ p, H1 p = none → Q (.ref p) (upd H1 p (.lst xs))
theorem pe_tup {x1} (h : PA X es t) : PE X (.Tuple es x1 pos) (tTup t) := by
  intro pins s σ H Q I hq
  refine wpAny_Tuple_spliced (thn (h pos pins s σ H _ I hq) fun us s1 ⟨xs, H1, I1, r, z, q⟩ => ⟨by rw [← r.length]; exact z, ?_⟩)
  have hf : H1 s1.heap.objs.size = none := I1.hok.fresh (Nat.le_refl _)
  refine ⟨.ref s1.heap.objs.size, upd H1 s1.heap.objs.size (.tup xs), I1.laid (t' := s1.toks) (fun b u e => Heap.get?_push_of_some _ e) (Nat.le_refl _) ?_, rfl, q _ hf⟩
  exact ⟨z, us, r, ⟨_, Heap.get?_push_size _ rfl, rfl, rfl, _, rfl⟩⟩
theorem pe_lst (h : PA X es t) : PE X (.List es pos) (tLst t) := by
  intro pins s σ H Q I hq
  refine wpAny_List_spliced (thn (h pos pins s σ H _ I hq) fun us s1 ⟨xs, H1, I1, r, z, q⟩ => ⟨by rw [← r.length]; exact z, ?_⟩)
  have hf : H1 s1.heap.objs.size = none := I1.hok.fresh (Nat.le_refl _)
  refine ⟨.ref s1.heap.objs.size, upd H1 s1.heap.objs.size (.lst xs), I1.laid (t' := s1.toks) (fun b u e => Heap.get?_push_of_some _ e) (Nat.le_refl _) ?_, rfl, q _ hf⟩
  exact ⟨z, us, 0, r, Heap.get?_push_size _ rfl⟩
end
abbrev Sp := List V → Hp → VK → XK → Prop
abbrev CXT := List Env → Hp → Shared → XK → Value → Shared → Prop
structure Env0 (P : Program) (w : World) (K : PySem.W.Frag) (mg : Str → Option Value) (base : Heap) (A : Around) (outer : List Env) (s : Shared) (H : Hp) : Prop where
  frames : A.frames = some outer
  mod : Mod K mg base
  bs : ∀ b o, base.get? b = some o → s.heap.get? b = some o ∧ H b = none
  bsz : base.objs.size ≤ s.heap.objs.size
  funs : s.heap.FunFrames base outer
  frf : ∀ b ∈ frs outer, H b = none
  hok : HOk P w H s.heap
  bare : AllBare s.gens
def CE (outer : List Env) (P : Program) (w : World) (H : Hp) (s : Shared) (Q : VK) (u : Value) (s' : Shared) : Prop :=
  ∃ v H', s'.os = s.os ∧ AllBare s'.gens ∧ Un (frs outer) [] H H' s.heap s'.heap ∧ HOk P w H' s'.heap ∧ RelV v u ∧ Q v H'
def CR (CX : CXT) (outer : List Env) (P : Program) (w : World) (H : Hp) (s : Shared) (Q : VK) (E : XK) (r : Result) (s' : Shared) : Prop :=
  match r with
  | .ok (.ret u) => CE outer P w H s Q u s'
  | .ok _ => False
  | .error e => CX outer H s E e s'
structure FnOk (P : Program) (w : World) (K : PySem.W.Frag) (mg : Str → Option Value) (base : Heap) (CX : CXT) (k : Nat) (f : Addr) (fd : FuncData) (ps : List Str) (sp : Sp) : Prop where
  len : ∀ vs H Q E, sp vs H Q E → vs.length = ps.length
  run : ∀ (A : Around) (outer : List Env) (s : Shared) (H : Hp) (args : Args) (us : List Value) (vs : List V) (Q : VK) (E : XK), Room k A → Env0 P w K mg base A outer s H → BindsTo s fd args (ps.zip us) → Vals vs us → sp vs H Q E →
    codeAny (model P w) A (.call (.ref f) args) (CR CX outer P w H s Q E) s
theorem Env0.make {P : Program} {w : World} {K : PySem.W.Frag} {mg : Str → Option Value} {base : Heap} {A : Around} {outer : List Env} {s : Shared} {H : Hp} (e : Env0 P w K mg base A outer s H) (C : Addr) (us : List Value) (kw : List (Str × Value)) :
    Env0 P w K mg base (A.under (.builtin "type.__call__" ⟨.ref C :: us, kw⟩)) outer s H := ⟨by first | exact e.frames | (simpa [Around.under, Code.envs, Code.isFrame, pushEnvs] using e.frames), e.mod, e.bs, e.bsz, e.funs, e.frf, e.hok, e.bare⟩
section
variable {X : Cx} {pins : List (Addr × Obj)} {σ : St} {H : Hp} {s s' : Shared}
theorem Inv.env0 (I : Inv X pins σ H s) : Env0 X.prog X.w X.K X.mg X.base X.A X.stack s H :=
  ⟨I.ok.frames, I.ok.mod, I.bs, Nat.le_trans I.ok.bsz I.sz, I.stack, I.stkFree, I.hok, I.bare⟩
theorem Inv.after {Q : VK} {u : Value} (I : Inv X pins σ H s) (h : CE X.stack X.prog X.w H s Q u s') : EP X pins σ Q u s' := by
  obtain ⟨v, H', os, bare, un, hok, r, q⟩ := h
  obtain ⟨hh, g, d, t, os'⟩ := s'
  obtain rfl : os' = s.os := os
  exact ⟨v, H', I.call (h' := hh) (g' := g) (d' := d) (t' := t) (ch := []) un hok bare (fun b z => absurd z (by simp)), r, q⟩
end
def tCall (sp : Sp) (dvs : List V) (E : XK) (t : TA) : TE := fun σ H Q => t σ H fun vs H1 => sp (vs ++ dvs) H1 Q E
def Binds (K : PySem.W.Frag) (fd : FuncData) (ps : List Str) (ds : List Value) : Prop :=
  ∀ (s : Shared) (us : List Value), K.In s.heap → (us ++ ds).length = ps.length → BindsTo s fd ⟨us, []⟩ (ps.zip (us ++ ds))
theorem Binds.all {K : PySem.W.Frag} {fd : FuncData} {ps : List Str} (h : ∀ us : List Value, us.length = ps.length → bindArgs fd ⟨us, []⟩ = pure (ps.zip us)) : Binds K fd ps [] := fun s us _ hl => by
  rw [List.append_nil] at hl ⊢
  exact .of_eq (h us hl)
def Passes (CX : CXT) (X : Cx) (E : XK) : Prop := ∀ (pins : List (Addr × Obj)) (σ : St) (H : Hp) (s : Shared) (e : Value) (s' : Shared), Inv X pins σ H s → CX X.stack H s E e s' → X.xe e s'
section
variable {X : Cx} {CX : CXT} {k : Nat} {f C : Addr} {fd : FuncData} {ps : List Str} {sp : Sp} {dvs : List V} {ds : List Value} {E : XK} {x m : Str} {p pos apos : Pos} {e o : Expr} {es : List Expr} {ta : TE} {t : TA}
theorem run_fn {pins : List (Addr × Obj)} {σ : St} {H : Hp} {s : Shared} {Q : VK} {us : List Value} {vs : List V} (F : FnOk X.prog X.w X.K X.mg X.base CX k f fd ps sp) (hr : Room k X.A) (hb : Binds X.K fd ps ds) (hd : Vals dvs ds) (hx : Passes CX X E)
    (I : Inv X pins σ H s) (r : Vals vs us) (h : sp (vs ++ dvs) H Q E) : wpAny (model X.prog X.w) X.A (call (.ref f) us) (EP X pins σ Q) X.xe s := by
  have r2 : Vals (vs ++ dvs) (us ++ ds) := r.append hd
  have hl : (us ++ ds).length = ps.length := by rw [← r2.length]; exact F.len _ _ _ _ h
  refine wpAny_call (codeAny_mono (F.run X.A X.stack s H ⟨us, []⟩ (us ++ ds) (vs ++ dvs) Q E hr I.env0 (hb s us I.kIn hl) r2 h) fun r s' hq => ?_)
  cases r with
  | error e => exact hx pins σ H s e s' I hq
  | ok fl =>
    cases fl with
    | ret u => exact I.after hq
    | next => exact False.elim hq
    | brk => exact False.elim hq
    | cont => exact False.elim hq
theorem pe_call (F : FnOk X.prog X.w X.K X.mg X.base CX k f fd ps sp) (hr : Room k X.A) (hg : Gl X x) (hm : X.mg x = some (.ref f)) (hk : PySem.W.keepIn X.K (.ref f) = true) (hb : Binds X.K fd ps ds) (hd : Vals dvs ds) (hx : Passes CX X E)
    (ha : PA X (e :: es) t) (hdb : (x == ("__debug__" : Str)) = false := by decide) (he : starEach (e :: es) X.env = (false, eval e X.env) :: starEach es X.env := by rfl) (hpl : (backTo pos (starEach es X.env)).any (·.1) = false := by rfl) :
    PE X (.Call (.Name x p) (e :: es) [] pos) (tCall sp dvs E t) := by
  intro pins s σ H Q I h
  refine wpAny_Call_Name_kw (ld_glob I hg hm ?_ hdb)
  refine PySem.W.callWith_K (h₀ := X.base) I.ok.mod.kin hk (thn (ha pos pins s σ H _ I h) fun us s1 ⟨vs, H1, I1, r, q⟩ => ⟨I1.kIn, ?_⟩) he hpl
  exact run_fn F hr hb hd hx I1 r q
end
section
variable {X : Cx} {CX : CXT} {k : Nat} {f C : Addr} {fd : FuncData} {ps ks : List Str} {sp : Sp} {E : XK} {x m : Str} {p pos apos kpos : Pos} {e o : Expr} {es : List Expr} {kws : List Keyword} {te ta : TE} {t tk : TA} {nm : Option Str}
variable {g : List Value → List Value → List Value} {gV : List V → List V → List V}
end
structure FnScope (N P : List Str) (sc : Scope) : Prop where
  kind : sc.kind = .function
  co : sc.isCoroutine = false
  gen : sc.isGenerator = false
  nd : N.Nodup
  pre : N.take P.length = P
  par : ∀ x ∈ P, sc.names.lookup x = some .local ∨ sc.names.lookup x = some .cell
  nofree : ∀ y ∈ sc.names, y.2 ≠ .free
theorem bindL_out {kindOf : Str → Option NameKind} {x : Str} : ∀ {binds : List (Str × Value)} {m : Str → Option Value}, (∀ v, (x, v) ∉ binds) → bindL kindOf binds m x = m x
  | [], _, _ => rfl
  | (n, v) :: r, m, h => by
    unfold bindL
    rw [bindL_out fun w hw => h w (List.mem_cons_of_mem _ hw)]
    split
    · have : x ≠ n := by rintro rfl; exact h v List.mem_cons_self
      simp [this]
    · rfl
theorem bindC_out {kindOf : Str → Option NameKind} {x : Str} : ∀ {binds : List (Str × Value)} {m : Str → Option Value}, (∀ v, (x, v) ∉ binds) → bindC kindOf binds m x = m x
  | [], _, _ => rfl
  | (n, v) :: r, m, h => by
    unfold bindC
    rw [bindC_out fun w hw => h w (List.mem_cons_of_mem _ hw)]
    split
    · rfl
    · have : x ≠ n := by rintro rfl; exact h v List.mem_cons_self
      simp [this]
theorem bindL_get {kindOf : Str → Option NameKind} {x : Str} {v : Value} : ∀ {P : List Str} {vs : List Value} {i : Nat} {m : Str → Option Value}, P.Nodup → P[i]? = some x → vs[i]? = some v → kindOf x = some .local →
    bindL kindOf (P.zip vs) m x = some v
  | [], _, _, _, _, h, _, _ => by simp at h
  | _ :: _, [], _, _, _, _, h, _ => by simp at h
  | p :: P, w :: vs, 0, m, nd, h1, h2, hk => by
    simp at h1 h2; subst h1; subst h2
    show bindL kindOf ((p, w) :: P.zip vs) m p = _
    unfold bindL
    rw [bindL_out fun v hv => (List.nodup_cons.mp nd).1 (List.of_mem_zip hv).1, if_pos hk]
    simp
  | p :: P, w :: vs, i + 1, m, nd, h1, h2, hk => by
    show bindL kindOf ((p, w) :: P.zip vs) m x = _
    unfold bindL
    exact bindL_get (i := i) (List.nodup_cons.mp nd).2 (by simpa using h1) (by simpa using h2) hk
theorem bindC_get {kindOf : Str → Option NameKind} {x : Str} {v : Value} : ∀ {P : List Str} {vs : List Value} {i : Nat} {m : Str → Option Value}, P.Nodup → P[i]? = some x → vs[i]? = some v → kindOf x ≠ some .local →
    bindC kindOf (P.zip vs) m x = some v
  | [], _, _, _, _, h, _, _ => by simp at h
  | _ :: _, [], _, _, _, _, h, _ => by simp at h
  | p :: P, w :: vs, 0, m, nd, h1, h2, hk => by
    simp at h1 h2; subst h1; subst h2
    show bindC kindOf ((p, w) :: P.zip vs) m p = _
    unfold bindC
    rw [bindC_out fun v hv => (List.nodup_cons.mp nd).1 (List.of_mem_zip hv).1, if_neg hk]
    simp
  | p :: P, w :: vs, i + 1, m, nd, h1, h2, hk => by
    show bindC kindOf ((p, w) :: P.zip vs) m x = _
    unfold bindC
    exact bindC_get (i := i) (List.nodup_cons.mp nd).2 (by simpa using h1) (by simpa using h2) hk
def start (N : List Str) (vs : List V) : St := vs.map some ++ List.replicate (N.length - vs.length) none
def cxOf (CX : CXT) (P : Program) (w : World) (K : PySem.W.Frag) (mg : Str → Option Value) (base : Heap) (N : List Str) (qual : Str) (scope : Scope) (f : Addr) (cd : Value) (A : Around) (outer : List Env) (s : Shared) (H : Hp) (E : XK) : Cx where
  prog := P
  w := w
  K := K
  mg := mg
  base := base
  A := A.deeper (envOfC qual scope s.heap.objs.size f cd)
  N := N
  s₀ := s
  H₀ := H
  env := envOfC qual scope s.heap.objs.size f cd
  outer := outer
  stack := envOfC qual scope s.heap.objs.size f cd :: outer
  ex := []
  calm := true
  fn := fun _ => true
  pn := []
  xe := fun e s' => wpAny (model P w) (A.deeper (envOfC qual scope s.heap.objs.size f cd)) (leaving (envOfC qual scope s.heap.objs.size f cd) e) (fun _ s'' => CX outer H s E e s'') (fun e' s'' => CX outer H s E e' s'') s'
theorem cell_has {sc : Scope} {n : Nat} {x : Str} (h : sc.names.lookup x = some .cell) : ∃ c, (cellsFrom n sc.names []).lookup x = some c := by
  have q := PySem.W.cellsFrom_some sc.names n [] (.inl h)
  exact Option.isSome_iff_exists.mp q
theorem inv_start {CX : CXT} {P : Program} {w : World} {K : PySem.W.Frag} {mg : Str → Option Value} {base : Heap} {N ps : List Str} {qual : Str} {scope : Scope} {f : Addr} {cd : Value} {A : Around} {outer : List Env} {s s1 : Shared} {H : Hp} {E : XK} {us : List Value} {vs : List V}
    (S : FnScope N ps scope) (hd : A.handled = none) (e0 : Env0 P w K mg base A outer s H) (hl : vs.length = ps.length) (r : Vals vs us)
    (x : InCallC s s.heap.objs.size (bindL (envOfC qual scope s.heap.objs.size f cd).kindOf (ps.zip us) fun _ => none) (cellsFrom (s.heap.objs.size + 1) scope.names []) (bindC (envOfC qual scope s.heap.objs.size f cd).kindOf (ps.zip us) fun _ => none) s1) :
    Inv (cxOf CX P w K mg base N qual scope f cd A outer s H E) [] (start N vs) H s1 := by
  have hpl : ps.length ≤ N.length := by have := congrArg List.length S.pre; rw [List.length_take] at this; omega
  obtain ⟨h1, tk, rfl, hk⟩ := x.done
  have noA : ∀ b : Addr, b ∉ (cxOf CX P w K mg base N qual scope f cd A outer s H E).ex := fun b z => absurd (show b ∈ ([] : List Addr) from z) (by simp)
  refine ⟨⟨e0.mod, S.kind, rfl, rfl, Nat.le_refl _, fun y z c h1 h2 => ?_, fun y hy => ?_, fun y c _ h => ?_, fun _ => hd, Around.frames_deeper e0.frames, .inr ⟨rfl, rfl⟩, fun b z => absurd z (noA b), e0.bs, e0.bsz, fun b _ _ => noA b, fun b z => absurd z (noA b), e0.funs, e0.frf⟩,
    rfl, e0.bare, Un.kept hk, ⟨_, x.toInCall.ns, fun i y v h1 h2 h3 => ?_⟩, fun y c h => ⟨_, x.cell y c h⟩, e0.hok.fresh (Nat.le_refl _), fun y c h => ?_, fun p hp => absurd (show p ∈ ([] : List (Addr × Obj)) from hp) (by simp), e0.hok.kept hk, ?_⟩
  · exact name_of_addr x.apart (PySem.mem_of_lookup h1) (PySem.mem_of_lookup h2)
  · have hy : scope.names.lookup y = some .cell ∨ scope.names.lookup y = some .free := hy
    rcases hy with hy | hy
    · exact cell_has hy
    · exact absurd rfl (S.nofree _ (PySem.mem_of_lookup hy))
  · exact Nat.le_of_lt (x.above y c (PySem.mem_of_lookup h))
  · have hi : i < vs.length := by
      unfold start at h2
      by_cases hi : i < vs.length
      · exact hi
      · rw [List.getElem?_append_right (by simpa using hi)] at h2
        rw [List.getElem?_replicate] at h2
        split at h2 <;> cases h2
    have ha : vs[i]? = some v := by
      unfold start at h2
      rw [List.getElem?_append_left (by simpa using hi), List.getElem?_map] at h2
      cases e : vs[i]? with
      | none => rw [e] at h2; cases h2
      | some a => rw [e] at h2; cases h2; rfl
    obtain ⟨u, hu, rv⟩ := r.get ha
    have hp : ps[i]? = some y := by
      rw [← S.pre, List.getElem?_take_of_lt (by omega)]; exact h1
    have ndP : ps.Nodup := by rw [← S.pre]; exact S.nd.sublist (List.take_sublist _ _)
    refine ⟨u, rv, ?_⟩
    rcases S.par y (List.mem_of_getElem? hp) with k | k
    · exact .inl ⟨k, bindL_get ndP hp hu k⟩
    · obtain ⟨c, e⟩ := cell_has (n := s.heap.objs.size + 1) k
      refine .inr ⟨.inl k, c, e, ?_⟩
      have q := x.cell y c e
      rw [bindC_get ndP hp hu (by show scope.names.lookup y ≠ _; rw [k]; decide)] at q
      exact q
  · exact e0.hok.fresh (Nat.le_of_lt (x.above y c (PySem.mem_of_lookup h)))
  · unfold start
    show _ = N.length
    rw [List.length_append, List.length_map, List.length_replicate]
    omega
theorem fn_of {CX : CXT} {P : Program} {w : World} {K : PySem.W.Frag} {mg : Str → Option Value} {base : Heap} {k : Nat} {f : Addr} {name qual : Str} {params : Arguments} {body : List Stmt} {scope : Scope} {dV kV doc pm cdv ct oc : Value} {an od : Option Addr}
    {osl : Array (Option Value)} {N ps : List Str} {sp : Sp} (lk : K.lookup f = some ⟨oc, od, .func (PySem.W.fnOf name qual params body scope dV kV doc pm an cdv ct), osl⟩) (hcd : PySem.W.codeIn K cdv qual = true) (S : FnScope N ps scope)
    (len : ∀ vs H Q E, sp vs H Q E → vs.length = ps.length)
    (hbody : ∀ (A : Around) (outer : List Env) (s : Shared) (H : Hp) (vs : List V) (Q : VK) (E : XK), Room k (A.deeper (envOfC qual scope s.heap.objs.size f cdv)) → sp vs H Q E →
      ∃ t, PSs (cxOf CX P w K mg base N qual scope f cdv A outer s H E) body t ∧ t { nx := fun _ H' => Q .non H', rt := Q } (start N vs) H) :
    FnOk P w K mg base CX (k + 1) f (PySem.W.fnOf name qual params body scope dV kV doc pm an cdv ct) ps sp := by
  refine ⟨len, fun A outer s H args us vs Q E hr e0 hb r hsp => ?_⟩
  have hl := len _ _ _ _ hsp
  have KX : K.In s.heap := e0.mod.kin.keeps fun b o e => (e0.bs b o e).1
  have lim : s.heap.NoLimit := e0.mod.nolimit.keeps fun b o e => (e0.bs b o e).1
  have hkind : ∀ y ∈ ps.zip us, scope.names.lookup y.1 = some .local ∨ (scope.names.lookup y.1 = some .cell ∧ ((cellsFrom (s.heap.objs.size + 1) scope.names []).lookup y.1).isSome = true) := fun ⟨n, v⟩ hy => by
    rcases S.par n (List.of_mem_zip hy).1 with q | q
    · exact .inl q
    · exact .inr ⟨q, PySem.W.cellsFrom_some _ _ _ (.inl q)⟩
  refine codeAny_call_function hr.depth (KX _ _ lk) rfl S.co S.gen rfl (PySem.W.codeRec_of KX hcd) (hb _ _ _ _ ?_)
  refine wpAny_newFunctionEnv_cells S.kind hkind fun env he s1 x => ?_
  subst he
  refine ⟨lim.keeps x.toInCall.keep, codeAny_func ?_⟩
  obtain ⟨t, ht, hq⟩ := hbody A outer s H vs Q E (hr.deeper _) hsp
  have I : Inv (cxOf CX P w K mg base N qual scope f cdv A outer s H E) [] (start N vs) H s1 := inv_start S hr.hd e0 hl r x
  refine wpAny_mono (ht [] s1 (start N vs) H _ I hq) (fun fl s' hs => ?_) fun e s' hs => hs
  have fin : ∀ {σ' : St} {H' : Hp} {v : V} {u : Value}, Inv (cxOf CX P w K mg base N qual scope f cdv A outer s H E) [] σ' H' s' → RelV v u → Q v H' → CE outer P w H s Q u s' :=
    fun {σ' H' v u} J rv q => ⟨v, H', J.os, J.bare, J.base, J.hok, rv, q⟩
  cases fl with
  | ret u =>
    obtain ⟨v, σ', H', J, rv, q⟩ := hs
    exact fin J rv q
  | next =>
    obtain ⟨σ', H', J, q⟩ := hs
    exact fin (v := V.non) (u := Value.none) J rfl q
  | brk =>
    obtain ⟨_, _, _, q⟩ := hs
    exact False.elim q
  | cont =>
    obtain ⟨_, _, _, q⟩ := hs
    exact False.elim q
section
variable {X : Cx} {x : Str} {p pos : Pos} {e : Expr} {es : List Expr} {t : TA} {id T : String} {r : List V → Hp → VK → Prop}
def tCB (r : List V → Hp → VK → Prop) (t : TA) : TE := fun σ H Q => t σ H fun vs H1 => r vs H1 Q
theorem pe_callB (hc : CallR X (.builtin id) r) (hg : Gl X x) (hm : X.mg x = none) (hv : bootBuiltins x = some (.builtin id)) (ha : PA X (e :: es) t) (hn : x ≠ "__name__" := by decide) (hdb : (x == ("__debug__" : Str)) = false := by decide)
    (he : starEach (e :: es) X.env = (false, eval e X.env) :: starEach es X.env := by rfl) (hpl : (backTo pos (starEach es X.env)).any (·.1) = false := by rfl) : PE X (.Call (.Name x p) (e :: es) [] pos) (tCB r t) := by
  intro pins s σ H Q I h
  refine wpAny_Call_Name_kw (ld_blt I hg hm hv ?_ hn hdb)
  exact PyProof.Rows.callWith_builtin1 (thn (ha pos pins s σ H _ I h) fun us s1 ⟨vs, H1, I1, r1, q1⟩ => hc pins s1 σ H1 vs us Q I1 r1 q1) he hpl
theorem pe_callTy (hc : CallR X (.type T) r) (hg : Gl X x) (hm : X.mg x = none) (hv : bootBuiltins x = some (.type T)) (ha : PA X (e :: es) t) (hn : x ≠ "__name__" := by decide) (hdb : (x == ("__debug__" : Str)) = false := by decide)
    (he : starEach (e :: es) X.env = (false, eval e X.env) :: starEach es X.env := by rfl) (hpl : (backTo pos (starEach es X.env)).any (·.1) = false := by rfl) : PE X (.Call (.Name x p) (e :: es) [] pos) (tCB r t) := by
  intro pins s σ H Q I h
  refine wpAny_Call_Name_kw (ld_blt I hg hm hv ?_ hn hdb)
  exact PyProof.Rows.callWith_type1 (thn (ha pos pins s σ H _ I h) fun us s1 ⟨vs, H1, I1, r1, q1⟩ => hc pins s1 σ H1 vs us Q I1 r1 q1) he hpl
end
end L2
namespace HT
open PySem PyProof.Rows
def lexLt : List Int → List Int → Bool
  | [], [] => false
  | [], _ :: _ => true
  | _ :: _, [] => false
  | x :: xs, y :: ys => if x = y then lexLt xs ys else decide (x < y)
theorem lexLt_cons (x y : Int) (xs ys : List Int) : lexLt (x :: xs) (y :: ys) = if x = y then lexLt xs ys else decide (x < y) := rfl
theorem lexLt_nil_nil : lexLt [] [] = false := rfl
theorem lexLt_nil_cons (y : Int) (ys : List Int) : lexLt [] (y :: ys) = true := rfl
theorem lexLt_cons_nil (x : Int) (xs : List Int) : lexLt (x :: xs) [] = false := rfl
theorem eqAt_int (A : Around) (s : Shared) (a : Int) (t : Tok) (c : Int) (u : Tok) : ∃ e, SeqAt.EqAt A s (.int a t) (.int c u) e ∧ (e = true ↔ a = c) :=
  ⟨(a == c), SeqAt.EqAt.int_int a t c u, by simp⟩
theorem rcLt_int (A : Around) (s : Shared) (a : Int) (t : Tok) (c : Int) (u : Tok) (prog : Program) (w : World) (E : Value → Shared → Prop) (Q : Value → Shared → Prop) (h : Q (.bool (decide (a < c))) s) :
    wpAny (model prog w) A (richCompare .Lt (.int a t) (.int c u)) Q E s :=
  (PyProof.Rows.lt_int h : wpAny (model prog w) A (compareOp .Lt (.int a t) (.int c u)) Q E s)
section
open PySem.SeqAt
open PySem.AutoSeq1 (wpAny_loadPart')
open PySem.MeetsSeq PySem.MeetsSeq2 PySem.MeetsSeq3
theorem tuple_lt_ints (l b : Addr) (items items2 : Array Value) (n n2 : Nat) (dd dd2 : Option Addr) (sl sl2 : Array (Option Value)) (ns ms : List Int) (hi : IntsAre items.toList ns) (hj : IntsAre items2.toList ms) :
    Meets (Builtin.«tuple.__lt__» ⟨[.ref l, .ref b], []⟩)
      (fun _ R s => s.heap.get? l = some { cls := .type "tuple", dict := dd, data := .seq items n, slots := sl } ∧ s.heap.get? b = some { cls := .type "tuple", dict := dd2, data := .seq items2 n2, slots := sl2 } ∧
        R (.ok (.ret (.bool (lexLt ns ms)))) s) :=
  .of_wp fun prog w A R s h => by
    obtain ⟨hp, g, d, tk, os⟩ := s; obtain ⟨hl, hb, h⟩ := h
    have f2 := AutoSeq1.sub_tuple_tuple
    have z1 : items.size = ns.length := by rw [← hi.length]; simp
    have z2 : items2.size = ms.length := by rw [← hj.length]; simp
    wp_walk using wpAny_loadPart' hl, wpAny_loadPart' hb, wpAny_forIn_list _ (fun rest b s' => b.1 = none ∧ s' = ⟨hp, g, d, tk, os⟩ ∧ ∃ (vs ws : List Value) (ns' ms' : List Int), rest = vs.zip ws ∧
      IntsAre vs ns' ∧ IntsAre ws ms' ∧ ns'.length + items2.size = ms'.length + items.size ∧ R (.ok (.ret (.bool (lexLt ns' ms')))) ⟨hp, g, d, tk, os⟩) _
    case turn =>
      rintro ⟨y, x⟩ rest b s' ⟨hb', rfl, vs, ws, ns', ms', hz, hvi, hwi, hlen, hR⟩
      cases hvi with
      | nil => rw [List.zip_nil_left] at hz; cases hz
      | cons a t hvi' =>
        cases hwi with
        | nil => rw [List.zip_nil_right] at hz; cases hz
        | cons c u hwi' =>
          rw [List.zip_cons_cons] at hz
          injection hz with hyx hrest
          injection hyx with hy hx
          subst hy hx
          rw [lexLt_cons] at hR
          simp only [List.length_cons] at hlen
          obtain ⟨e, he, hiff⟩ := eqAt_int A.in1 ⟨hp, g, d, tk, os⟩ a t c u
          refine wpAny_bind (he prog w _ _ ?_)
          cases e with
          | true =>
            rw [if_pos (hiff.mp rfl)] at hR
            wp_walk
            exact ⟨rfl, rfl, _, _, _, _, hrest, hvi', hwi', by omega, hR⟩
          | false =>
            rw [if_neg (fun q => absurd (hiff.mpr q) Bool.false_ne_true)] at hR
            have hri := rcLt_int A.in1 ⟨hp, g, d, tk, os⟩ a t c u prog w
            wp_walk using hri
            exact ⟨_, rfl, by simpa using hR⟩
    case fin =>
      rintro ⟨b1, b2⟩ s' ⟨hb', rfl, vs, ws, ns', ms', hz, hvi, hwi, hlen, hR⟩
      simp only at hb'
      subst hb'
      have hv : lexLt ns' ms' = decide (items.size < items2.size) := by
        cases hvi with
        | nil =>
          cases hwi with
          | nil =>
            simp only [List.length_nil] at hlen
            rw [lexLt_nil_nil]
            exact (decide_eq_false (by omega)).symm
          | cons c u hw =>
            simp only [List.length_nil, List.length_cons] at hlen
            rw [lexLt_nil_cons]
            exact (decide_eq_true (by omega)).symm
        | cons a t hv =>
          cases hwi with
          | nil =>
            simp only [List.length_nil, List.length_cons] at hlen
            rw [lexLt_cons_nil]
            exact (decide_eq_false (by omega)).symm
          | cons c u hw =>
            rw [List.zip_cons_cons] at hz
            cases hz
      rw [hv] at hR
      wp_walk
      exact ⟨_, rfl, by simpa [Builtin.Tuple.tupleCompareSizes] using hR⟩
    case h =>
      exact ⟨rfl, rfl, items.toList, items2.toList, ns, ms, rfl, hi, hj, by omega, h⟩
end
section
variable {prog : Program} {w : World} {A : Around} {E : Value → Shared → Prop} {s : Shared}
theorem lt_tupInts {l b : Addr} {items items2 : Array Value} {ns ms : List Int} {Q : Value → Shared → Prop} (hl : IsTup s.heap l items) (hb : IsTup s.heap b items2) (hi : IntsAre items.toList ns) (hj : IntsAre items2.toList ms)
    (hu : A.units < cLine) (h : Q (.bool (lexLt ns ms)) s) : wpAny (model prog w) A (compareOp .Lt (.ref l) (.ref b)) Q E s := by
  obtain ⟨⟨cls, dd, data, sl⟩, ho, hc, n, hd⟩ := id hl
  obtain ⟨⟨cls2, dd2, data2, sl2⟩, ho2, hc2, n2, hd2⟩ := id hb
  simp only at hc hd hc2 hd2
  subst hc hd hc2 hd2
  exact richCompare_meets_room (op := .Lt) ⟨_, ho, rfl⟩ ⟨_, ho2, rfl⟩ PySem.F.slot_tuple_lt PySem.F.entry_tuple_lt (PySem.F.args_tuple_lt_2 _ _) (tuple_lt_ints l b items items2 n n2 dd dd2 sl sl2 ns ms hi hj)
    ⟨ho, ho2, show Value.bool (lexLt ns ms) ≠ Value.notImplemented ∧ Q (.bool (lexLt ns ms)) s from ⟨(fun x => nomatch x), h⟩⟩ hu
theorem cat_tup {t b : Addr} {vs ws : List Value} {Q : Value → Shared → Prop} (ht : IsTup s.heap t vs.toArray) (hb : IsTup s.heap b ws.toArray) (hv : vs ≠ [])
    (h1 : ws = [] → Q (.ref t) s) (h2 : ws ≠ [] → Q (.ref s.heap.objs.size) { s with heap := s.heap.push { cls := .type "tuple", data := .seq (vs ++ ws).toArray } })
    (hsz : vs.length + ws.length ≤ sizeLine) : wpAny (model prog w) A (binaryOp .Add (.ref t) (.ref b)) Q E s := by
  obtain ⟨⟨cls, dd, data, sl⟩, ho, hc, n, hd⟩ := id ht
  obtain ⟨⟨cls2, dd2, data2, sl2⟩, ho2, hc2, n2, hd2⟩ := id hb
  simp only at hc hd hc2 hd2
  subst hc hd hc2 hd2
  have e : vs.toArray ++ ws.toArray = (vs ++ ws).toArray := by simp
  by_cases hw : ws = []
  · exact concat_meets ⟨_, ho, rfl⟩ ⟨_, ho2, rfl⟩ noFill_tuple_add seq_tuple_add PySem.F.slot_tuple_add PySem.F.entry_tuple_add (PySem.F.args_tuple_add_2 _ _)
      (tuple_addW1 t b vs.toArray ws.toArray n n2 dd dd2 sl sl2 (by simpa using hv) (by simp [hw])) ⟨ho, ho2, h1 hw⟩
  · refine concat_meets ⟨_, ho, rfl⟩ ⟨_, ho2, rfl⟩ noFill_tuple_add seq_tuple_add PySem.F.slot_tuple_add PySem.F.entry_tuple_add (PySem.F.args_tuple_add_2 _ _)
      (tuple_addW2 t b vs.toArray ws.toArray n n2 dd dd2 sl sl2 (by simpa using hv) (by simpa using hw) (by rw [List.size_toArray, List.size_toArray]; exact hsz)) ⟨ho, ho2, ?_⟩
    rw [e]
    exact h2 hw
def sIx (n d : Nat) : Option Int → Nat
  | none => d
  | some v => if v < 0 then (v + (n : Int)).toNat else min v.toNat n
theorem sIx_nat (n d k : Nat) : sIx n d (some (k : Int)) = min k n := by
  show (if (k : Int) < 0 then ((k : Int) + (n : Int)).toNat else min (k : Int).toNat n) = min k n
  rw [if_neg (by omega), Int.toNat_natCast]
theorem sIx_le (n d : Nat) (hd : d ≤ n) (o : Option Int) : sIx n d o ≤ n := by
  cases o with
  | none => exact hd
  | some v =>
    show (if v < 0 then (v + (n : Int)).toNat else min v.toNat n) ≤ n
    by_cases hv : v < 0
    · rw [if_pos hv]; omega
    · rw [if_neg hv]; exact Nat.min_le_right _ _
theorem clip_eq (v : Int) (n d : Nat) : (if v < 0 then max (v + (n : Int)) 0 else min v (n : Int)) = ((sIx n d (some v) : Nat) : Int) := by
  show (if v < 0 then max (v + (n : Int)) 0 else min v (n : Int)) = (((if v < 0 then (v + (n : Int)).toNat else min v.toNat n) : Nat) : Int)
  by_cases hv : v < 0
  · simp only [if_pos hv]; omega
  · simp only [if_neg hv]; omega
theorem adjust_gen (lo hi : Option Int) (n : Nat) : Builtin.Slice.sliceAdjust lo hi 1 (n : Int) = (((sIx n 0 lo : Nat) : Int), ((sIx n n hi : Nat) : Int)) := by
  have h1 : ¬ ((1 : Int) < 0) := by omega
  unfold Builtin.Slice.sliceAdjust
  simp only [h1, if_false]
  refine Prod.ext ?_ ?_
  · cases lo with
    | none => rfl
    | some v => exact clip_eq v n 0
  · cases hi with
    | none => rfl
    | some v => exact clip_eq v n n
theorem places_gen (i j : Nat) : Builtin.Slice.slicePlaces (i : Int) (j : Int) 1 = j - i := by
  unfold Builtin.Slice.slicePlaces
  have h1 : (1 : Int) > 0 := by omega
  simp only [h1, if_true, Int.ediv_one]
  split <;> omega
theorem slicePart_ {v : Value} {o : Option Int} {Q : Option Int → Shared → Prop} (p : IsPart v o) (h : Q o s) : wpAny (model prog w) A (Builtin.Slice.slicePartIndex v) Q E s := by
  cases p with
  | none => exact slicePart_none h
  | int i t => exact slicePart_int h
theorem sliceApplied_gen {sl : Addr} {vl vu : Value} {lo hi : Option Int} {n : Nat} {Q : Int × Int × Nat → Shared → Prop} (hs : s.heap.IsSliceOf sl vl vu .none) (pl : IsPart vl lo) (pu : IsPart vu hi)
    (h : Q (((sIx n 0 lo : Nat) : Int), 1, sIx n n hi - sIx n 0 lo) s) : wpAny (model prog w) A (Builtin.Slice.sliceApplied (.ref sl) (pure (n : Int))) Q E s := by
  obtain ⟨os, hos, hcs, hds⟩ := id hs
  unfold Builtin.Slice.sliceApplied Builtin.Slice.sliceFields
  refine wpAny_bind (wpAny_bind (wpAny_field hos hds (x := vl) rfl (wpAny_bind (wpAny_field hos hds (x := vu) rfl (wpAny_bind (wpAny_field hos hds (x := .none) rfl (wpAny_pure ?_)))))))
  refine wpAny_bind (slicePart_none ?_)
  show wpAny _ _ (if ((1 : Int) == 0) = true then _ else _) _ _ s
  rw [if_neg (by decide)]
  refine wpAny_bind (slicePart_ pl (wpAny_bind (slicePart_ pu (wpAny_bind (wpAny_pure ?_)))))
  show wpAny _ _ (match Builtin.Slice.sliceAdjust lo hi 1 (n : Int) with | (lo, hi) => pure (lo, (1 : Int), Builtin.Slice.slicePlaces lo hi 1)) _ _ s
  rw [adjust_gen lo hi n]
  show wpAny _ _ (pure (((sIx n 0 lo : Nat) : Int), (1 : Int), Builtin.Slice.slicePlaces ((sIx n 0 lo : Nat) : Int) ((sIx n n hi : Nat) : Int) 1)) _ _ s
  rw [places_gen]
  exact wpAny_pure h
theorem pick_gen (xs : Array Value) (i k : Nat) : ((List.range k).filterMap fun (m : Nat) => xs[((i : Int) + (m : Int) * 1).toNat]?).toArray = ((xs.toList.drop i).take k).toArray := by
  have e : (fun (m : Nat) => xs[((i : Int) + (m : Int) * 1).toNat]?) = fun m => xs[i + m]? := by
    funext m
    have : ((i : Int) + (m : Int) * 1).toNat = i + m := by omega
    rw [this]
  rw [e]
  have := pick_run xs i k
  rw [List.filterMap_map] at this
  have e2 : ((fun x => xs[x]?) ∘ fun x => i + x) = fun m => xs[i + m]? := rfl
  rw [e2] at this
  rw [this]
theorem getItem_tuple_cut {t sl : Addr} {items : Array Value} {vl vu : Value} {lo hi : Option Int} {Q : Value → Shared → Prop} (ht : IsTup s.heap t items) (hs : s.heap.IsSliceOf sl vl vu .none) (pl : IsPart vl lo) (pu : IsPart vu hi)
    (hw : ¬ (sIx items.size 0 lo = 0 ∧ sIx items.size items.size hi = items.size))
    (h : Q (.ref s.heap.objs.size) { s with heap := s.heap.push { cls := .type "tuple", data := .seq ((items.toList.drop (sIx items.size 0 lo)).take (sIx items.size items.size hi - sIx items.size 0 lo)).toArray } })
    (hsz : items.size ≤ sizeLine) : wpAny (model prog w) A (getItem (.ref t) (.ref sl)) Q E s := by
  have htake : sizeOk (.seq ((items.toList.drop (sIx items.size 0 lo)).take (sIx items.size items.size hi - sIx items.size 0 lo)).toArray) := by
    show ((items.toList.drop (sIx items.size 0 lo)).take (sIx items.size items.size hi - sIx items.size 0 lo)).toArray.size ≤ sizeLine
    rw [List.size_toArray, List.length_take, List.length_drop, Array.length_toList]
    omega
  have hj : sIx items.size items.size hi ≤ items.size := sIx_le _ _ (Nat.le_refl _) hi
  obtain ⟨os, hos, hcs, hds⟩ := id hs
  have hTs : s.TypeIs (.ref sl) "slice" := ⟨os, hos, hcs⟩
  unfold getItem
  try with_reducible refine wpAny_holding ?_
  first | refine wpAny_bind (wpAny_pure ?_) | skip
  refine wpAny_bind (wpAny_sequenceKey ht.typeIs (by decide) ?_)
  refine wpAny_bind (wpAny_callSpecial?_slot (name := Str.ofString "__getitem__") ht.typeIs PyProof.Rows.slot_tuple_getitem
    (wpAny_call_entry PyProof.Rows.slot_tuple_getitem ht.typeIs entry_tuple_getitem ?_ (args_tuple_getitem _ _)))
  show wpAny _ _ (Builtin.Tuple.tupleItemsOf (.ref t) >>= _) _ _ s
  refine wpAny_bind (tupleItemsOf_ ht ?_)
  refine wpAny_bind (wpAny_typeOf hTs ?_)
  rw [if_pos (by decide)]
  refine wpAny_bind (sliceApplied_gen hs pl pu ?_)
  have hno : ¬ ((((sIx items.size 0 lo : Nat) : Int) == 0 && (1 : Int) == 1 && (sIx items.size items.size hi - sIx items.size 0 lo) == items.size) = true) := by
    intro q
    rw [Bool.and_eq_true, Bool.and_eq_true] at q
    have q1 : ((sIx items.size 0 lo : Nat) : Int) = 0 := eq_of_beq q.1.1
    have q2 : sIx items.size items.size hi - sIx items.size 0 lo = items.size := eq_of_beq q.2
    exact hw ⟨by omega, by omega⟩
  show wpAny _ _ (if (((sIx items.size 0 lo : Nat) : Int) == 0 && (1 : Int) == 1 && (sIx items.size items.size hi - sIx items.size 0 lo) == items.size) = true then _ else _) _ _ s
  rw [if_neg hno, pick_gen]
  first
    | exact wpAny_bind (m := Builtin.Tuple.tupleExact _) (wpAny_newObj_type (wpAny_pure ⟨_, rfl, wpAny_pure h⟩) htake)
    | exact wpAny_bind (m := Builtin.Tuple.tupleExact _) (wpAny_newObj_type (wpAny_bind (wpAny_pure (wpAny_pure ⟨_, rfl, wpAny_pure h⟩))) htake)
    | exact wpAny_bind (wpAny_bind (m := Builtin.Tuple.tupleExact _) (wpAny_newObj_type (wpAny_pure (wpAny_pure ⟨_, rfl, wpAny_pure h⟩)) htake))
    | exact wpAny_bind (wpAny_bind (m := Builtin.Tuple.tupleExact _) (wpAny_newObj_type (wpAny_pure ⟨_, rfl, wpAny_pure h⟩) htake))
end
end HT
namespace L2
open PySem PySem.Spec PyProof.Rows
abbrev TO := St → Hp → (Option Int → Hp → Prop) → Prop
def PO (X : Cx) (e : Option Expr) (t : TO) : Prop :=
  ∀ (pins : List (Addr × Obj)) (s : Shared) (σ : St) (H : Hp) (Q : Option Int → Hp → Prop), Inv X pins σ H s → t σ H Q →
    wpAny (model X.prog X.w) X.A (evalPart e X.env) (fun u s' => ∃ o H', Inv X pins σ H' s' ∧ IsPart u o ∧ Q o H') X.xe s
def tNoPart : TO := fun _ H Q => Q none H
def tPart (t : TE) : TO := fun σ H Q => t σ H fun x H1 => ∃ i, x = .int i ∧ Q (some i) H1
theorem intsAre_of {ns : List Int} : ∀ {us : List Value}, Vals (ns.map V.int) us → IntsAre us ns := by
  induction ns with
  | nil => intro us r; rw [List.map_nil] at r; cases r; exact .nil
  | cons n ns ih =>
    intro us r
    rw [List.map_cons] at r
    cases r with
    | cons r1 r2 =>
      obtain ⟨t, e⟩ := r1
      subst e
      exact .cons n t (ih r2)
section
variable {X : Cx} {e : Expr} {te : TE} {lo hi : Option Expr} {tl th : TO} {pos p2 : Pos}
theorem po_none : PO X none tNoPart := by
  intro pins s σ H Q I h
  rw [evalPart_none]
  exact wpAny_pure ⟨none, H, I, .none, h⟩
theorem po_some (h : PE X e te) : PO X (some e) (tPart te) := by
  intro pins s σ H Q I hw
  rw [evalPart_some]
  refine thn (h pins s σ H _ I hw) fun u s1 ⟨x, H1, I1, r1, q1⟩ => ?_
  obtain ⟨i, rfl, q⟩ := q1
  obtain ⟨t, rfl⟩ := r1
  exact ⟨some i, H1, I1, .int i t, q⟩
def SlR (X : Cx) (r : V → Option Int → Option Int → Hp → VK → Prop) : Prop :=
  ∀ (pins : List (Addr × Obj)) (s : Shared) (σ : St) (H : Hp) (x : V) (v vl vu : Value) (lo hi : Option Int) (sl : Addr) (Q : VK), Inv X pins σ H s → RelV x v → s.heap.IsSliceOf sl vl vu .none → IsPart vl lo → IsPart vu hi → r x lo hi H Q →
    ∃ T id, typeLookup (.type T) "__getitem__" = pure (some (.builtin id)) ∧ s.TypeIs v T ∧ wpAny (model X.prog X.w) X.A (getItem v (.ref sl)) (EP X pins σ Q) X.xe s
theorem SlR.or {r r' : V → Option Int → Option Int → Hp → VK → Prop} (h : SlR X r) (h' : SlR X r') : SlR X (fun x lo hi H Q => r x lo hi H Q ∨ r' x lo hi H Q) := by
  intro pins s σ H x v vl vu lo hi sl Q I rx hs pl pu q
  rcases q with q | q
  · exact h pins s σ H x v vl vu lo hi sl Q I rx hs pl pu q
  · exact h' pins s σ H x v vl vu lo hi sl Q I rx hs pl pu q
def tSl (r : V → Option Int → Option Int → Hp → VK → Prop) (te : TE) (tl th : TO) : TE := fun σ H Q => te σ H fun x H1 => tl σ H1 fun l H2 => th σ H2 fun u H3 => r x l u H3 Q
theorem pe_slice {r : V → Option Int → Option Int → Hp → VK → Prop} (hr : SlR X r) (he : PE X e te) (hl : PO X lo tl) (hu : PO X hi th) : PE X (.Subscript e (.Slice lo hi none p2) pos) (tSl r te tl th) := by
  intro pins s σ H Q I h
  refine Subscript_ (thn (he pins s σ H _ I h) fun v s1 ⟨x, H1, I1, r1, q1⟩ => ?_)
  refine wpAny_Slice (thn (hl pins s1 σ H1 _ I1 q1) fun vl s2 ⟨l, H2, I2, pl, q2⟩ => thn (hu pins s2 σ H2 _ I2 q2) fun vu s3 ⟨u, H3, I3, pu, q3⟩ => ?_)
  rw [evalPart_none]
  refine wpAny_pure ?_
  have I4 : Inv X pins σ H3 { s3 with heap := s3.heap.push { cls := .type "slice", data := .fields #[vl, vu, .none] } } := I3.kept (t' := s3.toks) fun b ob q => Heap.get?_push_of_some _ q
  obtain ⟨T, id, hT, ht, hg⟩ := hr pins { s3 with heap := s3.heap.push { cls := .type "slice", data := .fields #[vl, vu, .none] } } σ H3 x v vl vu l u s3.heap.objs.size Q I4 r1 (Heap.IsSliceOf.new ..) pl pu q3
  show wpAny (model X.prog X.w) X.A (subscriptTail e (.Slice lo hi none p2) v (.ref s3.heap.objs.size)) (EP X pins σ Q) X.xe { s3 with heap := s3.heap.push { cls := .type "slice", data := .fields #[vl, vu, .none] } }
  exact tail_any (ops := [.ref s3.heap.objs.size, v]) ht hT hg (by with_unfolding_all rfl)
def cutV (xs : List V) (lo hi : Option Int) : List V := (xs.drop (HT.sIx xs.length 0 lo)).take (HT.sIx xs.length xs.length hi - HT.sIx xs.length 0 lo)
theorem cutV_length (xs : List V) (lo hi : Option Int) : (cutV xs lo hi).length ≤ xs.length := by
  unfold cutV
  rw [List.length_take, List.length_drop]
  omega
def rSlT (K : PySem.W.Frag) : V → Option Int → Option Int → Hp → VK → Prop := fun x lo hi H Q => ∃ a xs, x = .ref a ∧ SqT K H a xs ∧
  ¬ (HT.sIx xs.length 0 lo = 0 ∧ HT.sIx xs.length xs.length hi = xs.length) ∧ ∀ p, H p = none → Q (.ref p) (upd H p (.tup (cutV xs lo hi)))
theorem sl_tup : SlR X (rSlT X.K) := by
  intro pins s σ H x v vl vu lo hi sl Q I rx hs pl pu h
  obtain ⟨a, xs, rfl, hx, hw, q⟩ := h
  cases rx
  obtain ⟨its, r, ht, hz⟩ := I.tuple hx
  have hlen : its.toArray.size = xs.length := by rw [List.size_toArray]; exact r.length.symm
  refine ⟨"tuple", _, PyProof.Rows.slot_tuple_getitem.lookup, ht.typeIs, ?_⟩
  refine HT.getItem_tuple_cut ht hs pl pu (by rw [hlen]; exact hw) ?_ (by rw [hlen]; exact hz)
  rw [hlen]
  refine ⟨.ref s.heap.objs.size, _, I.laid (t' := s.toks) (o := .tup (cutV xs lo hi)) (fun b ob q => Heap.get?_push_of_some _ q) (Nat.le_refl _) ?_, rfl, q _ (I.hok.fresh (Nat.le_refl _))⟩
  exact ⟨Nat.le_trans (cutV_length xs lo hi) hz, _, (r.drop (HT.sIx xs.length 0 lo)).take (HT.sIx xs.length xs.length hi - HT.sIx xs.length 0 lo), IsTupP.new _ _⟩
def rLtT (K : PySem.W.Frag) : R2 := fun x y H Q => ∃ a b ns ms, x = .ref a ∧ y = .ref b ∧ SqT K H a (ns.map V.int) ∧ SqT K H b (ms.map V.int) ∧ Q (.bl (HT.lexLt ns ms)) H
theorem op_ltT (hu : X.A.units < cLine) : OpR X (compareOp .Lt) (rLtT X.K) := by
  intro pins s σ H x y v u Q I rx ry h
  obtain ⟨a, b, ns, ms, rfl, rfl, ha, hb, q⟩ := h
  cases rx
  cases ry
  obtain ⟨its, r1, p1, _⟩ := I.tuple ha
  obtain ⟨its2, r2, p2, _⟩ := I.tuple hb
  have i1 : IntsAre its.toArray.toList ns := intsAre_of r1
  have i2 : IntsAre its2.toArray.toList ms := intsAre_of r2
  exact HT.lt_tupInts p1 p2 i1 i2 hu ⟨.bl (HT.lexLt ns ms), H, I, rfl, q⟩
def rCatT (K : PySem.W.Frag) : R2 := fun x y H Q => ∃ a b xs ys, x = .ref a ∧ y = .ref b ∧ SqT K H a xs ∧ SqT K H b ys ∧ xs ≠ [] ∧ xs.length + ys.length ≤ sizeLine ∧
  (ys = [] → Q (.ref a) H) ∧ (ys ≠ [] → ∀ p, H p = none → Q (.ref p) (upd H p (.tup (xs ++ ys))))
theorem Vals.nil_iff {xs : List V} {us : List Value} (r : Vals xs us) : us = [] ↔ xs = [] := by
  cases r with
  | nil => simp
  | cons _ _ => simp
theorem op_catT : OpR X (binaryOp .Add) (rCatT X.K) := by
  intro pins s σ H x y v u Q I rx ry h
  obtain ⟨a, b, xs, ys, rfl, rfl, ha, hb, hx, hz, q1, q2⟩ := h
  cases rx
  cases ry
  obtain ⟨its, r1, p1, _⟩ := I.tuple ha
  obtain ⟨its2, r2, p2, _⟩ := I.tuple hb
  refine HT.cat_tup p1 p2 (fun z => hx (r1.nil_iff.mp z)) (fun z => ⟨.ref a, H, I, rfl, q1 (r2.nil_iff.mp z)⟩) (fun z => ?_) (by rw [← r1.length, ← r2.length]; exact hz)
  refine ⟨.ref s.heap.objs.size, _, I.laid (t' := s.toks) (o := .tup (xs ++ ys)) (fun b ob q => Heap.get?_push_of_some _ q) (Nat.le_refl _) ?_, rfl, q2 (fun w => z (r2.nil_iff.mpr w)) _ (I.hok.fresh (Nat.le_refl _))⟩
  exact ⟨by rw [List.length_append]; exact hz, _, r1.append r2, IsTupP.new _ _⟩
end
def ixN (n : Nat) (i : Int) : Option Nat := if 0 ≤ i then (if i < n then some i.toNat else none) else if -(n : Int) ≤ i then some (i + n).toNat else none
def atI {α : Type} (xs : List α) (i : Int) : Option α := (ixN xs.length i).bind fun j => xs[j]?
theorem ixN_seq {n : Nat} {i : Int} {j : Nat} (h : ixN n i = some j) : seqIndex? i n = some j ∧ j < n ∧ -(n : Int) ≤ i ∧ i < n := by
  unfold ixN at h
  by_cases h0 : 0 ≤ i
  · rw [if_pos h0] at h
    by_cases h1 : i < n
    · rw [if_pos h1] at h
      have e : i.toNat = j := Option.some.inj h
      exact ⟨by rw [seqIndex_of h0 h1, e], by omega, by omega, h1⟩
    · rw [if_neg h1] at h; cases h
  · rw [if_neg h0] at h
    by_cases h1 : -(n : Int) ≤ i
    · rw [if_pos h1] at h
      have e : (i + n).toNat = j := Option.some.inj h
      exact ⟨by rw [seqIndex_neg (by omega) h1, e], by omega, h1, by omega⟩
    · rw [if_neg h1] at h; cases h
theorem atI_get {α : Type} {xs : List α} {i : Int} {v : α} (h : atI xs i = some v) : ∃ j, seqIndex? i xs.length = some j ∧ xs[j]? = some v ∧ j < xs.length ∧ -(xs.length : Int) ≤ i ∧ i < xs.length := by
  unfold atI at h
  cases e : ixN xs.length i with
  | none => rw [e] at h; cases h
  | some j =>
    rw [e] at h
    obtain ⟨h1, h2, h3, h4⟩ := ixN_seq e
    exact ⟨j, h1, h, h2, h3, h4⟩
theorem atI_nat {α : Type} {xs : List α} {j : Nat} {v : α} (h : xs[j]? = some v) : atI xs (j : Int) = some v := by
  have hj : j < xs.length := (List.getElem?_eq_some_iff.mp h).1
  have e : ixN xs.length (j : Int) = some j := by
    unfold ixN
    rw [if_pos (by omega), if_pos (by omega)]; simp
  unfold atI; rw [e]; exact h
def PlainIx (b : Expr) : Prop := ∀ o i, subscripted b false o i = operate [o, i] (getItem o i)
def IxR (X : Cx) (r : R2) : Prop :=
  ∀ (value slice : Expr) (pins : List (Addr × Obj)) (s : Shared) (σ : St) (H : Hp) (x y : V) (v u : Value) (Q : VK), Inv X pins σ H s → RelV x v → RelV y u → r x y H Q →
    subscripted slice false v u = operate [v, u] (getItem v u) → wpAny (model X.prog X.w) X.A (subscriptTail value slice v u) (EP X pins σ Q) X.xe s
def MtR (X : Cx) (id : String) (r : V → List V → Hp → VK → Prop) : Prop :=
  ∀ (pins : List (Addr × Obj)) (s : Shared) (σ : St) (H : Hp) (x : V) (xs : List V) (v : Value) (us : List Value) (Q : VK), Inv X pins σ H s → RelV x v → Vals xs us → r x xs H Q →
    wpAny (model X.prog X.w) X.A (call (.builtin id) (v :: us)) (EP X pins σ Q) X.xe s
section
variable {X : Cx} {a b : Expr} {ta tb : TE} {pos : Pos}
theorem IxR.or {r r' : R2} (h : IxR X r) (h' : IxR X r') : IxR X (fun x y H Q => r x y H Q ∨ r' x y H Q) := by
  intro value slice pins s σ H x y v u Q I rx ry q hs
  rcases q with q | q
  · exact h value slice pins s σ H x y v u Q I rx ry q hs
  · exact h' value slice pins s σ H x y v u Q I rx ry q hs
theorem pe_ix {r : R2} (hr : IxR X r) (ha : PE X a ta) (hb : PE X b tb) (hs : PlainIx b) : PE X (.Subscript a b pos) (tOp r ta tb) := by
  intro pins s σ H Q I h
  exact Subscript_ (binT ha hb I h fun v u s2 x y H2 I2 rx ry q => hr a b pins s2 σ H2 x y v u Q I2 rx ry q (hs _ _))
def rIxL (K : PySem.W.Frag) : R2 := fun x y H Q => ∃ p xs i v, x = .ref p ∧ y = .int i ∧ SqL K H p xs ∧ atI xs i = some v ∧ Q v H
def rIxT (K : PySem.W.Frag) : R2 := fun x y H Q => ∃ p xs i v, x = .ref p ∧ y = .int i ∧ SqT K H p xs ∧ atI xs i = some v ∧ Q v H
def rIxS : R2 := fun x y H Q => ∃ z i c, x = .str z ∧ y = .int i ∧ z.length ≤ sizeLine ∧ atI z.cps.toList i = some c ∧ Q (.str ⟨#[c]⟩) H
theorem ix_list : IxR X (rIxL X.K) := by
  intro value slice pins s σ H x y v u Q I rx ry h hs
  obtain ⟨p, xs, i, z, rfl, rfl, hq, he, q⟩ := h
  cases rx
  obtain ⟨t, rfl⟩ := ry
  obtain ⟨its, r, pl, hz⟩ := I.list hq
  obtain ⟨j, h1, h2, h3, h4, h5⟩ := atI_get he
  obtain ⟨w, ew, rw'⟩ := r.get h2
  have hl := r.length
  have hn := line63
  have fin : EP X pins σ Q w s := ⟨z, H, I, rw', q⟩
  by_cases h0 : 0 ≤ i
  · have hj : i.toNat = j := by
      rw [seqIndex_of h0 h5] at h1
      exact Option.some.inj h1
    exact item_listR pl.isList h0 (by omega) (by rw [hj]; simpa using ew) fin hs
  · have hj : (i + (its.toArray.size : Int)).toNat = j := by
      rw [seqIndex_neg (by omega) h4] at h1
      rw [List.size_toArray, ← hl]
      exact Option.some.inj h1
    exact subscriptTail_builtinR (x := w) pl.isList.typeIs slot_list_getitem.lookup
      (wpAny_getItem_list_neg (Q := fun r s' => r = w ∧ EP X pins σ Q r s') pl.isList (by omega) (by rw [List.size_toArray] <;> omega) (by omega) (by rw [hj]; simpa using ew) ⟨rfl, fin⟩) hs
theorem ix_tup : IxR X (rIxT X.K) := by
  intro value slice pins s σ H x y v u Q I rx ry h hs
  obtain ⟨p, xs, i, z, rfl, rfl, hq, he, q⟩ := h
  cases rx
  obtain ⟨t, rfl⟩ := ry
  obtain ⟨its, r, pl, hz⟩ := I.tuple hq
  obtain ⟨j, h1, h2, h3, h4, h5⟩ := atI_get he
  obtain ⟨w, ew, rw'⟩ := r.get h2
  have hl := r.length
  have hn := line63
  have fin : EP X pins σ Q w s := ⟨z, H, I, rw', q⟩
  exact subscriptTail_builtinR (x := w) pl.typeIs slot_tuple_getitem.lookup
    (getItem_tuple (j := j) (Q := fun r s' => r = w ∧ EP X pins σ Q r s') pl (by omega) (by omega) (by rw [List.size_toArray, ← hl]; exact h1) (by simpa using ew) ⟨rfl, fin⟩) hs
theorem ix_str : IxR X rIxS := by
  intro value slice pins s σ H x y v u Q I rx ry h hs
  obtain ⟨z, i, c, rfl, rfl, hz, he, q⟩ := h
  obtain ⟨t, rfl⟩ := rx
  obtain ⟨t', rfl⟩ := ry
  obtain ⟨j, h1, h2, h3, h4, h5⟩ := atI_get he
  have hl : z.cps.toList.length = z.length := by simp [Str.length]
  rw [hl] at h1 h4 h5
  have hn := line63
  exact tail_any (typeIs_str s z t) slot_str_getitem.lookup (getItem_str (c := c) (by
    have e1 : decide (i < -(2 ^ 63 : Int)) = false := decide_eq_false (by omega)
    have e2 : decide (i ≥ 2 ^ 63) = false := decide_eq_false (by omega)
    rw [e1, e2, Bool.or_false]) (by rw [h1]; simpa using h2) ⟨.str ⟨#[c]⟩, H, I.tok _, ⟨_, rfl⟩, q⟩) hs
def rIx (K : PySem.W.Frag) : R2 := fun x y H Q => rIxL K x y H Q ∨ rIxT K x y H Q ∨ rIxS x y H Q
theorem ix_seq : IxR X (rIx X.K) := ix_list.or (ix_tup.or ix_str)
theorem mapSeq_set (its : List Value) (n j : Nat) (u : Value) : Obj.mapSeq (·.setIfInBounds j u) { cls := .type "list", data := .seq its.toArray n } = { cls := .type "list", data := .seq (its.set j u).toArray n } := by
  simp [Obj.mapSeq]
theorem Inv.lst {pins : List (Addr × Obj)} {σ : St} {H : Hp} {s : Shared} {p : Addr} {xs : List V} (I : Inv X pins σ H s) (h : H p = some (.lst xs)) :
    ∃ (its : List Value) (n : Nat), Vals xs its ∧ s.heap.get? p = some { cls := .type "list", data := .seq its.toArray n } ∧ xs.length ≤ sizeLine := by
  obtain ⟨z, its, n, r, e⟩ := I.hok p _ h
  exact ⟨its, n, r, e, z⟩
theorem Inv.lstUpd {pins : List (Addr × Obj)} {σ : St} {H : Hp} {s : Shared} {p : Addr} {xs ys : List V} {its its' : List Value} {n n' : Nat} {f : Obj → Obj} (I : Inv X pins σ H s) (h : H p = some (.lst xs))
    (ho : s.heap.get? p = some { cls := .type "list", data := .seq its.toArray n }) (hf : f { cls := .type "list", data := .seq its.toArray n } = { cls := .type "list", data := .seq its'.toArray n' }) (r : Vals ys its') (hz : ys.length ≤ sizeLine) (t : Nat) :
    Inv X pins σ (upd H p (.lst ys)) { s with heap := s.heap.update p f, toks := t } := by
  have e : (s.heap.update p f).get? p = some { cls := .type "list", data := .seq its'.toArray n' } := by
    rw [Heap.get?_update_self f ho (by rw [hf] <;> rfl), hf]
  refine I.write (x := p) (e := p) (by rw [h]; trivial) (.inl rfl) (fun b u hb q => (Heap.get?_update_other _ _ (Ne.symm hb)).trans q) ⟨_, e⟩ ?_
  exact ⟨hz, its', n', r, e⟩
def rSetL : V → V → V → Hp → (Hp → Prop) → Prop := fun o i v H Q => ∃ p xs k j, o = .ref p ∧ i = .int k ∧ H p = some (.lst xs) ∧ ixN xs.length k = some j ∧ Q (upd H p (.lst (xs.set j v)))
theorem set_list : PSet X rSetL := by
  intro pins s σ H o i v ov iv u Q I ro ri rv h
  obtain ⟨p, xs, k, j, rfl, rfl, hp, hj, q⟩ := h
  cases ro
  obtain ⟨t, rfl⟩ := ri
  obtain ⟨its, n, r, ho, hz⟩ := I.lst hp
  obtain ⟨h1, h2, h3, h4⟩ := ixN_seq hj
  have hl := r.length
  have hn := line63
  have I' : Inv X pins σ (upd H p (.lst (xs.set j v))) { s with heap := s.heap.update p (Obj.mapSeq (·.setIfInBounds j u)) } :=
    I.lstUpd hp ho (mapSeq_set its n j u) (r.set rv j) (by rw [List.length_set]; exact hz) s.toks
  by_cases h0 : 0 ≤ k
  · have hk : k.toNat = j := by
      rw [seqIndex_of h0 h4] at h1
      exact Option.some.inj h1
    exact PySem.W.ki_setAt ho h0 (by omega) (by rw [List.size_toArray, ← hl]; exact h4) (by rw [hk]; exact ⟨_, I', q⟩)
  · have hk : (k + (its.toArray.size : Int)).toNat = j := by
      rw [seqIndex_neg (by omega) h3] at h1
      rw [List.size_toArray, ← hl]
      exact Option.some.inj h1
    exact PySem.W.ki_setBack ho (by omega) (by rw [List.size_toArray, ← hl]; exact h3) (by omega) (by rw [hk]; exact ⟨_, I', q⟩)
theorem slice_bounds (lo hi : Option Int) (n : Nat) : (sliceBounds lo hi none n).1 = ((HT.sIx n 0 lo : Nat) : Int) ∧ (sliceBounds lo hi none n).2.1 = ((HT.sIx n n hi : Nat) : Int) ∧ (sliceBounds lo hi none n).2.2 = 1 := by
  refine ⟨?_, ?_, rfl⟩
  · cases lo with
    | none => simp [sliceBounds, HT.sIx]
    | some i =>
      simp only [sliceBounds, HT.sIx, Option.getD_none, show (1 : Int) > 0 by decide, if_true]
      by_cases h : i < 0
      · simp only [h, if_true] <;> omega
      · simp only [h, if_false] <;> omega
  · cases hi with
    | none => simp [sliceBounds, HT.sIx]
    | some i =>
      simp only [sliceBounds, HT.sIx, Option.getD_none, show (1 : Int) > 0 by decide, if_true]
      by_cases h : i < 0
      · simp only [h, if_true] <;> omega
      · simp only [h, if_false] <;> omega
theorem slicePick_cut (its : List Value) (lo hi : Option Int) : slicePick its.toArray lo hi none = ((its.drop (HT.sIx its.length 0 lo)).take (HT.sIx its.length its.length hi - HT.sIx its.length 0 lo)).toArray := by
  obtain ⟨h1, h2, h3⟩ := slice_bounds lo hi its.toArray.size
  unfold slicePick
  rw [h1, h2, h3]
  simp only [sliceRange_one, pick_run, List.size_toArray] <;> rfl
def rSlL (K : PySem.W.Frag) : V → Option Int → Option Int → Hp → VK → Prop := fun x lo hi H Q => ∃ a xs, x = .ref a ∧ SqL K H a xs ∧ ∀ p, H p = none → Q (.ref p) (upd H p (.lst (cutV xs lo hi)))
theorem sl_list : SlR X (rSlL X.K) := by
  intro pins s σ H x v vl vu lo hi sl Q I rx hs pl pu h
  obtain ⟨a, xs, rfl, hx, q⟩ := h
  cases rx
  obtain ⟨its, r, ht, hz⟩ := I.list hx
  have hlen := r.length
  refine ⟨"list", _, slot_list_getitem.lookup, ht.isList.typeIs, ?_⟩
  refine wpAny_getItem_list_slice ht.isList hs pl pu .none (by simp) ?_ (by rw [List.size_toArray] <;> omega)
  rw [slicePick_cut, ← hlen]
  refine ⟨.ref s.heap.objs.size, _, I.laid (t' := s.toks) (o := .lst (cutV xs lo hi)) (fun b ob q => Heap.get?_push_of_some _ q) (Nat.le_refl _) ?_, rfl, q _ (I.hok.fresh (Nat.le_refl _))⟩
  exact ⟨Nat.le_trans (cutV_length xs lo hi) hz, _, 0, (r.drop (HT.sIx xs.length 0 lo)).take (HT.sIx xs.length xs.length hi - HT.sIx xs.length 0 lo), Heap.get?_push_size _ rfl⟩
def flatV : V → Bool
  | .non => true
  | .bl _ => true
  | .int _ => true
  | .str _ => true
  | _ => false
def eqV : V → V → Bool
  | .non, .non => true
  | .bl a, .bl b => a == b
  | .bl a, .int b => (if a then 1 else 0) == b
  | .int a, .bl b => a == (if b then 1 else 0)
  | .int a, .int b => a == b
  | .str a, .str b => a == b
  | _, _ => false
theorem eqAt_V {A : Around} {s : Shared} {y x : V} {u v : Value} (ry : RelV y u) (rx : RelV x v) (fy : flatV y = true) (fx : flatV x = true) : SeqAt.EqAt A s u v (eqV y x) := by
  cases y with
  | non =>
    cases ry
    cases x with
    | non => cases rx; exact SeqAt.EqAt.same _
    | bl b => cases rx; exact SeqAt.EqAt.none_bool b
    | int b => obtain ⟨t, rfl⟩ := rx; exact SeqAt.EqAt.none_int b t
    | str b => obtain ⟨t, rfl⟩ := rx; exact SeqAt.EqAt.none_str b t
    | _ => exact absurd (show false = true from fx) Bool.false_ne_true
  | bl a =>
    cases ry
    cases x with
    | non => cases rx; exact SeqAt.EqAt.bool_none a
    | bl b => cases rx; exact SeqAt.EqAt.bool_bool a b
    | int b => obtain ⟨t, rfl⟩ := rx; exact SeqAt.EqAt.bool_int a b t
    | str b => obtain ⟨t, rfl⟩ := rx; exact SeqAt.EqAt.bool_str a b t
    | _ => exact absurd (show false = true from fx) Bool.false_ne_true
  | int a =>
    obtain ⟨t', rfl⟩ := ry
    cases x with
    | non => cases rx; exact SeqAt.EqAt.int_none a t'
    | bl b => cases rx; exact SeqAt.EqAt.int_bool a t' b
    | int b => obtain ⟨t, rfl⟩ := rx; exact SeqAt.EqAt.int_int a t' b t
    | str b => obtain ⟨t, rfl⟩ := rx; exact SeqAt.EqAt.int_str a t' b t
    | _ => exact absurd (show false = true from fx) Bool.false_ne_true
  | str a =>
    obtain ⟨t', rfl⟩ := ry
    cases x with
    | non => cases rx; exact SeqAt.EqAt.str_none a t'
    | bl b => cases rx; exact SeqAt.EqAt.str_bool a t' b
    | int b => obtain ⟨t, rfl⟩ := rx; exact SeqAt.EqAt.str_int a t' b t
    | str b => obtain ⟨t, rfl⟩ := rx; exact SeqAt.EqAt.str_str a t' b t
    | _ => exact absurd (show false = true from fx) Bool.false_ne_true
  | _ => exact absurd (show false = true from fy) Bool.false_ne_true
def eqU (x : V) (u : Value) : Bool := match u with
  | .none => eqV .non x
  | .bool b => eqV (.bl b) x
  | .int i _ => eqV (.int i) x
  | .str z _ => eqV (.str z) x
  | _ => false
theorem eqU_of {x y : V} {u : Value} (r : RelV y u) (f : flatV y = true) : eqU x u = eqV y x := by
  cases y with
  | non => cases r; rfl
  | bl b => cases r; rfl
  | int i => obtain ⟨t, rfl⟩ := r; rfl
  | str z => obtain ⟨t, rfl⟩ := r; rfl
  | _ => exact absurd (show false = true from f) Bool.false_ne_true
theorem any_eqU {x : V} : ∀ {xs : List V} {us : List Value}, Vals xs us → xs.all flatV = true → us.any (eqU x) = xs.any fun y => eqV y x
  | _, _, .nil, _ => rfl
  | y :: xs, u :: us, .cons r t, f => by
    rw [List.all_cons, Bool.and_eq_true] at f
    rw [List.any_cons, List.any_cons, eqU_of r f.1, any_eqU t f.2]
theorem mem_eqAt {A : Around} {s : Shared} {x : V} {v : Value} (rx : RelV x v) (fx : flatV x = true) : ∀ {xs : List V} {us : List Value}, Vals xs us → xs.all flatV = true → ∀ u ∈ us, SeqAt.EqAt A s u v (eqU x u)
  | _, _, .nil, _ => fun u hu => by cases hu
  | y :: xs, u :: us, .cons r t, f => fun u' hu => by
    rw [List.all_cons, Bool.and_eq_true] at f
    rcases List.mem_cons.mp hu with rfl | hu
    · rw [eqU_of r f.1]; exact eqAt_V r rx f.1 fx
    · exact mem_eqAt rx fx t f.2 u' hu
def inV (x : V) (xs : List V) : Bool := xs.any fun y => eqV y x
def rIn (K : PySem.W.Frag) (neg : Bool) : R2 := fun x y H Q => ∃ p xs, y = .ref p ∧ (SqL K H p xs ∨ SqT K H p xs) ∧ flatV x = true ∧ xs.all flatV = true ∧ Q (.bl (if neg then !inV x xs else inV x xs)) H
theorem op_in_seq : OpR X (compareOp .In) (rIn X.K false) := by
  intro pins s σ H x y v u Q I rx ry h
  obtain ⟨p, xs, rfl, hq, fx, fs, q⟩ := h
  cases ry
  rcases hq with hq | hq
  · obtain ⟨its, r, pl, hz⟩ := I.list hq
    refine SeqAt.in_listAt (eqU x) pl.isList (fun w hw => mem_eqAt rx fx r fs w (by simpa using hw)) ⟨.bl _, H, I, rfl, ?_⟩
    rw [show its.toArray.any (eqU x) = its.any (eqU x) by simp, any_eqU r fs]
    exact q
  · obtain ⟨its, r, pl, hz⟩ := I.tuple hq
    refine SeqAt.in_tupleAt (eqU x) pl (fun w hw => mem_eqAt rx fx r fs w (by simpa using hw)) ⟨.bl _, H, I, rfl, ?_⟩
    rw [show its.toArray.any (eqU x) = its.any (eqU x) by simp, any_eqU r fs]
    exact q
theorem op_notIn_seq : OpR X (compareOp .NotIn) (rIn X.K true) := by
  intro pins s σ H x y v u Q I rx ry h
  obtain ⟨p, xs, rfl, hq, fx, fs, q⟩ := h
  cases ry
  rcases hq with hq | hq
  · obtain ⟨its, r, pl, hz⟩ := I.list hq
    refine SeqAt.notIn_listAt (eqU x) pl.isList (fun w hw => mem_eqAt rx fx r fs w (by simpa using hw)) ⟨.bl _, H, I, rfl, ?_⟩
    rw [show its.toArray.any (eqU x) = its.any (eqU x) by simp, any_eqU r fs]
    exact q
  · obtain ⟨its, r, pl, hz⟩ := I.tuple hq
    refine SeqAt.notIn_tupleAt (eqU x) pl (fun w hw => mem_eqAt rx fx r fs w (by simpa using hw)) ⟨.bl _, H, I, rfl, ?_⟩
    rw [show its.toArray.any (eqU x) = its.any (eqU x) by simp, any_eqU r fs]
    exact q
theorem CallR.or {f : Value} {r r' : List V → Hp → VK → Prop} (h : CallR X f r) (h' : CallR X f r') : CallR X f (fun xs H Q => r xs H Q ∨ r' xs H Q) := by
  intro pins s σ H xs us Q I rs q
  rcases q with q | q
  · exact h pins s σ H xs us Q I rs q
  · exact h' pins s σ H xs us Q I rs q
theorem call_tuple_of : CallR X (.type "tuple") (fun xs H Q => ∃ p ys, xs = [.ref p] ∧ ((SqL X.K H p ys ∧ ∀ l, H l = none → Q (.ref l) (upd H l (.tup ys))) ∨ (SqT X.K H p ys ∧ Q (.ref p) H))) := by
  intro pins s σ H xs us Q I r h
  obtain ⟨p, ys, rfl, h⟩ := h
  obtain ⟨u, rfl, rx⟩ := vals1 r
  cases rx
  rcases h with ⟨hq, q⟩ | ⟨hq, q⟩
  · obtain ⟨its, r', pl, hz⟩ := I.list hq
    have hlen := r'.length
    refine call_tuple_list pl.isList (fun h' kp => ?_) (by simp only [List.size_toArray] <;> omega)
    have I1 : Inv X pins σ H { s with heap := h' } := I.kept (t' := s.toks) kp
    have I2 : Inv X pins σ (upd H h'.objs.size (.tup ys)) { s with heap := h'.push { cls := .type "tuple", data := .seq its.toArray } } :=
      I1.laid (t' := s.toks) (fun b o e => Heap.get?_push_of_some _ e) (Nat.le_refl _) (show ObjOk X.prog X.w _ _ _ (.tup ys) from ⟨hz, its, r', IsTupP.new _ _⟩)
    exact ⟨.ref h'.objs.size, _, I2, rfl, q _ (I1.hok.fresh (Nat.le_refl _))⟩
  · obtain ⟨its, r', pl, hz⟩ := I.tuple hq
    exact call_tuple_same pl ⟨.ref p, H, I, rfl, q⟩
def tyV (K : PySem.W.Frag) (T : String) (x : V) (H : Hp) : Prop := match x with
  | .str _ => T = "str"
  | .int _ => T = "int"
  | .ref p => (T = "list" ∧ ∃ xs, SqL K H p xs) ∨ (T = "tuple" ∧ ∃ o, K.lookup p = some o ∧ o.cls = .type "tuple" ∧ o.dict = none) ∨
      (T = "dict" ∧ ((∃ kvs, H p = some (.dK kvs)) ∨ ∃ kvs, H p = some (.dT kvs))) ∨ (T = "set" ∧ ∃ S n, H p = some (.set S n))
  | _ => False
theorem tyV_is {pins : List (Addr × Obj)} {σ : St} {H : Hp} {s : Shared} {T : String} {x : V} {v : Value} (I : Inv X pins σ H s) (r : RelV x v) (ty : tyV X.K T x H) :
    s.TypeIs v T ∧ ∀ a, v = .ref a → ∃ ob, s.heap.get? a = some ob ∧ ob.dict = none := by
  cases x with
  | str z =>
    obtain ⟨t, rfl⟩ := r
    cases (show T = "str" from ty)
    exact ⟨typeIs_str s z t, fun _ e => nomatch e⟩
  | int i =>
    obtain ⟨t, rfl⟩ := r
    cases (show T = "int" from ty)
    exact ⟨typeIs_int s i t, fun _ e => nomatch e⟩
  | ref p =>
    cases r
    rcases ty with ⟨rfl, xs, hq⟩ | ⟨rfl, o, hk, hc, hd⟩ | ⟨rfl, hk⟩ | ⟨rfl, S, n, hk⟩
    · obtain ⟨its, _, pl, _⟩ := I.list hq
      refine ⟨pl.isList.typeIs, fun a e => ?_⟩
      cases e
      obtain ⟨o, n, e, c, hd, _⟩ := pl
      exact ⟨o, e, hd⟩
    · refine ⟨⟨o, I.kIn p o hk, hc⟩, fun a e => ?_⟩
      cases e
      exact ⟨o, I.kIn _ o hk, hd⟩
    · have z : ∃ o, s.heap.get? p = some o ∧ o.ExactDict := by
        rcases hk with ⟨kvs, hk⟩ | ⟨kvs, hk⟩
        · obtain ⟨_, _, _, _, o, _, _, e, ex, _⟩ := I.hok p _ hk
          exact ⟨o, e, ex⟩
        · obtain ⟨_, _, _, _, o, _, _, e, ex, _⟩ := I.hok p _ hk
          exact ⟨o, e, ex⟩
      obtain ⟨o, e, ex⟩ := z
      refine ⟨⟨o, e, ex.1⟩, fun a e2 => ?_⟩
      cases e2
      exact ⟨o, e, ex.2.1⟩
    · obtain ⟨o, _, _, _, e, ex, _⟩ := I.hok p _ hk
      refine ⟨⟨o, e, ex.1⟩, fun a e2 => ?_⟩
      cases e2
      exact ⟨o, e, ex.2.1⟩
  | _ => exact False.elim ty
def tBM0 (K : PySem.W.Frag) (T : String) (r : V → List V → Hp → VK → Prop) (to : TE) : TE := fun σ H Q => to σ H fun x H1 => tyV K T x H1 ∧ r x [] H1 Q
def tBM (K : PySem.W.Frag) (T : String) (r : V → List V → Hp → VK → Prop) (to : TE) (t : TA) : TE := fun σ H Q => to σ H fun x H1 => tyV K T x H1 ∧ t σ H1 fun xs H2 => r x xs H2 Q
variable {o e : Expr} {es : List Expr} {to : TE} {t : TA} {name : Str} {apos cpos : Pos} {T id : String} {r : V → List V → Hp → VK → Prop}
theorem pe_bm0 (pa : PlainAttrs T) (slot : Slot T name id) (hty : typeOf (.builtin id) = pure (.type "method_descriptor")) (hm : MtR X id r) (ho : PE X o to)
    (hbase : attributeBase o name X.env (eval o X.env) = eval o X.env := by rfl) (hline : (apos.endLine == cpos.line) = true := by rfl) : PE X (.Call (.Attribute o name apos) [] [] cpos) (tBM0 X.K T r to) := by
  intro pins s σ H Q I h
  refine wpAny_Call_method0_late hbase hline (thn (ho pins s σ H _ I h) fun v s1 ⟨x, H1, I1, r1, ty, q1⟩ => ?_)
  obtain ⟨h1, h2⟩ := tyV_is I1 r1 ty
  exact ⟨T, id, pa, slot, hty, h1, h2, Calls.callWith_builtin rfl (PySem.evalArgs_none (hm pins s1 σ H1 x [] v [] Q I1 r1 .nil q1))⟩
theorem pe_bm (pa : PlainAttrs T) (slot : Slot T name id) (hty : typeOf (.builtin id) = pure (.type "method_descriptor")) (hm : MtR X id r) (ho : PE X o to) (ha : PA X (e :: es) t)
    (hbase : attributeBase o name X.env (eval o X.env) = eval o X.env := by rfl)
    (hfew : ((backTo cpos (starEach (e :: es) X.env)).all (fun x => !x.1) && (backToKw cpos (keywordEach [] X.env)).all (fun x => x.1.isSome)
      && decide ((e :: es).length + ([] : List Keyword).length + (if ([] : List Keyword).isEmpty then 0 else 1) < 30)) = true := by rfl)
    (hline : (apos.endLine == cpos.line) = true := by rfl) (hs : starEach (e :: es) X.env = (false, eval e X.env) :: starEach es X.env := by rfl) (hplain : (backTo cpos (starEach es X.env)).any (·.1) = false := by rfl) :
    PE X (.Call (.Attribute o name apos) (e :: es) [] cpos) (tBM X.K T r to t) := by
  intro pins s σ H Q I h
  refine wpAny_Call_method_late hbase hfew hline rfl (thn (ho pins s σ H _ I h) fun v s1 ⟨x, H1, I1, r1, ty, q1⟩ => ?_)
  obtain ⟨h1, h2⟩ := tyV_is I1 r1 ty
  refine ⟨T, id, pa, slot, hty, h1, h2, ?_⟩
  have hA := ha cpos pins s1 σ H1 _ I1 q1
  rw [hs] at hA ⊢
  refine Calls.callWith_builtin (by show (false || (backTo cpos (starEach es X.env)).any (·.1)) = false; rw [hplain] <;> rfl) (Calls.evalArgs_plain ?_)
  exact thn hA fun us s2 ⟨vs, H2, I2, r2, q2⟩ => hm pins s2 σ H2 x vs v us Q I2 r1 r2 q2
/- xs.append(e), list.index on a module's tuple .. are MtR facts of 06m -/
end
def MtM (X : Cx) (id : String) (r : V → List V → Hp → VK → Prop) : Prop :=
  ∀ (pins : List (Addr × Obj)) (s : Shared) (σ : St) (H : Hp) (x : V) (xs : List V) (v : Value) (us : List Value) (Q : VK), Inv X pins σ H s → RelV x v → Vals xs us → r x xs H Q →
    wpAny (model X.prog X.w) X.A (call (.builtin id) (v :: us)) (EP X pins σ Q) X.xe s
theorem Vals.one : ∀ {x : V} {us : List Value}, Vals [x] us → ∃ u, us = [u] ∧ RelV x u
  | _, _, .cons r .nil => ⟨_, rfl, r⟩
theorem Vals.zero : ∀ {us : List Value}, Vals [] us → us = []
  | _, .nil => rfl
theorem Vals.dropLast {xs : List V} {us : List Value} (h : Vals xs us) : Vals xs.dropLast us.dropLast := by
  induction h with
  | nil => exact .nil
  | cons r t ih =>
    cases t with
    | nil => exact .nil
    | cons q t' => exact .cons r ih
theorem Vals.rep {xs : List V} {us : List Value} (h : Vals xs us) : ∀ k : Nat, Vals (List.replicate k xs).flatten (List.replicate k us).flatten
  | 0 => .nil
  | k + 1 => by
    rw [List.replicate_succ, List.replicate_succ, List.flatten_cons, List.flatten_cons]
    exact Vals.append h (Vals.rep h k)
theorem erase_last {α : Type} (l : List α) : l.eraseIdx (l.length - 1) = l.dropLast := by
  induction l with
  | nil => rfl
  | cons a r ih =>
    cases r with
    | nil => rfl
    | cons b r =>
      have e : (a :: b :: r).length - 1 = ((b :: r).length - 1) + 1 := by
        have h1 : (a :: b :: r).length = r.length + 2 := rfl
        have h2 : (b :: r).length = r.length + 1 := rfl
        omega
      rw [e, List.eraseIdx_cons_succ, ih]
      all_goals rfl
theorem foldl_rep (its : List Value) : ∀ (k : Nat) (acc : List Value),
    List.foldl (fun x1 x2 => x1 ++ x2) acc.toArray (List.replicate k its.toArray) = (acc ++ (List.replicate k its).flatten).toArray
  | 0, acc => by simp
  | k + 1, acc => by
    have e : acc.toArray ++ its.toArray = (acc ++ its).toArray := by simp
    have e2 : (acc ++ its) ++ (List.replicate k its).flatten = acc ++ (List.replicate (k + 1) its).flatten := by
      rw [List.replicate_succ, List.flatten_cons, List.append_assoc]
    rw [← e2, ← foldl_rep its k (acc ++ its), ← e, List.replicate_succ, List.foldl_cons]
section
variable {X : Cx} {pins : List (Addr × Obj)} {σ : St} {H : Hp} {s : Shared} {l b : Addr} {xs ys zs : List V}
theorem Inv.lset {its its' : List Value} {n : Nat} {f : Array Value → Array Value} {t' : Nat} (I : Inv X pins σ H s) (hH : H l = some (.lst xs))
    (e : s.heap.get? l = some { cls := .type "list", data := .seq its.toArray n }) (hf : f its.toArray = its'.toArray) (hv : Vals ys its') (hz : ys.length ≤ sizeLine) :
    Inv X pins σ (upd H l (.lst ys)) { s with heap := s.heap.update l (Obj.mapSeq f), toks := t' } := by
  have q := PySem.IsL.update e f
  rw [hf] at q
  refine I.write (x := l) (e := l) (by rw [hH]; exact trivial) (.inl rfl) (fun b' u hb hu => (Heap.get?_update_other s.heap (Obj.mapSeq f) (Ne.symm hb)).trans hu) ⟨_, q⟩ ?_
  exact ⟨hz, its', _, hv, q⟩
theorem Inv.lnew {its : List Value} {t' : Nat} (I : Inv X pins σ H s) (hv : Vals ys its) (hz : ys.length ≤ sizeLine) :
    Inv X pins σ (upd H s.heap.objs.size (.lst ys)) { s with heap := s.heap.push { cls := .type "list", data := .seq its.toArray }, toks := t' } :=
  I.laid (fun _ _ q => Heap.get?_push_of_some _ q) (Nat.le_refl _) ⟨hz, its, 0, hv, Heap.get?_push_size _ rfl⟩
theorem Inv.fresh (I : Inv X pins σ H s) : H s.heap.objs.size = none := I.hok.fresh (Nat.le_refl _)
theorem Inv.lstM (I : Inv X pins σ H s) (hH : H l = some (.lst xs)) : xs.length ≤ sizeLine ∧ ∃ (its : List Value) (n : Nat), Vals xs its ∧ xs.length = its.length ∧ s.heap.get? l = some { cls := .type "list", data := .seq its.toArray n } := by
  obtain ⟨z, its, n, r, e⟩ := I.hok l _ hH
  exact ⟨z, its, n, r, r.length, e⟩
theorem notLongL {n : Nat} (h : n ≤ sizeLine) : Builtin.List.listTooLong n = false := by
  unfold Builtin.List.listTooLong
  exact decide_eq_false (by omega)
end
section
variable {X : Cx}
def rAppend : V → List V → Hp → VK → Prop := fun x vs H Q => ∃ l xs y, x = .ref l ∧ vs = [y] ∧ H l = some (.lst xs) ∧ xs.length < sizeLine ∧ Q .non (upd H l (.lst (xs ++ [y])))
theorem mt_append : MtM X "list.append" rAppend := by
  intro pins s σ H x vs v us Q I rx rv h
  obtain ⟨l, xs, y, rfl, rfl, hH, hz, q⟩ := h
  cases rx
  obtain ⟨u, rfl, ru⟩ := rv.one
  obtain ⟨z, its, n, r, hl, e⟩ := I.lstM hH
  refine call_meets F.slot_list_append ⟨_, e, rfl⟩ F.entry_list_append (F.args_list_append_2 _ _) (PySem.list_append l its.toArray n u (by rw [List.size_toArray]; omega)) ⟨e, ?_⟩
  refine ⟨.non, _, I.lset (its' := its ++ [u]) hH e (by simp) (r.append (.cons ru .nil)) ?_, rfl, q⟩
  rw [List.length_append, List.length_singleton]
  omega
def rPop : V → List V → Hp → VK → Prop := fun x vs H Q => ∃ l xs y, x = .ref l ∧ vs = [] ∧ H l = some (.lst xs) ∧ xs[xs.length - 1]? = some y ∧ Q y (upd H l (.lst xs.dropLast))
theorem mt_pop : MtM X "list.pop" rPop := by
  intro pins s σ H x vs v us Q I rx rv h
  obtain ⟨l, xs, y, rfl, rfl, hH, hy, q⟩ := h
  cases rx
  have hus := rv.zero
  subst hus
  obtain ⟨z, its, n, r, hl, e⟩ := I.lstM hH
  obtain ⟨u, hu, ru⟩ := r.get hy
  have hy' : its.toArray[its.toArray.size - 1]? = some u := by
    show its.toArray[its.length - 1]? = some u
    rw [← Array.getElem?_toList, ← hl]
    exact hu
  refine call_meets F.slot_list_pop ⟨_, e, rfl⟩ F.entry_list_pop (F.args_list_pop_1 _) (MeetsSeq.list_pop_last l its.toArray n u hy' (by rw [List.size_toArray]; omega)) ⟨e, ?_⟩
  refine ⟨y, _, I.lset (its' := its.dropLast) hH e ?_ r.dropLast ?_, ru, q⟩
  · show its.toArray.eraseIdxIfInBounds (its.toArray.size - 1) = its.dropLast.toArray
    rw [List.size_toArray, List.eraseIdxIfInBounds_toArray, erase_last]
  · rw [List.length_dropLast]
    omega
def rRep : R2 := fun x y H Q => ∃ l k xs, x = .ref l ∧ y = .int k ∧ H l = some (.lst xs) ∧ -(2 ^ 63) ≤ k ∧ k < 2 ^ 63 ∧ xs.length * k.toNat ≤ sizeLine ∧
  ∀ p, H p = none → Q (.ref p) (upd H p (.lst (List.replicate k.toNat xs).flatten))
theorem len_rep {α : Type} (xs : List α) (k : Nat) : (List.replicate k xs).flatten.length = k * xs.length := by
  induction k with
  | zero => simp
  | succ k ih => rw [List.replicate_succ, List.flatten_cons, List.length_append, ih, Nat.succ_mul, Nat.add_comm]
theorem op_rep : OpR X (binaryOp .Mult) rRep := by
  intro pins s σ H x y v u Q I rx ry h
  obtain ⟨l, k, xs, rfl, rfl, hH, h1, h2, hz, q⟩ := h
  cases rx
  obtain ⟨t, rfl⟩ := ry
  obtain ⟨z, its, n, r, hl, e⟩ := I.lstM hH
  have hlen : its.toArray.size * k.toNat ≤ sizeLine := by rw [List.size_toArray, ← hl]; exact hz
  have hcap : ¬ its.toArray.size * k.toNat > (2 ^ 63 - 1) / 8 := by
    have : (sizeLine : Nat) ≤ (2 ^ 63 - 1) / 8 := by decide
    omega
  have hfit : ¬ (!Builtin.List.listFitsIndex k) = true := by
    rw [fitsIndex_both h1 h2]
    exact Bool.false_ne_true
  have hlong : ¬ Builtin.List.listTooLong (its.toArray.size * k.toNat) = true := by
    rw [notLongL hlen]
    exact Bool.false_ne_true
  have hnew : List.foldl (fun x1 x2 => x1 ++ x2) #[] (List.replicate (if its.toArray.isEmpty = true then 0 else k.toNat) its.toArray) = (List.replicate k.toNat its).flatten.toArray := by
    have f0 : ∀ m : Nat, List.foldl (fun x1 x2 => x1 ++ x2) #[] (List.replicate m its.toArray) = (List.replicate m its).flatten.toArray := fun m => by
      have := foldl_rep its m []
      rw [List.nil_append] at this
      exact this
    rw [f0]
    cases its with
    | nil => simp
    | cons a r' => rw [if_neg (by simp)]
  refine wpAny_binaryOp_repeat_ref (T := "list") (U := "int") (by decide) ⟨_, e, rfl⟩ (fun s' => typeIs_int s' k t) noFill_list_mul F.fills_int_mul F.slot_int_rmul repeat_list F.slot_int_index.lookup
    (call_meets F.slot_int_rmul (typeIs_int s k t) F.entry_int_rmul (F.args_int_rmul_2 _ _) (int___rmul___int_list k t l its.toArray n)
      ⟨e, rfl, ⟨_, e, rfl⟩, call_meets F.slot_list_mul ⟨_, e, rfl⟩ F.entry_list_mul (F.args_list_mul_2 _ _) (AutoListH.list___mul___list_int_3 l its.toArray n k t hfit hcap hlong) ⟨e, ?_⟩⟩)
  rw [hnew]
  exact ⟨.ref _, _, I.lnew (t' := s.toks) (r.rep k.toNat) (by rw [len_rep, Nat.mul_comm]; exact hz), rfl, q _ I.fresh⟩
end
section
variable {prog : Program} {w : World} {A : Around} {E : Value → Shared → Prop} {s : Shared}
end
section
variable {X : Cx}
end
end L2
namespace Att
open PySem PySem.W PySem.Calls PyProof.Rows
theorem ints_of_wellAll {P : Params} {h : Heap} : ∀ (ns : List Int) (vs : List Value), WellAll P h vs (ns.map WData.int) → IntsAre vs ns := by
  intro ns
  induction ns with
  | nil =>
    intro vs w
    rw [List.map_nil] at w
    cases w
    exact .nil
  | cons n ns ih =>
    intro vs w
    rw [List.map_cons] at w
    cases w with
    | cons a b =>
      cases a
      exact .cons _ _ (ih _ b)
theorem script_of {l : OpenLaw} {n : Nat} (hn : l.most = some n) {P : Params} {h : Heap} {args : List WData} {vals : List Value}
    (hpre : l.row.toRowW.claim.pre args = true) (hwl : WellAll P h vals args) :
    ∃ a vs ns, vals = [Value.ref a] ∧ args = [WData.list (ns.map WData.int)] ∧ h.get? a = some { cls := .type "list", data := .seq vs.toArray } ∧ IntsAre vs ns ∧ ns.length ≤ n := by
  have hsh : WShape.hasAll [] args [.list .int] = true := (pre_splitW hpre).1
  have hc : l.pre.holds [] { args := args } = true := (pre_splitW hpre).2
  obtain ⟨d, r, rfl, h1, h2⟩ := hasAllW_cons hsh
  obtain rfl := hasAllW_nil h2
  obtain ⟨xs, rfl, h3⟩ := hasW_list h1
  obtain ⟨ns, rfl⟩ := items_int h3
  have hlen : ns.length ≤ n := by
    unfold OpenLaw.pre at hc
    have h4 : (WTm.not (.lt (.lit (.int (n : Int))) (.len (.arg 0)))).holds [] { args := [.list (ns.map .int)] } = true := by
      have h4 := (holds_andW hc).1
      rw [hn] at h4
      exact h4
    have h5 := condW_of h4 (w_not (w_lt w_lit (w_len_list (w_arg rfl))))
    rw [List.length_map] at h5
    refine Nat.le_of_not_lt fun q => ?_
    have q' : (n : Int) < ((ns.length : Nat) : Int) := by omega
    first
      | (rw [decide_eq_true q'] at h5; exact absurd h5 (by decide))
      | (simp at h5; omega)
  cases hwl with
  | cons w1 w2 =>
    cases w2
    cases w1 with
    | list ho hall => exact ⟨_, _, ns, rfl, rfl, ho, ints_of_wellAll ns _ hall, hlen⟩
theorem post_true (l : OpenLaw) (args : List WData) : l.row.toRowW.claim.post args (.bool true) args = true :=
  postW_of (r := l.row.toRowW) (X := (true == true))
    (show WShape.has [] (.bool true) .bool = true by first | rfl | decide | simp [WShape.has, WShape.arms, WShape.armsAll])
    (show (WTm.eq .res (.lit (.bool true))).value [] { args := args, res := some (.bool true), after := args } = some (.bool (true == true)) from w_eq_bool (w_res rfl) w_lit) rfl
theorem attach_call {l : OpenLaw} {n : Nat} {q : Program} {loose : List Str} {XP : (Str → Option Value) → Heap → Prop} {YP : World → Heap → Prop} {d : DefRec}
    (hn : l.most = some n) (hdf : d.params.defaults = [])
    (call : ∀ (w : World) (s₀ s₁ : Shared) (mg mb : Str → Option Value) (fa : Addr) (o : Obj) (pm cd doc : Value) (a : Addr) (vs : List Value) (ns : List Int),
      Ground q loose [] XP w s₀ mg mb s₁.heap → YP w s₁.heap →
      s₁.heap.get? fa = some o → o.data = .func (docDef d.name d.params d.body d.scope pm cd doc) → s₁.heap.CodeRec cd d.name → mg d.name = some (.ref fa) →
      s₁.heap.get? a = some { cls := .type "list", data := .seq vs.toArray } → IntsAre vs ns → ns.length ≤ n → s₁.gens = #[] →
      codeAny (model l.prog w) callerA (.call (.ref fa) ⟨[.ref a], []⟩) (fun r s' => r = .ok (.ret (.bool true)) ∧ OldK s₁.heap s'.heap ∧ s'.os = s₁.os ∧ AllBare s'.gens) s₁) :
    WalkO q loose XP YP l.row.toRowW d [] (fun f vs => PySem.call f vs) := by
  intro w s₀ s₁ mg mb G Y fa o pm cd doc dV kV ho hd hcd hD hmg hg args vals as hpre hlay hrd hwl hlo
  obtain rfl : dV = .none := Dflts.none hD hdf
  obtain rfl : kV = .none := Dflts.noKw hD
  obtain ⟨a, vs, ns, rfl, rfl, hobj, hints, hlen⟩ := script_of hn hpre hwl
  refine enter_call (codeAny_mono (call w s₀ s₁ mg mb fa o pm cd doc a vs ns G Y ho (fd_plain hd) hcd hmg hobj hints hlen hg) fun r s' hq => ?_)
  obtain ⟨rfl, h2, h3, h4⟩ := hq
  exact ⟨.inl ⟨.bool true, .bool true, [], rfl, fun _ => rfl, .bool true, post_true l _, fun _ => ⟨List.Pairwise.nil, fun _ hm => (nomatch hm)⟩⟩, h2, h3, h4⟩
section
variable {prog : Program} {w : World} {A : Around} {E : Value → Shared → Prop} {s : Shared} {K : Frag}
end
end Att
namespace L2
open PySem PySem.Spec PyProof.Rows
theorem vals_ints : ∀ {vs : List Value} {ns : List Int}, IntsAre vs ns → Vals (ns.map V.int) vs
  | _, _, .nil => .nil
  | _, _, .cons n t h => .cons ⟨t, rfl⟩ (vals_ints h)
def Only (H : Hp) : Prop := ∀ b, H b = none ∨ ∃ o xs, H b = some (.frz o (.lst xs))
theorem law_call {P : Program} {w : World} {K : PySem.W.Frag} {mg mb : Str → Option Value} {CX : CXT} {k : Nat} {fa a : Addr} {fd : FuncData} {x : Str} {sp : Sp} {s₁ : Shared} {vs : List Value} {ns : List Int}
    (KX : K.In s₁.heap) (hns : s₁.heap.Ns mainGlobals mg) (hb : s₁.heap.Ns builtinsNs mb) (hbb : ∀ x : Str, x ≠ "__name__" → mb x = bootBuiltins x) (hlim : s₁.heap.NoLimit) (hg : s₁.gens = #[])
    (ha : s₁.heap.get? a = some { cls := .type "list", data := .seq vs.toArray }) (hi : IntsAre vs ns) (hl : ns.length ≤ sizeLine) (hr : Room k callerA)
    (F : ∀ base : Heap, K.In base → base.Ns mainGlobals mg → FnOk P w K mg base CX k fa fd [x] sp) (hbind : ∀ (s : Shared) (u : Value), BindsTo s fd ⟨[u], []⟩ [(x, u)])
    (hsp : ∀ H : Hp, Only H → SqL K H a (ns.map V.int) → sp [.ref a] H (fun v _ => v = .bl true) fun _ _ _ => False)
    (hCX : ∀ H e s', CX [] H s₁ (fun _ _ _ => False) e s' → False) :
    codeAny (model P w) callerA (.call (.ref fa) ⟨[.ref a], []⟩) (fun r s' => r = .ok (.ret (.bool true)) ∧ OldK s₁.heap s'.heap ∧ s'.os = s₁.os ∧ AllBare s'.gens) s₁ := by
  have rv := vals_ints hi
  have lenV := hi.length
  -- from an abstract heap in which nothing but the script may be tracked
  have core : ∀ H : Hp, Only H → SqL K H a (ns.map V.int) → HOk P w H s₁.heap → (∀ b, H b ≠ none → b = a) → (H a ≠ none → K.lookup a = none) →
      codeAny (model P w) callerA (.call (.ref fa) ⟨[.ref a], []⟩) (fun r s' => r = .ok (.ret (.bool true)) ∧ OldK s₁.heap s'.heap ∧ s'.os = s₁.os ∧ AllBare s'.gens) s₁ := by
    intro H hO hS hok hA hK
    have base_of : ∀ {b : Addr} {o : Obj}, s₁.heap.get? b = some o → H b = none → (hidT s₁.heap H).get? b = some o := fun e n => hidT_get e n
    have noA : ∀ {b : Addr} {o : Obj} {es : Array DictEntry} {ep : Nat}, s₁.heap.get? b = some o → o.data = .dict es ep → H b = none := fun {b o es ep} e d => by
      cases q : H b with
      | none => rfl
      | some u =>
        have e' : b = a := hA b (by rw [q]; simp)
        subst e'
        rw [ha] at e; cases e
        have d' : Data.seq vs.toArray _ = Data.dict es ep := d
        cases d'
    have nsK : ∀ {b : Addr} {m : Str → Option Value}, s₁.heap.Ns b m → (hidT s₁.heap H).Ns b m := fun {b m} ⟨o, es, ep, e, d, r⟩ => ⟨o, es, ep, base_of e (noA e d), d, r⟩
    have hKb : K.In (hidT s₁.heap H) := fun b o e => base_of (KX b o e) (by
      cases q : H b with
      | none => rfl
      | some u =>
        have e' : b = a := hA b (by rw [q]; simp)
        subst e'
        rw [hK (by rw [q]; simp)] at e; cases e)
    have hM : Mod K mg (hidT s₁.heap H) := ⟨hKb, nsK hns, ⟨mb, nsK hb, hbb⟩, let ⟨mc, h1, h2⟩ := hlim; ⟨mc, nsK h1, h2⟩⟩
    have e0 : Env0 P w K mg (hidT s₁.heap H) callerA [] s₁ H := ⟨rfl, hM, fun b o e => of_hidT e, Nat.le_of_eq (hidT_size _ _), trivial, fun b hb => absurd (show b ∈ ([] : List Addr) from hb) (by simp), hok, .of_eq hg⟩
    refine codeAny_mono ((F _ hKb (nsK hns)).run callerA [] s₁ H ⟨[.ref a], []⟩ [.ref a] [.ref a] _ _ hr e0 (hbind s₁ (.ref a)) (.cons rfl .nil) (hsp H hO hS)) fun r s' h => ?_
    cases r with
    | error e => exact (hCX H e s' h).elim
    | ok fl =>
      cases fl with
      | next => exact False.elim h
      | brk => exact False.elim h
      | cont => exact False.elim h
      | ret u =>
        obtain ⟨v, H', os, bare, un, hok', r', q⟩ := h
        have q' : v = .bl true := q
        subst q'
        obtain rfl : u = Value.bool true := r'
        refine ⟨rfl, OldK.of_keep fun b o e => ?_, os, bare⟩
        cases q : H b with
        | none => exact un.keep b o e q (by intro z; exact absurd (show b ∈ ([] : List Addr) from z) (by simp)) (by simp)
        | some u =>
          rcases hO b with z | ⟨ob, xs, z⟩
          · rw [q] at z; cases z
          · have z2 := un.frzs b ob _ z
            obtain ⟨e1, _⟩ := hok b _ z
            obtain ⟨e2, _⟩ := hok' b _ z2
            rw [e] at e1; cases e1
            exact e2
  cases hk : K.lookup a with
  | some o =>
    -- the script is one of the module's own objects
    have e := KX a o hk
    rw [ha] at e
    cases e
    refine core (fun _ => none) (fun _ => .inl rfl) (.inr ⟨_, vs.toArray, _, hk, rfl, rfl, rfl, by rw [List.size_toArray, lenV]; exact hl, by simpa using rv⟩) (fun b u z => by have z' : (none : Option HO) = some u := z; cases z') (fun b z => absurd rfl z) fun z => absurd rfl z
  | none =>
    refine core (fun b => if b = a then some (.frz { cls := .type "list", data := .seq vs.toArray } (.lst (ns.map V.int))) else none) (fun b => ?_) (.inl (.inr ⟨{ cls := .type "list", data := .seq vs.toArray }, if_pos rfl⟩)) (fun b u z => ?_) (fun b z => ?_) fun _ => hk
    · by_cases hb : b = a
      · exact .inr ⟨_, _, if_pos hb⟩
      · exact .inl (if_neg hb)
    · by_cases hb : b = a
      · have z' := (if_pos hb).symm.trans z
        cases z'
        subst hb
        exact ⟨ha, by rw [List.length_map]; exact hl, vs, _, rv, ha⟩
      · have z' := (if_neg hb).symm.trans z
        cases z'
    · by_cases hb : b = a
      · exact hb
      · exact absurd (if_neg hb) z
theorem walk_of {l : PySem.W.OpenLaw} {n k : Nat} {q : Program} {loose : List Str} {XP : (Str → Option Value) → Heap → Prop} {YP : World → Heap → Prop} {d : DefRec} {K : Params → PySem.W.Frag} {CX : World → CXT} {sp : World → Sp} {x : Str}
    (hn : l.most = some n) (hn2 : n ≤ sizeLine) (hdf : d.params.defaults = []) (hr : Room k callerA)
    (hY : ∀ (w : World) (h : Heap), YP w h → (K w.params).In h)
    (F : ∀ (w : World) (mg : Str → Option Value) (fa : Addr) (h : Heap), (K w.params).In h → h.Ns mainGlobals mg → mg d.name = some (.ref fa) →
      ∃ fd : FuncData, (∀ (s : Shared) (u : Value), BindsTo s fd ⟨[u], []⟩ [(x, u)]) ∧
        ∀ base : Heap, (K w.params).In base → base.Ns mainGlobals mg → FnOk l.prog w (K w.params) mg base (CX w) k fa fd [x] (sp w))
    (hsp : ∀ (w : World) (H : Hp) (a : Addr) (ns : List Int), ns.length ≤ n → Only H → SqL (K w.params) H a (ns.map V.int) → sp w [.ref a] H (fun v _ => v = .bl true) fun _ _ _ => False)
    (hCX : ∀ (w : World) (H : Hp) (s : Shared) (e : Value) (s' : Shared), CX w [] H s (fun _ _ _ => False) e s' → False) :
    PySem.W.WalkO q loose XP YP l.row.toRowW d [] (fun f vs => PySem.call f vs) := by
  refine Att.attach_call hn hdf fun w s₀ s₁ mg mb fa o pm cd doc a vs ns G Y ho hd hcd hmg hobj hints hlen hg => ?_
  have KX := hY w _ Y
  obtain ⟨fd, hb, hF⟩ := F w mg fa _ KX G.T.g hmg
  exact law_call KX G.T.g G.T.b G.T.builtins G.T.nolimit hg hobj hints (Nat.le_trans hlen hn2) hr hF hb (fun H hO hS => hsp w H a ns hlen hO hS) fun H e s' => hCX w H s₁ e s'
end L2
/- THE LAST THEOREM (shape; LID, My.* are yours):
   My.Adr: a structure of the addresses that your layer names (classes, functions); My.Txt K t: a structure (Prop) of the equations over K;
   My.txt_mk : {K} {implicit addresses ..} (e1 : nsIn K mainGlobals "law" = some (some (.ref f))) (e2 : K.lookup f = some ⟨oc, od, .func (fnOf "law" "law" params body scope dV kV doc pm an cdv ct), sl⟩) (e3 : codeIn K cdv "law" = true) .. : ∃ t, My.Txt K t
set_option maxRecDepth 100000 in
set_option maxHeartbeats 0 in
theorem PySem.Challenge.cw_LID_holds : PySem.Challenge.rw_LID.Holds := by
  w_on; o_law; k_head; (case hw => w_witness2)
  k_fill
  refine L2.walk_of (l := PySem.Challenge.rw_LID) (n := 63) (k := 40) (x := "script") (CX := fun w => ..) (sp := fun _ => My.sp_law) rfl (by decide) rfl ⟨rfl, by decide, by decide⟩ (fun w h Y => PySem.W.kIn_of Y) ?F ?S ?C
  case F =>
    intro w mg fa h KX G hmg
    have T : ∃ t, My.Txt (L2.KOf KX) t := by
      dsimp only [L2.KOf]                          -- K must stand as «<heap const> w.params» for k_is
      refine' My.txt_mk ?e1 ?e2 ?e3 ..
      (case e1 => PySem.W.k_is)                    -- in the order: a name -> its address -> its object -> its parts
      (case e2 => PySem.W.k_is)
      ..
    obtain ⟨t, T⟩ := T
    have e0 := hmg.symm.trans (PySem.W.mg_of KX G T.law)
    cases e0                                       -- fa is the law's own address
    exact ⟨_, fun s u => .of_eq rfl, fun base kb nb => My.law_fn T kb nb⟩     -- if «.of_eq rfl» comes too early: refine' ⟨_, ?b, fun base kb nb => My.law_fn T kb nb⟩; exact fun s u => .of_eq rfl
  case S => exact fun w H a ns hl hO hS => ..
  case C => exact ..
(the tactic k_is has no namespace: write k_is) -/
namespace L2
open PySem PySem.Spec PyProof.Rows
def defArgs (s : Stmt) : Arguments := match s with
  | .FunctionDef _ a _ _ _ _ _ _ _ _ => a
  | _ => { posonlyargs := [], args := [], vararg := none, kwonlyargs := [], kw_defaults := [], kwarg := none, defaults := [] }
def defBody (s : Stmt) : List Stmt := match s with
  | .FunctionDef _ _ b _ _ _ _ _ _ _ => b
  | _ => []
def defScope (s : Stmt) : Scope := match s with
  | .FunctionDef _ _ _ _ _ _ sc _ _ _ => sc
  | _ => { kind := .function, names := [], isGenerator := false, isCoroutine := false }
abbrev CX0 : CXT := fun _ _ _ _ _ _ => False
abbrev E0 : XK := fun _ _ _ => False
theorem pass0 {X : Cx} : Passes CX0 X E0 := fun _ _ _ _ _ _ _ h => h.elim
structure Fun (K : PySem.W.Frag) (x qual : Str) (st : Stmt) (f : Addr) (fd : FuncData) : Prop where
  ex : ∃ (oc : Value) (od : Option Addr) (kV doc pm : Value) (an : Option Addr) (cdv ct : Value) (osl : Array (Option Value)),
    fd = PySem.W.fnOf x qual (defArgs st) (defBody st) (defScope st) .none kV doc pm an cdv ct ∧ K.lookup f = some ⟨oc, od, .func fd, osl⟩ ∧ PySem.W.codeIn K cdv qual = true
  kp : PySem.W.keepIn K (.ref f) = true
section
variable {P : Program} {w : World} {K : PySem.W.Frag} {mg : Str → Option Value} {base : Heap}
theorem Fun.ok {x qual : Str} {st : Stmt} {f : Addr} {fd : FuncData} {N ps : List Str} {k : Nat} {sp : Sp} (F : Fun K x qual st f fd) (S : FnScope N ps (defScope st)) (len : ∀ vs H Q E, sp vs H Q E → vs.length = ps.length)
    (hbody : ∀ (cdv : Value) (A : Around) (outer : List Env) (s : Shared) (H : Hp) (vs : List V) (Q : VK) (E : XK), Room k (A.deeper (envOfC qual (defScope st) s.heap.objs.size f cdv)) → sp vs H Q E →
      ∃ t, PSs (cxOf CX0 P w K mg base N qual (defScope st) f cdv A outer s H E).nox (defBody st) t ∧ t { nx := fun _ H' => Q .non H', rt := Q } (start N vs) H) : FnOk P w K mg base CX0 (k + 1) f fd ps sp := by
  obtain ⟨oc, od, kV, doc, pm, an, cdv, ct, osl, rfl, lk, hcd⟩ := F.ex
  refine fn_of lk hcd S len fun A outer s H vs Q E hr hsp => ?_
  obtain ⟨t, h, q⟩ := hbody cdv A outer s H vs Q E hr hsp
  exact ⟨t, h.nox, q⟩
theorem Fun.binds {x qual : Str} {st : Stmt} {f : Addr} {fd : FuncData} {ps : List Str} (F : Fun K x qual st f fd)
    (h : ∀ (kV doc pm : Value) (an : Option Addr) (cdv ct : Value) (us : List Value), us.length = ps.length → bindArgs (PySem.W.fnOf x qual (defArgs st) (defBody st) (defScope st) .none kV doc pm an cdv ct) ⟨us, []⟩ = pure (ps.zip us)) : Binds K fd ps [] := by
  obtain ⟨oc, od, kV, doc, pm, an, cdv, ct, osl, rfl, lk, hcd⟩ := F.ex
  exact .all (h kV doc pm an cdv ct)
theorem fun_mk {x qual : Str} {st : Stmt} {f : Addr} {oc : Value} {od an : Option Addr} {osl : Array (Option Value)} {kV doc pm cdv ct : Value} (l : K.lookup f = some ⟨oc, od, .func (PySem.W.fnOf x qual (defArgs st) (defBody st) (defScope st) .none kV doc pm an cdv ct), osl⟩)
    (c : PySem.W.codeIn K cdv qual = true) (k : PySem.W.keepIn K (.ref f) = true) : Fun K x qual st f (PySem.W.fnOf x qual (defArgs st) (defBody st) (defScope st) .none kV doc pm an cdv ct) := ⟨⟨oc, od, kV, doc, pm, an, cdv, ct, osl, rfl, l, c⟩, k⟩
end
section
variable {X : Cx}
end
theorem ite2 {c A B : Prop} [Decidable c] (h1 : c → A) (h2 : ¬ c → B) : if c then A else B := by
  by_cases h : c
  · rw [if_pos h]
    exact h1 h
  · rw [if_neg h]
    exact h2 h
end L2
namespace U2
open PySem L2
inductive U where
  | non | bl (b : Bool) | int (i : Int) | str (x : Str) | tup (us : List U) | lst (us : List U) | ref (a : Addr) | ty (n : String) | dic (ks : List (List Key)) (tk : Bool) (us : List U)
inductive MO where
  | lst (us : List U) | dK (kvs : List (Key × U)) | dT (kvs : List (List Key × U)) | dN (kvs : List ((List Key × Key) × U)) | tbl (q : Str) | cap (ps : Array Value) (vs : List V) (us : List U)
abbrev MHp := Addr → Option MO
def mup (M : MHp) (a : Addr) (o : MO) : MHp := fun b => if b = a then some o else M b
theorem mup_same {M : MHp} {a : Addr} {o : MO} : mup M a o a = some o := by unfold mup; rw [if_pos rfl]
theorem mup_ne {M : MHp} {a b : Addr} {o : MO} (h : b ≠ a) : mup M a o b = M b := by unfold mup; rw [if_neg h]
theorem mup_mup {M : MHp} {a : Addr} {o u : MO} : mup (mup M a o) a u = mup M a u := by
  funext b; unfold mup; split <;> rfl
def KT (K : PySem.W.Frag) (a : Addr) (xs : List V) : Prop :=
  ∃ (o : Obj) (its : Array Value) (n : Nat), K.lookup a = some o ∧ o.cls = .type "tuple" ∧ o.dict = none ∧ o.data = .seq its n ∧ its.size ≤ sizeLine ∧ Vals xs its.toList
def KL (K : PySem.W.Frag) (a : Addr) (xs : List V) : Prop :=
  ∃ (o : Obj) (its : Array Value) (n : Nat), K.lookup a = some o ∧ o.cls = .type "list" ∧ o.dict = none ∧ o.data = .seq its n ∧ its.size ≤ sizeLine ∧ Vals xs its.toList
def DicAt (H : Hp) (a : Addr) (ks : List (List Key)) (tk : Bool) (vs : List V) : Prop := match tk with
  | true => ∃ ws, Rd H a (.dT ws) ∧ ks = ws.map (·.1) ∧ vs = ws.map (·.2)
  | false => ∃ ws, Rd H a (.dK ws) ∧ ks = ws.map (fun p => [p.1]) ∧ vs = ws.map (·.2)
mutual
def RelU (K : PySem.W.Frag) (H : Hp) (M : MHp) : U → V → Prop
  | .non, v => v = .non
  | .bl b, v => v = .bl b
  | .int i, v => v = .int i
  | .str x, v => v = .str x
  | .ty n, v => v = .ty n
  | .ref a, v => v = .ref a
  | .tup us, v => ∃ a vs, v = .ref a ∧ (M a = none ∧ H a = some (.tup vs)) ∧ RelUs K H M us vs
  | .dic ks tk us, v => ∃ a vs, v = .ref a ∧ M a = none ∧ DicAt H a ks tk vs ∧ RelUs K H M us vs
  | .lst us, v => ∃ a vs, v = .ref a ∧ ((M a = none ∧ Rd H a (.lst vs)) ∨ KL K a vs) ∧ RelUs K H M us vs
def RelUs (K : PySem.W.Frag) (H : Hp) (M : MHp) : List U → List V → Prop
  | [], vs => vs = []
  | u :: us, vs => ∃ v vs', vs = v :: vs' ∧ RelU K H M u v ∧ RelUs K H M us vs'
end
def isDk : HO → Bool
  | .dK _ => true
  | .dT _ => true
  | _ => false
def Stp (H : Hp) (M : MHp) (H1 : Hp) (M1 : MHp) : Prop := ∀ b o, H b = some o → M b = none → (H1 b = some o ∨ (isDk o = true ∧ ∃ ob, H1 b = some (.frz ob o))) ∧ M1 b = none
theorem Stp.by' {H H1 : Hp} {M M1 : MHp} (h : ∀ b o, H b = some o → M b = none → H1 b = some o ∧ M1 b = none) : Stp H M H1 M1 := fun b o e m => ⟨.inl (h b o e m).1, (h b o e m).2⟩
theorem Stp.to {H H1 : Hp} {M M1 : MHp} (st : Stp H M H1 M1) {b : Addr} {o : HO} (e : H b = some o) (m : M b = none) (n : isDk o = false := by rfl) : H1 b = some o ∧ M1 b = none := by
  obtain ⟨h | ⟨h, _⟩, m1⟩ := st b o e m
  · exact ⟨h, m1⟩
  · rw [n] at h; cases h
theorem Stp.refl (H : Hp) (M : MHp) : Stp H M H M := .by' fun _ _ h m => ⟨h, m⟩
theorem Stp.trans {H H1 H2 : Hp} {M M1 M2 : MHp} (a : Stp H M H1 M1) (b : Stp H1 M1 H2 M2) : Stp H M H2 M2 := fun c o h m => by
  obtain ⟨h1 | ⟨d, ob, h1⟩, m1⟩ := a c o h m
  · exact b c o h1 m1
  · obtain ⟨h2, m2⟩ := b.to h1 m1
    exact ⟨.inr ⟨d, ob, h2⟩, m2⟩
theorem Rd.stp {H H1 : Hp} {M M1 : MHp} {a : Addr} {u : HO} (st : Stp H M H1 M1) (m : M a = none) (h : Rd H a u) : M1 a = none ∧ Rd H1 a u := by
  rcases h with h | ⟨o, h⟩
  · obtain ⟨x | ⟨_, ob, x⟩, y⟩ := st a _ h m
    · exact ⟨y, .inl x⟩
    · exact ⟨y, .inr ⟨ob, x⟩⟩
  · obtain ⟨x, y⟩ := st.to h m; exact ⟨y, .inr ⟨o, x⟩⟩
theorem DicAt.stp {H H1 : Hp} {M M1 : MHp} {a : Addr} {ks : List (List Key)} {tk : Bool} {vs : List V} (st : Stp H M H1 M1) (m : M a = none) (h : DicAt H a ks tk vs) : M1 a = none ∧ DicAt H1 a ks tk vs := by
  cases tk with
  | true => obtain ⟨ws, e, r⟩ := h; exact ⟨(Rd.stp st m e).1, ws, (Rd.stp st m e).2, r⟩
  | false => obtain ⟨ws, e, r⟩ := h; exact ⟨(Rd.stp st m e).1, ws, (Rd.stp st m e).2, r⟩
mutual
theorem RelU.stp {K : PySem.W.Frag} {H H1 : Hp} {M M1 : MHp} (st : Stp H M H1 M1) : ∀ {u : U} {v : V}, RelU K H M u v → RelU K H1 M1 u v
  | .non, _, h => by simpa only [RelU] using h
  | .bl _, _, h => by simpa only [RelU] using h
  | .int _, _, h => by simpa only [RelU] using h
  | .str _, _, h => by simpa only [RelU] using h
  | .ty _, _, h => by simpa only [RelU] using h
  | .ref _, _, h => by simpa only [RelU] using h
  | .tup us, _, h => by
    simp only [RelU] at h ⊢
    obtain ⟨a, vs, e, h1, h2⟩ := h
    refine ⟨a, vs, e, ?_, RelUs.stp st h2⟩
    obtain ⟨m, r⟩ := h1
    exact ⟨(st.to r m).2, (st.to r m).1⟩
  | .dic ks tk us, _, h => by
    simp only [RelU] at h ⊢
    obtain ⟨a, vs, e, m, h1, h2⟩ := h
    have q := DicAt.stp st m h1
    exact ⟨a, vs, e, q.1, q.2, RelUs.stp st h2⟩
  | .lst us, _, h => by
    simp only [RelU] at h ⊢
    obtain ⟨a, vs, e, h1, h2⟩ := h
    refine ⟨a, vs, e, ?_, RelUs.stp st h2⟩
    rcases h1 with ⟨m, r⟩ | k
    · exact .inl (Rd.stp st m r)
    · exact .inr k
theorem RelUs.stp {K : PySem.W.Frag} {H H1 : Hp} {M M1 : MHp} (st : Stp H M H1 M1) : ∀ {us : List U} {vs : List V}, RelUs K H M us vs → RelUs K H1 M1 us vs
  | [], _, h => by simpa only [RelUs] using h
  | u :: us, _, h => by
    simp only [RelUs] at h ⊢
    obtain ⟨v, vs', e, h1, h2⟩ := h
    exact ⟨v, vs', e, RelU.stp st h1, RelUs.stp st h2⟩
end
theorem Stp.less {H : Hp} {M M1 : MHp} (h : ∀ b, M b = none → M1 b = none) : Stp H M H M1 := .by' fun b o e m => ⟨e, h b m⟩
def RelKv {κ : Type} (K : PySem.W.Frag) (H : Hp) (M : MHp) : List (κ × U) → List (κ × V) → Prop := Paired fun p q => p.1 = q.1 ∧ RelU K H M p.2 q.2
theorem RelKv.stp {κ : Type} {K : PySem.W.Frag} {H H1 : Hp} {M M1 : MHp} (st : Stp H M H1 M1) : ∀ {us : List (κ × U)} {vs : List (κ × V)}, RelKv K H M us vs → RelKv K H1 M1 us vs
  | _, _, .nil => .nil
  | _, _, .cons h t => .cons ⟨h.1, h.2.stp st⟩ (RelKv.stp st t)
def RelMO (K : PySem.W.Frag) (H : Hp) (M : MHp) (a : Addr) : MO → Prop
  | .lst us => ∃ vs, H a = some (.lst vs) ∧ RelUs K H M us vs
  | .dK kvs => ∃ ws, H a = some (.dK ws) ∧ RelKv K H M kvs ws
  | .dT kvs => ∃ ws, H a = some (.dT ws) ∧ RelKv K H M kvs ws
  | .dN kvs => ∃ ws, H a = some (.dN ws) ∧ RelKv K H M kvs ws
  | .cap ps vs us => H a = some (.tbl ps) ∧ RelUs K H M us vs
  | .tbl q => (∀ b, M b = some (.tbl q) → b = a) ∧ ∃ ps, H a = some (.tbl ps) ∧ TriplesOk ps.toList ∧ ∀ pos c, codeAmong pos ps.toList = some c → ∃ c' oc vs t, c = .ref c' ∧ H c' = some (.frz oc (.own 0)) ∧ M c' = none ∧ oc.data = .fields vs ∧ vs[1]? = some (.str q t)
def RelM (K : PySem.W.Frag) (H : Hp) (M : MHp) : Prop := ∀ a mo, M a = some mo → RelMO K H M a mo
theorem RelMO.stp {K : PySem.W.Frag} {H H1 : Hp} {M M1 : MHp} {a : Addr} {mo : MO} (hu : ∀ b q, M1 b = some (.tbl q) → M b = some (.tbl q)) (st : Stp H M H1 M1) (e : H1 a = H a) (h : RelMO K H M a mo) : RelMO K H1 M1 a mo := by
  cases mo with
  | lst us => obtain ⟨vs, x, y⟩ := h; exact ⟨vs, e.trans x, y.stp st⟩
  | dK us => obtain ⟨vs, x, y⟩ := h; exact ⟨vs, e.trans x, y.stp st⟩
  | dT us => obtain ⟨vs, x, y⟩ := h; exact ⟨vs, e.trans x, y.stp st⟩
  | dN us => obtain ⟨vs, x, y⟩ := h; exact ⟨vs, e.trans x, y.stp st⟩
  | cap ps vs us => exact ⟨e.trans h.1, h.2.stp st⟩
  | tbl q =>
    obtain ⟨un, ps, x, y, z⟩ := h
    refine ⟨fun b hb => un b (hu b q hb), ps, e.trans x, y, fun pos c hc => ?_⟩
    obtain ⟨c', oc, vs, t, h1, h2, h3, h4⟩ := z pos c hc
    exact ⟨c', oc, vs, t, h1, (st.to h2 h3).1, (st.to h2 h3).2, h4⟩
theorem RelM.ex {K : PySem.W.Frag} {H : Hp} {M : MHp} (r : RelM K H M) {a : Addr} {mo : MO} (h : M a = some mo) : ∃ o, H a = some o := by
  have := r a mo h
  cases mo with
  | lst us => obtain ⟨vs, x, y⟩ := this; exact ⟨_, x⟩
  | dK us => obtain ⟨vs, x, y⟩ := this; exact ⟨_, x⟩
  | dT us => obtain ⟨vs, x, y⟩ := this; exact ⟨_, x⟩
  | dN us => obtain ⟨vs, x, y⟩ := this; exact ⟨_, x⟩
  | cap ps vs us => exact ⟨_, this.1⟩
  | tbl q => obtain ⟨_, ps, x, _⟩ := this; exact ⟨_, x⟩
theorem RelM.no {K : PySem.W.Frag} {H : Hp} {M : MHp} (r : RelM K H M) {a : Addr} (h : H a = none) : M a = none := by
  cases e : M a with
  | none => rfl
  | some mo => obtain ⟨o, q⟩ := r.ex e; rw [h] at q; cases q
theorem Stp.laid {K : PySem.W.Frag} {H : Hp} {M : MHp} {p : Addr} {o : HO} (r : RelM K H M) (h : H p = none) : Stp H M (upd H p o) M := .by' fun b u e m => ⟨by rw [upd_ne (ne_of_none e h)]; exact e, m⟩
theorem RelM.laid {K : PySem.W.Frag} {H : Hp} {M : MHp} {p : Addr} {o : HO} (r : RelM K H M) (h : H p = none) : RelM K (upd H p o) M := fun a mo e => by
  obtain ⟨u, q⟩ := r.ex e
  exact (r a mo e).stp (fun _ _ z => z) (Stp.laid r h) (upd_ne (ne_of_none q h))
theorem Stp.own {K : PySem.W.Frag} {H : Hp} {M : MHp} {p : Addr} {o : HO} {mo : MO} (r : RelM K H M) (h : H p = none) : Stp H M (upd H p o) (mup M p mo) := .by' fun b u e m => by
  have n := ne_of_none e h
  exact ⟨by rw [upd_ne n]; exact e, by rw [mup_ne n]; exact m⟩
theorem RelM.put {K : PySem.W.Frag} {H : Hp} {M : MHp} {p : Addr} {o : HO} {mo : MO} (r : RelM K H M) (st : Stp H M (upd H p o) (mup M p mo)) (new : RelMO K (upd H p o) (mup M p mo) p mo) (hm : ∀ q, mo ≠ .tbl q := by intro q z; cases z) : RelM K (upd H p o) (mup M p mo) := fun a m e => by
  by_cases ha : a = p
  · subst ha; rw [mup_same] at e; cases e; exact new
  · rw [mup_ne ha] at e
    refine (r a m e).stp (fun b q z => ?_) st (upd_ne ha)
    by_cases hb : b = p
    · subst hb; rw [mup_same] at z; exact absurd (Option.some.inj z) (hm q)
    · rw [mup_ne hb] at z; exact z
theorem Stp.write {H : Hp} {M : MHp} {p : Addr} {o : HO} {mo m0 : MO} (h : M p = some m0) : Stp H M (upd H p o) (mup M p mo) := .by' fun b u e m => by
  have n : b ≠ p := fun z => by subst z; rw [h] at m; cases m
  exact ⟨by rw [upd_ne n]; exact e, by rw [mup_ne n]; exact m⟩
section
variable {K : PySem.W.Frag} {H : Hp} {M : MHp}
theorem RelUs.nil : RelUs K H M [] [] := by simp only [RelUs]
theorem RelUs.cons {u : U} {v : V} {us : List U} {vs : List V} (h : RelU K H M u v) (t : RelUs K H M us vs) : RelUs K H M (u :: us) (v :: vs) := by simp only [RelUs]; exact ⟨v, vs, rfl, h, t⟩
theorem RelUs.length : ∀ {us : List U} {vs : List V}, RelUs K H M us vs → us.length = vs.length
  | [], _, h => by simp only [RelUs] at h; subst h; rfl
  | u :: us, _, h => by
    simp only [RelUs] at h
    obtain ⟨v, vs', rfl, _, t⟩ := h
    simp [RelUs.length t]
theorem RelUs.inv_cons {u : U} {us : List U} {vs : List V} (h : RelUs K H M (u :: us) vs) : ∃ v vs', vs = v :: vs' ∧ RelU K H M u v ∧ RelUs K H M us vs' := by simpa only [RelUs] using h
theorem RelUs.inv_nil {vs : List V} (h : RelUs K H M [] vs) : vs = [] := by simpa only [RelUs] using h
theorem RelUs.append : ∀ {us ws : List U} {vs zs : List V}, RelUs K H M us vs → RelUs K H M ws zs → RelUs K H M (us ++ ws) (vs ++ zs)
  | [], _, _, _, h, t => by cases h.inv_nil; exact t
  | u :: us, _, _, _, h, t => by
    obtain ⟨v, vs', rfl, a, b⟩ := h.inv_cons
    exact .cons a (RelUs.append b t)
theorem RelUs.get : ∀ {us : List U} {vs : List V} {i : Nat} {u : U}, RelUs K H M us vs → us[i]? = some u → ∃ v, vs[i]? = some v ∧ RelU K H M u v
  | [], _, _, _, _, e => by simp at e
  | u :: us, _, 0, _, h, e => by
    obtain ⟨v, vs', rfl, a, b⟩ := h.inv_cons
    simp at e; subst e; exact ⟨v, rfl, a⟩
  | u :: us, _, i + 1, _, h, e => by
    obtain ⟨v, vs', rfl, a, b⟩ := h.inv_cons
    simp at e
    obtain ⟨w, x, y⟩ := RelUs.get b e
    exact ⟨w, by simpa using x, y⟩
theorem RelUs.drop : ∀ {us : List U} {vs : List V} (n : Nat), RelUs K H M us vs → RelUs K H M (us.drop n) (vs.drop n)
  | _, _, 0, h => h
  | [], _, _ + 1, h => by cases h.inv_nil; exact .nil
  | u :: us, _, n + 1, h => by
    obtain ⟨v, vs', rfl, a, b⟩ := h.inv_cons
    exact RelUs.drop n b
theorem RelUs.take : ∀ {us : List U} {vs : List V} (n : Nat), RelUs K H M us vs → RelUs K H M (us.take n) (vs.take n)
  | _, _, 0, _ => by simp only [List.take_zero]; exact .nil
  | [], _, _ + 1, h => by cases h.inv_nil; exact .nil
  | u :: us, _, n + 1, h => by
    obtain ⟨v, vs', rfl, a, b⟩ := h.inv_cons
    exact .cons a (RelUs.take n b)
theorem RelUs.set {u : U} {v : V} (r : RelU K H M u v) : ∀ {us : List U} {vs : List V} (i : Nat), RelUs K H M us vs → RelUs K H M (us.set i u) (vs.set i v)
  | [], _, _, h => by cases h.inv_nil; exact .nil
  | w :: us, _, 0, h => by
    obtain ⟨z, vs', rfl, a, b⟩ := h.inv_cons
    exact .cons r b
  | w :: us, _, i + 1, h => by
    obtain ⟨z, vs', rfl, a, b⟩ := h.inv_cons
    exact .cons a (RelUs.set r i b)
theorem RelUs.dropLast {us : List U} {vs : List V} (h : RelUs K H M us vs) : RelUs K H M us.dropLast vs.dropLast := by
  rw [List.dropLast_eq_take, List.dropLast_eq_take, h.length]; exact h.take _
end
abbrev SU := List (Option U)
abbrev UK := U → MHp → Prop
abbrev UE := SU → MHp → UK → Prop
abbrev UT := SU → MHp → (Bool → MHp → Prop) → Prop
abbrev UA := SU → MHp → (List U → MHp → Prop) → Prop
structure UEnds where
  nx : SU → MHp → Prop
  rt : UK
  bk : SU → MHp → Prop := fun _ _ => False
  ct : SU → MHp → Prop := fun _ _ => False
abbrev US := UEnds → SU → MHp → Prop
def RelS (K : PySem.W.Frag) (H : Hp) (M : MHp) (σ : St) (τ : SU) : Prop := τ.length = σ.length ∧ ∀ (i : Nat) u, τ[i]? = some (some u) → ∃ v, σ[i]? = some (some v) ∧ RelU K H M u v
theorem RelS.stp {K : PySem.W.Frag} {H H1 : Hp} {M M1 : MHp} {σ : St} {τ : SU} (st : Stp H M H1 M1) (r : RelS K H M σ τ) : RelS K H1 M1 σ τ := ⟨r.1, fun i u e => let ⟨v, a, b⟩ := r.2 i u e; ⟨v, a, b.stp st⟩⟩
theorem RelS.set {K : PySem.W.Frag} {H : Hp} {M : MHp} {σ : St} {τ : SU} {i : Nat} {u : U} {v : V} (r : RelS K H M σ τ) (h : RelU K H M u v) : RelS K H M (σ.set i (some v)) (τ.set i (some u)) := by
  refine ⟨by simp [r.1], fun j w e => ?_⟩
  rw [List.getElem?_set] at e ⊢
  split at e
  · rename_i hij
    subst hij
    split at e
    · rename_i hl
      cases e
      rw [if_pos rfl, if_pos (by rw [← r.1]; exact hl)]
      exact ⟨v, rfl, h⟩
    · cases e
  · rename_i hij
    rw [if_neg hij]
    exact r.2 j w e
def SimE (K : PySem.W.Frag) (t : TE) (t' : UE) : Prop := ∀ (σ : St) (τ : SU) (H : Hp) (M : MHp) (Q' : UK), RelS K H M σ τ → RelM K H M → t' τ M Q' →
  ∀ Q : VK, (∀ u v M1 H1, Stp H M H1 M1 → RelM K H1 M1 → RelU K H1 M1 u v → Q' u M1 → Q v H1) → t σ H Q
def SimT (K : PySem.W.Frag) (t : TT) (t' : UT) : Prop := ∀ (σ : St) (τ : SU) (H : Hp) (M : MHp) (Q' : Bool → MHp → Prop), RelS K H M σ τ → RelM K H M → t' τ M Q' →
  ∀ Q : Bool → Hp → Prop, (∀ b M1 H1, Stp H M H1 M1 → RelM K H1 M1 → Q' b M1 → Q b H1) → t σ H Q
def SimA (K : PySem.W.Frag) (t : TA) (t' : UA) : Prop := ∀ (σ : St) (τ : SU) (H : Hp) (M : MHp) (Q' : List U → MHp → Prop), RelS K H M σ τ → RelM K H M → t' τ M Q' →
  ∀ Q : List V → Hp → Prop, (∀ us vs M1 H1, Stp H M H1 M1 → RelM K H1 M1 → RelUs K H1 M1 us vs → Q' us M1 → Q vs H1) → t σ H Q
structure SimD (K : PySem.W.Frag) (H : Hp) (M : MHp) (D : Ends) (D' : UEnds) : Prop where
  nx : ∀ σ τ H1 M1, Stp H M H1 M1 → RelM K H1 M1 → RelS K H1 M1 σ τ → D'.nx τ M1 → D.nx σ H1
  rt : ∀ u v H1 M1, Stp H M H1 M1 → RelM K H1 M1 → RelU K H1 M1 u v → D'.rt u M1 → D.rt v H1
  bk : ∀ σ τ H1 M1, Stp H M H1 M1 → RelM K H1 M1 → RelS K H1 M1 σ τ → D'.bk τ M1 → D.bk σ H1
  ct : ∀ σ τ H1 M1, Stp H M H1 M1 → RelM K H1 M1 → RelS K H1 M1 σ τ → D'.ct τ M1 → D.ct σ H1
theorem SimD.stp {K : PySem.W.Frag} {H H1 : Hp} {M M1 : MHp} {D : Ends} {D' : UEnds} (d : SimD K H M D D') (st : Stp H M H1 M1) : SimD K H1 M1 D D' :=
  ⟨fun σ τ H2 M2 s => d.nx σ τ H2 M2 (st.trans s), fun u v H2 M2 s => d.rt u v H2 M2 (st.trans s), fun σ τ H2 M2 s => d.bk σ τ H2 M2 (st.trans s), fun σ τ H2 M2 s => d.ct σ τ H2 M2 (st.trans s)⟩
def SimS (K : PySem.W.Frag) (t : TS) (t' : US) : Prop := ∀ (σ : St) (τ : SU) (H : Hp) (M : MHp) (D' : UEnds), RelS K H M σ τ → RelM K H M → t' D' τ M → ∀ D : Ends, SimD K H M D D' → t D σ H
end U2
namespace U2
open PySem L2
abbrev UR2 := U → U → MHp → UK → Prop
def Cont (K : PySem.W.Frag) (H : Hp) (M : MHp) (Q' : UK) (Q : VK) : Prop := ∀ u v M1 H1, Stp H M H1 M1 → RelM K H1 M1 → RelU K H1 M1 u v → Q' u M1 → Q v H1
theorem Cont.stp {K : PySem.W.Frag} {H H1 : Hp} {M M1 : MHp} {Q' : UK} {Q : VK} (c : Cont K H M Q' Q) (st : Stp H M H1 M1) : Cont K H1 M1 Q' Q := fun u v M2 H2 s => c u v M2 H2 (st.trans s)
theorem Cont.here {K : PySem.W.Frag} {H : Hp} {M : MHp} {Q' : UK} {Q : VK} {u : U} {v : V} (c : Cont K H M Q' Q) (rm : RelM K H M) (r : RelU K H M u v) (q : Q' u M) : Q v H := c u v M H (Stp.refl H M) rm r q
def SimR2 (K : PySem.W.Frag) (r : R2) (r' : UR2) : Prop := ∀ (x y : V) (u w : U) (H : Hp) (M : MHp) (Q' : UK), RelM K H M → RelU K H M u x → RelU K H M w y → r' u w M Q' → ∀ Q : VK, Cont K H M Q' Q → r x y H Q
def SimU1 (K : PySem.W.Frag) (r : V → Hp → VK → Prop) (r' : U → MHp → UK → Prop) : Prop := ∀ (x : V) (u : U) (H : Hp) (M : MHp) (Q' : UK), RelM K H M → RelU K H M u x → r' u M Q' → ∀ Q : VK, Cont K H M Q' Q → r x H Q
def SimCl (K : PySem.W.Frag) (r : List V → Hp → VK → Prop) (r' : List U → MHp → UK → Prop) : Prop := ∀ (xs : List V) (us : List U) (H : Hp) (M : MHp) (Q' : UK), RelM K H M → RelUs K H M us xs → r' us M Q' → ∀ Q : VK, Cont K H M Q' Q → r xs H Q
def SimMt (K : PySem.W.Frag) (r : V → List V → Hp → VK → Prop) (r' : U → List U → MHp → UK → Prop) : Prop := ∀ (x : V) (xs : List V) (u : U) (us : List U) (H : Hp) (M : MHp) (Q' : UK), RelM K H M → RelU K H M u x → RelUs K H M us xs → r' u us M Q' → ∀ Q : VK, Cont K H M Q' Q → r x xs H Q
section
variable {K : PySem.W.Frag} {H : Hp} {M : MHp} {v : V}
theorem RelU.non (h : RelU K H M .non v) : v = .non := by simpa only [RelU] using h
theorem RelU.bl {b : Bool} (h : RelU K H M (.bl b) v) : v = .bl b := by simpa only [RelU] using h
theorem RelU.int {i : Int} (h : RelU K H M (.int i) v) : v = .int i := by simpa only [RelU] using h
theorem RelU.str {x : Str} (h : RelU K H M (.str x) v) : v = .str x := by simpa only [RelU] using h
theorem RelU.ty {n : String} (h : RelU K H M (.ty n) v) : v = .ty n := by simpa only [RelU] using h
theorem RelU.ref {a : Addr} (h : RelU K H M (.ref a) v) : v = .ref a := by simpa only [RelU] using h
theorem RelU.tup {us : List U} (h : RelU K H M (.tup us) v) : ∃ a vs, v = .ref a ∧ SqT K H a vs ∧ RelUs K H M us vs := by
  simp only [RelU] at h
  obtain ⟨a, vs, e, h1, h2⟩ := h
  refine ⟨a, vs, e, ?_, h2⟩
  exact .inl (.inl h1.2)
theorem RelU.lst {us : List U} (h : RelU K H M (.lst us) v) : ∃ a vs, v = .ref a ∧ SqL K H a vs ∧ RelUs K H M us vs := by
  simp only [RelU] at h
  obtain ⟨a, vs, e, h1, h2⟩ := h
  refine ⟨a, vs, e, ?_, h2⟩
  rcases h1 with ⟨_, r⟩ | k
  · exact .inl r
  · exact .inr k
theorem relU_non : RelU K H M .non .non := by simp only [RelU]
theorem relU_bl {b : Bool} : RelU K H M (.bl b) (.bl b) := by simp only [RelU]
theorem relU_int {i : Int} : RelU K H M (.int i) (.int i) := by simp only [RelU]
theorem relU_str {x : Str} : RelU K H M (.str x) (.str x) := by simp only [RelU]
theorem relU_ty {n : String} : RelU K H M (.ty n) (.ty n) := by simp only [RelU]
theorem relU_ref {a : Addr} : RelU K H M (.ref a) (.ref a) := by simp only [RelU]
theorem relU_tup {a : Addr} {us : List U} {vs : List V} (m : M a = none) (h : H a = some (.tup vs)) (r : RelUs K H M us vs) : RelU K H M (.tup us) (.ref a) := by
  simp only [RelU]; exact ⟨a, vs, rfl, ⟨m, h⟩, r⟩
theorem relU_lst {a : Addr} {us : List U} {vs : List V} (m : M a = none) (h : H a = some (.lst vs)) (r : RelUs K H M us vs) : RelU K H M (.lst us) (.ref a) := by
  simp only [RelU]; exact ⟨a, vs, rfl, .inl ⟨m, .inl h⟩, r⟩
theorem Cont.tup {Q' : UK} {Q : VK} {us : List U} {vs : List V} {p : Addr} (c : Cont K H M Q' Q) (rm : RelM K H M) (r : RelUs K H M us vs) (hp : H p = none) (q : Q' (.tup us) M) : Q (.ref p) (upd H p (.tup vs)) :=
  c _ _ M _ (Stp.laid rm hp) (rm.laid hp) (relU_tup (rm.no hp) upd_same (r.stp (Stp.laid rm hp))) q
def mkL (o : Bool) (us : List U) (M : MHp) (Q : UK) : Prop := match o with
  | true => ∀ p, M p = none → Q (.ref p) (mup M p (.lst us))
  | false => Q (.lst us) M
theorem Cont.lst {o : Bool} {Q' : UK} {Q : VK} {us : List U} {vs : List V} {p : Addr} (c : Cont K H M Q' Q) (rm : RelM K H M) (r : RelUs K H M us vs) (hp : H p = none) (q : mkL o us M Q') : Q (.ref p) (upd H p (.lst vs)) := by
  cases o with
  | false => exact c _ _ M _ (Stp.laid rm hp) (rm.laid hp) (relU_lst (rm.no hp) upd_same (r.stp (Stp.laid rm hp))) q
  | true =>
    have st : Stp H M (upd H p (.lst vs)) (mup M p (.lst us)) := Stp.own rm hp
    exact c (.ref p) _ _ _ st (rm.put st ⟨vs, upd_same, r.stp st⟩) relU_ref (q p (rm.no hp))
end
def view (M : MHp) : U → U
  | .ref a => match M a with
    | some (.lst us) => .lst us
    | _ => .ref a
  | u => u
theorem view_ref {M : MHp} {a : Addr} {us : List U} (h : M a = some (.lst us)) : view M (.ref a) = .lst us := by simp only [view, h]
theorem view_lst {K : PySem.W.Frag} {H : Hp} {M : MHp} {u : U} {v : V} {us : List U} (rm : RelM K H M) (r : RelU K H M u v) (h : view M u = .lst us) : ∃ a vs, v = .ref a ∧ SqL K H a vs ∧ RelUs K H M us vs := by
  cases u with
  | lst ws => simp only [view] at h; cases h; exact r.lst
  | ref a =>
    simp only [view] at h
    split at h
    · rename_i ws e
      cases h
      obtain ⟨vs, h1, h2⟩ := rm a _ e
      exact ⟨a, vs, r.ref, .inl (.inl h1), h2⟩
    · cases h
  | _ => simp [view] at h
section
variable {K : PySem.W.Frag} {t ta tb tc : TE} {t' ta' tb' tc' : UE}
def uVar (i : Nat) : UE := fun τ M Q => match τ[i]? with
  | some (some u) => Q u M
  | _ => False
theorem sim_var (i : Nat) : SimE K (tVar i) (uVar i) := fun σ τ H M Q' rs rm h Q c => by
  unfold uVar at h
  split at h
  · rename_i u e
    obtain ⟨v, e2, r⟩ := rs.2 i u e
    exact ⟨v, e2, c u v M H (Stp.refl _ _) rm r h⟩
  · exact h.elim
def uC (u : U) : UE := fun _ M Q => Q u M
theorem sim_c {u : U} {v : V} (h : ∀ H M, RelU K H M u v) : SimE K (tC v) (uC u) := fun σ τ H M Q' rs rm q Q c => c u v M H (Stp.refl _ _) rm (h H M) q
theorem sim_int {i : Int} : SimE K (tC (.int i)) (uC (.int i)) := sim_c fun _ _ => relU_int
theorem sim_bl {i : Bool} : SimE K (tC (.bl i)) (uC (.bl i)) := sim_c fun _ _ => relU_bl
theorem sim_str {i : Str} : SimE K (tC (.str i)) (uC (.str i)) := sim_c fun _ _ => relU_str
theorem sim_non : SimE K (tC .non) (uC .non) := sim_c fun _ _ => relU_non
theorem sim_ty {n : String} : SimE K (tC (.ty n)) (uC (.ty n)) := sim_c fun _ _ => relU_ty
theorem sim_ref {a : Addr} : SimE K (tC (.ref a)) (uC (.ref a)) := sim_c fun _ _ => relU_ref
def uOp (r : UR2) (ta tb : UE) : UE := fun τ M Q => ta τ M fun x M1 => tb τ M1 fun y M2 => r x y M2 Q
theorem sim_op {r : R2} {r' : UR2} (hr : SimR2 K r r') (ha : SimE K ta ta') (hb : SimE K tb tb') : SimE K (tOp r ta tb) (uOp r' ta' tb') := fun σ τ H M Q' rs rm h Q c =>
  ha σ τ H M _ rs rm h _ fun u v M1 H1 s1 rm1 ru h1 => hb σ τ H1 M1 _ (rs.stp s1) rm1 h1 _ fun w x M2 H2 s2 rm2 rw h2 => hr v x u w H2 M2 Q' rm2 (ru.stp s2) rw h2 Q (Cont.stp c (s1.trans s2))
def uUn (r : U → MHp → UK → Prop) (ta : UE) : UE := fun τ M Q => ta τ M fun x M1 => r x M1 Q
theorem sim_un {r : V → Hp → VK → Prop} {r' : U → MHp → UK → Prop} (hr : SimU1 K r r') (ha : SimE K ta ta') : SimE K (tUn r ta) (uUn r' ta') := fun σ τ H M Q' rs rm h Q c =>
  ha σ τ H M _ rs rm h _ fun u v M1 H1 s1 rm1 ru h1 => hr v u H1 M1 Q' rm1 ru h1 Q (Cont.stp c s1)
def uTest (t : UE) : UT := fun τ M Q => t τ M fun u M1 => match u with
  | .bl b => Q b M1
  | _ => False
theorem sim_test (h : SimE K t t') : SimT K (tTest t) (uTest t') := fun σ τ H M Q' rs rm q Q c => h σ τ H M _ rs rm q _ fun u v M1 H1 s1 rm1 ru h1 => by
  cases u with
  | bl b => exact ⟨b, ru.bl, c b M1 H1 s1 rm1 h1⟩
  | _ => exact h1.elim
def uTru (t : UE) : UT := fun τ M Q => t τ M fun u M1 => match view M1 u with
  | .non => Q false M1
  | .bl b => Q b M1
  | .int i => Q (i != 0) M1
  | .str x => x.length ≤ sizeLine ∧ Q ((x.length : Int) != 0) M1
  | .tup us => Q (!us.isEmpty) M1
  | .lst us => Q (!us.isEmpty) M1
  | _ => False
theorem isEmpty_rel {H : Hp} {M : MHp} {us : List U} {vs : List V} (r : RelUs K H M us vs) : us.isEmpty = vs.isEmpty := by
  have := r.length
  cases us <;> cases vs <;> simp_all
theorem sim_tru (h : SimE K t t') : SimT K (fun σ H Q => t σ H fun x H' => ∃ k, TruV K x H' k ∧ Q k H') (uTru t') := fun σ τ H M Q' rs rm q Q c => h σ τ H M _ rs rm q _ fun u v M1 H1 s1 rm1 ru h1 => by
  split at h1
  · rename_i e
    cases u with
    | non => exact ⟨false, by rw [ru.non]; rfl, c _ M1 H1 s1 rm1 h1⟩
    | ref a => simp only [view] at e; split at e <;> cases e
    | _ => simp [view] at e
  · rename_i b e
    cases u with
    | bl b' => simp only [view] at e; cases e; exact ⟨b, by rw [ru.bl]; rfl, c _ M1 H1 s1 rm1 h1⟩
    | ref a => simp only [view] at e; split at e <;> cases e
    | _ => simp [view] at e
  · rename_i b e
    cases u with
    | int b' => simp only [view] at e; cases e; exact ⟨b != 0, by rw [ru.int]; rfl, c _ M1 H1 s1 rm1 h1⟩
    | ref a => simp only [view] at e; split at e <;> cases e
    | _ => simp [view] at e
  · rename_i b e
    cases u with
    | str b' => simp only [view] at e; cases e; exact ⟨(b.length : Int) != 0, by rw [ru.str]; exact ⟨h1.1, rfl⟩, c _ M1 H1 s1 rm1 h1.2⟩
    | ref a => simp only [view] at e; split at e <;> cases e
    | _ => simp [view] at e
  · rename_i us e
    cases u with
    | tup us' =>
      simp only [view] at e; cases e
      obtain ⟨a, vs, rfl, r1, r2⟩ := ru.tup
      exact ⟨!vs.isEmpty, .inr (.inl ⟨vs, r1, rfl⟩), c _ M1 H1 s1 rm1 (by rw [← isEmpty_rel r2]; exact h1)⟩
    | ref a => simp only [view] at e; split at e <;> cases e
    | _ => simp [view] at e
  · rename_i us e
    obtain ⟨a, vs, rfl, r1, r2⟩ := view_lst rm1 ru e
    exact ⟨!vs.isEmpty, .inl ⟨vs, r1, rfl⟩, c _ M1 H1 s1 rm1 (by rw [← isEmpty_rel r2]; exact h1)⟩
  · exact h1.elim
def uAnd (t u : UT) : UT := fun τ M Q => t τ M fun c M1 => if c = true then u τ M1 Q else Q false M1
def uOr (t u : UT) : UT := fun τ M Q => t τ M fun c M1 => if c = true then Q true M1 else u τ M1 Q
def uNot (t : UT) : UT := fun τ M Q => t τ M fun c M1 => Q (!c) M1
theorem sim_and {t u : TT} {t' u' : UT} (h : SimT K t t') (k : SimT K u u') : SimT K (tAnd t u) (uAnd t' u') := fun σ τ H M Q' rs rm q Q c => h σ τ H M _ rs rm q _ fun b M1 H1 s1 rm1 h1 => by
  cases b with
  | true => exact k σ τ H1 M1 Q' (rs.stp s1) rm1 h1 Q fun b M2 H2 s2 => c b M2 H2 (s1.trans s2)
  | false => exact c _ M1 H1 s1 rm1 h1
theorem sim_or {t u : TT} {t' u' : UT} (h : SimT K t t') (k : SimT K u u') : SimT K (tOr t u) (uOr t' u') := fun σ τ H M Q' rs rm q Q c => h σ τ H M _ rs rm q _ fun b M1 H1 s1 rm1 h1 => by
  cases b with
  | false => exact k σ τ H1 M1 Q' (rs.stp s1) rm1 h1 Q fun b M2 H2 s2 => c b M2 H2 (s1.trans s2)
  | true => exact c _ M1 H1 s1 rm1 h1
theorem sim_not {t : TT} {t' : UT} (h : SimT K t t') : SimT K (tNot t) (uNot t') := fun σ τ H M Q' rs rm q Q c => h σ τ H M _ rs rm q _ fun b M1 H1 s1 rm1 h1 => c _ M1 H1 s1 rm1 h1
def uAndV (ta tb : UE) : UE := fun τ M Q => ta τ M fun x M1 => match x with
  | .bl c => if c = true then tb τ M1 Q else Q (.bl false) M1
  | _ => False
def uOrV (ta tb : UE) : UE := fun τ M Q => ta τ M fun x M1 => match x with
  | .bl c => if c = true then Q (.bl true) M1 else tb τ M1 Q
  | _ => False
def uNotV (ta : UE) : UE := fun τ M Q => ta τ M fun x M1 => match x with
  | .bl c => Q (.bl (!c)) M1
  | _ => False
theorem sim_andV (h : SimE K ta ta') (k : SimE K tb tb') : SimE K (tAndV ta tb) (uAndV ta' tb') := fun σ τ H M Q' rs rm q Q c => h σ τ H M _ rs rm q _ fun u v M1 H1 s1 rm1 ru h1 => by
  cases u with
  | bl b =>
    refine ⟨b, ru.bl, ?_⟩
    cases b with
    | true => exact k σ τ H1 M1 Q' (rs.stp s1) rm1 h1 Q (Cont.stp c s1)
    | false => exact c _ _ M1 H1 s1 rm1 relU_bl h1
  | _ => exact h1.elim
theorem sim_notV (h : SimE K ta ta') : SimE K (tNotV ta) (uNotV ta') := fun σ τ H M Q' rs rm q Q c => h σ τ H M _ rs rm q _ fun u v M1 H1 s1 rm1 ru h1 => by
  cases u with
  | bl b => exact ⟨b, ru.bl, c _ _ M1 H1 s1 rm1 relU_bl h1⟩
  | _ => exact h1.elim
def uIf (t : UT) (ta tb : UE) : UE := fun τ M Q => t τ M fun c M1 => if c = true then ta τ M1 Q else tb τ M1 Q
def uChain (r r' : UR2) (ta tb tc : UE) : UE := fun τ M Q => ta τ M fun x M1 => tb τ M1 fun y M2 => r x y M2 fun z M3 => match z with
  | .bl k => if k = true then tc τ M3 fun w M4 => r' y w M4 Q else Q (.bl false) M3
  | _ => False
theorem sim_chain {r r' : R2} {s s' : UR2} (hr : SimR2 K r s) (hr' : SimR2 K r' s') (ha : SimE K ta ta') (hb : SimE K tb tb') (hc : SimE K tc tc') : SimE K (tChain r r' ta tb tc) (uChain s s' ta' tb' tc') := fun σ τ H M Q' rs rm h Q c =>
  ha σ τ H M _ rs rm h _ fun u v M1 H1 s1 rm1 ru h1 => hb σ τ H1 M1 _ (rs.stp s1) rm1 h1 _ fun w x M2 H2 s2 rm2 rw h2 =>
    hr v x u w H2 M2 _ rm2 (ru.stp s2) rw h2 _ fun z zv M3 H3 s3 rm3 rz h3 => by
      cases z with
      | bl k =>
        refine ⟨k, rz.bl, ?_⟩
        cases k with
        | true => exact hc σ τ H3 M3 _ ((rs.stp s1).stp (s2.trans s3)) rm3 h3 _ fun w2 x2 M4 H4 s4 rm4 rw4 h4 => hr' x x2 w w2 H4 M4 Q' rm4 (rw.stp (s3.trans s4)) rw4 h4 Q (Cont.stp c (((s1.trans s2).trans s3).trans s4))
        | false => exact c _ _ M3 H3 ((s1.trans s2).trans s3) rm3 relU_bl h3
      | _ => exact h3.elim
def uNil : UA := fun _ M Q => Q [] M
def uCons (ta : UE) (tr : UA) : UA := fun τ M Q => ta τ M fun x M1 => tr τ M1 fun xs M2 => Q (x :: xs) M2
theorem sim_nil : SimA K tNil uNil := fun σ τ H M Q' rs rm q Q c => c [] [] M H (Stp.refl _ _) rm .nil q
theorem sim_cons {tr : TA} {tr' : UA} (ha : SimE K ta ta') (hr : SimA K tr tr') : SimA K (tCons ta tr) (uCons ta' tr') := fun σ τ H M Q' rs rm h Q c =>
  ha σ τ H M _ rs rm h _ fun u v M1 H1 s1 rm1 ru h1 => hr σ τ H1 M1 _ (rs.stp s1) rm1 h1 _ fun us vs M2 H2 s2 rm2 rus h2 => c (u :: us) (v :: vs) M2 H2 (s1.trans s2) rm2 (.cons (ru.stp s2) rus) h2
def uTup (t : UA) : UE := fun τ M Q => t τ M fun us M1 => us.length ≤ sizeLine ∧ Q (.tup us) M1
def uLst (o : Bool) (t : UA) : UE := fun τ M Q => t τ M fun us M1 => us.length ≤ sizeLine ∧ mkL o us M1 Q
theorem sim_tup {t : TA} {t' : UA} (h : SimA K t t') : SimE K (tTup t) (uTup t') := fun σ τ H M Q' rs rm q Q c =>
  h σ τ H M _ rs rm q _ fun us vs M1 H1 s1 rm1 r h1 => ⟨by rw [← r.length]; exact h1.1, fun p hp => (Cont.stp c s1).tup rm1 r hp h1.2⟩
theorem sim_lst {o : Bool} {t : TA} {t' : UA} (h : SimA K t t') : SimE K (tLst t) (uLst o t') := fun σ τ H M Q' rs rm q Q c =>
  h σ τ H M _ rs rm q _ fun us vs M1 H1 s1 rm1 r h1 => ⟨by rw [← r.length]; exact h1.1, fun p hp => (Cont.stp c s1).lst rm1 r hp h1.2⟩
def uCB (r : List U → MHp → UK → Prop) (t : UA) : UE := fun τ M Q => t τ M fun us M1 => r us M1 Q
theorem sim_cb {r : List V → Hp → VK → Prop} {r' : List U → MHp → UK → Prop} {t : TA} {t' : UA} (hr : SimCl K r r') (h : SimA K t t') : SimE K (tCB r t) (uCB r' t') := fun σ τ H M Q' rs rm q Q c =>
  h σ τ H M _ rs rm q _ fun us vs M1 H1 s1 rm1 ru h1 => hr vs us H1 M1 Q' rm1 ru h1 Q (Cont.stp c s1)
end
end U2
namespace U2
open PySem L2
section
variable {K : PySem.W.Frag}
def uI0 (g : Int → Int → U) : UR2 := fun x y M Q => match x, y with
  | .int i, .int j => Q (g i j) M
  | _, _ => False
def uI (C : Int → Int → Prop) (g : Int → Int → U) : UR2 := fun x y M Q => match x, y with
  | .int i, .int j => C i j ∧ Q (g i j) M
  | _, _ => False
theorem sim_I0 {g : Int → Int → V} {g' : Int → Int → U} (hg : ∀ H M i j, RelU K H M (g' i j) (g i j)) : SimR2 K (rI0 g) (uI0 g') := fun x y u w H M Q' rm ru rw h Q c => by
  cases u with
  | int i => cases w with
    | int j => exact ⟨i, j, ru.int, rw.int, c _ _ M H (Stp.refl _ _) rm (hg H M i j) h⟩
    | _ => exact h.elim
  | _ => exact h.elim
theorem sim_I {C : Int → Int → Prop} {g : Int → Int → V} {g' : Int → Int → U} (hg : ∀ H M i j, RelU K H M (g' i j) (g i j)) : SimR2 K (rI C g) (uI C g') := fun x y u w H M Q' rm ru rw h Q c => by
  cases u with
  | int i => cases w with
    | int j => exact ⟨i, j, ru.int, rw.int, h.1, c _ _ M H (Stp.refl _ _) rm (hg H M i j) h.2⟩
    | _ => exact h.elim
  | _ => exact h.elim
theorem sim_int2 {f : Int → Int → Int} : SimR2 K (rI0 fun i j => .int (f i j)) (uI0 fun i j => .int (f i j)) := sim_I0 fun _ _ _ _ => relU_int
theorem sim_bool2 {f : Int → Int → Bool} : SimR2 K (rI0 fun i j => .bl (f i j)) (uI0 fun i j => .bl (f i j)) := sim_I0 fun _ _ _ _ => relU_bl
theorem sim_int2c {C : Int → Int → Prop} {f : Int → Int → Int} : SimR2 K (rI C fun i j => .int (f i j)) (uI C fun i j => .int (f i j)) := sim_I fun _ _ _ _ => relU_int
def uAddS : UR2 := fun x y M Q => match x, y with
  | .str i, .str j => i.length + j.length ≤ sizeLine ∧ Q (.str (i ++ j)) M
  | _, _ => False
theorem sim_addS : SimR2 K (fun x y H Q => ∃ i j, x = .str i ∧ y = .str j ∧ i.length + j.length ≤ sizeLine ∧ Q (.str (i ++ j)) H) uAddS := fun x y u w H M Q' rm ru rw h Q c => by
  cases u with
  | str i => cases w with
    | str j => exact ⟨i, j, ru.str, rw.str, h.1, c _ _ M H (Stp.refl _ _) rm relU_str h.2⟩
    | _ => exact h.elim
  | _ => exact h.elim
def rCatTA (K : PySem.W.Frag) : R2 := fun x y H Q => ∃ a b xs ys, x = .ref a ∧ y = .ref b ∧ SqT K H a xs ∧ SqT K H b ys ∧ xs.length + ys.length ≤ sizeLine ∧
  (xs = [] → Q (.ref b) H) ∧ (xs ≠ [] → ys = [] → Q (.ref a) H) ∧ (xs ≠ [] → ys ≠ [] → ∀ p, H p = none → Q (.ref p) (upd H p (.tup (xs ++ ys))))
def uAddT : UR2 := fun x y M Q => match x, y with
  | .tup us, .tup ws => us.length + ws.length ≤ sizeLine ∧ Q (.tup (us ++ ws)) M
  | _, _ => False
theorem sim_addT : SimR2 K (rCatTA K) uAddT := fun x y u w H M Q' rm ru rw h Q c => by
  cases u with
  | tup us => cases w with
    | tup ws =>
      obtain ⟨h2, h3⟩ := h
      obtain ⟨a, xs, rfl, s1, r1⟩ := ru.tup
      obtain ⟨b, ys, rfl, s2, r2⟩ := rw.tup
      refine ⟨a, b, xs, ys, rfl, rfl, s1, s2, by rw [← r1.length, ← r2.length]; exact h2, fun e => ?_, fun _ e => ?_, fun _ _ p hp => c.tup rm (r1.append r2) hp h3⟩
      · subst e
        have e2 : us = [] := List.length_eq_zero_iff.mp r1.length
        subst e2
        exact c _ _ M H (Stp.refl _ _) rm rw h3
      · subst e
        have e2 : ws = [] := List.length_eq_zero_iff.mp r2.length
        subst e2
        exact c _ _ M H (Stp.refl _ _) rm ru (by rw [List.append_nil] at h3; exact h3)
    | _ => exact h.elim
  | _ => exact h.elim
def uAddL (o : Bool) : UR2 := fun x y M Q => match view M x, view M y with
  | .lst us, .lst ws => us.length + ws.length ≤ sizeLine ∧ mkL o (us ++ ws) M Q
  | _, _ => False
def rCatL (K : PySem.W.Frag) : R2 := fun x y H Q => ∃ l b xs zs, x = .ref l ∧ y = .ref b ∧ SqL K H l xs ∧ SqL K H b zs ∧ xs.length + zs.length ≤ sizeLine ∧ ∀ p, H p = none → Q (.ref p) (upd H p (.lst (xs ++ zs)))
theorem sim_addL {o : Bool} : SimR2 K (rCatL K) (uAddL o) := fun x y u w H M Q' rm ru rw h Q c => by
  unfold uAddL at h
  split at h
  · rename_i us ws e1 e2
    obtain ⟨a, xs, rfl, s1, r1⟩ := view_lst rm ru e1
    obtain ⟨b, ys, rfl, s2, r2⟩ := view_lst rm rw e2
    exact ⟨a, b, xs, ys, rfl, rfl, s1, s2, by rw [← r1.length, ← r2.length]; exact h.1, fun p hp => c.lst rm (r1.append r2) hp h.2⟩
  · exact h.elim
theorem atI_rel {H : Hp} {M : MHp} {us : List U} {vs : List V} {i : Int} {u : U} (r : RelUs K H M us vs) (h : atI us i = some u) : ∃ v, atI vs i = some v ∧ RelU K H M u v := by
  unfold atI at h ⊢
  rw [← r.length]
  cases e : ixN us.length i with
  | none => rw [e] at h; cases h
  | some j => rw [e] at h; exact r.get h
def uIx : UR2 := fun x y M Q => match view M x, y with
  | .lst us, .int i => ∃ u, atI us i = some u ∧ Q u M
  | .tup us, .int i => ∃ u, atI us i = some u ∧ Q u M
  | .str z, .int i => z.length ≤ sizeLine ∧ ∃ c, atI z.cps.toList i = some c ∧ Q (.str ⟨#[c]⟩) M
  | _, _ => False
theorem view_tup {M : MHp} {u : U} {us : List U} (h : view M u = .tup us) : u = .tup us := by
  cases u with
  | ref a => simp only [view] at h; split at h <;> cases h
  | _ => simpa [view] using h
theorem view_str {M : MHp} {u : U} {x : Str} (h : view M u = .str x) : u = .str x := by
  cases u with
  | ref a => simp only [view] at h; split at h <;> cases h
  | _ => simpa [view] using h
theorem sim_ix : SimR2 K (rIx K) uIx := fun x y u w H M Q' rm ru rw h Q c => by
  unfold uIx at h
  split at h
  · rename_i us i e
    obtain ⟨z, h1, h2⟩ := h
    obtain ⟨a, xs, rfl, s1, r1⟩ := view_lst rm ru e
    obtain ⟨v, h3, h4⟩ := atI_rel r1 h1
    exact .inl ⟨a, xs, i, v, rfl, rw.int, s1, h3, c _ _ M H (Stp.refl _ _) rm h4 h2⟩
  · rename_i us i e
    obtain ⟨z, h1, h2⟩ := h
    have e' := view_tup e
    subst e'
    obtain ⟨a, xs, rfl, s1, r1⟩ := ru.tup
    obtain ⟨v, h3, h4⟩ := atI_rel r1 h1
    exact .inr (.inl ⟨a, xs, i, v, rfl, rw.int, s1, h3, c _ _ M H (Stp.refl _ _) rm h4 h2⟩)
  · rename_i z i e
    obtain ⟨h0, d, h1, h2⟩ := h
    have e' := view_str e
    subst e'
    exact .inr (.inr ⟨z, i, d, ru.str, rw.int, h0, h1, c _ _ M H (Stp.refl _ _) rm relU_str h2⟩)
  · exact h.elim
abbrev UO := SU → MHp → (Option Int → MHp → Prop) → Prop
def SimO (K : PySem.W.Frag) (t : TO) (t' : UO) : Prop := ∀ (σ : St) (τ : SU) (H : Hp) (M : MHp) (Q' : Option Int → MHp → Prop), RelS K H M σ τ → RelM K H M → t' τ M Q' →
  ∀ Q : Option Int → Hp → Prop, (∀ o M1 H1, Stp H M H1 M1 → RelM K H1 M1 → Q' o M1 → Q o H1) → t σ H Q
def uNoPart : UO := fun _ M Q => Q none M
def uPart (t : UE) : UO := fun τ M Q => t τ M fun x M1 => match x with
  | .int i => Q (some i) M1
  | _ => False
theorem sim_noPart : SimO K tNoPart uNoPart := fun σ τ H M Q' rs rm q Q c => c none M H (Stp.refl _ _) rm q
theorem sim_part {t : TE} {t' : UE} (h : SimE K t t') : SimO K (tPart t) (uPart t') := fun σ τ H M Q' rs rm q Q c => h σ τ H M _ rs rm q _ fun u v M1 H1 s1 rm1 ru h1 => by
  cases u with
  | int i => exact ⟨i, ru.int, c _ M1 H1 s1 rm1 h1⟩
  | _ => exact h1.elim
def cutU {α : Type} (xs : List α) (lo hi : Option Int) : List α := (xs.drop (HT.sIx xs.length 0 lo)).take (HT.sIx xs.length xs.length hi - HT.sIx xs.length 0 lo)
theorem cut_rel {H : Hp} {M : MHp} {us : List U} {vs : List V} (r : RelUs K H M us vs) (lo hi : Option Int) : RelUs K H M (cutU us lo hi) (cutV vs lo hi) := by
  unfold cutU cutV
  rw [r.length]
  exact (r.drop _).take _
def rSlA (K : PySem.W.Frag) : V → Option Int → Option Int → Hp → VK → Prop := fun x lo hi H Q =>
  (∃ a xs, x = .ref a ∧ SqL K H a xs ∧ ∀ p, H p = none → Q (.ref p) (upd H p (.lst (cutV xs lo hi)))) ∨
  (∃ a xs, x = .ref a ∧ SqT K H a xs ∧ ¬ (HT.sIx xs.length 0 lo = 0 ∧ HT.sIx xs.length xs.length hi = xs.length) ∧ ∀ p, H p = none → Q (.ref p) (upd H p (.tup (cutV xs lo hi)))) ∨
  (∃ z : Str, x = .str z ∧ z.length ≤ sizeLine ∧ Q (.str (Txt.slice z lo hi)) H)
def uSl (o : Bool) (te : UE) (tl th : UO) : UE := fun τ M Q => te τ M fun x M1 => tl τ M1 fun l M2 => th τ M2 fun h M3 => match view M3 x with
  | .lst us => mkL o (cutU us l h) M3 Q
  | .tup us => ¬ (HT.sIx us.length 0 l = 0 ∧ HT.sIx us.length us.length h = us.length) ∧ Q (.tup (cutU us l h)) M3
  | .str z => z.length ≤ sizeLine ∧ Q (.str (Txt.slice z l h)) M3
  | _ => False
end
section
variable {K : PySem.W.Frag} {t u : TS} {t' u' : US} {te : TE} {te' : UE}
def uNext : US := fun D τ M => D.nx τ M
def uSeq (t u : US) : US := fun D τ M => t { D with nx := u D } τ M
def uBreak : US := fun D τ M => D.bk τ M
def uCont : US := fun D τ M => D.ct τ M
def uDrop (te : UE) : US := fun D τ M => te τ M fun _ M1 => D.nx τ M1
def uRet (te : UE) : US := fun D τ M => te τ M D.rt
def uRetN : US := fun D _ M => D.rt .non M
def uIfS (c : UT) (t u : US) : US := fun D τ M => c τ M fun b M1 => if b = true then t D τ M1 else u D τ M1
theorem sim_next : SimS K tNext uNext := fun σ τ H M D' rs rm h D d => d.nx σ τ H M (Stp.refl _ _) rm rs h
theorem sim_break : SimS K tBreak uBreak := fun σ τ H M D' rs rm h D d => d.bk σ τ H M (Stp.refl _ _) rm rs h
theorem sim_seq (h1 : SimS K t t') (h2 : SimS K u u') : SimS K (tSeq t u) (uSeq t' u') := fun σ τ H M D' rs rm h D d =>
  h1 σ τ H M _ rs rm h _ ⟨fun σ1 τ1 H1 M1 s rm1 rs1 q => h2 σ1 τ1 H1 M1 D' rs1 rm1 q D (d.stp s), d.rt, d.bk, d.ct⟩
theorem sim_drop (h1 : SimE K te te') : SimS K (tDrop te) (uDrop te') := fun σ τ H M D' rs rm h D d => h1 σ τ H M _ rs rm h _ fun u v M1 H1 s rm1 ru q => d.nx σ τ H1 M1 s rm1 (rs.stp s) q
theorem sim_ret (h1 : SimE K te te') : SimS K (tRet te) (uRet te') := fun σ τ H M D' rs rm h D d => h1 σ τ H M _ rs rm h _ fun u v M1 H1 s rm1 ru q => d.rt u v H1 M1 s rm1 ru q
theorem sim_ifS {c : TT} {c' : UT} (hc : SimT K c c') (h1 : SimS K t t') (h2 : SimS K u u') : SimS K (tIfS c t u) (uIfS c' t' u') := fun σ τ H M D' rs rm h D d => hc σ τ H M _ rs rm h _ fun b M1 H1 s rm1 q => by
  cases b with
  | true => exact h1 σ τ H1 M1 D' (rs.stp s) rm1 q D (d.stp s)
  | false => exact h2 σ τ H1 M1 D' (rs.stp s) rm1 q D (d.stp s)
abbrev UG := U → SU → MHp → (SU → MHp → Prop) → Prop
abbrev UGs := List U → SU → MHp → (SU → MHp → Prop) → Prop
def SimG (K : PySem.W.Frag) (g : TG) (g' : UG) : Prop := ∀ (u : U) (v : V) (σ : St) (τ : SU) (H : Hp) (M : MHp) (Q' : SU → MHp → Prop), RelU K H M u v → RelS K H M σ τ → RelM K H M → g' u τ M Q' →
  ∀ Q : St → Hp → Prop, (∀ σ1 τ1 H1 M1, Stp H M H1 M1 → RelM K H1 M1 → RelS K H1 M1 σ1 τ1 → Q' τ1 M1 → Q σ1 H1) → g v σ H Q
def SimGs (K : PySem.W.Frag) (g : TGs) (g' : UGs) : Prop := ∀ (us : List U) (vs : List V) (σ : St) (τ : SU) (H : Hp) (M : MHp) (Q' : SU → MHp → Prop), RelUs K H M us vs → RelS K H M σ τ → RelM K H M → g' us τ M Q' →
  ∀ Q : St → Hp → Prop, (∀ σ1 τ1 H1 M1, Stp H M H1 M1 → RelM K H1 M1 → RelS K H1 M1 σ1 τ1 → Q' τ1 M1 → Q σ1 H1) → g vs σ H Q
def hName (i : Nat) : UG := fun u τ M Q => Q (τ.set i (some u)) M
theorem sim_gname (i : Nat) : SimG K (gName i) (hName i) := fun u v σ τ H M Q' ru rs rm h Q c => c _ _ H M (Stp.refl _ _) rm (rs.set ru) h
def hNil : UGs := fun us τ M Q => match us with
  | [] => Q τ M
  | _ => False
def hCons (g : UG) (r : UGs) : UGs := fun us τ M Q => match us with
  | u :: us => g u τ M fun τ1 M1 => r us τ1 M1 Q
  | _ => False
theorem sim_gnil : SimGs K gNil hNil := fun us vs σ τ H M Q' ru rs rm h Q c => by
  cases us with
  | nil => exact ⟨ru.inv_nil, c σ τ H M (Stp.refl _ _) rm rs h⟩
  | cons _ _ => exact h.elim
theorem sim_gcons {g : TG} {g' : UG} {r : TGs} {r' : UGs} (h1 : SimG K g g') (h2 : SimGs K r r') : SimGs K (gCons g r) (hCons g' r') := fun us vs σ τ H M Q' ru rs rm h Q c => by
  cases us with
  | nil => exact h.elim
  | cons u us =>
    obtain ⟨v, vs', rfl, a, b⟩ := ru.inv_cons
    exact ⟨v, vs', rfl, h1 u v σ τ H M _ a rs rm h _ fun σ1 τ1 H1 M1 s rm1 rs1 q => h2 us vs' σ1 τ1 H1 M1 Q' (b.stp s) rs1 rm1 q Q fun σ2 τ2 H2 M2 s2 => c σ2 τ2 H2 M2 (s.trans s2)⟩
def hTup (n : Nat) (r : UGs) : UG := fun u τ M Q => match u with
  | .tup us => us.length = n ∧ r us τ M Q
  | _ => False
theorem sim_gtup {n : Nat} {r : TGs} {r' : UGs} (h2 : SimGs K r r') : SimG K (gTup K n r) (hTup n r') := fun u v σ τ H M Q' ru rs rm h Q c => by
  cases u with
  | tup us =>
    obtain ⟨a, vs, rfl, s1, r1⟩ := ru.tup
    exact ⟨a, vs, rfl, s1, by rw [← r1.length]; exact h.1, h2 us vs σ τ H M Q' r1 rs rm h.2 Q c⟩
  | _ => exact h.elim
def uAsg (te : UE) (g : UG) : US := fun D τ M => te τ M fun x M1 => g x τ M1 D.nx
theorem sim_asg {g : TG} {g' : UG} (h1 : SimE K te te') (h2 : SimG K g g') : SimS K (tAsg te g) (uAsg te' g') := fun σ τ H M D' rs rm h D d =>
  h1 σ τ H M _ rs rm h _ fun u v M1 H1 s rm1 ru q => h2 u v σ τ H1 M1 _ ru (rs.stp s) rm1 q _ fun σ1 τ1 H2 M2 s2 rm2 rs2 q2 => d.nx σ1 τ1 H2 M2 (s.trans s2) rm2 rs2 q2
def uWhile (c : UT) (tb : US) : US := fun D τ M => ∃ (P : SU → MHp → Prop) (μ : SU → MHp → Nat), P τ M ∧ ∀ τ M, P τ M → c τ M fun b M1 => if b = true then tb { D with nx := fun τ' M' => P τ' M' ∧ μ τ' M' < μ τ M, ct := fun τ' M' => P τ' M' ∧ μ τ' M' < μ τ M, bk := D.nx } τ M1 else D.nx τ M1
theorem sim_while {c : TT} {c' : UT} (hc : SimT K c c') (h1 : SimS K t t') : SimS K (tWhile c t) (uWhile c' t') := fun σ τ H M D' rs rm h D d => by
  obtain ⟨P, μ, p0, turn⟩ := h
  refine ⟨fun m σ1 H1 => ∃ τ1 M1, Stp H M H1 M1 ∧ RelM K H1 M1 ∧ RelS K H1 M1 σ1 τ1 ∧ P τ1 M1 ∧ m = μ τ1 M1, ⟨_, τ, M, Stp.refl _ _, rm, rs, p0, rfl⟩, ?_⟩
  rintro m σ1 H1 ⟨τ1, M1, s1, rm1, rs1, p1, rfl⟩
  refine hc σ1 τ1 H1 M1 _ rs1 rm1 (turn τ1 M1 p1) _ fun b M2 H2 s2 rm2 q => ?_
  cases b with
  | true =>
    refine ⟨fun σ3 H3 => ∃ τ3 M3, Stp H M H3 M3 ∧ RelM K H3 M3 ∧ RelS K H3 M3 σ3 τ3 ∧ P τ3 M3 ∧ μ τ3 M3 < μ τ1 M1, ?_, ?_⟩
    · rintro σ3 H3 ⟨τ3, M3, s3, rm3, rs3, p3, lt⟩
      exact ⟨_, lt, τ3, M3, s3, rm3, rs3, p3, rfl⟩
    · have d2 := d.stp (s1.trans s2)
      exact h1 σ1 τ1 H2 M2 _ (rs1.stp s2) rm2 q _ ⟨fun σ3 τ3 H3 M3 s3 rm3 rs3 q3 => ⟨τ3, M3, (s1.trans s2).trans s3, rm3, rs3, q3.1, q3.2⟩, d2.rt, d2.nx, fun σ3 τ3 H3 M3 s3 rm3 rs3 q3 => ⟨τ3, M3, (s1.trans s2).trans s3, rm3, rs3, q3.1, q3.2⟩⟩
  | false => exact d.nx σ1 τ1 H2 M2 (s1.trans s2) rm2 (rs1.stp s2) q
structure Src where
  own : Option Addr
  xs : List U
def Src.ok (S : Src) (M : MHp) : Prop := ∀ a, S.own = some a → M a = some (.lst S.xs)
structure Walk (K : PySem.W.Frag) (J : It) (S : Src) (H : Hp) (M : MHp) : Prop where
  step : ∀ H1 M1, Stp H M H1 M1 → RelM K H1 M1 → S.ok M1 → ∀ (i : Nat) u, S.xs[i]? = some u → J.go i H1 ∧ ∀ x H2, J.yld i H1 x H2 → Stp H1 M1 H2 M1 ∧ RelM K H2 M1 ∧ RelU K H2 M1 u x
  stop : ∀ H1 M1, Stp H M H1 M1 → RelM K H1 M1 → S.ok M1 → J.stop S.xs.length H1
abbrev UI := SU → MHp → (Src → MHp → Prop) → Prop
def SimI (K : PySem.W.Frag) (t : TI) (t' : UI) : Prop := ∀ (σ : St) (τ : SU) (H : Hp) (M : MHp) (R' : Src → MHp → Prop), RelS K H M σ τ → RelM K H M → t' τ M R' →
  ∀ R : It → Hp → Prop, (∀ J S M1 H1, Stp H M H1 M1 → RelM K H1 M1 → Walk K J S H1 M1 → R' S M1 → R J H1) → t σ H R
def uFor (wi : UI) (g : UG) (tb : US) : US := fun D τ M => wi τ M fun S M1 => ∃ P : Nat → SU → MHp → Prop, P 0 τ M1 ∧ (∀ i τ M, P i τ M → S.ok M) ∧
  (∀ i x τ M, S.xs[i]? = some x → P i τ M → g x τ M fun τ2 M2 => tb { D with nx := P (i + 1), ct := P (i + 1), bk := D.nx } τ2 M2) ∧ ∀ τ M, P S.xs.length τ M → D.nx τ M
theorem sim_for {wi : TI} {wi' : UI} {g : TG} {g' : UG} (hi : SimI K wi wi') (hg : SimG K g g') (h1 : SimS K t t') : SimS K (tFor wi g t) (uFor wi' g' t') := fun σ τ H M D' rs rm h D d => by
  refine hi σ τ H M _ rs rm h _ fun J S M0 H0 s0 rm0 w h => ?_
  obtain ⟨P, p0, hok, turn, fin⟩ := h
  refine ⟨fun i m σ1 H1 => ∃ τ1 M1, Stp H0 M0 H1 M1 ∧ RelM K H1 M1 ∧ RelS K H1 M1 σ1 τ1 ∧ P i τ1 M1 ∧ i ≤ S.xs.length ∧ m = S.xs.length - i, ⟨_, τ, M0, Stp.refl _ _, rm0, rs.stp s0, p0, Nat.zero_le _, rfl⟩, ?_⟩
  rintro i m σ1 H1 ⟨τ1, M1, s1, rm1, rs1, p1, hle, rfl⟩
  have ok1 := hok i τ1 M1 p1
  by_cases hlt : i < S.xs.length
  · obtain ⟨go, yl⟩ := w.step H1 M1 s1 rm1 ok1 i S.xs[i] (by simp [hlt])
    refine .inr ⟨go, fun σ3 H3 => ∃ τ3 M3, Stp H0 M0 H3 M3 ∧ RelM K H3 M3 ∧ RelS K H3 M3 σ3 τ3 ∧ P (i + 1) τ3 M3, ?_, fun x H2 y => ?_⟩
    · rintro σ3 H3 ⟨τ3, M3, s3, rm3, rs3, p3⟩
      exact ⟨S.xs.length - (i + 1), by omega, τ3, M3, s3, rm3, rs3, p3, hlt, rfl⟩
    · obtain ⟨s2, rm2, ru⟩ := yl x H2 y
      refine hg _ x σ1 τ1 H2 M1 _ ru (rs1.stp s2) rm2 (turn i S.xs[i] τ1 M1 (by simp [hlt]) p1) _ fun σ3 τ3 H3 M3 s3 rm3 rs3 q3 => ?_
      have d3 := d.stp (((s0.trans s1).trans s2).trans s3)
      exact h1 σ3 τ3 H3 M3 _ rs3 rm3 q3 _ ⟨fun σ4 τ4 H4 M4 s4 rm4 rs4 q4 => ⟨τ4, M4, ((s1.trans s2).trans s3).trans s4, rm4, rs4, q4⟩, d3.rt, d3.nx, fun σ4 τ4 H4 M4 s4 rm4 rs4 q4 => ⟨τ4, M4, ((s1.trans s2).trans s3).trans s4, rm4, rs4, q4⟩⟩
  · have e : i = S.xs.length := by omega
    subst e
    exact .inl ⟨w.stop H1 M1 s1 rm1 ok1, d.nx σ1 τ1 H1 M1 (s0.trans s1) rm1 rs1 (fin τ1 M1 p1)⟩
end
end U2
namespace U2
open PySem L2
section
variable {K : PySem.W.Frag}
theorem walk_list {a : Addr} {us : List U} {vs : List V} {H : Hp} {M : MHp} (m : (M a = none ∧ Rd H a (.lst vs)) ∨ KL K a vs) (r : RelUs K H M us vs) : Walk K (Itl K a) ⟨none, us⟩ H M := by
  have sq : ∀ H1 M1, Stp H M H1 M1 → SqL K H1 a vs := fun H1 M1 s => by
    rcases m with ⟨m, h⟩ | k
    · exact .inl (Rd.stp s m h).2
    · exact .inr k
  refine ⟨fun H1 M1 s rm _ i u e => ?_, fun H1 M1 s rm _ => ⟨vs, sq H1 M1 s, by rw [r.length]; exact Nat.le_refl _⟩⟩
  obtain ⟨v, e2, ru⟩ := r.get e
  refine ⟨⟨vs, v, sq H1 M1 s, e2⟩, fun x H2 y => ?_⟩
  obtain ⟨rfl, y⟩ := y
  have := y vs (sq _ M1 s)
  rw [e2] at this; cases this
  exact ⟨Stp.refl _ _, rm, ru.stp s⟩
theorem walk_tup {a : Addr} {us : List U} {vs : List V} {H : Hp} {M : MHp} (m : M a = none ∧ H a = some (.tup vs)) (r : RelUs K H M us vs) : Walk K (Itt K a) ⟨none, us⟩ H M := by
  have sq : ∀ H1 M1, Stp H M H1 M1 → SqT K H1 a vs := fun H1 M1 s => by
    exact .inl (.inl (s.to m.2 m.1).1)
  refine ⟨fun H1 M1 s rm _ i u e => ?_, fun H1 M1 s rm _ => ⟨vs, sq H1 M1 s, by rw [r.length]; exact Nat.le_refl _⟩⟩
  obtain ⟨v, e2, ru⟩ := r.get e
  refine ⟨⟨vs, v, sq H1 M1 s, e2⟩, fun x H2 y => ?_⟩
  obtain ⟨rfl, y⟩ := y
  have := y vs (sq _ M1 s)
  rw [e2] at this; cases this
  exact ⟨Stp.refl _ _, rm, ru.stp s⟩
theorem walk_own {a : Addr} {us : List U} {H : Hp} {M : MHp} : Walk K (Itl K a) ⟨some a, us⟩ H M := by
  refine ⟨fun H1 M1 s rm ok i u e => ?_, fun H1 M1 s rm ok => ?_⟩
  · obtain ⟨vs, h1, r⟩ := rm a _ (ok a rfl)
    obtain ⟨v, e2, ru⟩ := r.get e
    refine ⟨⟨vs, v, .inl (.inl h1), e2⟩, fun x H2 y => ?_⟩
    obtain ⟨rfl, y⟩ := y
    have := y vs (.inl (.inl h1))
    rw [e2] at this; cases this
    exact ⟨Stp.refl _ _, rm, ru⟩
  · obtain ⟨vs, h1, r⟩ := rm a _ (ok a rfl)
    exact ⟨vs, .inl (.inl h1), by rw [r.length]; exact Nat.le_refl _⟩
def Its (z : Str) : It := ⟨fun i _ => i < z.cps.size, fun i H x H' => H' = H ∧ ∃ c, z.cps[i]? = some c ∧ x = .str ⟨#[c]⟩, fun i _ => i = z.cps.size⟩
def chars (z : Str) : List U := z.cps.toList.map fun c => .str ⟨#[c]⟩
theorem walk_str {z : Str} {H : Hp} {M : MHp} : Walk K (Its z) ⟨none, chars z⟩ H M := by
  refine ⟨fun H1 M1 s rm _ i u e => ?_, fun H1 M1 s rm _ => ?_⟩
  · have hi : i < z.cps.size := by
      have := (List.getElem?_eq_some_iff.mp e).1
      simpa [chars] using this
    refine ⟨hi, fun x H2 y => ?_⟩
    obtain ⟨rfl, c, h1, rfl⟩ := y
    have : u = .str ⟨#[c]⟩ := by
      simp only [chars, List.getElem?_map, Array.getElem?_toList, h1, Option.map_some] at e
      exact (Option.some.inj e).symm
    subst this
    exact ⟨Stp.refl _ _, rm, relU_str⟩
  · show (chars z).length = z.cps.size
    simp [chars]
def iSeq (K : PySem.W.Frag) (tl : TE) : TI := fun σ H R => tl σ H fun x H1 =>
  (∃ a, x = .ref a ∧ (∃ xs, SqL K H1 a xs) ∧ R (Itl K a) H1) ∨ (∃ a, x = .ref a ∧ (∃ xs, SqT K H1 a xs) ∧ R (Itt K a) H1) ∨ (∃ z, x = .str z ∧ R (Its z) H1)
def uIter (te : UE) : UI := fun τ M R => te τ M fun u M1 => match u with
  | .lst us => R ⟨none, us⟩ M1
  | .tup us => R ⟨none, us⟩ M1
  | .str z => R ⟨none, chars z⟩ M1
  | .ref a => match M1 a with
    | some (.lst us) => R ⟨some a, us⟩ M1
    | _ => False
  | _ => False
theorem sim_iter {te : TE} {te' : UE} (h : SimE K te te') : SimI K (iSeq K te) (uIter te') := fun σ τ H M R' rs rm q R c => h σ τ H M _ rs rm q _ fun u v M1 H1 s1 rm1 ru h1 => by
  cases u with
  | lst us =>
    simp only [RelU] at ru
    obtain ⟨a, vs, rfl, m, r⟩ := ru
    refine .inl ⟨a, rfl, ⟨vs, ?_⟩, c _ _ M1 H1 s1 rm1 (walk_list m r) h1⟩
    rcases m with ⟨_, m⟩ | k
    · exact .inl m
    · exact .inr k
  | tup us =>
    simp only [RelU] at ru
    obtain ⟨a, vs, rfl, m, r⟩ := ru
    refine .inr (.inl ⟨a, rfl, ⟨vs, ?_⟩, c _ _ M1 H1 s1 rm1 (walk_tup m r) h1⟩)
    exact .inl (.inl m.2)
  | str z => exact .inr (.inr ⟨z, ru.str, c _ _ M1 H1 s1 rm1 walk_str h1⟩)
  | ref a =>
    dsimp only at h1
    split at h1
    · rename_i us e
      obtain ⟨vs, h2, r⟩ := rm1 a _ e
      exact .inl ⟨a, ru.ref, ⟨vs, .inl (.inl h2)⟩, c _ _ M1 H1 s1 rm1 walk_own h1⟩
    · exact h1.elim
  | _ => exact h1.elim
def rangeU (lo : Int) (n : Nat) : List U := (List.range n).map fun (k : Nat) => U.int (lo + (k : Int))
def uRng1 (ta : UA) : UI := fun τ M R => ta τ M fun us M1 => match us with
  | [.int j] => -(2 ^ 62) ≤ j ∧ j < 2 ^ 62 ∧ R ⟨none, rangeU 0 j.toNat⟩ M1
  | _ => False
def uRng2 (ta : UA) : UI := fun τ M R => ta τ M fun us M1 => match us with
  | [.int i, .int j] => (-(2 ^ 62) ≤ i ∧ i < 2 ^ 62 ∧ -(2 ^ 62) ≤ j ∧ j < 2 ^ 62) ∧ R ⟨none, rangeU i (j - i).toNat⟩ M1
  | _ => False
abbrev USp := List U → MHp → UK → Prop
def liftSp (K : PySem.W.Frag) (sp : USp) : Sp := fun vs H Q _ => ∃ us M Q', RelM K H M ∧ RelUs K H M us vs ∧ sp us M Q' ∧ Cont K H M Q' Q
def uCall (sp : USp) (dus : List U) (t : UA) : UE := fun τ M Q => t τ M fun us M1 => sp (us ++ dus) M1 Q
theorem sim_call {sp : USp} {dus : List U} {dvs : List V} {E : XK} {t : TA} {t' : UA} (hd : ∀ H M, RelUs K H M dus dvs) (h : SimA K t t') : SimE K (tCall (liftSp K sp) dvs E t) (uCall sp dus t') := fun σ τ H M Q' rs rm q Q c =>
  h σ τ H M _ rs rm q _ fun us vs M1 H1 s1 rm1 ru h1 => ⟨us ++ dus, M1, Q', rm1, ru.append (hd _ _), h1, Cont.stp c s1⟩
def Sub (M' M1 : MHp) : Prop := ∀ b mo, M' b = some mo → M1 b = some mo
theorem Sub.refl (M : MHp) : Sub M M := fun _ _ h => h
theorem Sub.mup {M M1 : MHp} {p : Addr} {o : MO} (h : Sub M M1) (hp : M p = none) : Sub M (mup M1 p o) := fun b mo e => by
  have : b ≠ p := fun z => by subst z; rw [hp] at e; cases e
  rw [mup_ne this]; exact h b mo e
theorem Sub.less {M M1 : MHp} (h : Sub M M1) {H : Hp} : Stp H M1 H M := Stp.less fun b e => by
  cases q : M b with
  | none => rfl
  | some mo => rw [h b mo q] at e; cases e
theorem RelM.sub {H : Hp} {M M1 : MHp} (rm : RelM K H M1) (h : Sub M M1) : RelM K H M := fun a mo e => (rm a mo (h a mo e)).stp (fun b q z => h b _ z) (h.less) rfl
def Out (M1 M' : MHp) (u u' : U) : Prop := u' = u ∨ ∃ a us, u = .ref a ∧ M1 a = some (.lst us) ∧ M' a = none ∧ u' = .lst us
def rtU (Q : UK) : UK := fun u M1 => ∃ u' M', Sub M' M1 ∧ Out M1 M' u u' ∧ Q u' M'
theorem rtU.ok {H H1 : Hp} {M M1 : MHp} {Q' : UK} {Q : VK} {u : U} {v : V} (c : Cont K H M Q' Q) (s : Stp H M H1 M1) (rm : RelM K H1 M1) (ru : RelU K H1 M1 u v) (h : rtU Q' u M1) : Q v H1 := by
  obtain ⟨u', M', sb, o, q⟩ := h
  have s' : Stp H1 M1 H1 M' := sb.less
  refine c u' v M' H1 (s.trans s') (rm.sub sb) ?_ q
  rcases o with rfl | ⟨a, us, rfl, h1, h2, rfl⟩
  · exact ru.stp s'
  · obtain ⟨vs, h3, h4⟩ := rm a _ h1
    cases ru.ref
    exact relU_lst h2 h3 (h4.stp s')
def startU (N : List Str) (us : List U) : SU := us.map some ++ List.replicate (N.length - us.length) none
def isL (M : MHp) (x : U) : Prop := ∃ us, view M x = .lst us
def uBM (r : U → List U → MHp → UK → Prop) (to : UE) (t : UA) : UE := fun τ M Q => to τ M fun x M1 => isL M1 x ∧ t τ M1 fun xs M2 => r x xs M2 Q
def uBM0 (r : U → List U → MHp → UK → Prop) (to : UE) : UE := fun τ M Q => to τ M fun x M1 => isL M1 x ∧ r x [] M1 Q
theorem isL.ty {H : Hp} {M : MHp} {u : U} {v : V} (rm : RelM K H M) (ru : RelU K H M u v) (h : isL M u) : tyV K "list" v H := by
  obtain ⟨us, h⟩ := h
  obtain ⟨a, vs, rfl, s, _⟩ := view_lst rm ru h
  exact .inl ⟨rfl, vs, s⟩
theorem sim_bm {r : V → List V → Hp → VK → Prop} {r' : U → List U → MHp → UK → Prop} {to : TE} {to' : UE} {t : TA} {t' : UA} (hr : SimMt K r r') (ho : SimE K to to') (h : SimA K t t') :
    SimE K (tBM K "list" r to t) (uBM r' to' t') := fun σ τ H M Q' rs rm q Q c =>
  ho σ τ H M _ rs rm q _ fun u v M1 H1 s1 rm1 ru h1 => ⟨h1.1.ty rm1 ru, h σ τ H1 M1 _ (rs.stp s1) rm1 h1.2 _ fun us vs M2 H2 s2 rm2 rus h2 => hr v vs u us H2 M2 Q' rm2 (ru.stp s2) rus h2 Q (Cont.stp c (s1.trans s2))⟩
theorem sim_bm0 {r : V → List V → Hp → VK → Prop} {r' : U → List U → MHp → UK → Prop} {to : TE} {to' : UE} (hr : SimMt K r r') (ho : SimE K to to') :
    SimE K (tBM0 K "list" r to) (uBM0 r' to') := fun σ τ H M Q' rs rm q Q c =>
  ho σ τ H M _ rs rm q _ fun u v M1 H1 s1 rm1 ru h1 => ⟨h1.1.ty rm1 ru, hr v [] u [] H1 M1 Q' rm1 ru .nil h1.2 Q (Cont.stp c s1)⟩
theorem Cont.write {H : Hp} {M : MHp} {Q' : UK} {Q : VK} {a : Addr} {us us' : List U} {xs' : List V} {r : U} {v : V} (c : Cont K H M Q' Q) (rm : RelM K H M) (e : M a = some (.lst us)) (r1 : RelUs K H M us' xs') (r2 : RelU K H M r v) (q : Q' r (mup M a (.lst us'))) : Q v (upd H a (.lst xs')) := by
  have st : Stp H M (upd H a (.lst xs')) (mup M a (.lst us')) := Stp.write e
  exact c _ _ _ _ st (rm.put st ⟨xs', upd_same, r1.stp st⟩) (r2.stp st) q
def mAppend : U → List U → MHp → UK → Prop := fun x ws M Q => match x, ws with
  | .ref a, [w] => match M a with
    | some (.lst us) => us.length < sizeLine ∧ Q .non (mup M a (.lst (us ++ [w])))
    | _ => False
  | _, _ => False
theorem sim_append : SimMt K rAppend mAppend := fun x xs u us H M Q' rm ru rus h Q c => by
  unfold mAppend at h
  split at h
  · rename_i a w
    split at h
    · rename_i ws e
      obtain ⟨vs, h1, r⟩ := rm a _ e
      obtain ⟨v, vs', rfl, a1, b⟩ := rus.inv_cons
      cases b.inv_nil
      cases ru.ref
      exact ⟨a, vs, v, rfl, rfl, h1, by rw [← r.length]; exact h.1, c.write rm e (r.append (.cons a1 .nil)) relU_non h.2⟩
    · exact h.elim
  · exact h.elim
def mPop : U → List U → MHp → UK → Prop := fun x ws M Q => match x, ws with
  | .ref a, [] => match M a with
    | some (.lst us) => match us.getLast? with
      | some w => Q w (mup M a (.lst us.dropLast))
      | none => False
    | _ => False
  | _, _ => False
theorem sim_pop : SimMt K rPop mPop := fun x xs u us H M Q' rm ru rus h Q c => by
  unfold mPop at h
  split at h
  · rename_i a
    split at h
    · rename_i ws e
      split at h
      · rename_i w e2
        obtain ⟨vs, h1, r⟩ := rm a _ e
        cases rus.inv_nil
        cases ru.ref
        rw [List.getLast?_eq_getElem?] at e2
        obtain ⟨v, h3, h4⟩ := r.get e2
        exact ⟨a, vs, v, rfl, rfl, h1, by rw [← r.length]; exact h3, c.write rm e r.dropLast h4 h⟩
      · exact h.elim
    · exact h.elim
  · exact h.elim
def rExtendL (K : PySem.W.Frag) : V → List V → Hp → VK → Prop := fun x vs H Q => ∃ l b xs zs, x = .ref l ∧ vs = [.ref b] ∧ H l = some (.lst xs) ∧ SqL K H b zs ∧ xs.length + zs.length ≤ sizeLine ∧ Q .non (upd H l (.lst (xs ++ zs)))
def mExtend : U → List U → MHp → UK → Prop := fun x ws M Q => match x, ws with
  | .ref a, [w] => match M a, view M w with
    | some (.lst us), .lst zs => us.length + zs.length ≤ sizeLine ∧ Q .non (mup M a (.lst (us ++ zs)))
    | _, _ => False
  | _, _ => False
theorem sim_extend : SimMt K (rExtendL K) mExtend := fun x xs u us H M Q' rm ru rus h Q c => by
  unfold mExtend at h
  split at h
  · rename_i a w
    split at h
    · rename_i ws zs e e2
      obtain ⟨vs, h1, r⟩ := rm a _ e
      obtain ⟨v, vs', rfl, a1, b⟩ := rus.inv_cons
      cases b.inv_nil
      cases ru.ref
      obtain ⟨b, zvs, rfl, s2, r2⟩ := view_lst rm a1 e2
      exact ⟨a, b, vs, zvs, rfl, rfl, h1, s2, by rw [← r.length, ← r2.length]; exact h.1, c.write rm e (r.append r2) relU_non h.2⟩
    · exact h.elim
  · exact h.elim
def mClear : U → List U → MHp → UK → Prop := fun x ws M Q => match x, ws with
  | .ref a, [] => match M a with
    | some (.lst us) => Q .non (mup M a (.lst []))
    | _ => False
  | _, _ => False
def bLen : List U → MHp → UK → Prop := fun us M Q => match us with
  | [x] => match view M x with
    | .lst ws => Q (.int ws.length) M
    | .tup ws => Q (.int ws.length) M
    | .str z => z.length ≤ sizeLine ∧ Q (.int z.length) M
    | _ => False
  | _ => False
theorem sim_len : SimCl K (fun xs H Q => ∃ x n, xs = [x] ∧ LenV K x H n ∧ Q (.int n) H) bLen := fun xs us H M Q' rm rus h Q c => by
  unfold bLen at h
  split at h
  · rename_i x
    obtain ⟨v, vs', rfl, a1, b⟩ := rus.inv_cons
    cases b.inv_nil
    split at h
    · rename_i ws e
      obtain ⟨b, zvs, rfl, s2, r2⟩ := view_lst rm a1 e
      exact ⟨_, zvs.length, rfl, .inl ⟨zvs, s2, rfl⟩, c.here rm relU_int (by rw [← r2.length]; exact h)⟩
    · rename_i ws e
      have e' := view_tup e
      subst e'
      obtain ⟨b, zvs, rfl, s2, r2⟩ := a1.tup
      exact ⟨_, zvs.length, rfl, .inr ⟨zvs, s2, rfl⟩, c.here rm relU_int (by rw [← r2.length]; exact h)⟩
    · rename_i z e
      have e' := view_str e
      subst e'
      cases a1.str
      exact ⟨_, z.length, rfl, ⟨h.1, rfl⟩, c.here rm relU_int h.2⟩
    · exact h.elim
  · exact h.elim
def bInt1 (C : Int → Prop) (g : Int → U) : List U → MHp → UK → Prop := fun us M Q => match us with
  | [.int i] => C i ∧ Q (g i) M
  | _ => False
def bInt2 (g : Int → Int → U) : List U → MHp → UK → Prop := fun us M Q => match us with
  | [.int i, .int j] => Q (g i j) M
  | _ => False
theorem RelUs.one {H : Hp} {M : MHp} {u : U} {vs : List V} (h : RelUs K H M [u] vs) : ∃ v, vs = [v] ∧ RelU K H M u v := by
  obtain ⟨v, vs', rfl, a1, b⟩ := h.inv_cons
  cases b.inv_nil
  exact ⟨v, rfl, a1⟩
theorem RelUs.two {H : Hp} {M : MHp} {u w : U} {vs : List V} (h : RelUs K H M [u, w] vs) : ∃ v z, vs = [v, z] ∧ RelU K H M u v ∧ RelU K H M w z := by
  obtain ⟨v, vs', rfl, a1, b⟩ := h.inv_cons
  obtain ⟨z, rfl, b1⟩ := b.one
  exact ⟨v, z, rfl, a1, b1⟩
theorem sim_abs : SimCl K (fun xs H Q => ∃ i, xs = [.int i] ∧ Q (.int (if i < 0 then -i else i)) H) (bInt1 (fun _ => True) fun i => .int (if i < 0 then -i else i)) := fun xs us H M Q' rm rus h Q c => by
  unfold bInt1 at h
  split at h
  · rename_i i
    obtain ⟨v, rfl, a⟩ := rus.one
    cases a.int
    exact ⟨i, rfl, c.here rm relU_int h.2⟩
  · exact h.elim
theorem sim_strInt : SimCl K (fun xs H Q => ∃ i, xs = [.int i] ∧ i.natAbs.log2 < 1920 ∧ Q (.str (toString i)) H) (bInt1 (fun i => i.natAbs.log2 < 1920) fun i => .str (toString i)) := fun xs us H M Q' rm rus h Q c => by
  unfold bInt1 at h
  split at h
  · rename_i i
    obtain ⟨v, rfl, a⟩ := rus.one
    cases a.int
    exact ⟨i, rfl, h.1, c.here rm relU_str h.2⟩
  · exact h.elim
def bList (o : Bool) : List U → MHp → UK → Prop := fun us M Q => match us with
  | [x] => match view M x with
    | .lst ws => mkL o ws M Q
    | .tup ws => mkL o ws M Q
    | _ => False
  | _ => False
def bTuple : List U → MHp → UK → Prop := fun us M Q => match us with
  | [x] => match view M x with
    | .lst ws => Q (.tup ws) M
    | .tup ws => Q (.tup ws) M
    | _ => False
  | _ => False
theorem sim_tuple : SimCl K (fun xs H Q => ∃ p ys, xs = [.ref p] ∧ ((SqL K H p ys ∧ ∀ l, H l = none → Q (.ref l) (upd H l (.tup ys))) ∨ (SqT K H p ys ∧ Q (.ref p) H))) bTuple := fun xs us H M Q' rm rus h Q c => by
  unfold bTuple at h
  split at h
  · rename_i x
    obtain ⟨v, rfl, a1⟩ := rus.one
    split at h
    · rename_i ws e
      obtain ⟨b, zvs, rfl, s2, r2⟩ := view_lst rm a1 e
      exact ⟨b, zvs, rfl, .inl ⟨s2, fun l hl => c.tup rm r2 hl h⟩⟩
    · rename_i ws e
      have e' := view_tup e
      subst e'
      have a2 := a1
      obtain ⟨b, zvs, rfl, s2, r2⟩ := a1.tup
      exact ⟨b, zvs, rfl, .inr ⟨s2, c.here rm a2 h⟩⟩
    · exact h.elim
  · exact h.elim
def typU (M : MHp) (x : U) : Option String := match x with
  | .non => some "NoneType"
  | .bl _ => some "bool"
  | .int _ => some "int"
  | .str _ => some "str"
  | .tup _ => some "tuple"
  | .lst _ => some "list"
  | .ref a => match M a with
    | some (.lst _) => some "list"
    | some (.dK _) => some "dict"
    | some (.dT _) => some "dict"
    | _ => none
  | .dic _ _ _ => some "dict"
  | .ty _ => none
def eqS : U → U → Option Bool
  | .non, .non => some true
  | .non, .int _ => some false | .int _, .non => some false | .non, .bl _ => some false | .bl _, .non => some false | .non, .str _ => some false | .str _, .non => some false
  | .int i, .int j => some (decide (i = j))
  | .bl i, .bl j => some (decide (i = j))
  | .str i, .str j => some (decide (i = j))
  | .int _, .str _ => some false | .str _, .int _ => some false | .bl _, .str _ => some false | .str _, .bl _ => some false
  | _, _ => none
def uEqS : UR2 := fun x y M Q => match eqS x y with
  | some b => Q (.bl b) M
  | none => False
def uNeS : UR2 := fun x y M Q => match eqS x y with
  | some b => Q (.bl (!b)) M
  | none => False
theorem eqS_rel {H : Hp} {M : MHp} {x y : V} {u w : U} {b : Bool} (ru : RelU K H M u x) (rw : RelU K H M w y) (h : eqS u w = some b) : scal x y = true ∧ decide (x = y) = b := by
  cases u <;> cases w <;> simp only [eqS, Option.some.injEq, reduceCtorEq] at h <;> subst h <;>
    (first
      | (cases ru.non) | (cases ru.bl) | (cases ru.int) | (cases ru.str)) <;>
    (first
      | (cases rw.non) | (cases rw.bl) | (cases rw.int) | (cases rw.str)) <;> simp [scal]
def isNon : U → Bool
  | .non => true
  | _ => false
def uIsN : UR2 := fun x y M Q => match y with
  | .non => Q (.bl (isNon x)) M
  | _ => False
def uNotN : UR2 := fun x y M Q => match y with
  | .non => Q (.bl (!isNon x)) M
  | _ => False
theorem isN_rel {H : Hp} {M : MHp} {x : V} {u : U} (ru : RelU K H M u x) : decide (x = .non) = isNon u := by
  cases u with
  | non => cases ru.non; simp [isNon]
  | bl b => cases ru.bl; simp [isNon]
  | int b => cases ru.int; simp [isNon]
  | str b => cases ru.str; simp [isNon]
  | ty b => cases ru.ty; simp [isNon]
  | ref b => cases ru.ref; simp [isNon]
  | tup b => obtain ⟨a, vs, rfl, _⟩ := ru.tup; simp [isNon]
  | lst b => obtain ⟨a, vs, rfl, _⟩ := ru.lst; simp [isNon]
  | dic ks tk us => simp only [RelU] at ru; obtain ⟨a, vs, rfl, _⟩ := ru; simp [isNon]
theorem sim_isN : SimR2 K (fun x y H Q => y = .non ∧ Q (.bl (decide (x = .non))) H) uIsN := fun x y u w H M Q' rm ru rw h Q c => by
  unfold uIsN at h
  split at h
  · exact ⟨rw.non, c.here rm (by rw [isN_rel ru]; exact relU_bl) h⟩
  · exact h.elim
end
end U2
namespace U2
open PySem L2
def capt {α : Type} (k : Nat) (ix : List Nat) (σ : List (Option α)) : List (Option α) := List.replicate k none ++ ix.map fun i => (σ[i]?).getD none
def tComp (k : Nat) (ix : List Nat) (wi : TI) (g : TG) (tc : TT) (te : TE) : TE := fun σ H Q => wi σ H fun J H1 => ∀ D, H1 D = none → ∃ W : Nat → Nat → Hp → Prop, (∃ m, W 0 m (upd H1 D (.lst []))) ∧ ∀ i m H, W i m H →
  (J.stop i H ∧ Q (.ref D) H) ∨ (J.go i H ∧ ∀ x H', J.yld i H x H' → g x (capt k ix σ) H' fun σ2 H2 => tc σ2 H2 fun ok H3 =>
    if ok = true then te σ2 H3 fun y H4 => ∃ ys, H4 D = some (.lst ys) ∧ ys.length < sizeLine ∧ ∃ m', m' < m ∧ W (i + 1) m' (upd H4 D (.lst (ys ++ [y]))) else ∃ m', m' < m ∧ W (i + 1) m' H3)
def endC (o : Bool) (Q : UK) (D : Addr) (ys : List U) (M : MHp) : Prop := match o with
  | true => Q (.ref D) M
  | false => ∃ M', Sub M' M ∧ M' D = none ∧ Q (.lst ys) M'
def uComp (o : Bool) (k : Nat) (ix : List Nat) (wi : UI) (g : UG) (tc : UT) (te : UE) : UE := fun τ M Q => wi τ M fun S M1 => S.xs.length ≤ sizeLine ∧ ∀ D, M1 D = none → ∃ P : Nat → List U → MHp → Prop, P 0 [] (mup M1 D (.lst [])) ∧
  (∀ i ys M, P i ys M → S.ok M ∧ M D = some (.lst ys) ∧ ys.length ≤ i) ∧
  (∀ i x ys M, S.xs[i]? = some x → P i ys M → g x (capt k ix τ) M fun τ2 M2 => tc τ2 M2 fun ok M3 => if ok = true then te τ2 M3 fun y M4 => M4 D = some (.lst ys) ∧ P (i + 1) (ys ++ [y]) (mup M4 D (.lst (ys ++ [y]))) else P (i + 1) ys M3) ∧
  ∀ ys M, P S.xs.length ys M → endC o Q D ys M
section
variable {K : PySem.W.Frag}
theorem capt_rel {H : Hp} {M : MHp} {σ : St} {τ : SU} (k : Nat) (ix : List Nat) (r : RelS K H M σ τ) : RelS K H M (capt k ix σ) (capt k ix τ) := by
  refine ⟨by simp [capt], fun i u e => ?_⟩
  unfold capt at e ⊢
  by_cases hi : i < k
  · rw [List.getElem?_append_left (by simpa using hi), List.getElem?_replicate] at e
    split at e <;> cases e
  · rw [List.getElem?_append_right (by simpa using Nat.le_of_not_lt hi), List.getElem?_map] at e ⊢
    simp only [List.length_replicate] at e ⊢
    cases q : ix[i - k]? with
    | none => rw [q] at e; cases e
    | some j =>
      rw [q] at e
      simp only [Option.map_some, Option.some.injEq] at e ⊢
      cases z : τ[j]? with
      | none => rw [z] at e; cases e
      | some w =>
        rw [z] at e
        simp only [Option.getD_some] at e
        subst e
        obtain ⟨v, h1, h2⟩ := r.2 j u z
        exact ⟨v, by rw [h1]; rfl, h2⟩
theorem sim_comp {o : Bool} {k : Nat} {ix : List Nat} {wi : TI} {wi' : UI} {g : TG} {g' : UG} {tc : TT} {tc' : UT} {te : TE} {te' : UE} (hi : SimI K wi wi') (hg : SimG K g g') (hc : SimT K tc tc') (he : SimE K te te') :
    SimE K (tComp k ix wi g tc te) (uComp o k ix wi' g' tc' te') := fun σ τ H M Q' rs rm h Q c => by
  refine hi σ τ H M _ rs rm h _ fun J S M1 H1 s1 rm1 w h => ?_
  obtain ⟨hz, h⟩ := h
  intro D hD
  obtain ⟨P, p0, inv, turn, fin⟩ := h D (rm1.no hD)
  have sD : Stp H1 M1 (upd H1 D (.lst [])) (mup M1 D (.lst [])) := Stp.own rm1 hD
  have rmD : RelM K (upd H1 D (.lst [])) (mup M1 D (.lst [])) := rm1.put sD ⟨[], upd_same, .nil⟩
  refine ⟨fun i m H2 => ∃ M2 ys, Stp H1 M1 H2 M2 ∧ RelM K H2 M2 ∧ P i ys M2 ∧ i ≤ S.xs.length ∧ m = S.xs.length - i, ⟨_, _, [], sD, rmD, p0, Nat.zero_le _, rfl⟩, ?_⟩
  rintro i m H2 ⟨M2, ys, s2, rm2, p2, hle, rfl⟩
  obtain ⟨ok2, d2, l2⟩ := inv i ys M2 p2
  by_cases hlt : i < S.xs.length
  · obtain ⟨go, yl⟩ := w.step H2 M2 s2 rm2 ok2 i S.xs[i] (by simp [hlt])
    refine .inr ⟨go, fun x H3 y => ?_⟩
    obtain ⟨s3, rm3, ru⟩ := yl x H3 y
    have rs3 : RelS K H3 M2 (capt k ix σ) (capt k ix τ) := capt_rel k ix (((rs.stp s1).stp s2).stp s3)
    refine hg _ x _ _ H3 M2 _ ru rs3 rm3 (turn i S.xs[i] ys M2 (by simp [hlt]) p2) _ fun σ4 τ4 H4 M4 s4 rm4 rs4 q4 => ?_
    refine hc σ4 τ4 H4 M4 _ rs4 rm4 q4 _ fun b M5 H5 s5 rm5 q5 => ?_
    have s25 : Stp H1 M1 H5 M5 := ((s2.trans s3).trans s4).trans s5
    cases b with
    | false =>
      exact ⟨S.xs.length - (i + 1), by omega, M5, ys, s25, rm5, q5, hlt, rfl⟩
    | true =>
      refine he σ4 τ4 H5 M5 _ (rs4.stp s5) rm5 q5 _ fun u v M6 H6 s6 rm6 ru6 q6 => ?_
      obtain ⟨d6, p6⟩ := q6
      obtain ⟨vs, h6, r6⟩ := rm6 D _ d6
      have l6 : vs.length < sizeLine := by rw [← r6.length]; omega
      have s7 : Stp H6 M6 (upd H6 D (.lst (vs ++ [v]))) (mup M6 D (.lst (ys ++ [u]))) := Stp.write d6
      exact ⟨vs, h6, l6, S.xs.length - (i + 1), by omega, _, ys ++ [u], (s25.trans s6).trans s7, rm6.put s7 ⟨_, upd_same, (r6.append (.cons ru6 .nil)).stp s7⟩, p6, hlt, rfl⟩
  · have e : i = S.xs.length := by omega
    subst e
    refine .inl ⟨w.stop H2 M2 s2 rm2 ok2, ?_⟩
    have q := fin ys M2 p2
    cases o with
    | true => exact c _ _ M2 H2 (s1.trans s2) rm2 relU_ref q
    | false =>
      obtain ⟨M', sb, n, q⟩ := q
      obtain ⟨vs, h6, r6⟩ := rm2 D _ d2
      have s' : Stp H2 M2 H2 M' := sb.less
      exact c _ _ M' H2 ((s1.trans s2).trans s') (rm2.sub sb) (relU_lst n h6 (r6.stp s')) q
end
theorem comp_pure {o : Bool} {k : Nat} {ix : List Nat} {wi : UI} {g : UG} {tc : UT} {te : UE} {τ : SU} {M1 : MHp} {Q : UK} {S : Src} (f : U → Option U) (hz : S.xs.length ≤ sizeLine) (hs : S.ok M1)
    (h : ∀ x ∈ S.xs, ∀ M, Sub M1 M → ∀ R : Option U → MHp → Prop, R (f x) M → g x (capt k ix τ) M fun τ2 M2 => tc τ2 M2 fun ok M3 => if ok = true then te τ2 M3 fun y M4 => R (some y) M4 else R none M3)
    (q : mkL o (S.xs.filterMap f) M1 Q) : S.xs.length ≤ sizeLine ∧ ∀ D, M1 D = none → ∃ P : Nat → List U → MHp → Prop, P 0 [] (mup M1 D (.lst [])) ∧
  (∀ i ys M, P i ys M → S.ok M ∧ M D = some (.lst ys) ∧ ys.length ≤ i) ∧
  (∀ i x ys M, S.xs[i]? = some x → P i ys M → g x (capt k ix τ) M fun τ2 M2 => tc τ2 M2 fun ok M3 => if ok = true then te τ2 M3 fun y M4 => M4 D = some (.lst ys) ∧ P (i + 1) (ys ++ [y]) (mup M4 D (.lst (ys ++ [y]))) else P (i + 1) ys M3) ∧
  ∀ ys M, P S.xs.length ys M → endC o Q D ys M := by
  refine ⟨hz, fun D hD => ⟨fun i ys M => ys = (S.xs.take i).filterMap f ∧ M = mup M1 D (.lst ys) ∧ i ≤ S.xs.length, ⟨by simp, rfl, Nat.zero_le _⟩, ?_, ?_, ?_⟩⟩
  · rintro i ys M ⟨rfl, rfl, hi⟩
    refine ⟨fun a e => ?_, mup_same, ?_⟩
    · have := hs a e
      rw [mup_ne (fun z => by subst z; rw [hD] at this; cases this)]
      exact this
    · refine Nat.le_trans (List.length_filterMap_le _ _) ?_
      rw [List.length_take]; omega
  · rintro i x ys M e ⟨rfl, rfl, hi⟩
    have hlt : i < S.xs.length := (List.getElem?_eq_some_iff.mp e).1
    have hx : x ∈ S.xs := List.mem_of_getElem? e
    have tk : (S.xs.take (i + 1)).filterMap f = (S.xs.take i).filterMap f ++ (f x).toList := by
      rw [List.take_add_one, e, List.filterMap_append]
      cases q : f x <;> simp [q]
    refine h x hx (mup M1 D (.lst ((S.xs.take i).filterMap f))) ((Sub.refl M1).mup hD) (fun r M4 => match r with
      | some y => M4 D = some (.lst ((S.xs.take i).filterMap f)) ∧ ((S.xs.take i).filterMap f ++ [y] = (S.xs.take (i + 1)).filterMap f ∧ mup M4 D (.lst ((S.xs.take i).filterMap f ++ [y])) = mup M1 D (.lst ((S.xs.take i).filterMap f ++ [y])) ∧ i + 1 ≤ S.xs.length)
      | none => (S.xs.take i).filterMap f = (S.xs.take (i + 1)).filterMap f ∧ M4 = mup M1 D (.lst ((S.xs.take i).filterMap f)) ∧ i + 1 ≤ S.xs.length) ?_
    rw [tk]
    cases f x with
    | none => exact ⟨by simp, rfl, hlt⟩
    | some y => exact ⟨mup_same, rfl, mup_mup, hlt⟩
  · rintro ys M ⟨rfl, rfl, hi⟩
    rw [List.take_length]
    cases o with
    | true => exact q D hD
    | false => exact ⟨M1, (Sub.refl M1).mup hD, hD, q⟩
end U2
namespace U2
open PySem PySem.Spec PyProof.Rows L2
theorem turn_str {P : Program} {w : World} {K : PySem.W.Frag} {tg : Expr} {ty : String} (z : Str) (t : Tok) (it : Addr)
    (W : ∀ A' : Around, A'.handled = none → Walks P w A' it [it] [it] z.cps.size (SignAt z) (fun i h => h.IsStrIter it ty z t i))
    (hty : ["enumerate", "zip", "dict_itemiterator", "dict_reverseitemiterator", "odict_iterator", "itertools.zip_longest", "itertools.pairwise"].contains ty = false)
    (self : ∀ (A : Around) (i : Nat) (s : Shared) (Q : Value → Shared → Prop) (E : Value → Shared → Prop), s.heap.IsStrIter it ty z t i → Q (.ref it) s → wpAny (model P w) A (pyIter (.ref it)) Q E s) :
    Turn P w K tg (Its z) [it] it (fun i h => h.IsStrIter it ty z t i) where
  mem := by simp
  obj := fun i h st b hb => by
    have e : b = it := by simpa using hb
    subst e
    obtain ⟨o, e, c, d⟩ := st
    exact ⟨o, e, fun v z => by rw [d] at z; cases z⟩
  keep := fun i h h' st k => let ⟨o, ho, r⟩ := st; ⟨o, k it (by simp) o ho, r⟩
  item := by
    intro X hP hw hK hc i pins s σ H E I hf st hg
    subst hP hw hK
    obtain ⟨f0, f1, f2, f3, f4, f5⟩ := hf it (by simp)
    refine (W X.A (I.ok.hd hc)).item i s _ E hg st fun v h' tk hv st' k => ?_
    obtain ⟨c, u, hc', rfl⟩ := hv
    have I1 : Inv X pins σ H { s with heap := h', toks := tk } := I.turned (t' := tk) (fun b o hb e => k b o (by simpa using hb) e) f0 f1 f3 f4 f5
    obtain ⟨o, e, cl, d⟩ := id st'
    exact ⟨_, rfl, go_of (s := { s with heap := h', toks := tk }) e cl d hty ⟨.str ⟨#[c]⟩, H, I1, ⟨_, rfl⟩, ⟨rfl, c, hc', rfl⟩, st', fun b hb => (hf b hb).1⟩⟩
  done := by
    intro X hP hw hK hc i pins s σ H E I hf st hg
    subst hP hw hK
    have hg' : i = z.cps.size := hg
    subst hg'
    obtain ⟨f0, f1, f2, f3, f4, f5⟩ := hf it (by simp)
    exact (W X.A (I.ok.hd hc)).done s _ E st fun h' tk k => ⟨rfl, I.turned (t' := tk) (fun b o hb e => k b o (by simpa using hb) e) f0 f1 f3 f4 f5⟩
  self := self
section
variable {X : Cx} {tg : Expr}
theorem pi_seq {l : Expr} {tl : TE} (hl : PE X l tl) : PI X tg l (iSeq X.K tl) := by
  intro pins s σ H R I h
  refine thn (hl pins s σ H _ I h) fun v s1 ⟨x, H1, I1, r1, q1⟩ => ?_
  have fp : ∀ b ∈ [s1.heap.objs.size], FpOk X pins H1 b := fun b hb => by
    have e : b = s1.heap.objs.size := by simpa using hb
    subst e
    exact I1.fpOk (Nat.le_refl _) (I1.hok.fresh (Nat.le_refl _))
  rcases q1 with ⟨a, rfl, ⟨xs, hq⟩, q⟩ | ⟨a, rfl, ⟨xs, hq⟩, q⟩ | ⟨z, rfl, q⟩
  · cases r1
    obtain ⟨its, rv, p, hz⟩ := I1.list hq
    refine wpAny_pyIter_list p.isList ?_
    exact ⟨s1.heap.objs.size, [s1.heap.objs.size], _, _, H1, rfl, I1.kept (t' := s1.toks) fun b o e => Heap.get?_push_of_some _ e, turn_list a _, ⟨_, Heap.get?_push_size _ rfl, rfl, rfl⟩, fp, q⟩
  · cases r1
    obtain ⟨its, rv, p, hz⟩ := I1.tuple hq
    refine wpAny_pyIter_tuple (show s1.heap.IsTuple a its.toArray from p) ?_
    exact ⟨s1.heap.objs.size, [s1.heap.objs.size], _, _, H1, rfl, I1.kept (t' := s1.toks) fun b o e => Heap.get?_push_of_some _ e, turn_tuple a _, ⟨_, Heap.get?_push_size _ rfl, rfl, rfl⟩, fp, q⟩
  · obtain ⟨t, rfl⟩ := r1
    cases ha : z.cps.all (· < 128)
    · refine wpAny_pyIter_wide ha ?_
      exact ⟨s1.heap.objs.size, [s1.heap.objs.size], _, _, H1, rfl, I1.kept (t' := s1.toks) fun b o e => Heap.get?_push_of_some _ e,
        turn_str z t _ (fun A' hA => Walks.strWide hA _ z t) (by decide) (fun A i s Q E st h => wpAny_pyIter_striter_wide st h), ⟨_, Heap.get?_push_size _ rfl, rfl, rfl⟩, fp, q⟩
    · refine wpAny_pyIter_ascii ha ?_
      exact ⟨s1.heap.objs.size, [s1.heap.objs.size], _, _, H1, rfl, I1.kept (t' := s1.toks) fun b o e => Heap.get?_push_of_some _ e,
        turn_str z t _ (fun A' hA => Walks.strAscii hA _ z t) (by decide) (fun A i s Q E st h => wpAny_pyIter_striter_ascii st h), ⟨_, Heap.get?_push_size _ rfl, rfl, rfl⟩, fp, q⟩
end
section
variable {prog : Program} {w : World} {A : Around} {R : Result → Shared → Prop} {s : Shared}
theorem compLoop_tg {elt target iter : Expr} {ifs : List Expr} {scope : Scope} {pos : Pos} {it acc : Value} {env : Env} (I : Nat → Shared → Prop)
    (turn : ∀ n s, I n s → wpAny (model prog w) A (pyNext it) (fun r s₁ => match r with
      | none => R (.ok .next) s₁
      | some v => wpAny (model prog w) A (letOwnedTupleGo target it v) (fun _ s₀ => wpAny (model prog w) A (assign target env v) (fun _ s₂ =>
          wpAny (model prog w) A (forIn ifs true fun c r => if r = true then do let ok ← isTrue c env (eval c env); pure (ForInStep.yield ok) else pure (ForInStep.yield r)) (fun ok s₃ =>
            if ok = true then wpAny (model prog w) A (eval elt env) (fun x s₄ =>
              wpAny (model prog w) A (call (.builtin "list.append") [acc, x]) (fun _ s₅ => ∃ m, m < n ∧ I m s₅) (fun _ _ => False) s₄) (fun _ _ => False) s₃
            else ∃ m, m < n ∧ I m s₃) (fun _ _ => False) s₂) (fun _ _ => False) s₀) (fun _ _ => False) s₁) (fun _ _ => False) s)
    (n : Nat) (h : I n s) :
    codeAny (model prog w) A (.compLoop (.ListComp elt [⟨target, iter, ifs, 0⟩] scope pos) 0 it acc env) R s := by
  refine codeAny_loop rfl I (fun n s hI => ?_) n h
  show wpAny _ A ((compTurn (.ListComp elt [⟨target, iter, ifs, 0⟩] scope pos) 0 it acc env).onRaise (fun x => do noteFrame x env; theTreesLotGoes x)) _ _ s
  refine wpAny_noted ?_
  rw [compTurn_list]
  refine wpAny_bind (wpAny_standAt (wpAny_bind (wpAny_mono (turn n s hI) (fun r s₁ h₁ => ?_) fun _ _ h' => h'.elim)))
  cases r with
  | none => exact wpAny_pure h₁
  | some v =>
    refine wpAny_bind (wpAny_mono h₁ (fun _ s₀ h₀ => ?_) fun _ _ h' => h'.elim)
    refine wpAny_bind (wpAny_mono h₀ (fun _ s₂ h₂ => wpAny_bind (wpAny_mono h₂ (fun ok s₃ h₃ => ?_) fun _ _ h' => h'.elim)) fun _ _ h' => h'.elim)
    cases ok with
    | false => exact wpAny_pure ⟨rfl, h₃⟩
    | true =>
      exact wpAny_bind (wpAny_bind (wpAny_mono h₃ (fun x s₄ h₄ => wpAny_bind (wpAny_mono h₄ (fun _ s₅ h₅ => wpAny_pure (wpAny_pure ⟨rfl, h₅⟩)) fun _ _ h' => h'.elim)) fun _ _ h' => h'.elim))
theorem closure_go {env : Env} : ∀ (names : List (Str × NameKind)) (cs : List (Str × Addr)), (∀ x ∈ names, x.2 = .free → ∃ c, env.cells.lookup x.1 = some c) →
    (∀ x c, cs.lookup x = some c → env.cells.lookup x = some c) →
    ∃ cl, (forIn names cs fun (x : Str × NameKind) (cs : List (Str × Addr)) => (if (x.2 == NameKind.free) = true then do let c ← cellOf env x.1; pure (ForInStep.yield ((x.1, c) :: cs)) else pure (ForInStep.yield cs) : Sem (ForInStep (List (Str × Addr))))) = pure cl ∧
      (∀ x c, cl.lookup x = some c → env.cells.lookup x = some c) ∧ (∀ x, (∃ c, cs.lookup x = some c) ∨ (x, NameKind.free) ∈ names → ∃ c, cl.lookup x = some c)
  | [], cs, _, h => ⟨cs, rfl, h, fun x hx => by rcases hx with hx | hx; exact hx; cases hx⟩
  | (n, k) :: r, cs, hf, h => by
    rw [List.forIn_cons]
    by_cases hk : k = .free
    · subst hk
      obtain ⟨c, hc⟩ := hf (n, .free) List.mem_cons_self rfl
      have e : cellOf env n = pure c := by unfold cellOf; rw [hc]
      simp only [beq_self_eq_true, if_true, e, pure_bind]
      obtain ⟨cl, h1, h2, h3⟩ := closure_go r ((n, c) :: cs) (fun x hx => hf x (List.mem_cons_of_mem _ hx)) (fun x d q => by
        rw [List.lookup_cons] at q
        split at q
        · rename_i e; cases q; rw [beq_iff_eq.mp e]; exact hc
        · exact h x d q)
      refine ⟨cl, h1, h2, fun x hx => h3 x ?_⟩
      rcases hx with ⟨d, hd⟩ | hx
      · left
        rw [List.lookup_cons]
        split
        · exact ⟨_, rfl⟩
        · exact ⟨d, hd⟩
      · rcases List.mem_cons.mp hx with e | hx
        · left; cases e; exact ⟨c, by simp [List.lookup_cons]⟩
        · exact .inr hx
    · have hb : (k == NameKind.free) = false := by simpa using hk
      simp only [hb, Bool.false_eq_true, if_false, pure_bind]
      obtain ⟨cl, h1, h2, h3⟩ := closure_go r cs (fun x hx => hf x (List.mem_cons_of_mem _ hx)) h
      refine ⟨cl, h1, h2, fun x hx => h3 x ?_⟩
      rcases hx with hx | hx
      · exact .inl hx
      · rcases List.mem_cons.mp hx with e | hx
        · cases e; exact absurd rfl hk
        · exact .inr hx
theorem closure_of {env : Env} {scope : Scope} (hf : ∀ x ∈ scope.names, x.2 = .free → ∃ c, env.cells.lookup x.1 = some c) :
    ∃ cl, closureFor scope env = pure cl ∧ (∀ x c, cl.lookup x = some c → env.cells.lookup x = some c) ∧ (∀ x, (x, NameKind.free) ∈ scope.names → ∃ c, cl.lookup x = some c) := by
  obtain ⟨cl, h1, h2, h3⟩ := closure_go (env := env) scope.names [] hf (fun x c h => by cases h)
  refine ⟨cl, ?_, h2, fun x hx => h3 x (.inr hx)⟩
  unfold closureFor
  first
    | exact h1
    | (have : _ := h1; simpa using this)
end
def compCx (X : Cx) (N : List Str) (scope : Scope) (cl : List (Str × Addr)) (C : Addr) (s : Shared) (H : Hp) (fp : List Addr) : Cx where
  prog := X.prog
  w := X.w
  K := X.K
  mg := X.mg
  base := X.base
  A := X.A
  N := N
  s₀ := s
  H₀ := H
  env := compEnvC scope cl C X.env
  outer := X.stack
  stack := X.stack
  ex := fp
  fn := fun _ => false
  calm := X.calm
  pn := []
  xe := fun _ _ => False
def PIf (X : Cx) (ifs : List Expr) (t : TT) : Prop :=
  ∀ (pins : List (Addr × Obj)) (s : Shared) (σ : L2.St) (H : Hp) (Q : Bool → Hp → Prop), Inv X pins σ H s → t σ H Q →
    wpAny (model X.prog X.w) X.A (forIn ifs true fun c r => if r = true then do let ok ← isTrue c X.env (eval c X.env); pure (ForInStep.yield ok) else pure (ForInStep.yield r)) (TP X pins σ Q) X.xe s
def tYes : TT := fun _ H Q => Q true H
theorem pif_nil {X : Cx} : PIf X [] tYes := fun pins s σ H Q I h => wpAny_tests_nil ⟨H, I, h⟩
def GK (k : Nat) (g : TG) : Prop := ∀ x σ H Q, g x σ H Q → g x σ H (fun σ2 H2 => (∀ j, k ≤ j → σ2[j]? = σ[j]?) ∧ Q σ2 H2)
def GKs (k : Nat) (g : TGs) : Prop := ∀ xs σ H Q, g xs σ H Q → g xs σ H (fun σ2 H2 => (∀ j, k ≤ j → σ2[j]? = σ[j]?) ∧ Q σ2 H2)
theorem gk_name {k i : Nat} (h : i < k) : GK k (gName i) := fun x σ H Q q => ⟨fun j hj => by rw [List.getElem?_set, if_neg (by omega)], q⟩
theorem gk_nil {k : Nat} : GKs k gNil := fun xs σ H Q q => ⟨q.1, fun j _ => rfl, q.2⟩
theorem gk_cons {k : Nat} {g : TG} {r : TGs} (h1 : GK k g) (h2 : GKs k r) (m2 : ∀ xs σ H Q Q', (∀ σ2 H2, Q σ2 H2 → Q' σ2 H2) → r xs σ H Q → r xs σ H Q') (m1 : ∀ x σ H Q Q', (∀ σ2 H2, Q σ2 H2 → Q' σ2 H2) → g x σ H Q → g x σ H Q') : GKs k (gCons g r) := fun xs σ H Q q => by
  obtain ⟨v, r', rfl, q⟩ := q
  refine ⟨v, r', rfl, m1 _ _ _ _ _ (fun σ2 H2 z => ?_) (h1 _ _ _ _ q)⟩
  exact m2 _ _ _ _ _ (fun σ3 H3 y => ⟨fun j hj => (y.1 j hj).trans (z.1 j hj), y.2⟩) (h2 _ _ _ _ z.2)
theorem m_name {i : Nat} : ∀ x σ H (Q Q' : L2.St → Hp → Prop), (∀ σ2 H2, Q σ2 H2 → Q' σ2 H2) → gName i x σ H Q → gName i x σ H Q' := fun x σ H Q Q' h q => h _ _ q
theorem m_nil : ∀ xs σ H (Q Q' : L2.St → Hp → Prop), (∀ σ2 H2, Q σ2 H2 → Q' σ2 H2) → gNil xs σ H Q → gNil xs σ H Q' := fun x σ H Q Q' h q => ⟨q.1, h _ _ q.2⟩
theorem m_cons {g : TG} {r : TGs} (m1 : ∀ x σ H Q Q', (∀ σ2 H2, Q σ2 H2 → Q' σ2 H2) → g x σ H Q → g x σ H Q') (m2 : ∀ xs σ H Q Q', (∀ σ2 H2, Q σ2 H2 → Q' σ2 H2) → r xs σ H Q → r xs σ H Q') :
    ∀ xs σ H (Q Q' : L2.St → Hp → Prop), (∀ σ2 H2, Q σ2 H2 → Q' σ2 H2) → gCons g r xs σ H Q → gCons g r xs σ H Q' := fun xs σ H Q Q' h q => by
  obtain ⟨v, r', rfl, q⟩ := q
  exact ⟨v, r', rfl, m1 _ _ _ _ _ (fun σ2 H2 z => m2 _ _ _ _ _ h z) q⟩
theorem gk_tup {K : PySem.W.Frag} {k n : Nat} {r : TGs} (h : GKs k r) : GK k (gTup K n r) := fun x σ H Q q => by
  obtain ⟨a, xs, rfl, h1, h2, q⟩ := q
  exact ⟨a, xs, rfl, h1, h2, h _ _ _ _ q⟩
theorem m_tup {K : PySem.W.Frag} {n : Nat} {r : TGs} (m2 : ∀ xs σ H Q Q', (∀ σ2 H2, Q σ2 H2 → Q' σ2 H2) → r xs σ H Q → r xs σ H Q') :
    ∀ x σ H (Q Q' : L2.St → Hp → Prop), (∀ σ2 H2, Q σ2 H2 → Q' σ2 H2) → gTup K n r x σ H Q → gTup K n r x σ H Q' := fun x σ H Q Q' h q => by
  obtain ⟨a, xs, rfl, h1, h2, q⟩ := q
  exact ⟨a, xs, rfl, h1, h2, m2 _ _ _ _ _ h q⟩
theorem comp_core {X : Cx} {tg elt iter : Expr} {ifs : List Expr} {scope : Scope} {pos : Pos} {N : List Str} {k : Nat} {ix : List Nat} {wi : TI} {g : TG} {tc : TT} {te : TE}
    (hc : X.calm = true) (hi : PI X tg iter wi) (gk : GK k g)
    (hk : scope.kind = .function) (hcell : ∀ y ∈ scope.names, y.2 ≠ .cell) (hnames : ∀ y ∈ scope.names, y.2 = .local → scope.names.lookup y.1 = some .local)
    (hfree : ∀ y ∈ scope.names, y.2 = .free → X.env.kindOf y.1 = some .cell ∨ X.env.kindOf y.1 = some .free)
    (hone : ∀ y ∈ scope.names, y.2 = .free → scope.names.lookup y.1 = some .free)
    (hN : ∀ (j : Nat) x, N[k + j]? = some x → ∃ i, ix[j]? = some i ∧ X.N[i]? = some x)
    (hcap : ∀ (j : Nat) x, N[k + j]? = some x → scope.names.lookup x = some .free)
    (hlen : N.length = k + ix.length)
    (hg : ∀ cl C s H fp, PG (compCx X N scope cl C s H fp) tg g)
    (hif : ∀ cl C s H fp, PIf (compCx X N scope cl C s H fp) ifs tc)
    (he : ∀ cl C s H fp, PE (compCx X N scope cl C s H fp) elt te)
    (hs : ∀ x, foldedSetIterable iter X.env x = pure x) {pins : List (Addr × Obj)} {s : Shared} {σ : L2.St} {H : Hp} {Q : VK} (I : L2.Inv X pins σ H s) (h : tComp k ix wi g tc te σ H Q) {pos' : Pos} {use : Option (Value → Sem Unit)} {QQ : Value → Shared → Prop}
    (end_ : ∀ (D C : Addr) (H3 : Hp) (s4 : Shared), L2.Inv X pins σ H3 s4 → (∃ m, s4.heap.Ns C m) → H3 C = none → C ≠ X.env.locals → X.s₀.heap.objs.size ≤ C → (∀ x c, X.env.cells.lookup x = some c → c ≠ C) → (∀ p ∈ X.pn ++ pins, p.1 ≠ C) →
      (∀ h' : Heap, Heap.SameBut C s4.heap h' → L2.Inv X pins σ H3 { s4 with heap := h' }) → Q (.ref D) H3 → compPost (model X.prog X.w) X.A X.xe use QQ (.ref D) C (.ok .next) s4) :
    wpAny (model X.prog X.w) X.A (comprehension (.ListComp elt [⟨tg, iter, ifs, 0⟩] scope pos) scope X.env pos' (newList []) false (eval iter X.env) use) QQ X.xe s := by
  obtain ⟨cl, hclos, hcl, hcl2⟩ := closure_of (env := X.env) (scope := scope) (fun x hx e => I.ok.has x.1 (hfree x hx e))
  refine wpAny_comprehension_free (use := use) rfl hs hclos hk hnames (thn (hi pins s σ H _ I h) fun v s1 h1 => thn h1 fun itv s2 h2 => ?_)
  obtain ⟨it, fp, tn, J, H2, rfl, I2, T, st2, f2, h2⟩ := h2
  refine wpAny_newObj_type (wpAny_newFunctionEnv hcell (by intro y hy; simp at hy) (fun h₁ hns₁ hsb₁ => ?_) hk)
  dsimp only at hns₁ hsb₁ ⊢
  generalize hP : s2.heap.push { cls := .type "list", dict := none, data := .seq ([] : List Value).toArray } = P2 at hns₁ hsb₁ ⊢
  have hCs : P2.objs.size = s2.heap.objs.size + 1 := by rw [← hP, Heap.size_push]
  have below : ∀ b, b < s2.heap.objs.size → b ≠ P2.objs.size := fun b hb => by rw [hCs]; omega
  have old : ∀ b o, s2.heap.get? b = some o → h₁.get? b = some o := fun b o e => hsb₁.extBut b o (below b (Heap.lt_size e)) (Heap.get?_push_of_some _ (hP ▸ Heap.get?_push_of_some _ e))
  have hacc : h₁.get? s2.heap.objs.size = some { cls := .type "list", dict := none, data := .seq ([] : List Value).toArray } := hsb₁.extBut _ _ (show s2.heap.objs.size ≠ P2.objs.size by rw [hCs]; exact Nat.ne_of_lt (Nat.lt_succ_self _)) (Heap.get?_push_of_some _ (hP ▸ Heap.get?_push_size _ rfl))
  obtain ⟨W, ⟨m0, w0⟩, turn⟩ := h2 s2.heap.objs.size (I2.hok.fresh (Nat.le_refl _))
  have fpl : ∀ b ∈ fp, b < s2.heap.objs.size := fun b hb => let ⟨o, e, _⟩ := T.obj _ _ st2 b hb; Heap.lt_size e
  have σl : (capt k ix σ).length = N.length := by rw [hlen]; simp [capt]
  have i2 := I2.ok
  -- the block's context is in order
  have ok' : (compCx X N scope cl P2.objs.size s2 H2 fp).Ok := by
    refine ⟨i2.mod, hk, i2.glob, i2.blt, (by show s2.heap.objs.size ≤ P2.objs.size; rw [hCs]; exact Nat.le_succ _), fun x y c e1 e2 => i2.inj x y c (hcl x c e1) (hcl y c e2), fun x hx => ?_, (fun x c e => by cases e), i2.hd, i2.frames, .inl rfl, fun b hb => ?_, fun b o e => I2.bs b o e, Nat.le_trans i2.bsz I2.sz, fun b o e hb => ?_, fun b hb hb2 => ?_, I2.stack, I2.stkFree⟩
    · -- a cell of the block's
      have hx' : (relabel scope X.env).names.lookup x = some .cell ∨ (relabel scope X.env).names.lookup x = some .free := hx
      have key : ∀ (names : List (Str × NameKind)), (∀ y ∈ names, y.2 ≠ .cell) → ((names.map fun (n, k) => if (k == NameKind.free && X.env.scope.kind == .function && X.env.kindOf n == some .cell) then (n, NameKind.cell) else (n, k)).lookup x = some .cell ∨
          (names.map fun (n, k) => if (k == NameKind.free && X.env.scope.kind == .function && X.env.kindOf n == some .cell) then (n, NameKind.cell) else (n, k)).lookup x = some .free) → (x, NameKind.free) ∈ names := by
        intro names
        induction names with
        | nil => intro _ h; rcases h with h | h <;> cases h
        | cons y r ih =>
          obtain ⟨n, kd⟩ := y
          intro hnc h
          by_cases hxn : x = n
          · subst hxn
            have hkc : kd ≠ .cell := hnc (x, kd) List.mem_cons_self
            by_cases hkf : kd = .free
            · subst hkf; exact List.mem_cons_self
            · exfalso
              have hb : (kd == NameKind.free) = false := by simpa using hkf
              simp only [List.map_cons, hb, Bool.false_and, Bool.false_eq_true, if_false, List.lookup_cons, beq_self_eq_true] at h
              rcases h with h | h
              · exact hkc (Option.some.inj h)
              · exact hkf (Option.some.inj h)
          · have hb : (x == n) = false := by simpa using hxn
            refine List.mem_cons_of_mem _ (ih (fun y hy => hnc y (List.mem_cons_of_mem _ hy)) ?_)
            have e1 : ∀ z : NameKind, List.lookup x (((n, z)) :: (r.map fun (n, k) => if (k == NameKind.free && X.env.scope.kind == .function && X.env.kindOf n == some .cell) then (n, NameKind.cell) else (n, k))) = List.lookup x (r.map fun (n, k) => if (k == NameKind.free && X.env.scope.kind == .function && X.env.kindOf n == some .cell) then (n, NameKind.cell) else (n, k)) := fun z => by rw [List.lookup_cons, hb]
            rw [List.map_cons] at h
            dsimp only at h
            split at h
            · rw [e1] at h; exact h
            · rw [e1] at h; exact h
      exact hcl2 x (key scope.names hcell hx')
    · exact ⟨below b (fpl b hb), fun x c e => (f2 b hb).2.2.2.2.1 x c (hcl x c e)⟩
    · rcases (f2 b hb).2.2.2.1 with z | z
      · exact i2.noex b o e z
      · exact absurd (Nat.lt_of_lt_of_le (Heap.lt_size e) (Nat.le_trans i2.bsz z)) (Nat.lt_irrefl _)
    · rcases List.mem_cons.mp (I2.stkSub b hb2) with z | z
      · exact (f2 b hb).2.1 z
      · exact (f2 b hb).2.2.1 z
  have stat : ∀ {H' : Hp}, (∀ b ∈ fp, H' b = none) → ∀ b ∈ fp, FpOk (compCx X N scope cl P2.objs.size s2 H2 fp) [] H' b := fun hn b hb =>
    ⟨hn b hb, below b (fpl b hb), fun z => ok'.exfs b hb z, .inl hb, fun x c e => (f2 b hb).2.2.2.2.1 x c (hcl x c e), (fun p hp => by cases hp)⟩
  have hD : H2 s2.heap.objs.size = none := I2.hok.fresh (Nat.le_refl _)
  have relf : ∀ x, scope.names.lookup x = some .free → (X.env.kindOf x = some .cell ∨ X.env.kindOf x = some .free) → ((relabel scope X.env).names.lookup x = some .cell ∨ (relabel scope X.env).names.lookup x = some .free) := by
    intro x hx hkx
    have key : ∀ (names : List (Str × NameKind)), names.lookup x = some .free → ((names.map fun (n, k) => if (k == NameKind.free && X.env.scope.kind == .function && X.env.kindOf n == some .cell) then (n, NameKind.cell) else (n, k)).lookup x = some .cell ∨
        (names.map fun (n, k) => if (k == NameKind.free && X.env.scope.kind == .function && X.env.kindOf n == some .cell) then (n, NameKind.cell) else (n, k)).lookup x = some .free) := by
      intro names
      induction names with
      | nil => intro h; cases h
      | cons y r ih =>
        obtain ⟨n, kd⟩ := y
        intro h
        rw [List.lookup_cons] at h
        by_cases hxn : x = n
        · subst hxn
          simp only [beq_self_eq_true] at h
          cases h
          rw [List.map_cons]
          dsimp only
          split
          · left; simp [List.lookup_cons]
          · right; simp [List.lookup_cons]
        · have hb : (x == n) = false := by simpa using hxn
          rw [hb] at h
          have := ih h
          rw [List.map_cons]
          dsimp only
          split
          · rw [List.lookup_cons, hb]; exact this
          · rw [List.lookup_cons, hb]; exact this
    exact key scope.names hx
  have Istart : ∀ tk, Inv (compCx X N scope cl P2.objs.size s2 H2 fp) [] (capt k ix σ) (upd H2 s2.heap.objs.size (.lst [])) { s2 with heap := h₁, toks := tk } := fun tk => by
    refine ⟨ok', rfl, I2.bare, Un.laid old (Nat.le_refl _) hD, ⟨_, hns₁, fun i x v e1 e2 e3 => ?_⟩, fun x c e => ?_, ?_, fun x c e => ?_, (fun p hp => by cases hp), I2.hok.laid old (Nat.le_refl _) ⟨Nat.zero_le _, [], _, .nil, hacc⟩, σl⟩
    · by_cases hik : i < k
      · exfalso
        unfold capt at e2
        rw [List.getElem?_append_left (by simpa using hik), List.getElem?_replicate] at e2
        split at e2 <;> cases e2
      · have ej : i = k + (i - k) := by omega
        have e1' : N[k + (i - k)]? = some x := by rw [← ej]; exact e1
        obtain ⟨i0, hi0, hXN⟩ := hN (i - k) x e1'
        have hfx := hcap (i - k) x e1'
        have hmem : (x, NameKind.free) ∈ scope.names := PySem.mem_of_lookup hfx
        have hkx := hfree _ hmem rfl
        have e4 : σ[i0]? = some (some v) := by
          unfold capt at e2
          rw [List.getElem?_append_right (by simpa using Nat.le_of_not_lt hik), List.getElem?_map] at e2
          simp only [List.length_replicate, hi0, Option.map_some, Option.some.injEq] at e2
          cases z : σ[i0]? with
          | none => rw [z] at e2; cases e2
          | some y => rw [z] at e2; simp only [Option.getD_some] at e2; rw [e2]
        obtain ⟨m2, hn2, hl2⟩ := I2.loc
        obtain ⟨u, ru, lk⟩ := hl2 i0 x v hXN e4 (by rcases hkx with z | z; exact .inr (.inl z); exact .inr (.inr z))
        rcases lk with ⟨z, _⟩ | ⟨_, c, hc1, hc2⟩
        · exfalso
          have z' : X.env.kindOf x = some .local := z
          rcases hkx with y | y <;> (rw [z'] at y; cases y)
        · obtain ⟨c', hc'⟩ := hcl2 x hmem
          have e5 := hcl x c' hc'
          rw [hc1] at e5; cases e5
          obtain ⟨o, ho, hd⟩ := hc2
          exact ⟨u, ru, .inr ⟨relf x hfx hkx, c, hc', o, old _ _ ho, hd⟩⟩
    · obtain ⟨v, o, ho, hd⟩ := I2.cell x c (hcl x c e)
      exact ⟨v, o, old _ _ ho, hd⟩
    · show upd H2 s2.heap.objs.size (.lst []) P2.objs.size = none
      rw [upd_ne (show P2.objs.size ≠ s2.heap.objs.size by rw [hCs]; exact Nat.succ_ne_self _)]
      exact I2.hok.fresh (show s2.heap.objs.size ≤ P2.objs.size by rw [hCs]; exact Nat.le_succ _)
    · have e' := hcl x c e
      obtain ⟨v, o, ho, hd⟩ := I2.cell x c e'
      rw [upd_ne (Nat.ne_of_lt (Heap.lt_size ho))]
      exact I2.freeC x c e'
  have st1 : tn 0 h₁ := T.keep 0 _ _ st2 fun b hb o e => old b o e
  have fr1 : ∀ b ∈ fp, upd H2 s2.heap.objs.size (.lst []) b = none := fun b hb => by rw [upd_ne (Nat.ne_of_lt (fpl b hb))]; exact (f2 b hb).1
  -- behind the block
  have fin : ∀ (H3 : Hp) (s4 : Shared), Inv (compCx X N scope cl P2.objs.size s2 H2 fp) [] (capt k ix σ) H3 s4 → ∀ h' : Heap, Heap.SameBut P2.objs.size s4.heap h' → Inv X pins σ H3 { s4 with heap := h' } := fun H3 s4 I4 h' sb => by
    have kp : ∀ b o, b < s2.heap.objs.size → s4.heap.get? b = some o → h'.get? b = some o := fun b o hb e => sb.extBut b o (below b hb) e
    have u : Un (frs X.stack) fp H2 H3 s2.heap s4.heap := I4.base
    refine I2.call' (ch := fp) (H' := H3) I4.os ⟨fun b o q n hb hx => kp b o (Heap.lt_size q) (u.keep b o q n hb hx), fun b o q n hb hx => ?_, u.free, fun b o q hx => ?_, u.tups, u.frzs, u.tbls⟩ (fun a o e => ?_) I4.bare fun b hb => ⟨(f2 b hb).2.2.2.1, (f2 b hb).2.1, (f2 b hb).2.2.2.2.1, (f2 b hb).2.2.2.2.2⟩
    · obtain ⟨sl, e⟩ := u.slot b o q n hb hx
      exact ⟨sl, kp b _ (Heap.lt_size q) e⟩
    · obtain ⟨o', e⟩ := u.there b o q hx
      exact ⟨o', kp b _ (Heap.lt_size q) e⟩
    · have nC : H3 P2.objs.size = none := I4.free
      refine (I4.hok a o e).stay (fun b z hb q => sb.extBut b z ?_ q) (fun _ q => q) fun _ _ q => q
      rcases hb with rfl | hb
      · exact ne_of_none e nC
      · exact ne_of_none hb nC
  have loop : ∀ tk, codeAny (model X.prog X.w) X.A (.compLoop (.ListComp elt [⟨tg, iter, ifs, 0⟩] scope pos) 0 (.ref it) (.ref s2.heap.objs.size) (compEnvC scope cl P2.objs.size X.env))
      (compPost (model X.prog X.w) X.A X.xe use QQ (.ref s2.heap.objs.size) P2.objs.size) { s2 with heap := h₁, toks := tk } := fun tk => by
    refine compLoop_tg (fun n s' => ∃ i H', Inv (compCx X N scope cl P2.objs.size s2 H2 fp) [] (capt k ix σ) H' s' ∧ tn i s'.heap ∧ (∀ b ∈ fp, H' b = none) ∧ W i n H') ?_ m0 ⟨0, _, Istart tk, st1, fr1, w0⟩
    rintro n s3 ⟨i, H3, I3, st3, fr3, w3⟩
    rcases turn i n H3 w3 with ⟨stop, q⟩ | ⟨go, step⟩
    · refine thn (T.done (compCx X N scope cl P2.objs.size s2 H2 fp) rfl rfl rfl hc i [] s3 _ H3 (fun _ _ => False) I3 (stat fr3) st3 stop) fun r s4 ⟨hr, I4⟩ => ?_
      subst hr
      obtain ⟨m, hn, _⟩ := I4.loc
      refine end_ s2.heap.objs.size P2.objs.size H3 s4 (fin H3 s4 I4 s4.heap (Heap.SameBut.refl ..)) ⟨m, hn⟩ I4.free (Ne.symm (below _ I2.lt)) (Nat.le_trans I2.sz (show s2.heap.objs.size ≤ P2.objs.size by rw [hCs]; exact Nat.le_succ _)) (fun x c e => ?_) (fun p hp => below _ (Heap.lt_size (I2.pin p hp).1)) (fin H3 s4 I4) q
      obtain ⟨v, o, ho, _⟩ := I2.cell x c e
      exact below _ (Heap.lt_size ho)
    · refine thn (T.item (compCx X N scope cl P2.objs.size s2 H2 fp) rfl rfl rfl hc i [] s3 _ H3 (fun _ _ => False) I3 (stat fr3) st3 go) fun r s4 ⟨u, hr, h4⟩ => ?_
      subst hr
      refine thn h4 fun _ s5 ⟨x, H5, I5, r5, y5, st5, fr5⟩ => ?_
      have I5' := I5.pinned (stat fr5) (T.obj _ _ st5)
      refine thn (hg cl P2.objs.size s2 H2 fp _ s5 _ H5 x u _ I5' r5 (gk _ _ _ _ (step x H5 y5))) fun _ s6 ⟨σ6, H6, I6, ag, q6⟩ => ?_
      have again : ∀ {s7 : Shared} {H7 : Hp} {m' : Nat}, Inv (compCx X N scope cl P2.objs.size s2 H2 fp) ([] ++ pinsAt fp s5.heap) σ6 H7 s7 → m' < n → W (i + 1) m' H7 → ∃ m, m < n ∧ ∃ i H', Inv (compCx X N scope cl P2.objs.size s2 H2 fp) [] (capt k ix σ) H' s7 ∧ tn i s7.heap ∧ (∀ b ∈ fp, H' b = none) ∧ W i m H' := fun {s7 H7 m'} I7 hm w7 => by
        refine ⟨m', hm, i + 1, H7, (I7.unpinned).weak (by rw [σl]; exact (I7.len).symm) (fun j v e => ?_), T.keep _ _ _ st5 fun b hb o e => (I7.pin (b, o) (List.mem_append_right _ (List.mem_append_right _ (mem_pinsAt hb e)))).1, fun b hb => ?_, w7⟩
        · by_cases hj : j < k
          · exfalso
            unfold capt at e
            rw [List.getElem?_append_left (by simpa using hj), List.getElem?_replicate] at e
            split at e <;> cases e
          · rw [ag j (by omega)]; exact e
        · obtain ⟨o, e, d⟩ := T.obj _ _ st5 b hb
          exact (I7.pin (b, o) (List.mem_append_right _ (List.mem_append_right _ (mem_pinsAt hb e)))).2.1
      refine thn (hif cl P2.objs.size s2 H2 fp _ s6 σ6 H6 _ I6 q6) fun ok s7 ⟨H7, I7, q7⟩ => ?_
      cases ok with
      | false =>
        obtain ⟨m', hm, w7⟩ := q7
        exact again I7 hm w7
      | true =>
        refine thn (he cl P2.objs.size s2 H2 fp _ s7 σ6 H7 _ I7 q7) fun y s8 ⟨yv, H8, I8, r8, ys, hD8, hz8, m', hm, w8⟩ => ?_
        refine thn (mt_append _ s8 σ6 H8 (.ref s2.heap.objs.size) [yv] (.ref s2.heap.objs.size) [y] (fun v H9 => H9 = upd H8 s2.heap.objs.size (.lst (ys ++ [yv]))) I8 rfl (.cons r8 .nil) ⟨_, ys, yv, rfl, rfl, hD8, hz8, rfl⟩) fun _ s9 ⟨_, H9, I9, _, e9⟩ => ?_
        subst e9
        exact again I9 hm w8
  exact codeAny_compStart_list (loop _) (T.self _ 0 _ _ _ st1 (loop _))
theorem pe_comp {X : Cx} {tg elt iter : Expr} {ifs : List Expr} {scope : Scope} {pos : Pos} {N : List Str} {k : Nat} {ix : List Nat} {wi : TI} {g : TG} {tc : TT} {te : TE}
    (hc : X.calm = true) (hi : PI X tg iter wi) (gk : GK k g)
    (hk : scope.kind = .function) (hcell : ∀ y ∈ scope.names, y.2 ≠ .cell) (hnames : ∀ y ∈ scope.names, y.2 = .local → scope.names.lookup y.1 = some .local)
    (hfree : ∀ y ∈ scope.names, y.2 = .free → X.env.kindOf y.1 = some .cell ∨ X.env.kindOf y.1 = some .free)
    (hone : ∀ y ∈ scope.names, y.2 = .free → scope.names.lookup y.1 = some .free)
    (hN : ∀ (j : Nat) x, N[k + j]? = some x → ∃ i, ix[j]? = some i ∧ X.N[i]? = some x)
    (hcap : ∀ (j : Nat) x, N[k + j]? = some x → scope.names.lookup x = some .free)
    (hlen : N.length = k + ix.length)
    (hg : ∀ cl C s H fp, PG (compCx X N scope cl C s H fp) tg g)
    (hif : ∀ cl C s H fp, PIf (compCx X N scope cl C s H fp) ifs tc)
    (he : ∀ cl C s H fp, PE (compCx X N scope cl C s H fp) elt te)
    (hs : ∀ x, foldedSetIterable iter X.env x = pure x := by intro _; rfl) :
    PE X (.ListComp elt [⟨tg, iter, ifs, 0⟩] scope pos) (tComp k ix wi g tc te) := by
  intro pins s σ H Q I h
  rw [eval_ListComp]
  refine comp_core (use := none) hc hi gk hk hcell hnames hfree hone hN hcap hlen hg hif he hs I h fun D C H3 s4 I4 ⟨m, hn⟩ _ _ _ _ _ fin q => ?_
  exact ⟨m, hn, fun h' sb => ⟨.ref D, H3, fin h' sb, rfl, q⟩⟩
section
variable {X : Cx}
theorem op_catL : OpR X (binaryOp .Add) (rCatL X.K) := by
  intro pins s σ H x y v u Q I rx ry h
  obtain ⟨l, b, xs, zs, rfl, rfl, hH, hB, hz, q⟩ := h
  cases rx
  cases ry
  obtain ⟨its, r, p, hl⟩ := I.list hH
  obtain ⟨its2, r2, p2, hl2⟩ := I.list hB
  obtain ⟨⟨cls, dd, data, sl⟩, n, ho, hc, _, hd⟩ := p
  obtain ⟨⟨cls2, dd2, data2, sl2⟩, n2, ho2, hc2, _, hd2⟩ := p2
  simp only at hc hd hc2 hd2
  subst hc hd hc2 hd2
  have q1 := r.length
  have q2 := r2.length
  have e : its.toArray ++ its2.toArray = (its ++ its2).toArray := by simp
  refine concat_meets ⟨_, ho, rfl⟩ ⟨_, ho2, rfl⟩ noFill_list_add seq_list_add PySem.F.slot_list_add PySem.F.entry_list_add (PySem.F.args_list_add_2 _ _) (list_addW l b its.toArray its2.toArray n n2 dd dd2 sl sl2 (by rw [List.size_toArray, List.size_toArray]; omega)) ⟨ho, ho2, ?_⟩
  rw [e]
  exact ⟨.ref _, _, I.lnew (t' := s.toks) (r.append r2) (by rw [List.length_append]; omega), rfl, q _ I.fresh⟩
theorem op_catTA : OpR X (binaryOp .Add) (rCatTA X.K) := by
  intro pins s σ H x y v u Q I rx ry h
  obtain ⟨a, b, xs, ys, rfl, rfl, ha, hb, hz, q0, q1, q2⟩ := h
  by_cases hx : xs = []
  · cases rx
    cases ry
    obtain ⟨its, r1, p1, _⟩ := I.tuple ha
    obtain ⟨its2, r2, p2, _⟩ := I.tuple hb
    obtain ⟨⟨cls, dd, data, sl⟩, ho, hc, n, hd⟩ := p1
    obtain ⟨⟨cls2, dd2, data2, sl2⟩, ho2, hc2, n2, hd2⟩ := p2
    simp only at hc hd hc2 hd2
    subst hc hd hc2 hd2
    have e : its = [] := r1.nil_iff.mpr hx
    exact concat_meets ⟨_, ho, rfl⟩ ⟨_, ho2, rfl⟩ noFill_tuple_add seq_tuple_add PySem.F.slot_tuple_add PySem.F.entry_tuple_add (PySem.F.args_tuple_add_2 _ _) (tuple_addW0 a b its.toArray its2.toArray n n2 dd dd2 sl sl2 (by rw [e]; rfl)) ⟨ho, ho2, .ref b, H, I, rfl, q0 hx⟩
  · exact op_catT pins s σ H _ _ v u Q I rx ry ⟨a, b, xs, ys, rfl, rfl, ha, hb, hx, hz, q1 hx, q2 hx⟩
theorem sl_str : SlR X (fun x lo hi H Q => ∃ z : Str, x = .str z ∧ z.length ≤ sizeLine ∧ Q (.str (Txt.slice z lo hi)) H) := by
  intro pins s σ H x v vl vu lo hi sl Q I rx hs pl pu h
  obtain ⟨z, rfl, hz, q⟩ := h
  obtain ⟨t, rfl⟩ := rx
  refine ⟨"str", _, F.slot_str_getitem.lookup, typeIs_str _ _ _, ?_⟩
  have fin : ∀ t' k, EP X pins σ Q (.str (Txt.slice z lo hi) t') { s with toks := k } := fun t' k => ⟨.str (Txt.slice z lo hi), H, I.tok k, ⟨t', rfl⟩, q⟩
  cases pl with
  | none => cases pu with
    | none => exact wpAny_getItem_str_slice (l := none) (u := none) (st := none) hs rfl (post_val_or_str ⟨Nat.le_trans (Txt.slice_le z _ _) hz, fun t' k => fin t' k⟩)
    | int j uj => exact wpAny_getItem_str_slice (l := none) (u := some (j, uj)) (st := none) hs rfl (post_val_or_str ⟨Nat.le_trans (Txt.slice_le z _ _) hz, fun t' k => fin t' k⟩)
  | int i ui => cases pu with
    | none => exact wpAny_getItem_str_slice (l := some (i, ui)) (u := none) (st := none) hs rfl (post_val_or_str ⟨Nat.le_trans (Txt.slice_le z _ _) hz, fun t' k => fin t' k⟩)
    | int j uj => exact wpAny_getItem_str_slice (l := some (i, ui)) (u := some (j, uj)) (st := none) hs rfl (post_val_or_str ⟨Nat.le_trans (Txt.slice_le z _ _) hz, fun t' k => fin t' k⟩)
theorem sl_any : SlR X (rSlA X.K) := sl_list.or (sl_tup.or sl_str)
theorem call_allB (hc : X.calm = true) : CallR X (.builtin "all") (fun xs H Q => ∃ (p : Addr) (bs : List Bool), xs = [.ref p] ∧ SqL X.K H p (bs.map V.bl) ∧ Q (.bl (bs.all fun b => b)) H) := by
  intro pins s σ H xs us Q I r h
  obtain ⟨a, bs, rfl, ha, q⟩ := h
  obtain ⟨u, rfl, ru⟩ := vals1 r
  cases ru
  obtain ⟨its, rv, p, hz⟩ := I.list ha
  have hl := rv.length
  have hne : a ≠ s.heap.objs.size := by
    obtain ⟨o, n, e, _⟩ := p
    exact Nat.ne_of_lt (Heap.lt_size e)
  refine call_all_walk (wpAny_pyIter_list p.isList ?_)
  refine ⟨s.heap.objs.size, _, _, _, _, _, fun i => (bs[i]?).getD false, rfl, Walks.list (show X.A.in1.handled = none from I.ok.hd hc) s.heap.objs.size a hne its.toArray, ⟨⟨_, Heap.get?_push_size _ rfl, rfl, rfl⟩, ?_⟩, ?_, fun h' tk k => ?_⟩
  · obtain ⟨o, n, e, c, d, z⟩ := p
    exact ⟨o, Heap.get?_push_of_some _ e, c, n, z⟩
  · intro i v s' Q' E' hP hQ
    have hv : its[i]? = some v := by simpa using hP
    have hi : i < bs.length := by
      have := (List.getElem?_eq_some_iff.mp hv).1
      rw [← hl] at this; simpa using this
    obtain ⟨u, hu, ru⟩ := rv.get (i := i) (x := .bl bs[i]) (by simp [hi])
    rw [hv] at hu; cases hu
    cases ru
    refine wpAny_truthy_bool ?_
    have : (bs[i]?).getD false = bs[i] := by simp [hi]
    rw [← this]; exact hQ
  · have e : (List.range its.toArray.size).all (fun i => (bs[i]?).getD false) = bs.all fun b => b := by
      have : its.toArray.size = bs.length := by rw [List.size_toArray, ← hl, List.length_map]
      rw [this]
      clear this hl rv p hz k
      rw [Bool.eq_iff_iff]
      simp only [List.all_eq_true, List.mem_range]
      constructor
      · intro h b hb
        obtain ⟨i, hi, rfl⟩ := List.mem_iff_getElem.mp hb
        have := h i hi
        simpa [hi] using this
      · intro h i hi
        have := h bs[i] (List.getElem_mem hi)
        simpa [hi] using this
    rw [e]
    exact ⟨.bl _, H, I.kept (t' := tk) (fun b o e => k b o (fun z => Nat.lt_irrefl _ (Nat.lt_of_lt_of_le (Heap.lt_size e) (Nat.le_of_eq (show s.heap.objs.size = b from (List.mem_singleton.mp z).symm)))) (Heap.get?_push_of_some _ e)), rfl, q⟩
end
end U2
namespace U2
open PySem PySem.Spec PyProof.Rows L2
structure Dat where
  prog : Program
  w : World
  K : PySem.W.Frag
  mg : Str → Option Value
  base : Heap
  N : List Str
  sc : Scope
  k : Nat
  fn : Bool
  cod : Value := .none
  qual : Str := ""
structure Has (D : Dat) (X : Cx) : Prop where
  prog : X.prog = D.prog
  w : X.w = D.w
  K : X.K = D.K
  mg : X.mg = D.mg
  base : X.base = D.base
  N : X.N = D.N
  sc : X.env.scope = D.sc
  room : Room D.k X.A
  calm : X.calm = true
  xe : X.xe = fun _ _ => False
  fn : D.fn = true → ∀ x, X.fn x = true
  cod : D.cod ≠ .none → X.env.code = D.cod ∧ X.env.qual = D.qual
  dl : D.fn = true → X.ex = [] ∧ X.stack = X.env :: X.outer ∧ X.env.frame = some X.env.locals
def PEU (D : Dat) (e : Expr) (t' : UE) : Prop := ∃ t, (∀ X, Has D X → PE X e t) ∧ SimE D.K t t'
def PTU (D : Dat) (e : Expr) (t' : UT) : Prop := ∃ t, (∀ X, Has D X → PT X e t) ∧ SimT D.K t t'
def PWU (D : Dat) (e : Expr) (t' : UT) : Prop := ∃ t, (∀ X, Has D X → PW X e t) ∧ SimT D.K t t'
def PAU (D : Dat) (es : List Expr) (t' : UA) : Prop := ∃ t, (∀ X, Has D X → PA X es t) ∧ SimA D.K t t'
def PSU (D : Dat) (s : Stmt) (t' : US) : Prop := ∃ t, (∀ X, Has D X → PS X s t) ∧ SimS D.K t t'
def PSsU (D : Dat) (s : List Stmt) (t' : US) : Prop := ∃ t, (∀ X, Has D X → PSs X s t) ∧ SimS D.K t t'
def PGU (D : Dat) (k : Nat) (e : Expr) (g' : UG) : Prop := ∃ g, (∀ X, Has D X → PG X e g) ∧ SimG D.K g g' ∧ GK k g ∧ ∀ x σ H Q Q', (∀ σ2 H2, Q σ2 H2 → Q' σ2 H2) → g x σ H Q → g x σ H Q'
def PGsU (D : Dat) (k : Nat) (es : List Expr) (g' : UGs) : Prop := ∃ g, (∀ X, Has D X → PGs X es g) ∧ SimGs D.K g g' ∧ GKs k g ∧ ∀ x σ H Q Q', (∀ σ2 H2, Q σ2 H2 → Q' σ2 H2) → g x σ H Q → g x σ H Q'
def PIU (D : Dat) (tg e : Expr) (t' : UI) : Prop := ∃ t, (∀ X, Has D X → PI X tg e t) ∧ SimI D.K t t'
def POU (D : Dat) (e : Option Expr) (t' : UO) : Prop := ∃ t, (∀ X, Has D X → PO X e t) ∧ SimO D.K t t'
def PIfU (D : Dat) (es : List Expr) (t' : UT) : Prop := ∃ t, (∀ X, Has D X → PIf X es t) ∧ SimT D.K t t'
section
variable {D : Dat} {a b c e o : Expr} {ta tb tc te : UE} {pos : Pos}
theorem uv (i : Nat) {x : Str} (hN : D.N[i]? = some x := by rfl) (hv : Vis D.sc x := by first | exact Or.inl rfl | exact Or.inr (Or.inl rfl) | exact Or.inr (Or.inr rfl)) (hd : (x == ("__debug__" : Str)) = false := by decide)
    (hcd : (x == ("__classdict__" : Str)) = false := by decide) : PEU D (.Name x pos) (uVar i) :=
  ⟨_, fun X h => pe_var (by rw [h.N]; exact hN) (by rw [h.sc]; exact hv) hd hcd, sim_var i⟩
theorem un_ {i j} : PEU D (.Constant (.int i) j pos) (uC (.int i)) := ⟨_, fun X h => pe_int, sim_int⟩
theorem ub_ {i j} : PEU D (.Constant (.bool i) j pos) (uC (.bl i)) := ⟨_, fun X h => pe_bl, sim_bl⟩
theorem us_ {i j} : PEU D (.Constant (.str i) j pos) (uC (.str i)) := ⟨_, fun X h => pe_str, sim_str⟩
theorem uo_ {j} : PEU D (.Constant .none j pos) (uC .non) := ⟨_, fun X h => pe_non, sim_non⟩
theorem ug_int {x : Str} {i : Int} {t : Tok} (hm : D.mg x = some (.int i t)) (hg : D.sc.names.lookup x = some .globalImplicit := by rfl) (hd : (x == ("__debug__" : Str)) = false := by decide) : PEU D (.Name x pos) (uC (.int i)) :=
  ⟨_, fun X h => pe_glob (v := .int i) (by show X.env.scope.names.lookup x = _; rw [h.sc]; exact hg) (by rw [h.mg]; exact hm) ⟨t, rfl⟩ hd, sim_int⟩
theorem ug_str {x : Str} {i : Str} {t : Tok} (hm : D.mg x = some (.str i t)) (hg : D.sc.names.lookup x = some .globalImplicit := by rfl) (hd : (x == ("__debug__" : Str)) = false := by decide) : PEU D (.Name x pos) (uC (.str i)) :=
  ⟨_, fun X h => pe_glob (v := .str i) (by show X.env.scope.names.lookup x = _; rw [h.sc]; exact hg) (by rw [h.mg]; exact hm) ⟨t, rfl⟩ hd, sim_str⟩
theorem ug_ref {x : Str} {f : Addr} (hm : D.mg x = some (.ref f)) (hg : D.sc.names.lookup x = some .globalImplicit := by rfl) (hd : (x == ("__debug__" : Str)) = false := by decide) : PEU D (.Name x pos) (uC (.ref f)) :=
  ⟨_, fun X h => pe_glob (v := .ref f) (by show X.env.scope.names.lookup x = _; rw [h.sc]; exact hg) (by rw [h.mg]; exact hm) rfl hd, sim_ref⟩
theorem ug_ty {x : Str} {n : String} (hm : D.mg x = none) (hv : bootBuiltins x = some (.type n) := by kernel_rfl) (hg : D.sc.names.lookup x = some .globalImplicit := by rfl) (hn : x ≠ "__name__" := by decide) (hd : (x == ("__debug__" : Str)) = false := by decide) : PEU D (.Name x pos) (uC (.ty n)) :=
  ⟨_, fun X h => pe_bltn (v := .ty n) (by show X.env.scope.names.lookup x = _; rw [h.sc]; exact hg) (by rw [h.mg]; exact hm) hv rfl hn hd, sim_ty⟩
theorem ue_op {op : Operator} {r : R2} {r' : UR2} (ho : ∀ X, Has D X → OpR X (binaryOp op) r) (hr : SimR2 D.K r r') (ha : PEU D a ta) (hb : PEU D b tb) : PEU D (.BinOp a op b pos) (uOp r' ta tb) := by
  obtain ⟨x, p, s⟩ := ha; obtain ⟨y, q, r⟩ := hb
  exact ⟨_, fun X h => pe_op (ho X h) (p X h) (q X h), sim_op hr s r⟩
theorem ue_sub (ha : PEU D a ta) (hb : PEU D b tb) : PEU D (.BinOp a .Sub b pos) (uOp (uI0 fun i j => .int (i - j)) ta tb) := ue_op (fun _ _ => op_sub) sim_int2 ha hb
theorem ue_mod (ha : PEU D a ta) (hb : PEU D b tb) : PEU D (.BinOp a .Mod b pos) (uOp (uI (fun _ j => 0 < j) fun i j => .int (i % j)) ta tb) := ue_op (fun _ _ => op_mod) sim_int2c ha hb
theorem ue_div (ha : PEU D a ta) (hb : PEU D b tb) : PEU D (.BinOp a .FloorDiv b pos) (uOp (uI CDiv fun i j => .int (i / j)) ta tb) := ue_op (fun _ _ => op_fdiv) sim_int2c ha hb
theorem ue_pow (ha : PEU D a ta) (hb : PEU D b tb) : PEU D (.BinOp a .Pow b pos) (uOp (uI CPow fun i j => .int (i ^ j.toNat)) ta tb) := ue_op (fun _ _ => op_pow) sim_int2c ha hb
def uAdd (o : Bool) : UR2 := fun x y M Q => match x, y with
  | .int i, .int j => Q (.int (i + j)) M
  | .str i, .str j => i.length + j.length ≤ sizeLine ∧ Q (.str (i ++ j)) M
  | .tup us, .tup ws => us.length + ws.length ≤ sizeLine ∧ Q (.tup (us ++ ws)) M
  | x, y => uAddL o x y M Q
def rAddA (K : PySem.W.Frag) : R2 := fun x y H Q => rI0 (fun i j => .int (i + j)) x y H Q ∨ ((∃ i j, x = .str i ∧ y = .str j ∧ i.length + j.length ≤ sizeLine ∧ Q (.str (i ++ j)) H) ∨ (rCatTA K x y H Q ∨ rCatL K x y H Q))
theorem sim_add {K : PySem.W.Frag} {o : Bool} : SimR2 K (rAddA K) (uAdd o) := fun x y u w H M Q' rm ru rw h Q c => by
  unfold uAdd at h
  split at h
  · exact .inl (sim_int2 x y _ _ H M Q' rm ru rw h Q c)
  · exact .inr (.inl (sim_addS x y _ _ H M Q' rm ru rw h Q c))
  · exact .inr (.inr (.inl (sim_addT x y _ _ H M Q' rm ru rw h Q c)))
  · exact .inr (.inr (.inr (sim_addL x y _ _ H M Q' rm ru rw h Q c)))
theorem ue_add (own : Bool := false) (ha : PEU D a ta) (hb : PEU D b tb) : PEU D (.BinOp a .Add b pos) (uOp (uAdd own) ta tb) :=
  ue_op (r := rAddA D.K) (fun X h => by have := op_add.or (op_add_str.or ((op_catTA (X := X)).or (op_catL (X := X)))); rw [h.K] at this; exact this) sim_add ha hb
theorem ue_neg (ha : PEU D a ta) : PEU D (.UnaryOp .USub a pos) (uUn (fun x M Q => match x with | .int i => Q (.int (-i)) M | _ => False) ta) := by
  obtain ⟨x, p, s⟩ := ha
  refine ⟨_, fun X h => pe_un un_neg (p X h), sim_un (fun x u H M Q' rm ru h Q c => ?_) s⟩
  cases u with
  | int i => exact ⟨i, ru.int, c.here rm relU_int h⟩
  | _ => exact h.elim
theorem ue_cmp {op : CmpOp} {r : R2} {r' : UR2} (ho : ∀ X, Has D X → OpR X (compareOp op) r) (hr : SimR2 D.K r r') (ha : PEU D a ta) (hb : PEU D b tb) (hm : behindInMarks op b = false) : PEU D (.Compare a [op] [b] pos) (uOp r' ta tb) := by
  obtain ⟨x, p, s⟩ := ha; obtain ⟨y, q, r⟩ := hb
  exact ⟨_, fun X h => pe_cmpR (ho X h) (p X h) (q X h) hm, sim_op hr s r⟩
theorem ut_cmp {op : CmpOp} {r : R2} {r' : UR2} (ho : ∀ X, Has D X → OpR X (compareOp op) r) (hr : SimR2 D.K r r') (ha : PEU D a ta) (hb : PEU D b tb) (hm : behindInMarks op b = false) : PTU D (.Compare a [op] [b] pos) (uTest (uOp r' ta tb)) := by
  obtain ⟨x, p, s⟩ := ha; obtain ⟨y, q, r⟩ := hb
  exact ⟨_, fun X h => pt_cmpR (ho X h) (p X h) (q X h) hm, sim_test (sim_op hr s r)⟩
abbrev cLt : UR2 := uI0 fun i j => .bl (decide (i < j))
abbrev cLe : UR2 := uI0 fun i j => .bl (decide (i ≤ j))
abbrev cGt : UR2 := uI0 fun i j => .bl (decide (j < i))
abbrev cGe : UR2 := uI0 fun i j => .bl (decide (j ≤ i))
structure Cmp (D : Dat) (op : CmpOp) (r' : UR2) : Prop where
  ex : ∃ r : R2, (∀ X, Has D X → OpR X (compareOp op) r) ∧ SimR2 D.K r r'
theorem k_lt : Cmp D .Lt cLt := ⟨⟨_, fun _ _ => op_lt, sim_bool2⟩⟩
theorem k_le : Cmp D .LtE cLe := ⟨⟨_, fun _ _ => op_le, sim_bool2⟩⟩
theorem k_gt : Cmp D .Gt cGt := ⟨⟨_, fun _ _ => op_gt, sim_bool2⟩⟩
theorem k_isN : Cmp D .Is uIsN := ⟨⟨_, fun _ _ => op_isN, sim_isN⟩⟩
def inSt (neg : Bool) : UR2 := fun x y M Q => match x, y with
  | .str i, .str j => Q (.bl (if neg then !(!(Builtin.Str.occurrences j i 0 j.length 1).isEmpty) else !(Builtin.Str.occurrences j i 0 j.length 1).isEmpty)) M
  | _, _ => False
theorem k_inS : Cmp D .In (inSt false) := ⟨⟨_, fun _ _ => op_in_str, fun x y u w H M Q' rm ru rw h Q c => by
  cases u with
  | str i => cases w with
    | str j => exact ⟨i, j, ru.str, rw.str, c.here rm relU_bl h⟩
    | _ => exact h.elim
  | _ => exact h.elim⟩⟩
theorem k_notInS : Cmp D .NotIn (inSt true) := ⟨⟨_, fun _ _ => op_notin_str, fun x y u w H M Q' rm ru rw h Q c => by
  cases u with
  | str i => cases w with
    | str j => exact ⟨i, j, ru.str, rw.str, c.here rm relU_bl h⟩
    | _ => exact h.elim
  | _ => exact h.elim⟩⟩
theorem ue_c {op : CmpOp} {r' : UR2} (k : Cmp D op r') (ha : PEU D a ta) (hb : PEU D b tb) (hm : behindInMarks op b = false := by first | exact nomark _ | with_unfolding_all rfl) : PEU D (.Compare a [op] [b] pos) (uOp r' ta tb) :=
  let ⟨_, h1, h2⟩ := k.ex; ue_cmp h1 h2 ha hb hm
theorem ut_c {op : CmpOp} {r' : UR2} (k : Cmp D op r') (ha : PEU D a ta) (hb : PEU D b tb) (hm : behindInMarks op b = false := by first | exact nomark _ | with_unfolding_all rfl) : PTU D (.Compare a [op] [b] pos) (uTest (uOp r' ta tb)) :=
  let ⟨_, h1, h2⟩ := k.ex; ut_cmp h1 h2 ha hb hm
theorem ue_ch {op op' : CmpOp} {r r' : UR2} (k : Cmp D op r) (k' : Cmp D op' r') (ha : PEU D a ta) (hb : PEU D b tb) (hc : PEU D c tc) (hm : lastMarks [op, op'] [b, c] = false := by with_unfolding_all rfl) :
    PEU D (.Compare a [op, op'] [b, c] pos) (uChain r r' ta tb tc) := by
  obtain ⟨x, p, s⟩ := ha; obtain ⟨y, q, r⟩ := hb; obtain ⟨z, u, v⟩ := hc
  obtain ⟨_, h1, h2⟩ := k.ex
  obtain ⟨_, h3, h4⟩ := k'.ex
  exact ⟨_, fun X h => pe_chain (h1 X h) (h3 X h) (p X h) (q X h) (u X h) hm, sim_chain h2 h4 s r v⟩
theorem ut_ch {op op' : CmpOp} {r r' : UR2} (k : Cmp D op r) (k' : Cmp D op' r') (ha : PEU D a ta) (hb : PEU D b tb) (hc : PEU D c tc) (hm : lastMarks [op, op'] [b, c] = false := by with_unfolding_all rfl) :
    PTU D (.Compare a [op, op'] [b, c] pos) (uTest (uChain r r' ta tb tc)) := by
  obtain ⟨x, p, s⟩ := ha; obtain ⟨y, q, r⟩ := hb; obtain ⟨z, u, v⟩ := hc
  obtain ⟨_, h1, h2⟩ := k.ex
  obtain ⟨_, h3, h4⟩ := k'.ex
  exact ⟨_, fun X h => pt_chain (h1 X h) (h3 X h) (p X h) (q X h) (u X h) hm, sim_test (sim_chain h2 h4 s r v)⟩
theorem ut_val (ha : PEU D a ta) (he : ∀ env whole, isTrue a env whole = (do let v ← whole; standAt a.pos; holding [v] (truthy v)) := by intro _ _; rfl) : PTU D a (uTru ta) := by
  obtain ⟨x, p, s⟩ := ha
  refine ⟨_, fun X h => ?_, sim_tru s⟩
  have := pt_truth (p X h) (he X.env)
  rw [h.K] at this
  exact this
theorem PWU.pt {t : UT} (h : PWU D a t) : PTU D a t := let ⟨_, p, s⟩ := h; ⟨_, fun X h => (p X h).pt, s⟩
variable {rest : List Expr} {tA tB' : UT}
theorem uw_and1 (ha : PTU D a tA) : PWU D (.BoolOp .And [a] pos) tA := let ⟨_, p, s⟩ := ha; ⟨_, fun X h => pw_and1 (p X h), s⟩
theorem uw_or1 (ha : PTU D a tA) : PWU D (.BoolOp .Or [a] pos) tA := let ⟨_, p, s⟩ := ha; ⟨_, fun X h => pw_or1 (p X h), s⟩
theorem uw_and (ha : PTU D a tA) (hb : PWU D (.BoolOp .And (b :: rest) pos) tB') : PWU D (.BoolOp .And (a :: b :: rest) pos) (uAnd tA tB') := let ⟨_, p, s⟩ := ha; let ⟨_, q, r⟩ := hb; ⟨_, fun X h => pw_and (p X h) (q X h), sim_and s r⟩
theorem uw_or (ha : PTU D a tA) (hb : PWU D (.BoolOp .Or (b :: rest) pos) tB') : PWU D (.BoolOp .Or (a :: b :: rest) pos) (uOr tA tB') := let ⟨_, p, s⟩ := ha; let ⟨_, q, r⟩ := hb; ⟨_, fun X h => pw_or (p X h) (q X h), sim_or s r⟩
theorem ut_not (ha : PTU D a tA) : PTU D (.UnaryOp .Not a pos) (uNot tA) := let ⟨_, p, s⟩ := ha; ⟨_, fun X h => pt_not (p X h), sim_not s⟩
theorem ue_one {op} (ha : PEU D a ta) : PEU D (.BoolOp op [a] pos) ta := let ⟨_, p, s⟩ := ha; ⟨_, fun X h => pe_one (p X h), s⟩
theorem ue_and (ha : PEU D a ta) (hb : PEU D (.BoolOp .And (b :: rest) pos) tb) : PEU D (.BoolOp .And (a :: b :: rest) pos) (uAndV ta tb) := let ⟨_, p, s⟩ := ha; let ⟨_, q, r⟩ := hb; ⟨_, fun X h => pe_and (p X h) (q X h), sim_andV s r⟩
theorem ue_not (ha : PEU D a ta) : PEU D (.UnaryOp .Not a pos) (uNotV ta) := let ⟨_, p, s⟩ := ha; ⟨_, fun X h => pe_not (p X h), sim_notV s⟩
variable {es : List Expr} {tas : UA}
theorem ua_nil : PAU D [] uNil := ⟨_, fun X h => pa_nil, sim_nil⟩
theorem ua_cons (ha : PEU D e te) (hr : PAU D es tas) (hs : ∀ env, starEach (e :: es) env = (false, eval e env) :: starEach es env := by intro _; rfl) : PAU D (e :: es) (uCons te tas) := let ⟨_, p, s⟩ := ha; let ⟨_, q, r⟩ := hr; ⟨_, fun X h => pa_cons (p X h) (q X h) (hs _), sim_cons s r⟩
theorem ue_tup {x1} (h : PAU D es tas) : PEU D (.Tuple es x1 pos) (uTup tas) := let ⟨_, p, s⟩ := h; ⟨_, fun X h => pe_tup (p X h), sim_tup s⟩
theorem ue_lst (own : Bool := false) (h : PAU D es tas) : PEU D (.List es pos) (uLst own tas) := let ⟨_, p, s⟩ := h; ⟨_, fun X h => pe_lst (p X h), sim_lst s⟩
theorem ue_ix (ha : PEU D a ta) (hb : PEU D b tb) (hs : PlainIx b := by intro _ _; rfl) : PEU D (.Subscript a b pos) (uOp uIx ta tb) := by
  obtain ⟨x, p, s⟩ := ha; obtain ⟨y, q, r⟩ := hb
  refine ⟨_, fun X h => ?_, sim_op sim_ix s r⟩
  have := pe_ix (pos := pos) ix_seq (p X h) (q X h) hs
  rw [h.K] at this
  exact this
theorem uo_none : POU D none uNoPart := ⟨_, fun X h => po_none, sim_noPart⟩
theorem uo_some (h : PEU D e te) : POU D (some e) (uPart te) := let ⟨_, p, s⟩ := h; ⟨_, fun X h => po_some (p X h), sim_part s⟩
variable {st : Stmt} {sts body body2 : List Stmt} {t u : US}
theorem uss_nil : PSsU D [] uNext := ⟨_, fun X h => pss_nil, sim_next⟩
theorem uss_cons (h1 : PSU D st t) (h2 : PSsU D sts u) : PSsU D (st :: sts) (uSeq t u) := let ⟨_, p, s⟩ := h1; let ⟨_, q, r⟩ := h2; ⟨_, fun X h => pss_cons (p X h) (q X h), sim_seq s r⟩
theorem uss_one (h1 : PSU D st t) : PSsU D [st] t := let ⟨_, p, s⟩ := h1; ⟨_, fun X h => pss_one (p X h), s⟩
theorem us_break : PSU D (.Break pos) uBreak := ⟨_, fun X h => ps_break, sim_break⟩
theorem us_expr (he : PEU D e te) (hs : ∀ env, swapsWith e none pos.line env = pure false := by intro _; rfl) : PSU D (.Expr e pos) (uDrop te) := let ⟨_, p, s⟩ := he; ⟨_, fun X h => ps_expr (p X h) (hs _), sim_drop s⟩
theorem us_ret (he : PEU D e te) : PSU D (.Return (some e) pos) (uRet te) := let ⟨_, p, s⟩ := he; ⟨_, fun X h => ps_ret (p X h), sim_ret s⟩
theorem us_if {c : Expr} {tc : UT} (hc : PTU D c tc) (ha : PSsU D body t) (hb : PSsU D body2 u) : PSU D (.If c body body2 pos) (uIfS tc t u) := let ⟨_, p, s⟩ := ha; let ⟨_, q, r⟩ := hb; let ⟨_, x, y⟩ := hc; ⟨_, fun X h => ps_if (x X h) (p X h) (q X h), sim_ifS y s r⟩
theorem us_while {c : Expr} {tc : UT} (hc : PTU D c tc) (hb : PSsU D body t) : PSU D (.While c body [] pos) (uWhile tc t) := by
  obtain ⟨_, p, s⟩ := hb; obtain ⟨_, x, y⟩ := hc
  exact ⟨_, fun X h => ps_while (by rw [h.xe]; exact PassesOwn.never) (x X h) (p X h), sim_while y s⟩
variable {k : Nat} {g : UG} {gs : UGs}
theorem ug_name (i : Nat) {x : Str} (hN : D.N.Nodup) (hi : D.N[i]? = some x := by rfl) (hx : Loc D.sc x := by first | exact Or.inl rfl | exact Or.inr rfl) (hik : i < k := by decide) (hf : D.fn = true ∨ D.sc.names.lookup x = some .local := by first | exact .inl rfl | exact .inr rfl) : PGU D k (.Name x pos) (hName i) :=
  ⟨_, fun X h => pg_name (i := i) (by rw [h.N]; exact hN) (by rw [h.N]; exact hi) (by rw [h.sc]; exact hx) (by rcases hf with z | z; exact .inl (h.fn z x); exact .inr (by rw [h.sc]; exact z)), sim_gname i, gk_name hik, m_name⟩
theorem ugs_nil : PGsU D k [] hNil := ⟨_, fun X h => pgs_nil, sim_gnil, gk_nil, m_nil⟩
theorem ugs_cons (h1 : PGU D k e g) (h2 : PGsU D k es gs) (hs : ∀ env, (assignEach (e :: es) env).map (·.2) = assign e env :: (assignEach es env).map (·.2) := by intro _; rfl) : PGsU D k (e :: es) (hCons g gs) :=
  let ⟨_, p, s, x, y⟩ := h1; let ⟨_, q, r, z, w⟩ := h2; ⟨_, fun X h => pgs_cons (p X h) (q X h) (hs _), sim_gcons s r, gk_cons x z w y, m_cons y w⟩
theorem ug_tup {kk : Nat} {n : Nat} (h : PGsU D k es gs) (hn : ∀ env, (assignEach es env).length = n := by intro _; rfl) (hst : ∀ env, (assignEach es env).findIdx? (·.1) = none := by intro _; rfl) : PGU D k (.Tuple es kk pos) (hTup n gs) := by
  obtain ⟨_, p, s, x, y⟩ := h
  refine ⟨_, fun X h => ?_, sim_gtup s, gk_tup x, m_tup y⟩
  have := pg_tup (pos := pos) (k := kk) h.calm (p X h) (hn _) (hst _)
  rw [h.K] at this
  exact this
theorem us_set (i : Nat) {x : Str} {pos' : Pos} (hN : D.N.Nodup) (he : PEU D e te) (hi : D.N[i]? = some x := by rfl) (hx : Loc D.sc x := by first | exact Or.inl rfl | exact Or.inr rfl) (hs : ∀ env, swapsWith e (some (.Name x pos')) pos.line env = pure false := by intro _; rfl)
    (hf : D.fn = true ∨ D.sc.names.lookup x = some .local := by first | exact .inl rfl | exact .inr rfl) : PSU D (.Assign [.Name x pos'] e pos) (uAsg te (hName i)) := by
  obtain ⟨_, p, s⟩ := he
  exact ⟨_, fun X h => ps_set (i := i) (by rw [h.N]; exact hN) (by rw [h.N]; exact hi) (by rw [h.sc]; exact hx) (p X h) (hs _) (by rcases hf with z | z; exact .inl (h.fn z x); exact .inr (by rw [h.sc]; exact z)), sim_asg s (sim_gname i)⟩
variable {tg iter : Expr} {wi : UI}
theorem ui_seq (h : PEU D e te) : PIU D tg e (uIter te) := by
  obtain ⟨_, p, s⟩ := h
  refine ⟨_, fun X h => ?_, sim_iter s⟩
  have := pi_seq (tg := tg) (p X h)
  rw [h.K] at this
  exact this
theorem us_for (hi : PIU D tg iter wi) (hg : PGU D k tg g) (hb : PSsU D body t) (hs : ∀ env x, foldedSetIterable iter env x = pure x := by intro _ _; rfl) : PSU D (.For tg iter body [] pos) (uFor wi g t) := by
  obtain ⟨_, p, s⟩ := hi; obtain ⟨_, q, r, _⟩ := hg; obtain ⟨_, x, y⟩ := hb
  exact ⟨_, fun X h => ps_for (by rw [h.xe]; exact PassesOwn.never) h.calm (p X h) (q X h) (x X h) (hs _), sim_for s r y⟩
end
end U2
namespace U2
open PySem PySem.Spec PyProof.Rows L2
structure Callee (P : Program) (w : World) (K : PySem.W.Frag) (mg : Str → Option Value) (base : Heap) (j : Nat) (x : Str) (sp : USp) (dus : List U) : Prop where
  ex : ∃ f fd ps dvs ds, FnOk P w K mg base CX0 j f fd ps (liftSp K sp) ∧ mg x = some (.ref f) ∧ PySem.W.keepIn K (.ref f) = true ∧ Binds K fd ps ds ∧ Vals dvs ds ∧ ∀ H M, RelUs K H M dus dvs
abbrev Cal (D : Dat) := Callee D.prog D.w D.K D.mg D.base
section
variable {D : Dat} {a b c e o : Expr} {ta tb tc te : UE} {pos p : Pos} {es : List Expr} {tas : UA} {x : Str}
theorem ue_call {sp : USp} {dus : List U} {j : Nat} (F : Cal D j x sp dus) (ha : PAU D (e :: es) tas) (hj : j ≤ D.k := by first | exact Nat.le_refl _ | (dsimp only; omega) | omega | (dsimp only [compD]; omega)) (hg : D.sc.names.lookup x = some .globalImplicit := by rfl) (hdb : (x == ("__debug__" : Str)) = false := by decide)
    (he : ∀ env, starEach (e :: es) env = (false, eval e env) :: starEach es env := by intro _; rfl) (hpl : ∀ env, (backTo pos (starEach es env)).any (·.1) = false := by intro _; rfl) : PEU D (.Call (.Name x p) (e :: es) [] pos) (uCall sp dus tas) := by
  obtain ⟨f, fd, ps, dvs, ds, F, hm, kp, hb, hd, hr⟩ := F.ex
  obtain ⟨_, q, s⟩ := ha
  refine ⟨tCall (liftSp D.K sp) dvs E0 _, fun X h => ?_, sim_call hr s⟩
  have F' : FnOk X.prog X.w X.K X.mg X.base CX0 j f fd ps (liftSp D.K sp) := by rw [h.prog, h.w, h.K, h.mg, h.base]; exact F
  exact pe_call F' (h.room.mono hj) (by show X.env.scope.names.lookup x = _; rw [h.sc]; exact hg) (by rw [h.mg]; exact hm) (by rw [h.K]; exact kp) (by rw [h.K]; exact hb) hd pass0 (q X h) hdb (he _) (hpl _)
structure Blt (D : Dat) (f : Value) (r' : List U → MHp → UK → Prop) : Prop where
  ex : ∃ r, (∀ X, Has D X → CallR X f r) ∧ SimCl D.K r r'
theorem ue_b {id : String} {r' : List U → MHp → UK → Prop} (k : Blt D (.builtin id) r') (hm : D.mg x = none) (ha : PAU D (e :: es) tas) (hv : bootBuiltins x = some (.builtin id) := by kernel_rfl) (hg : D.sc.names.lookup x = some .globalImplicit := by rfl) (hn : x ≠ "__name__" := by decide) (hdb : (x == ("__debug__" : Str)) = false := by decide)
    (he : ∀ env, starEach (e :: es) env = (false, eval e env) :: starEach es env := by intro _; rfl) (hpl : ∀ env, (backTo pos (starEach es env)).any (·.1) = false := by intro _; rfl) : PEU D (.Call (.Name x p) (e :: es) [] pos) (uCB r' tas) := by
  obtain ⟨r, h1, h2⟩ := k.ex
  obtain ⟨_, q, s⟩ := ha
  exact ⟨_, fun X h => pe_callB (h1 X h) (by show X.env.scope.names.lookup x = _; rw [h.sc]; exact hg) (by rw [h.mg]; exact hm) hv (q X h) hn hdb (he _) (hpl _), sim_cb h2 s⟩
theorem ue_t {T : String} {r' : List U → MHp → UK → Prop} (k : Blt D (.type T) r') (hm : D.mg x = none) (ha : PAU D (e :: es) tas) (hv : bootBuiltins x = some (.type T) := by kernel_rfl) (hg : D.sc.names.lookup x = some .globalImplicit := by rfl) (hn : x ≠ "__name__" := by decide) (hdb : (x == ("__debug__" : Str)) = false := by decide)
    (he : ∀ env, starEach (e :: es) env = (false, eval e env) :: starEach es env := by intro _; rfl) (hpl : ∀ env, (backTo pos (starEach es env)).any (·.1) = false := by intro _; rfl) : PEU D (.Call (.Name x p) (e :: es) [] pos) (uCB r' tas) := by
  obtain ⟨r, h1, h2⟩ := k.ex
  obtain ⟨_, q, s⟩ := ha
  exact ⟨_, fun X h => pe_callTy (h1 X h) (by show X.env.scope.names.lookup x = _; rw [h.sc]; exact hg) (by rw [h.mg]; exact hm) hv (q X h) hn hdb (he _) (hpl _), sim_cb h2 s⟩
theorem b_len : Blt D (.builtin "len") bLen := ⟨⟨_, fun X h => by have := call_len (X := X); rw [h.K] at this; exact this, sim_len⟩⟩
theorem b_abs : Blt D (.builtin "abs") (bInt1 (fun _ => True) fun i => .int (if i < 0 then -i else i)) := ⟨⟨_, fun X h => call_abs, sim_abs⟩⟩
theorem b_str : Blt D (.type "str") (bInt1 (fun i => i.natAbs.log2 < 1920) fun i => .str (toString i)) := ⟨⟨_, fun X h => call_str_int, sim_strInt⟩⟩
theorem b_tuple : Blt D (.type "tuple") bTuple := ⟨⟨_, fun X h => by have := call_tuple_of (X := X); rw [h.K] at this; exact this, sim_tuple⟩⟩
def rIsi (K : PySem.W.Frag) : List V → Hp → VK → Prop := fun xs H Q => ∃ x T t b, xs = [x, .ty T] ∧ (TyOf K H x (.type t) ∨ (t = "tuple" ∧ ∃ p vs ob, x = .ref p ∧ H p = some (.frz ob (.tup vs))) ∨ (t = "tuple" ∧ ∃ p vs, x = .ref p ∧ KT K p vs) ∨ (t = "list" ∧ ∃ p vs, x = .ref p ∧ KL K p vs) ∨ (t = "dict" ∧ ∃ p ob u, x = .ref p ∧ H p = some (.frz ob u) ∧ isDk u = true)) ∧ PySem.W.kitOne K (.type t) (.type T) = some b ∧ Q (.bl b) H
theorem call_isi {X : Cx} : CallR X (.builtin "isinstance") (rIsi X.K) := by
  intro pins s σ H xs us Q I r h
  obtain ⟨x, T, t, b, rfl, ty, e, q⟩ := h
  obtain ⟨u, w', rfl, ru, rw'⟩ := vals2 r
  cases rw'
  rcases ty with ty | ⟨rfl, p, vs, ob, rfl, m⟩ | ⟨rfl, p, vs, rfl, o, its, n, hk, hc, hd, _, _⟩ | ⟨rfl, p, vs, rfl, o, its, n, hk, hc, _, hd, _, _⟩ | ⟨rfl, p, ob, du, rfl, m, dk⟩
  · exact isinst_ok I ru ty e fun tk => ⟨.bl b, H, I.tok tk, rfl, q⟩
  · cases ru
    obtain ⟨_, _, _, _, o, h1, h2, _⟩ := (show ObjOk X.prog X.w H s.heap p (.frz ob (.tup vs)) from I.hok p _ m)
    exact PySem.W.kia_one PySem.W.kitx_tuple I.kIn ⟨o, h1, h2⟩ e (fun z => nomatch z) fun tk => ⟨.bl b, H, I.tok tk, rfl, q⟩
  · cases ru
    exact PySem.W.kia_one PySem.W.kitx_tuple I.kIn ⟨o, I.kIn _ _ hk, hc⟩ e (fun z => nomatch z) fun tk => ⟨.bl b, H, I.tok tk, rfl, q⟩
  · cases ru
    exact PySem.W.kia_one PySem.W.kitx_list I.kIn ⟨o, I.kIn _ _ hk, hc⟩ e (fun z => nomatch z) fun tk => ⟨.bl b, H, I.tok tk, rfl, q⟩
  · cases ru
    obtain ⟨hg, ho⟩ := (show ObjOk X.prog X.w H s.heap p (.frz ob du) from I.hok p _ m)
    have hx : ∃ o, s.heap.get? p = some o ∧ o.cls = .type "dict" := by
      cases du with
      | dK kvs => obtain ⟨_, _, _, _, o, _, _, h1, h2, _⟩ := ho; exact ⟨o, h1, h2.1⟩
      | dT kvs => obtain ⟨_, _, _, _, o, _, _, h1, h2, _⟩ := ho; exact ⟨o, h1, h2.1⟩
      | _ => cases dk
    exact PySem.W.kia_one PySem.W.kitx_dict I.kIn hx e (fun z => nomatch z) fun tk => ⟨.bl b, H, I.tok tk, rfl, q⟩
def isiTab : List (String × String × Bool) := [("NoneType", "bool", false), ("NoneType", "int", false), ("NoneType", "str", false), ("NoneType", "tuple", false), ("NoneType", "list", false), ("NoneType", "dict", false), ("bool", "bool", true), ("bool", "int", true), ("bool", "str", false), ("bool", "tuple", false), ("bool", "list", false), ("bool", "dict", false), ("int", "bool", false), ("int", "int", true), ("int", "str", false), ("int", "tuple", false), ("int", "list", false), ("int", "dict", false), ("str", "bool", false), ("str", "int", false), ("str", "str", true), ("str", "tuple", false), ("str", "list", false), ("str", "dict", false), ("tuple", "bool", false), ("tuple", "int", false), ("tuple", "str", false), ("tuple", "tuple", true), ("tuple", "list", false), ("tuple", "dict", false), ("list", "bool", false), ("list", "int", false), ("list", "str", false), ("list", "tuple", false), ("list", "list", true), ("list", "dict", false), ("dict", "bool", false), ("dict", "int", false), ("dict", "str", false), ("dict", "tuple", false), ("dict", "list", false), ("dict", "dict", true)]
theorem isiTab_ok {K : PySem.W.Frag} : ∀ r ∈ isiTab, PySem.W.kitOne K (.type r.1) (.type r.2.1) = some r.2.2 := by
  intro r hr
  simp only [isiTab, List.mem_cons, List.not_mem_nil, or_false] at hr
  rcases hr with rfl | rfl | rfl | rfl | rfl | rfl | rfl | rfl | rfl | rfl | rfl | rfl | rfl | rfl | rfl | rfl | rfl | rfl | rfl | rfl | rfl | rfl | rfl | rfl | rfl | rfl | rfl | rfl | rfl | rfl | rfl | rfl | rfl | rfl | rfl | rfl | rfl | rfl | rfl | rfl | rfl | rfl <;> first | rfl | kernel_rfl
def under2 (t T : String) : Option Bool := (isiTab.find? fun r => r.1 == t && r.2.1 == T).map (·.2.2)
theorem under2_ok {K : PySem.W.Frag} {t T : String} {b : Bool} (h : under2 t T = some b) : PySem.W.kitOne K (.type t) (.type T) = some b := by
  unfold under2 at h
  cases e : isiTab.find? fun r => r.1 == t && r.2.1 == T with
  | none => rw [e] at h; cases h
  | some r =>
    rw [e] at h
    cases h
    have h1 := List.find?_some e
    have h2 := isiTab_ok (K := K) r (List.mem_of_find?_eq_some e)
    simp only [Bool.and_eq_true, beq_iff_eq] at h1
    rw [h1.1, h1.2] at h2
    exact h2
def bIsi2 : List U → MHp → UK → Prop := fun us M Q => match us with
  | [x, .ty T] => match typU M x with
    | some t => match under2 t T with
      | some b => Q (.bl b) M
      | none => False
    | none => False
  | _ => False
theorem sim_isi {K : PySem.W.Frag} : SimCl K (rIsi K) bIsi2 := fun xs us H M Q' rm rus h Q c => by
  unfold bIsi2 at h
  split at h
  · rename_i x T
    split at h
    · rename_i t e
      split at h
      · rename_i b e2
        obtain ⟨v, z, rfl, a1, a2⟩ := rus.two
        cases a2.ty
        refine ⟨v, T, t, b, rfl, ?_, under2_ok e2, c.here rm relU_bl h⟩
        cases x with
        | non => cases a1.non; cases e; exact .inl .non
        | bl y => cases a1.bl; cases e; exact .inl (.bl y)
        | int y => cases a1.int; cases e; exact .inl (.int y)
        | str y => cases a1.str; cases e; exact .inl (.str y)
        | ty y => cases e
        | tup y =>
          cases e
          simp only [RelU] at a1
          obtain ⟨a, vs, rfl, m, r⟩ := a1
          exact .inl (.tup m.2)
        | lst y =>
          cases e
          simp only [RelU] at a1
          obtain ⟨a, vs, rfl, m, r⟩ := a1
          rcases m with ⟨_, m | ⟨ob, m⟩⟩ | k
          · exact .inl (.lst m)
          · exact .inl (.frz m)
          · exact .inr (.inr (.inr (.inl ⟨rfl, a, vs, rfl, k⟩)))
        | dic ks tk y =>
          cases e
          simp only [RelU] at a1
          obtain ⟨a, vs, rfl, m, r, _⟩ := a1
          cases tk with
          | true =>
            obtain ⟨ws, h1 | ⟨ob, h1⟩, _⟩ := r
            · exact .inl (.dT h1)
            · exact .inr (.inr (.inr (.inr ⟨rfl, a, ob, _, rfl, h1, rfl⟩)))
          | false =>
            obtain ⟨ws, h1 | ⟨ob, h1⟩, _⟩ := r
            · exact .inl (.dK h1)
            · exact .inr (.inr (.inr (.inr ⟨rfl, a, ob, _, rfl, h1, rfl⟩)))
        | ref y =>
          cases a1.ref
          simp only [typU] at e
          split at e
          · rename_i ws e3
            cases e
            obtain ⟨vs, h1, _⟩ := rm y _ e3
            exact .inl (.lst h1)
          · rename_i ws e4
            cases e
            obtain ⟨vs, h1, _⟩ := rm y _ e4; exact .inl (.dK h1)
          · rename_i ws e4
            cases e
            obtain ⟨vs, h1, _⟩ := rm y _ e4; exact .inl (.dT h1)
          · cases e
      · exact h.elim
    · exact h.elim
  · exact h.elim
theorem b_isi : Blt D (.builtin "isinstance") bIsi2 := ⟨⟨_, fun X h => by have := call_isi (X := X); rw [h.K] at this; exact this, sim_isi⟩⟩
def blsU : List U → Option (List Bool)
  | [] => some []
  | .bl b :: r => (blsU r).map (b :: ·)
  | _ => none
def bAll : List U → MHp → UK → Prop := fun us M Q => match us with
  | [x] => match view M x with
    | .lst ws => match blsU ws with
      | some bs => Q (.bl (bs.all fun b => b)) M
      | none => False
    | _ => False
  | _ => False
theorem blsU_rel {K : PySem.W.Frag} {H : Hp} {M : MHp} : ∀ {us : List U} {vs : List V} {bs : List Bool}, RelUs K H M us vs → blsU us = some bs → vs = bs.map V.bl
  | [], _, _, r, h => by cases h; exact r.inv_nil
  | u :: us, _, bs, r, h => by
    obtain ⟨v, vs', rfl, a, b⟩ := r.inv_cons
    cases u with
    | bl y =>
      simp only [blsU] at h
      cases e : blsU us with
      | none => rw [e] at h; cases h
      | some cs =>
        rw [e] at h
        cases h
        rw [blsU_rel b e, a.bl]; rfl
    | _ => cases h
theorem b_all : Blt D (.builtin "all") bAll := ⟨⟨_, fun X h => by have := call_allB (X := X) h.calm; rw [h.K] at this; exact this, fun xs us H M Q' rm rus h Q c => by
  unfold bAll at h
  split at h
  · rename_i x
    obtain ⟨v, rfl, a1⟩ := rus.one
    split at h
    · rename_i ws e
      split at h
      · rename_i bs e2
        obtain ⟨b, zvs, rfl, s2, r2⟩ := view_lst rm a1 e
        rw [blsU_rel r2 e2] at s2
        exact ⟨b, bs, rfl, s2, c.here rm relU_bl h⟩
      · exact h.elim
    · exact h.elim
  · exact h.elim⟩⟩
theorem ue_append {apos : Pos} (ho : PEU D o ta) (ha : PAU D [e] tas) (hbase : ∀ env, attributeBase o "append" env (eval o env) = eval o env := by intro _; rfl)
    (hfew : ∀ env, ((backTo pos (starEach [e] env)).all (fun x => !x.1) && (backToKw pos (keywordEach [] env)).all (fun x => x.1.isSome) && decide ([e].length + ([] : List Keyword).length + (if ([] : List Keyword).isEmpty then 0 else 1) < 30)) = true := by intro _; rfl)
    (hline : (apos.endLine == pos.line) = true := by rfl) (hs : ∀ env, starEach [e] env = [(false, eval e env)] := by intro _; rfl) : PEU D (.Call (.Attribute o "append" apos) [e] [] pos) (uBM mAppend ta tas) := by
  obtain ⟨_, p, s⟩ := ho; obtain ⟨_, q, r⟩ := ha
  refine ⟨_, fun X h => ?_, sim_bm sim_append s r⟩
  have := pe_bm (cpos := pos) (apos := apos) PySem.F.plainAttrs_list PySem.F.slot_list_append PySem.F.type_list_append mt_append (p X h) (q X h) (hbase _) (hfew _) hline (hs _) (by rfl)
  rw [h.K] at this
  exact this
theorem ue_pop {apos : Pos} (ho : PEU D o ta) (hbase : ∀ env, attributeBase o "pop" env (eval o env) = eval o env := by intro _; rfl)
    (hline : (apos.endLine == pos.line) = true := by rfl) : PEU D (.Call (.Attribute o "pop" apos) [] [] pos) (uBM0 mPop ta) := by
  obtain ⟨_, p, s⟩ := ho
  refine ⟨_, fun X h => ?_, sim_bm0 sim_pop s⟩
  have := pe_bm0 (cpos := pos) (apos := apos) PySem.F.plainAttrs_list PySem.F.slot_list_pop PySem.F.type_list_pop mt_pop (p X h) (hbase _) hline
  rw [h.K] at this
  exact this
def relabelSc (scope sc : Scope) : Scope :=
  { scope with names := scope.names.map fun (n, k) => if (k == .free && sc.kind == .function && sc.names.lookup n == some .cell) then (n, .cell) else (n, k) }
def compD (D : Dat) (N : List Str) (scope : Scope) : Dat := { D with N := N, sc := relabelSc scope D.sc, fn := false, cod := .none }
theorem Has.comp {X : Cx} (h : Has D X) (N : List Str) (scope : Scope) (cl : List (Str × Addr)) (C : Addr) (s : Shared) (H : Hp) (fp : List Addr) : Has (compD D N scope) (compCx X N scope cl C s H fp) :=
  ⟨h.prog, h.w, h.K, h.mg, h.base, rfl, by show relabelSc scope X.env.scope = relabelSc scope D.sc; rw [h.sc], h.room, h.calm, rfl, (fun z => by cases z), (fun z => absurd rfl z), (fun z => by cases z)⟩
theorem uif_nil : PIfU D [] (fun _ M Q => Q true M) := ⟨tYes, fun X h => pif_nil, fun σ τ H M Q' rs rm q Q c => c true M H (Stp.refl _ _) rm q⟩
theorem ue_comp (own : Bool) (N : List Str) (k : Nat) (ix : List Nat) {scope : Scope} {tg iter elt : Expr} {ifs : List Expr} {wi : UI} {g : UG} {tcs : UT} (hi : PIU D tg iter wi) (hg : PGU (compD D N scope) k tg g) (hif : PIfU (compD D N scope) ifs tcs) (he : PEU (compD D N scope) elt te)
    (hk : scope.kind = .function := by rfl) (hcell : ∀ y ∈ scope.names, y.2 ≠ .cell := by first | decide +kernel | (dsimp only; decide +kernel) | (dsimp only [compD, relabelSc]; decide +kernel)) (hnames : ∀ y ∈ scope.names, y.2 = .local → scope.names.lookup y.1 = some .local := by first | decide +kernel | (dsimp only; decide +kernel) | (dsimp only [compD, relabelSc]; decide +kernel))
    (hfree : ∀ y ∈ scope.names, y.2 = .free → D.sc.names.lookup y.1 = some .cell ∨ D.sc.names.lookup y.1 = some .free := by first | decide +kernel | (dsimp only; decide +kernel) | (dsimp only [compD, relabelSc]; decide +kernel)) (hone : ∀ y ∈ scope.names, y.2 = .free → scope.names.lookup y.1 = some .free := by first | decide +kernel | (dsimp only; decide +kernel) | (dsimp only [compD, relabelSc]; decide +kernel))
    (hN : ix.map (fun i => D.N[i]?) = (N.drop k).map some := by rfl) (hcap : ∀ x ∈ N.drop k, scope.names.lookup x = some .free := by first | decide +kernel | (dsimp only; decide +kernel) | (dsimp only [compD, relabelSc]; decide +kernel)) (hlen : N.length = k + ix.length := by rfl)
    (hs : ∀ env x, foldedSetIterable iter env x = pure x := by intro _ _; rfl) : PEU D (.ListComp elt [⟨tg, iter, ifs, 0⟩] scope pos) (uComp own k ix wi g tcs te) := by
  obtain ⟨_, p1, s1⟩ := hi; obtain ⟨_, p2, s2, gk, _⟩ := hg; obtain ⟨_, p3, s3⟩ := hif; obtain ⟨_, p4, s4⟩ := he
  have hN' : ∀ (j : Nat) x, N[k + j]? = some x → ∃ i, ix[j]? = some i ∧ D.N[i]? = some x := fun j x e => by
    have e1 : ((N.drop k).map some)[j]? = some (some x) := by rw [List.getElem?_map, List.getElem?_drop, e]; rfl
    rw [← hN, List.getElem?_map] at e1
    cases q : ix[j]? with
    | none => rw [q] at e1; cases e1
    | some i => rw [q] at e1; exact ⟨i, rfl, Option.some.inj e1⟩
  have hcap' : ∀ (j : Nat) x, N[k + j]? = some x → scope.names.lookup x = some .free := fun j x e => hcap x (List.mem_of_getElem? (i := j) (by rw [List.getElem?_drop]; exact e))
  refine ⟨_, fun X h => pe_comp (N := N) (k := k) (ix := ix) h.calm (p1 X h) gk hk hcell hnames (fun y hy e => by show X.env.scope.names.lookup y.1 = _ ∨ X.env.scope.names.lookup y.1 = _; rw [h.sc]; exact hfree y hy e) hone (fun j x e => by rw [h.N]; exact hN' j x e) hcap' hlen
    (fun cl C s H fp => p2 _ (h.comp N scope cl C s H fp)) (fun cl C s H fp => p3 _ (h.comp N scope cl C s H fp)) (fun cl C s H fp => p4 _ (h.comp N scope cl C s H fp)) (hs _), sim_comp s1 s2 s3 s4⟩
end
section
variable {P : Program} {w : World} {K : PySem.W.Frag} {mg : Str → Option Value} {base : Heap}
theorem start_rel {H : Hp} {M : MHp} {N : List Str} {us : List U} {vs : List V} (r : RelUs K H M us vs) : RelS K H M (L2.start N vs) (startU N us) := by
  have hl := r.length
  refine ⟨by simp [L2.start, startU, hl], fun i u e => ?_⟩
  unfold startU at e
  unfold L2.start
  by_cases hi : i < us.length
  · rw [List.getElem?_append_left (by simpa using hi), List.getElem?_map] at e
    cases q : us[i]? with
    | none => rw [q] at e; cases e
    | some u' =>
      rw [q] at e
      cases e
      obtain ⟨v, h1, h2⟩ := r.get q
      exact ⟨v, by rw [List.getElem?_append_left (by rw [List.length_map]; omega), List.getElem?_map, h1]; rfl, h2⟩
  · rw [List.getElem?_append_right (by simpa using hi), List.getElem?_replicate] at e
    split at e <;> cases e
theorem fnok_of {x : Str} {st : Stmt} {f : Addr} {fd : FuncData} {N ps : List Str} {k : Nat} {sp : USp} {t : US} (F : Fun K x x st f fd) (S : FnScope N ps (defScope st))
    (len : ∀ us M Q, sp us M Q → us.length = ps.length)
    (h : PSsU ⟨P, w, K, mg, base, N, defScope st, k, true, .none, ""⟩ (defBody st) t)
    (q : ∀ us M Q, sp us M Q → t { nx := fun _ M' => rtU Q .non M', rt := rtU Q } (startU N us) M) : FnOk P w K mg base CX0 (k + 1) f fd ps (liftSp K sp) := by
  obtain ⟨t0, h1, h2⟩ := h
  refine F.ok S (fun vs H Q E ⟨us, M, Q', _, r, hs, _⟩ => by rw [← r.length]; exact len us M Q' hs) (fun cdv A outer s H vs Q E hr ⟨us, M, Q', rm, r, hs, c⟩ => ?_)
  refine ⟨t0, h1 _ ⟨rfl, rfl, rfl, rfl, rfl, rfl, rfl, hr, rfl, rfl, fun _ _ => rfl, fun h => absurd rfl h, fun _ => ⟨rfl, rfl, rfl⟩⟩, ?_⟩
  refine h2 _ (startU N us) H M _ (start_rel r) rm (q us M Q' hs) _ ⟨fun σ τ H1 M1 s1 rm1 rs1 q1 => ?_, fun u v H1 M1 s1 rm1 ru q1 => rtU.ok c s1 rm1 ru q1, fun _ _ _ _ _ _ _ z => z.elim, fun _ _ _ _ _ _ _ z => z.elim⟩
  exact rtU.ok c s1 rm1 relU_non q1
theorem callee_of {x : Str} {st : Stmt} {f : Addr} {fd : FuncData} {N ps : List Str} {k : Nat} {sp : USp} {t : US} (F : Fun K x x st f fd) (hm : mg x = some (.ref f)) (S : FnScope N ps (defScope st))
    (bind : ∀ (kV doc pm : Value) (an : Option Addr) (cdv ct : Value) (us : List Value), us.length = ps.length → bindArgs (PySem.W.fnOf x x (defArgs st) (defBody st) (defScope st) .none kV doc pm an cdv ct) ⟨us, []⟩ = pure (ps.zip us))
    (len : ∀ us M Q, sp us M Q → us.length = ps.length)
    (h : PSsU ⟨P, w, K, mg, base, N, defScope st, k, true, .none, ""⟩ (defBody st) t)
    (q : ∀ us M Q, sp us M Q → t { nx := fun _ M' => rtU Q .non M', rt := rtU Q } (startU N us) M) : Callee P w K mg base (k + 1) x sp [] := by
  obtain ⟨t0, h1, h2⟩ := h
  refine ⟨f, fd, ps, [], [], F.ok S (fun vs H Q E ⟨us, M, Q', _, r, hs, _⟩ => by rw [← r.length]; exact len us M Q' hs) (fun cdv A outer s H vs Q E hr ⟨us, M, Q', rm, r, hs, c⟩ => ?_), hm, F.kp, F.binds bind, .nil, fun H M => .nil⟩
  refine ⟨t0, h1 _ ⟨rfl, rfl, rfl, rfl, rfl, rfl, rfl, hr, rfl, rfl, fun _ _ => rfl, fun h => absurd rfl h, fun _ => ⟨rfl, rfl, rfl⟩⟩, ?_⟩
  refine h2 _ (startU N us) H M _ (start_rel r) rm (q us M Q' hs) _ ⟨fun σ τ H1 M1 s1 rm1 rs1 q1 => ?_, fun u v H1 M1 s1 rm1 ru q1 => rtU.ok c s1 rm1 ru q1, fun _ _ _ _ _ _ _ z => z.elim, fun _ _ _ _ _ _ _ z => z.elim⟩
  exact rtU.ok c s1 rm1 relU_non q1
end
end U2
namespace U2
open PySem L2
theorem isi_NoneType_bool : under2 "NoneType" "bool" = some false := by decide +kernel
theorem isi_NoneType_int : under2 "NoneType" "int" = some false := by decide +kernel
theorem isi_NoneType_str : under2 "NoneType" "str" = some false := by decide +kernel
theorem isi_NoneType_tuple : under2 "NoneType" "tuple" = some false := by decide +kernel
theorem isi_NoneType_list : under2 "NoneType" "list" = some false := by decide +kernel
theorem isi_NoneType_dict : under2 "NoneType" "dict" = some false := by decide +kernel
theorem isi_bool_bool : under2 "bool" "bool" = some true := by decide +kernel
theorem isi_bool_int : under2 "bool" "int" = some true := by decide +kernel
theorem isi_bool_str : under2 "bool" "str" = some false := by decide +kernel
theorem isi_bool_tuple : under2 "bool" "tuple" = some false := by decide +kernel
theorem isi_bool_list : under2 "bool" "list" = some false := by decide +kernel
theorem isi_bool_dict : under2 "bool" "dict" = some false := by decide +kernel
theorem isi_int_bool : under2 "int" "bool" = some false := by decide +kernel
theorem isi_int_int : under2 "int" "int" = some true := by decide +kernel
theorem isi_int_str : under2 "int" "str" = some false := by decide +kernel
theorem isi_int_tuple : under2 "int" "tuple" = some false := by decide +kernel
theorem isi_int_list : under2 "int" "list" = some false := by decide +kernel
theorem isi_int_dict : under2 "int" "dict" = some false := by decide +kernel
theorem isi_str_bool : under2 "str" "bool" = some false := by decide +kernel
theorem isi_str_int : under2 "str" "int" = some false := by decide +kernel
theorem isi_str_str : under2 "str" "str" = some true := by decide +kernel
theorem isi_str_tuple : under2 "str" "tuple" = some false := by decide +kernel
theorem isi_str_list : under2 "str" "list" = some false := by decide +kernel
theorem isi_str_dict : under2 "str" "dict" = some false := by decide +kernel
theorem isi_tuple_bool : under2 "tuple" "bool" = some false := by decide +kernel
theorem isi_tuple_int : under2 "tuple" "int" = some false := by decide +kernel
theorem isi_tuple_str : under2 "tuple" "str" = some false := by decide +kernel
theorem isi_tuple_tuple : under2 "tuple" "tuple" = some true := by decide +kernel
theorem isi_tuple_list : under2 "tuple" "list" = some false := by decide +kernel
theorem isi_tuple_dict : under2 "tuple" "dict" = some false := by decide +kernel
theorem isi_list_bool : under2 "list" "bool" = some false := by decide +kernel
theorem isi_list_int : under2 "list" "int" = some false := by decide +kernel
theorem isi_list_str : under2 "list" "str" = some false := by decide +kernel
theorem isi_list_tuple : under2 "list" "tuple" = some false := by decide +kernel
theorem isi_list_list : under2 "list" "list" = some true := by decide +kernel
theorem isi_list_dict : under2 "list" "dict" = some false := by decide +kernel
theorem isi_dict_bool : under2 "dict" "bool" = some false := by decide +kernel
theorem isi_dict_int : under2 "dict" "int" = some false := by decide +kernel
theorem isi_dict_str : under2 "dict" "str" = some false := by decide +kernel
theorem isi_dict_tuple : under2 "dict" "tuple" = some false := by decide +kernel
theorem isi_dict_list : under2 "dict" "list" = some false := by decide +kernel
theorem isi_dict_dict : under2 "dict" "dict" = some true := by decide +kernel
theorem rt_same {Q : UK} {u : U} {M : MHp} (q : Q u M) : rtU Q u M := ⟨u, M, Sub.refl M, .inl rfl, q⟩
theorem uComp_pure {o : Bool} {k : Nat} {ix : List Nat} {wi : UI} {g : UG} {tc : UT} {te : UE} {τ : SU} {M M1 : MHp} {Q : UK} {S : Src} (f : U → Option U) (hw : ∀ R : Src → MHp → Prop, R S M1 → wi τ M R) (hz : S.xs.length ≤ sizeLine) (hs : S.ok M1)
    (h : ∀ x ∈ S.xs, ∀ M, Sub M1 M → ∀ R : Option U → MHp → Prop, R (f x) M → g x (capt k ix τ) M fun τ2 M2 => tc τ2 M2 fun ok M3 => if ok = true then te τ2 M3 fun y M4 => R (some y) M4 else R none M3)
    (q : mkL o (S.xs.filterMap f) M1 Q) : uComp o k ix wi g tc te τ M Q := hw _ (comp_pure (wi := wi) f hz hs h q)
theorem for_by {wi : UI} {g : UG} {tb : US} {D : UEnds} {τ : SU} {M M1 : MHp} {S : Src} (hw : ∀ R : Src → MHp → Prop, R S M1 → wi τ M R) (P : Nat → SU → MHp → Prop) (h0 : P 0 τ M1) (hok : ∀ i τ M, P i τ M → S.ok M)
    (turn : ∀ i x τ M, S.xs[i]? = some x → P i τ M → g x τ M fun τ2 M2 => tb { D with nx := P (i + 1), ct := P (i + 1), bk := D.nx } τ2 M2) (fin : ∀ τ M, P S.xs.length τ M → D.nx τ M) : uFor wi g tb D τ M := hw _ ⟨P, h0, hok, turn, fin⟩
theorem while_by {c : UT} {tb : US} {D : UEnds} {τ : SU} {M : MHp} (P : SU → MHp → Prop) (μ : SU → MHp → Nat) (h0 : P τ M)
    (turn : ∀ τ M, P τ M → c τ M fun b M1 => if b = true then tb { D with nx := fun τ' M' => P τ' M' ∧ μ τ' M' < μ τ M, ct := fun τ' M' => P τ' M' ∧ μ τ' M' < μ τ M, bk := D.nx } τ M1 else D.nx τ M1) : uWhile c tb D τ M := ⟨P, μ, h0, turn⟩
end U2
namespace U2
open PySem PySem.Spec PyProof.Rows L2
inductive Fl where
  | int (i : Int) | str (x : Str)
def Fl.d : Fl → PyData
  | .int i => .int i
  | .str x => .str x
def Fl.u : Fl → U
  | .int i => .int i
  | .str x => .str x
def Fl.v : Fl → V
  | .int i => .int i
  | .str x => .str x
def tabD (T : List (Str × Fl)) : List (PyData × PyData) := T.map fun p => (PyData.str p.1, p.2.d)
def tabGet : List (Str × Fl) → Str → Option Fl
  | [], _ => none
  | (a, b) :: r, z => if a = z then some b else tabGet r z
structure IsTab (P : Program) (w : World) (K : PySem.W.Frag) (d : Addr) (T : List (Str × Fl)) : Prop where
  at_ : ∀ h : Heap, K.In h → StrTab P w h d (tabD T)
theorem sameS (a b : Str) : same (.str a) (.str b) = decide (a = b) := by
  by_cases h : a = b <;> simp [same, h]
theorem lookup_tab : ∀ (T : List (Str × Fl)) (z : Str), PySem.Spec.lookup (.str z) (tabD T) = (tabGet T z).map Fl.d
  | [], _ => rfl
  | (a, b) :: r, z => by
    have ih := lookup_tab r z
    show (if same (.str a) (.str z) = true then some b.d else PySem.Spec.lookup (.str z) (tabD r)) = ((if a = z then some b else tabGet r z).map Fl.d)
    rw [sameS]
    by_cases e : a = z
    · rw [if_pos (decide_eq_true e), if_pos e]; rfl
    · rw [if_neg (by simpa using e), if_neg e, ih]
def tabP (T : List (Str × Fl)) : List (Str × PyData) := T.map fun p => (p.1, p.2.d)
theorem tab_of {P : Program} {w : World} {K : PySem.W.Frag} {d : Addr} {T : List (Str × Fl)} (n : ((tabP T).map (·.1)).Nodup) (e : KTD.tabLook KTD.flatLooks (fun b => K.lookup b) d (tabP T) = true) (q : KTD.hashesOf (fun b => K.lookup b) d = (tabP T).map fun p => (PySem.strKind P w).hash p.1) : IsTab P w K d T := ⟨fun h hK => by
  have := PySem.W.kt_tab_in P w hK e n q
  unfold tabP at this
  rw [List.map_map] at this
  exact this⟩
section
variable {X : Cx} {d : Addr} {T : List (Str × Fl)}
theorem op_inTab (t : IsTab X.prog X.w X.K d T) : OpR X (compareOp .In) (fun x y H Q => ∃ z, x = .str z ∧ y = .ref d ∧ Q (.bl (tabGet T z).isSome) H) := by
  intro pins s σ H x y v u Q I rx ry h
  obtain ⟨z, rfl, rfl, q⟩ := h
  obtain ⟨tk, rfl⟩ := rx
  cases ry
  refine in_strTab (t.at_ _ I.kIn) ?_
  rw [lookup_tab, Option.isSome_map]
  exact ⟨.bl _, H, I.tok _, rfl, q⟩
theorem op_notInTab (t : IsTab X.prog X.w X.K d T) : OpR X (compareOp .NotIn) (fun x y H Q => ∃ z, x = .str z ∧ y = .ref d ∧ Q (.bl (!(tabGet T z).isSome)) H) := by
  intro pins s σ H x y v u Q I rx ry h
  obtain ⟨z, rfl, rfl, q⟩ := h
  obtain ⟨tk, rfl⟩ := rx
  cases ry
  refine notin_strTab (t.at_ _ I.kIn) ?_
  rw [lookup_tab, Option.isSome_map]
  exact ⟨.bl _, H, I.tok _, rfl, q⟩
theorem flat_fl {f : Fl} {v : Value} (h : PyProof.V.Flat v f.d) : RelV f.v v := by
  have := h default
  cases f with
  | int i => cases this; exact ⟨_, rfl⟩
  | str i => cases this; exact ⟨_, rfl⟩
theorem pe_dix {x : Str} {px pos : Pos} {b : Expr} {ta tb : TE} (t : IsTab X.prog X.w X.K d T) (ha : PE X (.Name x px) ta) (hb : PE X b tb) (hs : PlainIx b) :
    PE X (.Subscript (.Name x px) b pos) (tOp (fun x y H Q => ∃ z f, x = .ref d ∧ y = .str z ∧ tabGet T z = some f ∧ Q f.v H) ta tb) := by
  intro pins s σ H Q I h
  refine Subscript_ (binT ha hb I h fun v u s2 x' y H2 I2 rx ry q => ?_)
  obtain ⟨z, f, rfl, rfl, e, q⟩ := q
  cases rx
  obtain ⟨tk, rfl⟩ := ry
  exact item_strTab (t.at_ _ I2.kIn) (dv := f.d) (by rw [lookup_tab, e]; rfl) (fun v hv => ⟨f.v, H2, I2.tok _, flat_fl hv, q⟩) (hs _ _) (fun r => rfl)
end
section
variable {D : Dat} {d : Addr} {T : List (Str × Fl)}
abbrev Tab (D : Dat) := IsTab D.prog D.w D.K
def inTab (d : Addr) (T : List (Str × Fl)) (neg : Bool) : UR2 := fun x y M Q => match x with
  | .str z => y = .ref d ∧ Q (.bl (if neg then !(tabGet T z).isSome else (tabGet T z).isSome)) M
  | _ => False
theorem k_inTab (t : Tab D d T) : Cmp D .In (inTab d T false) := ⟨⟨_, fun X h => op_inTab (by rw [h.prog, h.w, h.K]; exact t), fun x y u w H M Q' rm ru rw h Q c => by
  cases u with
  | str z => obtain ⟨rfl, h⟩ := h; exact ⟨z, ru.str, rw.ref, c.here rm relU_bl h⟩
  | _ => exact h.elim⟩⟩
theorem k_notInTab (t : Tab D d T) : Cmp D .NotIn (inTab d T true) := ⟨⟨_, fun X h => op_notInTab (by rw [h.prog, h.w, h.K]; exact t), fun x y u w H M Q' rm ru rw h Q c => by
  cases u with
  | str z => obtain ⟨rfl, h⟩ := h; exact ⟨z, ru.str, rw.ref, c.here rm relU_bl h⟩
  | _ => exact h.elim⟩⟩
def ixTab (d : Addr) (T : List (Str × Fl)) : UR2 := fun x y M Q => match y with
  | .str z => x = .ref d ∧ match tabGet T z with
    | some f => Q f.u M
    | none => False
  | _ => False
theorem fl_rel {K : PySem.W.Frag} {H : Hp} {M : MHp} (f : Fl) : RelU K H M f.u f.v := by cases f; exact relU_int; exact relU_str
theorem ue_dix {x : Str} {px pos : Pos} {b : Expr} {ta tb : UE} (t : Tab D d T) (ha : PEU D (.Name x px) ta) (hb : PEU D b tb) (hs : PlainIx b := by intro _ _; rfl) : PEU D (.Subscript (.Name x px) b pos) (uOp (ixTab d T) ta tb) := by
  obtain ⟨_, p, s⟩ := ha; obtain ⟨_, q, r⟩ := hb
  refine ⟨_, fun X h => pe_dix (d := d) (T := T) (by rw [h.prog, h.w, h.K]; exact t) (p X h) (q X h) hs, sim_op (fun x y u w H M Q' rm ru rw h Q c => ?_) s r⟩
  cases w with
  | str z =>
    obtain ⟨rfl, h⟩ := h
    cases e : tabGet T z with
    | none => rw [e] at h; exact h.elim
    | some f => rw [e] at h; exact ⟨z, f, ru.ref, rw.str, e, c.here rm (fl_rel f) h⟩
  | _ => exact h.elim
def tCallV (i : Nat) (f : Addr) (sp : Sp) (t : TA) : TE := fun σ H Q => tVar i σ H fun v H1 => v = .ref f ∧ t σ H1 fun vs H2 => sp vs H2 Q E0
structure CalleeAt (P : Program) (w : World) (K : PySem.W.Frag) (mg : Str → Option Value) (base : Heap) (j : Nat) (f : Addr) (sp : USp) : Prop where
  ex : ∃ fd ps, FnOk P w K mg base CX0 j f fd ps (liftSp K sp) ∧ PySem.W.keepIn K (.ref f) = true ∧ Binds K fd ps []
def uCallV (i : Nat) (f : Addr) (sp : USp) (t : UA) : UE := fun τ M Q => uVar i τ M fun v M1 => v = .ref f ∧ t τ M1 fun us M2 => sp us M2 Q
end
end U2
namespace U2
open PySem PySem.Spec PyProof.Rows L2
def half (j : Int) : Nat := ((j + 1) / 2).toNat
theorem size_two {j : Int} (h : 0 ≤ j) : Builtin.Range.rangeSize 0 j 2 = (half j : Nat) := by
  unfold Builtin.Range.rangeSize half
  simp only [show (2 : Int) > 0 by decide, if_true]
  split <;> omega
def rangeU2 (n : Nat) : List U := (List.range n).map fun (k : Nat) => U.int ((k : Int) * 2)
theorem rangeU2_len (n : Nat) : (rangeU2 n).length = n := by simp [rangeU2]
end U2
namespace U2
open PySem PySem.Spec PyProof.Rows L2
def rIndex (K : PySem.W.Frag) : V → List V → Hp → VK → Prop := fun x vs H Q => ∃ p xs y j, x = .ref p ∧ vs = [y] ∧ SqL K H p xs ∧ flatV y = true ∧ xs.all flatV = true ∧ (∃ z, xs[j]? = some z ∧ eqV z y = true) ∧ (∀ m z, m < j → xs[m]? = some z → eqV z y = false) ∧ Q (.int (j : Nat)) H
theorem mt_index {X : Cx} : MtM X "list.index" (rIndex X.K) := by
  intro pins s σ H x vs v us Q I rx rv h
  obtain ⟨p, xs, y, j, rfl, rfl, hq, fy, fs, ⟨z, hz1, hz2⟩, hno, q⟩ := h
  cases rx
  obtain ⟨u, rfl, ru⟩ := rv.one
  obtain ⟨its, r, pl, hz⟩ := I.list hq
  obtain ⟨⟨cls, dd, data, sl⟩, n, ho, hc, _, hd⟩ := pl
  simp only at hc hd
  subst hc hd
  have hl := r.length
  have hj : j < xs.length := (List.getElem?_eq_some_iff.mp hz1).1
  have hji : j < its.toArray.size := by rw [List.size_toArray]; omega
  have at_ : ∀ (m : Nat) (hm : m < its.toArray.size) z, xs[m]? = some z → eqU y its.toArray[m] = eqV z y := fun m hm z e => by
    obtain ⟨w', h1, h2⟩ := r.get e
    have : its.toArray[m] = w' := by
      have h3 : its[m]? = some w' := h1
      have hm' : m < its.length := by simpa using hm
      rw [List.getElem?_eq_getElem hm'] at h3
      simpa using Option.some.inj h3
    rw [this]
    exact eqU_of h2 (by
      have := List.all_eq_true.mp fs z (List.mem_of_getElem? e)
      exact this)
  refine call_meets F.slot_list_index ⟨_, ho, rfl⟩ F.entry_list_index (F.args_list_index_2 _ _)
    (SeqAt.list_indexAt p its.toArray n dd sl u (eqU y) j hji (by have := line63; omega) (by rw [at_ j hji z hz1]; exact hz2) (fun m hm hmj => ?_)) ⟨ho, fun w' hw => mem_eqAt ru fy r fs w' (by simpa using hw), ?_⟩
  · have hx : xs[m]? = some xs[m] := by simp [show m < xs.length by omega]
    rw [at_ m hm _ hx]
    exact hno m _ hmj hx
  · exact ⟨.int j, H, I.tok _, ⟨_, rfl⟩, q⟩
def strsU : List U → Option (List Str)
  | [] => some []
  | .str b :: r => (strsU r).map (b :: ·)
  | _ => none
theorem strsU_rel {K : PySem.W.Frag} {H : Hp} {M : MHp} : ∀ {us : List U} {vs : List V} {bs : List Str}, RelUs K H M us vs → strsU us = some bs → vs = bs.map V.str
  | [], _, _, r, h => by cases h; exact r.inv_nil
  | u :: us, _, bs, r, h => by
    obtain ⟨v, vs', rfl, a, b⟩ := r.inv_cons
    cases u with
    | str y =>
      simp only [strsU] at h
      cases e : strsU us with
      | none => rw [e] at h; cases h
      | some cs =>
        rw [e] at h
        cases h
        rw [strsU_rel b e, a.str]; rfl
    | _ => cases h
def mIndex : U → List U → MHp → UK → Prop := fun x ws M Q => match view M x, ws with
  | .lst us, [.str w] => ∃ (ss : List Str) (j : Nat), strsU us = some ss ∧ ss[j]? = some w ∧ (∀ m z, m < j → ss[m]? = some z → z ≠ w) ∧ Q (.int (j : Nat)) M
  | _, _ => False
theorem sim_index {K : PySem.W.Frag} : SimMt K (rIndex K) mIndex := fun x xs u us H M Q' rm ru rus h Q c => by
  unfold mIndex at h
  split at h
  · rename_i ws w e
    obtain ⟨ss, j, h1, h2, h3, h4⟩ := h
    obtain ⟨a, vs, rfl, s2, r2⟩ := view_lst rm ru e
    rw [strsU_rel r2 h1] at s2
    obtain ⟨v, rfl, a1⟩ := rus.one
    cases a1.str
    refine ⟨a, _, _, j, rfl, rfl, s2, rfl, by simp [flatV], ⟨.str w, by rw [List.getElem?_map, h2]; rfl, by simp [eqV]⟩, fun m z hm hz => ?_, c.here rm relU_int h4⟩
    rw [List.getElem?_map] at hz
    cases e3 : ss[m]? with
    | none => rw [e3] at hz; cases hz
    | some y =>
      rw [e3] at hz
      cases hz
      have := h3 m y hm e3
      simp [eqV, this]
  · exact h.elim
theorem ue_index {D : Dat} {o e : Expr} {ta : UE} {tas : UA} {pos apos : Pos} (ho : PEU D o ta) (ha : PAU D [e] tas) (hbase : ∀ env, attributeBase o "index" env (eval o env) = eval o env := by intro _; rfl)
    (hfew : ∀ env, ((backTo pos (starEach [e] env)).all (fun x => !x.1) && (backToKw pos (keywordEach [] env)).all (fun x => x.1.isSome) && decide ([e].length + ([] : List Keyword).length + (if ([] : List Keyword).isEmpty then 0 else 1) < 30)) = true := by intro _; rfl)
    (hline : (apos.endLine == pos.line) = true := by rfl) (hs : ∀ env, starEach [e] env = [(false, eval e env)] := by intro _; rfl) : PEU D (.Call (.Attribute o "index" apos) [e] [] pos) (uBM mIndex ta tas) := by
  obtain ⟨_, p, s⟩ := ho; obtain ⟨_, q, r⟩ := ha
  refine ⟨_, fun X h => ?_, sim_bm sim_index s r⟩
  have := pe_bm (cpos := pos) (apos := apos) PySem.F.plainAttrs_list PySem.F.slot_list_index PySem.F.type_list_index mt_index (p X h) (q X h) (hbase _) (hfew _) hline (hs _) (by rfl)
  rw [h.K] at this
  exact this
end U2
namespace U2
open PySem L2
theorem at0 {α : Type} {a : α} {r : List α} : atI (a :: r) 0 = some a := atI_nat (j := 0) rfl
theorem at1 {α : Type} {a b : α} {r : List α} : atI (a :: b :: r) 1 = some b := atI_nat (j := 1) rfl
theorem at2 {α : Type} {a b c : α} {r : List α} : atI (a :: b :: c :: r) 2 = some c := atI_nat (j := 2) rfl
theorem at3 {α : Type} {a b c d : α} {r : List α} : atI (a :: b :: c :: d :: r) 3 = some d := atI_nat (j := 3) rfl
theorem atI_ex {α : Type} (l : List α) (i : Int) (h0 : 0 ≤ i) (h1 : i < l.length) : ∃ c, atI l i = some c := by
  have hl : i.toNat < l.length := by omega
  refine ⟨l[i.toNat], ?_⟩
  have e : ((i.toNat : Nat) : Int) = i := by omega
  have q := atI_nat (xs := l) (j := i.toNat) (v := l[i.toNat]) (by simp [hl])
  rw [e] at q
  exact q
theorem gl_1 {α : Type} (l : List α) (a : α) : (l ++ [a]).getLast? = some a := by simp
theorem dl_1 {α : Type} (l : List α) (a : α) : (l ++ [a]).dropLast = l := List.dropLast_concat
theorem cut1 {α : Type} (a : α) (r : List α) : cutU (a :: r) (some 1) none = r := by
  unfold cutU
  simp [HT.sIx]
  try omega
theorem vw_non {M : MHp} : view M .non = .non := rfl
theorem vw_bl {M : MHp} {x : Bool} : view M (.bl x) = .bl x := rfl
theorem vw_int {M : MHp} {x : Int} : view M (.int x) = .int x := rfl
theorem vw_str {M : MHp} {x : Str} : view M (.str x) = .str x := rfl
theorem vw_tup {M : MHp} {x : List U} : view M (.tup x) = .tup x := rfl
theorem vw_lst {M : MHp} {x : List U} : view M (.lst x) = .lst x := rfl
theorem vw_own {M : MHp} {p : Addr} {us : List U} : view (mup M p (.lst us)) (.ref p) = .lst us := view_ref mup_same
theorem isL_own {M : MHp} {p : Addr} {us : List U} : isL (mup M p (.lst us)) (.ref p) := ⟨us, vw_own⟩
theorem Sub.none {M M' : MHp} {p : Addr} (h : Sub M M') (hp : M' p = none) : M p = none := by
  cases e : M p with
  | none => rfl
  | some o => rw [h p o e] at hp; cases hp
theorem uComp_list {o : Bool} {k : Nat} {ix : List Nat} {wi : UI} {g : UG} {te : UE} {τ : SU} {M M1 : MHp} {Q : UK} {S : Src} (zs : List U) (hw : ∀ R : Src → MHp → Prop, R S M1 → wi τ M R) (hl : zs.length = S.xs.length) (hz : S.xs.length ≤ sizeLine) (hs : S.ok M1)
    (h : ∀ (i : Nat) x y, S.xs[i]? = some x → zs[i]? = some y → ∀ M, Sub M1 M → ∀ R : UK, R y M → g x (capt k ix τ) M fun τ2 M2 => te τ2 M2 R)
    (q : mkL o zs M1 Q) : uComp o k ix wi g (fun _ M Q => Q true M) te τ M Q := by
  refine hw _ ⟨hz, fun D hD => ⟨fun i ys M => ys = zs.take i ∧ M = mup M1 D (.lst ys) ∧ i ≤ S.xs.length, ⟨by simp, rfl, Nat.zero_le _⟩, ?_, ?_, ?_⟩⟩
  · rintro i ys M ⟨rfl, rfl, hi⟩
    refine ⟨fun a e => ?_, mup_same, ?_⟩
    · have := hs a e
      rw [mup_ne (fun z => by subst z; rw [hD] at this; cases this)]
      exact this
    · rw [List.length_take]; omega
  · rintro i x ys M e ⟨rfl, rfl, hi⟩
    have hlt : i < S.xs.length := (List.getElem?_eq_some_iff.mp e).1
    have hy : zs[i]? = some zs[i] := by simp [show i < zs.length by omega]
    have tk : zs.take (i + 1) = zs.take i ++ [zs[i]] := by rw [List.take_add_one, hy]; rfl
    refine h i x zs[i] e hy (mup M1 D (.lst (zs.take i))) ((Sub.refl M1).mup hD) (fun y M4 => M4 D = some (.lst (zs.take i)) ∧ (zs.take i ++ [y] = zs.take (i + 1) ∧ mup M4 D (.lst (zs.take i ++ [y])) = mup M1 D (.lst (zs.take i ++ [y])) ∧ i + 1 ≤ S.xs.length)) ?_
    exact ⟨mup_same, tk.symm, mup_mup, hlt⟩
  · rintro ys M ⟨rfl, rfl, hi⟩
    rw [show zs.take S.xs.length = zs by rw [← hl]; exact List.take_length]
    cases o with
    | true => exact q D hD
    | false => exact ⟨M1, (Sub.refl M1).mup hD, hD, q⟩
end U2
namespace U2
open PySem PySem.Spec PyProof.Rows L2
section
variable {prog : Program} {w : World} {A : Around} {E : Value → Shared → Prop} {s : Shared}
end
def SqB (b : Bool) (K : PySem.W.Frag) (H : Hp) (a : Addr) (xs : List V) : Prop := match b with
  | true => SqL K H a xs
  | false => SqT K H a xs
def inB : Bool → String
  | true => "list_iterator"
  | false => "tuple_iterator"
theorem cls_ne {h : Heap} {b b' : Addr} {o o' : Obj} {n n' : String} (x : h.get? b = some o) (y : h.get? b' = some o') (p : o.cls = .type n) (q : o'.cls = .type n') (ne : n ≠ n') : b ≠ b' := fun z => by
  subst z; rw [x] at y; cases y; rw [p] at q; exact ne (Value.type.inj q)
theorem sqJ {X : Cx} {pins : List (Addr × Obj)} {σ : L2.St} {H : Hp} {s : Shared} {b : Bool} {a : Addr} {xs ys : List V} (I : L2.Inv X pins σ H s) (h : SqB b X.K H a xs) (h' : SqB b X.K H a ys) : xs = ys := by
  cases b
  · exact I.tuple_inj h h'
  · exact I.list_inj h h'
section
variable {prog : Program} {w : World} {A : Around} {E : Value → Shared → Prop} {s : Shared}
end
theorem inv_turnedLaid {X : Cx} {pins : List (Addr × Obj)} {σ : L2.St} {H : Hp} {s : Shared} {h' : Heap} {ch : List Addr} {T : Addr} {o : HO} {tk : Nat} (I : L2.Inv X pins σ H s) (hf : ∀ b ∈ ch, FpOk X pins H b)
    (k : ∀ b o, b ∉ ch → s.heap.get? b = some o → h'.get? b = some o) (hT : s.heap.objs.size ≤ T) (new : ObjOk X.prog X.w (upd H T o) h' T o) : L2.Inv X pins σ (upd H T o) { s with heap := h', toks := tk } := by
  have hn : H T = none := I.hok.fresh hT
  refine I.call' (ch := ch) (H' := upd H T o) rfl ⟨fun b u q n hb hx => k b u hx q, fun b u q n hb hx => ⟨u.slots, k b u hx q⟩, fun b u q n hx => ?_, fun b u q hx => ⟨u, k b u hx q⟩, fun b xs q => by rw [upd_ne (ne_of_none q hn)]; exact q, fun b u xs q => by rw [upd_ne (ne_of_none q hn)]; exact q,
    fun b ps q => ⟨#[], by rw [upd_ne (ne_of_none q hn), q]; simp⟩⟩ (fun a u e => ?_) I.bare fun b hb => ⟨(hf b hb).2.2.2.1, (hf b hb).2.1, (hf b hb).2.2.2.2.1, (hf b hb).2.2.2.2.2⟩
  · rw [upd_ne (Nat.ne_of_lt (Nat.lt_of_lt_of_le (Heap.lt_size q) hT))]; exact n
  · by_cases ha : a = T
    · subst ha; rw [upd_same] at e; cases e; exact new
    · rw [upd_ne ha] at e
      refine (I.hok a u e).stay (fun b z hb q => k b z (fun hc => ?_) q) (fun c q => by rw [upd_ne (ne_of_none q hn)]; exact q) fun c xs q => by rw [upd_ne (ne_of_none q hn)]; exact q
      have hnone := (hf b hc).1
      rcases hb with rfl | hb
      · rw [hnone] at e; cases e
      · rw [hnone] at hb; cases hb
def numbered (us : List U) : List U := us.zipIdx.map fun p => .tup [.int (p.2 : Nat), p.1]
theorem numbered_len (us : List U) : (numbered us).length = us.length := by simp [numbered]
theorem numbered_get {us : List U} {i : Nat} {x : U} (h : (numbered us)[i]? = some x) : ∃ u, us[i]? = some u ∧ x = .tup [.int i, u] := by
  simp only [numbered, List.getElem?_map, List.getElem?_zipIdx] at h
  cases e : us[i]? with
  | none => rw [e] at h; simp at h
  | some u => rw [e] at h; simp at h; exact ⟨u, rfl, h.symm⟩
def uEnum (ta : UA) : UI := fun τ M R => ta τ M fun us M1 => match us with
  | [.tup us] => R ⟨none, numbered us⟩ M1
  | _ => False
def uEnumL (ta : UA) : UI := fun τ M R => ta τ M fun us M1 => match us with
  | [.lst us] => R ⟨none, numbered us⟩ M1
  | _ => False
end U2
namespace U2
open PySem PySem.Spec PyProof.Rows L2
mutual
def DatV (K : PySem.W.Frag) (H : Hp) : PyData → V → Prop
  | .none, v => v = .non
  | .bool b, v => v = .bl b
  | .int i, v => v = .int i
  | .str z, v => v = .str z
  | .list ds, v => ∃ a xs, v = .ref a ∧ SqL K H a xs ∧ DatVs K H ds xs
  | .tuple ds, v => ∃ a xs, v = .ref a ∧ SqT K H a xs ∧ DatVs K H ds xs
  | .dict _, _ => False
def DatVs (K : PySem.W.Frag) (H : Hp) : List PyData → List V → Prop
  | [], vs => vs = []
  | d :: ds, vs => ∃ v vs', vs = v :: vs' ∧ DatV K H d v ∧ DatVs K H ds vs'
end
mutual
theorem DatV.reads {X : Cx} {pins : List (Addr × Obj)} {σ : L2.St} {H : Hp} {s : Shared} (I : L2.Inv X pins σ H s) : ∀ {d : PyData} {v : V} {u : Value}, DatV X.K H d v → RelV v u → ∃ as, Reads s.heap u d as
  | .none, v, u, h, r => by simp only [DatV] at h; subst h; cases r; exact ⟨_, .none⟩
  | .bool b, v, u, h, r => by simp only [DatV] at h; subst h; cases r; exact ⟨_, .bool b⟩
  | .int i, v, u, h, r => by simp only [DatV] at h; subst h; obtain ⟨t, rfl⟩ := r; exact ⟨_, .int i t⟩
  | .str z, v, u, h, r => by simp only [DatV] at h; subst h; obtain ⟨t, rfl⟩ := r; exact ⟨_, .str z t⟩
  | .list ds, v, u, h, r => by
    simp only [DatV] at h
    obtain ⟨a, xs, rfl, q, hs⟩ := h
    cases r
    obtain ⟨its, rv, p, hz⟩ := I.list q
    obtain ⟨as, ra⟩ := DatVs.reads I hs rv
    obtain ⟨o, h1, h2, n, h3⟩ := p.isList
    exact ⟨_, .list h1 h2 h3 (by simpa using ra)⟩
  | .tuple ds, v, u, h, r => by
    simp only [DatV] at h
    obtain ⟨a, xs, rfl, q, hs⟩ := h
    cases r
    obtain ⟨its, rv, p, hz⟩ := I.tuple q
    obtain ⟨as, ra⟩ := DatVs.reads I hs rv
    obtain ⟨o, h1, h2, n, h3⟩ := (show s.heap.IsTuple a its.toArray from p)
    exact ⟨_, .tuple h1 h2 h3 (by simpa using ra)⟩
  | .dict _, v, u, h, r => by simp only [DatV] at h
theorem DatVs.reads {X : Cx} {pins : List (Addr × Obj)} {σ : L2.St} {H : Hp} {s : Shared} (I : L2.Inv X pins σ H s) : ∀ {ds : List PyData} {vs : List V} {us : List Value}, DatVs X.K H ds vs → Vals vs us → ∃ as, ReadsAll s.heap us ds as
  | [], vs, us, h, r => by simp only [DatVs] at h; subst h; cases r; exact ⟨_, .nil⟩
  | d :: ds, vs, us, h, r => by
    simp only [DatVs] at h
    obtain ⟨v, vs', rfl, h1, h2⟩ := h
    cases r with
    | cons r rr =>
      obtain ⟨as, ra⟩ := DatV.reads I h1 r
      obtain ⟨bs, rb⟩ := DatVs.reads I h2 rr
      exact ⟨_, .cons ra rb⟩
end
def rEqD (K : PySem.W.Frag) (neg : Bool) : R2 := fun x y H Q => ∃ d d', DatV K H d x ∧ DatV K H d' y ∧ d.canLay0 = true ∧ d'.canLay0 = true ∧ min d.depth d'.depth ≤ 64 ∧ Q (.bl (if neg then !PyData.eqv d d' else PyData.eqv d d')) H
theorem op_eqD {X : Cx} {k : Nat} (hr : Room k X.A) : OpR X (compareOp .Eq) (rEqD X.K false) := by
  intro pins s σ H x y v u Q I rx ry h
  obtain ⟨d, d', h1, h2, c1, c2, hd, q⟩ := h
  obtain ⟨as, ra⟩ := h1.reads I rx
  obtain ⟨bs, rb⟩ := h2.reads I ry
  exact SeqAt.compareEq_reads ra rb c1 c2 (by have := hr.units; omega) ⟨.bl _, H, I, rfl, q⟩
theorem op_neD {X : Cx} {k : Nat} (hr : Room k X.A) : OpR X (compareOp .NotEq) (rEqD X.K true) := by
  intro pins s σ H x y v u Q I rx ry h
  obtain ⟨d, d', h1, h2, c1, c2, hd, q⟩ := h
  obtain ⟨as, ra⟩ := h1.reads I rx
  obtain ⟨bs, rb⟩ := h2.reads I ry
  exact SeqAt.compareNe_reads ra rb c1 c2 (by have := hr.units; omega) ⟨.bl _, H, I, rfl, q⟩
mutual
def toD : U → Option PyData
  | .non => some .none
  | .bl b => some (.bool b)
  | .int i => some (.int i)
  | .str z => some (.str z)
  | .tup us => (toDs us).map .tuple
  | .lst us => (toDs us).map .list
  | .ty _ => none
  | .ref _ => none
  | .dic _ _ _ => none
def toDs : List U → Option (List PyData)
  | [] => some []
  | u :: us => match toD u, toDs us with
    | some d, some ds => some (d :: ds)
    | _, _ => none
end
def topD (M : MHp) (u : U) : Option PyData := match u with
  | .ref a => match M a with
    | some (.lst us) => (toDs us).map .list
    | _ => none
  | u => toD u
mutual
theorem toD_rel {K : PySem.W.Frag} {H : Hp} {M : MHp} : ∀ {u : U} {v : V} {d : PyData}, RelU K H M u v → toD u = some d → DatV K H d v
  | .non, v, d, r, e => by simp only [toD, Option.some.injEq] at e; subst e; simp only [DatV]; exact r.non
  | .bl b, v, d, r, e => by simp only [toD, Option.some.injEq] at e; subst e; simp only [DatV]; exact r.bl
  | .int i, v, d, r, e => by simp only [toD, Option.some.injEq] at e; subst e; simp only [DatV]; exact r.int
  | .str i, v, d, r, e => by simp only [toD, Option.some.injEq] at e; subst e; simp only [DatV]; exact r.str
  | .tup us, v, d, r, e => by
    simp only [toD] at e
    cases e2 : toDs us with
    | none => rw [e2] at e; simp at e
    | some ds =>
      rw [e2] at e; simp at e; subst e
      obtain ⟨a, vs, rfl, q, rs⟩ := r.tup
      simp only [DatV]
      exact ⟨a, vs, rfl, q, toDs_rel rs e2⟩
  | .lst us, v, d, r, e => by
    simp only [toD] at e
    cases e2 : toDs us with
    | none => rw [e2] at e; simp at e
    | some ds =>
      rw [e2] at e; simp at e; subst e
      obtain ⟨a, vs, rfl, q, rs⟩ := r.lst
      simp only [DatV]
      exact ⟨a, vs, rfl, q, toDs_rel rs e2⟩
  | .ty _, v, d, r, e => by simp [toD] at e
  | .ref _, v, d, r, e => by simp [toD] at e
  | .dic _ _ _, v, d, r, e => by simp [toD] at e
theorem toDs_rel {K : PySem.W.Frag} {H : Hp} {M : MHp} : ∀ {us : List U} {vs : List V} {ds : List PyData}, RelUs K H M us vs → toDs us = some ds → DatVs K H ds vs
  | [], vs, ds, r, e => by simp only [toDs, Option.some.injEq] at e; subst e; simp only [DatVs]; exact r.inv_nil
  | u :: us, vs, ds, r, e => by
    obtain ⟨v, vs', rfl, a, b⟩ := r.inv_cons
    simp only [toDs] at e
    cases e1 : toD u with
    | none => rw [e1] at e; simp at e
    | some d =>
      cases e2 : toDs us with
      | none => rw [e1, e2] at e; simp at e
      | some ds' =>
        rw [e1, e2] at e; simp at e; subst e
        simp only [DatVs]
        exact ⟨v, vs', rfl, toD_rel a e1, toDs_rel b e2⟩
end
theorem topD_rel {K : PySem.W.Frag} {H : Hp} {M : MHp} {u : U} {v : V} {d : PyData} (rm : RelM K H M) (r : RelU K H M u v) (e : topD M u = some d) : DatV K H d v := by
  cases u with
  | ref a =>
    simp only [topD] at e
    split at e
    · rename_i us hM
      cases e2 : toDs us with
      | none => rw [e2] at e; simp at e
      | some ds =>
        rw [e2] at e; simp at e; subst e
        obtain ⟨vs, h1, rs⟩ := rm a _ hM
        cases r.ref
        simp only [DatV]
        exact ⟨a, vs, rfl, .inl (.inl h1), toDs_rel rs e2⟩
    · cases e
  | _ => exact toD_rel r (by simpa only [topD] using e)
def uEqD (neg : Bool) : UR2 := fun x y M Q => ∃ d d', topD M x = some d ∧ topD M y = some d' ∧ d.canLay0 = true ∧ d'.canLay0 = true ∧ min d.depth d'.depth ≤ 64 ∧ Q (.bl (if neg then !PyData.eqv d d' else PyData.eqv d d')) M
theorem sim_eqD {K : PySem.W.Frag} {neg : Bool} : SimR2 K (rEqD K neg) (uEqD neg) := fun x y u w H M Q' rm ru rw h Q c => by
  obtain ⟨d, d', e1, e2, c1, c2, hd, q⟩ := h
  exact ⟨d, d', topD_rel rm ru e1, topD_rel rm rw e2, c1, c2, hd, c.here rm relU_bl q⟩
variable {D : Dat}
def flatU : U → Bool
  | .non => true
  | .bl _ => true
  | .int _ => true
  | .str _ => true
  | _ => false
def eqF : U → U → Bool
  | .non, .non => true
  | .bl a, .bl b => a == b
  | .bl a, .int j => (if a then 1 else 0) == j
  | .int i, .bl b => i == (if b then 1 else 0)
  | .int i, .int j => i == j
  | .str x, .str y => x == y
  | _, _ => false
def items (M : MHp) : U → Option (List U)
  | .tup us => some us
  | .lst us => some us
  | .ref a => match M a with
    | some (.lst us) => some us
    | _ => none
  | _ => none
def uIn (neg : Bool) : UR2 := fun x y M Q => match items M y with
  | some us => flatU x = true ∧ us.all flatU = true ∧ Q (.bl (if neg then !us.any (fun u => eqF u x) else us.any (fun u => eqF u x))) M
  | none => False
theorem flat_rel {K : PySem.W.Frag} {H : Hp} {M : MHp} {u : U} {v : V} (r : RelU K H M u v) (f : flatU u = true) : flatV v = true := by
  cases u with
  | non => cases r.non; rfl
  | bl b => cases r.bl; rfl
  | int b => cases r.int; rfl
  | str b => cases r.str; rfl
  | _ => exact absurd (show false = true from f) Bool.false_ne_true
theorem eqF_rel {K : PySem.W.Frag} {H : Hp} {M : MHp} {u w : U} {v x : V} (r : RelU K H M u v) (r' : RelU K H M w x) (f : flatU u = true) (f' : flatU w = true) : eqV v x = eqF u w := by
  cases u <;> (first | (cases r.non) | (cases r.bl) | (cases r.int) | (cases r.str) | exact absurd (show false = true from f) Bool.false_ne_true) <;> cases w <;>
    (first | (cases r'.non) | (cases r'.bl) | (cases r'.int) | (cases r'.str) | exact absurd (show false = true from f') Bool.false_ne_true) <;> rfl
theorem flats_rel {K : PySem.W.Frag} {H : Hp} {M : MHp} : ∀ {us : List U} {vs : List V}, RelUs K H M us vs → us.all flatU = true → vs.all flatV = true
  | [], vs, r, _ => by cases r.inv_nil; rfl
  | u :: us, vs, r, f => by
    obtain ⟨v, vs', rfl, a, b⟩ := r.inv_cons
    rw [List.all_cons, Bool.and_eq_true] at f ⊢
    exact ⟨flat_rel a f.1, flats_rel b f.2⟩
theorem inV_rel {K : PySem.W.Frag} {H : Hp} {M : MHp} {w : U} {x : V} (r' : RelU K H M w x) (f' : flatU w = true) : ∀ {us : List U} {vs : List V}, RelUs K H M us vs → us.all flatU = true → inV x vs = us.any fun u => eqF u w
  | [], vs, r, _ => by cases r.inv_nil; rfl
  | u :: us, vs, r, f => by
    obtain ⟨v, vs', rfl, a, b⟩ := r.inv_cons
    rw [List.all_cons, Bool.and_eq_true] at f
    have := inV_rel r' f' b f.2
    unfold inV at this ⊢
    rw [List.any_cons, List.any_cons, this, eqF_rel a r' f.1 f']
theorem items_rel {K : PySem.W.Frag} {H : Hp} {M : MHp} {u : U} {v : V} {us : List U} (rm : RelM K H M) (r : RelU K H M u v) (e : items M u = some us) : ∃ p xs, v = .ref p ∧ (SqL K H p xs ∨ SqT K H p xs) ∧ RelUs K H M us xs := by
  cases u with
  | tup us' => cases e; obtain ⟨a, vs, rfl, q, rs⟩ := r.tup; exact ⟨a, vs, rfl, .inr q, rs⟩
  | lst us' => cases e; obtain ⟨a, vs, rfl, q, rs⟩ := r.lst; exact ⟨a, vs, rfl, .inl q, rs⟩
  | ref a =>
    simp only [items] at e
    split at e
    · rename_i us' hM
      cases e
      obtain ⟨vs, h1, rs⟩ := rm a _ hM
      exact ⟨a, vs, r.ref, .inl (.inl (.inl h1)), rs⟩
    · cases e
  | _ => cases e
theorem sim_in {K : PySem.W.Frag} {neg : Bool} : SimR2 K (rIn K neg) (uIn neg) := fun x y u w H M Q' rm ru rw h Q c => by
  unfold uIn at h
  split at h
  · rename_i us e
    obtain ⟨f, fs, q⟩ := h
    obtain ⟨p, xs, rfl, hs, rs⟩ := items_rel rm rw e
    refine ⟨p, xs, rfl, hs, flat_rel ru f, flats_rel rs fs, ?_⟩
    rw [inV_rel ru f rs fs]
    exact c.here rm relU_bl q
  · exact h.elim
theorem k_in : Cmp D .In (uIn false) := ⟨⟨_, fun X h => h.K ▸ op_in_seq, sim_in⟩⟩
theorem k_notIn : Cmp D .NotIn (uIn true) := ⟨⟨_, fun X h => h.K ▸ op_notIn_seq, sim_in⟩⟩
def uEqX (neg : Bool) : UR2 := fun x y M Q => match eqS x y with
  | some b => Q (.bl (if neg then !b else b)) M
  | none => uEqD neg x y M Q
theorem k_eqX : Cmp D .Eq (uEqX false) := ⟨⟨_, fun X h => h.K ▸ op_eq.or (op_eqD h.room), fun x y u w H M Q' rm ru rw h Q c => by
  unfold uEqX at h
  split at h
  · rename_i b e
    obtain ⟨h1, h2⟩ := eqS_rel ru rw e
    exact .inl ⟨h1, c.here rm (by rw [h2]; exact relU_bl) h⟩
  · exact .inr (sim_eqD x y u w H M Q' rm ru rw h Q c)⟩⟩
theorem k_neX : Cmp D .NotEq (uEqX true) := ⟨⟨_, fun X h => h.K ▸ op_ne.or (op_neD h.room), fun x y u w H M Q' rm ru rw h Q c => by
  unfold uEqX at h
  split at h
  · rename_i b e
    obtain ⟨h1, h2⟩ := eqS_rel ru rw e
    exact .inl ⟨h1, c.here rm (by rw [h2]; exact relU_bl) h⟩
  · exact .inr (sim_eqD x y u w H M Q' rm ru rw h Q c)⟩⟩
end U2
namespace U2
open PySem PySem.Spec PyProof.Rows L2
section
variable {prog : Program} {w : World} {A : Around} {E : Value → Shared → Prop} {s : Shared} {z TI TO i1 i2 : Addr} {f1 f2 : List Addr} {n1 n2 : Nat} {P1 P2 : Nat → Value → Prop} {S1 S2 : Nat → Heap → Prop} {i : Nat} {a b : Value}
end
abbrev zH1 (f : Bool) (h : Heap) (a : Addr) : Heap := h.push { cls := .type (inB f), data := .fields #[.ref a, .int 0 0] }
abbrev zH2 (f g : Bool) (h : Heap) (a c : Addr) : Heap := (zH1 f h a).push { cls := .type (inB g), data := .fields #[.ref c, .int 0 0] }
abbrev zH3 (f g : Bool) (h : Heap) (a c : Addr) : Heap := (zH2 f g h a c).push { cls := .type "tuple", data := .seq #[.ref h.objs.size, .ref (zH1 f h a).objs.size] }
abbrev zH4 (f g : Bool) (h : Heap) (a c : Addr) : Heap := (zH3 f g h a c).push { cls := .type "tuple", data := .seq #[.none, .none] }
abbrev zH5 (f g : Bool) (h : Heap) (a c : Addr) : Heap := (zH4 f g h a c).push { cls := .type "zip", data := .fields #[.none, .bool false, .bool false, .ref (zH2 f g h a c).objs.size, .ref (zH3 f g h a c).objs.size] }
def zipped : List U → List U → List U
  | u :: us, w :: ws => .tup [u, w] :: zipped us ws
  | _, _ => []
theorem zipped_len : ∀ us ws : List U, (zipped us ws).length = min us.length ws.length
  | [], ws => by simp [zipped]
  | _ :: _, [] => by simp [zipped]
  | u :: us, w :: ws => by simp only [zipped, List.length_cons, zipped_len us ws]; omega
def uZip (ta : UA) : UI := fun τ M R => ta τ M fun us M1 => match us with
  | [.tup us, .tup ws] => R ⟨none, zipped us ws⟩ M1
  | _ => False
end U2
namespace U2
open PySem PySem.Spec PyProof.Rows L2
theorem meets_extendL (l : Addr) (items : Array Value) (n : Nat) (b : Addr) (items2 : Array Value) (n2 : Nat) (dd : Option Addr) (sl : Array (Option Value)) (hc0 : ¬(!items.isEmpty && Builtin.List.listTooLong (items.size + items2.size)) = true) (hc1 : items.size ≤ sizeLine) (hs2 : items.size + items2.size ≤ sizeLine + 1) :
    Meets (Builtin.«list.extend» ⟨[.ref l, .ref b], []⟩) (fun _ R s => s.heap.get? l = some { cls := .type "list", dict := none, data := .seq items n, slots := #[] } ∧ s.heap.get? b = some { cls := .type "list", dict := dd, data := .seq items2 n2, slots := sl } ∧ R (.ok (.ret Value.none)) { s with heap := s.heap.update l (Obj.mapSeq fun x => x ++ items2), toks := s.toks }) :=
  .of_wp fun prog w A R s h => by
    obtain ⟨hp, g, d, tk, os⟩ := s; obtain ⟨hl, hb, h⟩ := h
    have f1 := PySem.AutoSeq1.idx_int; have f2 := PySem.AutoSeq1.sub_tuple_tuple; have f3 := PySem.AutoSeq1.sub_list_list; have f4 := PySem.AutoSeq1.sub_tuple_list; have f5 := PySem.AutoSeq1.sub_list_tuple
    have hz' : (items ++ items2).size ≤ sizeLine + 1 := by rw [Array.size_append]; exact hs2
    wp_walk using (wpAny_updateSeq hl rfl (hz := hc1) (_hz' := hz')), wpAny_loadPart' hl, wpAny_loadPart' hb
    exact ⟨_, rfl, h⟩
theorem mt_extendL {X : Cx} : MtM X "list.extend" (rExtendL X.K) := by
  intro pins s σ H x vs v us Q I rx rv h
  obtain ⟨l, b, xs, zs, rfl, rfl, hH, hB, hz, q⟩ := h
  cases rx
  obtain ⟨u, rfl, ru⟩ := rv.one
  cases ru
  obtain ⟨z, its, n, r, hl, e⟩ := I.lstM hH
  obtain ⟨its2, r2, ⟨⟨oc, od, odt, osl⟩, n2, e2, hc, hd, hdt⟩, hl2⟩ := I.list hB
  have hc' : oc = .type "list" := hc
  have hdt' : odt = .seq its2.toArray n2 := hdt
  subst hc' hdt'
  have l2 := r2.length
  have hsz : its.toArray.size + its2.toArray.size ≤ sizeLine := by rw [List.size_toArray, List.size_toArray]; omega
  have hlong : ¬ (!its.toArray.isEmpty && Builtin.List.listTooLong (its.toArray.size + its2.toArray.size)) = true := by
    rw [notLongL hsz, Bool.and_false]
    exact Bool.false_ne_true
  refine call_meets PySem.F.slot_list_extend ⟨_, e, rfl⟩ PySem.F.entry_list_extend (PySem.F.args_list_extend_2 _ _)
    (meets_extendL l its.toArray n b its2.toArray n2 od osl hlong (by rw [List.size_toArray]; omega) (by omega)) ⟨e, e2, ?_⟩
  refine ⟨.non, _, I.lset (its' := its ++ its2) hH e (by simp) (r.append r2) ?_, rfl, q⟩
  rw [List.length_append]
  omega
variable {D : Dat} {o e : Expr} {ta : UE} {tas : UA} {pos : Pos}
theorem ue_extend {apos : Pos} (ho : PEU D o ta) (ha : PAU D [e] tas) (hbase : ∀ env, attributeBase o "extend" env (eval o env) = eval o env := by intro _; rfl)
    (hfew : ∀ env, ((backTo pos (starEach [e] env)).all (fun x => !x.1) && (backToKw pos (keywordEach [] env)).all (fun x => x.1.isSome) && decide ([e].length + ([] : List Keyword).length + (if ([] : List Keyword).isEmpty then 0 else 1) < 30)) = true := by intro _; rfl)
    (hline : (apos.endLine == pos.line) = true := by rfl) (hs : ∀ env, starEach [e] env = [(false, eval e env)] := by intro _; rfl) : PEU D (.Call (.Attribute o "extend" apos) [e] [] pos) (uBM mExtend ta tas) := by
  obtain ⟨_, p, s⟩ := ho; obtain ⟨_, q, r⟩ := ha
  refine ⟨_, fun X h => ?_, sim_bm sim_extend s r⟩
  have := pe_bm (cpos := pos) (apos := apos) PySem.F.plainAttrs_list PySem.F.slot_list_extend PySem.F.type_list_extend mt_extendL (p X h) (q X h) (hbase _) (hfew _) hline (hs _) (by rfl)
  rw [h.K] at this
  exact this
end U2
namespace U2
open PySem PySem.Spec PyProof.Rows L2
def intsOf : List U → Option (List Int)
  | [] => some []
  | .int i :: us => (intsOf us).map (i :: ·)
  | _ :: _ => none
theorem intsOf_rel {K : PySem.W.Frag} {H : Hp} {M : MHp} : ∀ {us : List U} {vs : List V} {xs : List Int}, RelUs K H M us vs → intsOf us = some xs → vs = xs.map V.int
  | [], vs, xs, r, e => by cases e; exact r.inv_nil
  | u :: us, vs, xs, r, e => by
    obtain ⟨v, vs', rfl, a, b⟩ := r.inv_cons
    cases u with
    | int i =>
      simp only [intsOf] at e
      cases e2 : intsOf us with
      | none => rw [e2] at e; cases e
      | some ys => rw [e2] at e; cases e; rw [a.int, intsOf_rel b e2]; rfl
    | _ => cases e
def uLtX : UR2 := fun x y M Q => match x, y with
  | .int i, .int j => Q (.bl (decide (i < j))) M
  | .tup us, .tup ws => ∃ xs ys, intsOf us = some xs ∧ intsOf ws = some ys ∧ Q (.bl (HT.lexLt xs ys)) M
  | _, _ => False
variable {D : Dat}
theorem k_ltX : Cmp D .Lt uLtX := ⟨⟨_, fun X h => h.K ▸ op_lt.or (op_ltT h.room.units0), fun x y u w H M Q' rm ru rw h Q c => by
  unfold uLtX at h
  split at h
  · rename_i i j
    exact .inl (sim_bool2 (f := fun i j => decide (i < j)) x y (.int i) (.int j) H M Q' rm ru rw h Q c)
  · rename_i us ws
    obtain ⟨xs, ys, e1, e2, q⟩ := h
    obtain ⟨a, vs, rfl, s1, r1⟩ := ru.tup
    obtain ⟨a', vs', rfl, s2, r2⟩ := rw.tup
    cases intsOf_rel r1 e1
    cases intsOf_rel r2 e2
    exact .inr ⟨a, a', xs, ys, rfl, rfl, s1, s2, c.here rm relU_bl q⟩
  · exact h.elim⟩⟩
end U2
namespace U2
open PySem PySem.Spec PyProof.Rows L2
def maxI : Int → List Int → Int
  | m, [] => m
  | m, n :: ns => maxI (if n > m then n else m) ns
theorem maxI_ge : ∀ (ns : List Int) (m : Int), m ≤ maxI m ns ∧ ∀ n ∈ ns, n ≤ maxI m ns
  | [], m => ⟨Int.le_refl _, fun n h => by cases h⟩
  | k :: ns, m => by
    obtain ⟨h1, h2⟩ := maxI_ge ns (if k > m then k else m)
    have hk : m ≤ (if k > m then k else m) ∧ k ≤ (if k > m then k else m) := by split <;> omega
    simp only [maxI]
    refine ⟨by omega, fun n hn => ?_⟩
    rcases List.mem_cons.mp hn with rfl | hn
    · omega
    · exact h2 n hn
theorem maxI_mem : ∀ (ns : List Int) (m : Int), maxI m ns = m ∨ maxI m ns ∈ ns
  | [], m => .inl rfl
  | k :: ns, m => by
    simp only [maxI]
    rcases maxI_mem ns (if k > m then k else m) with h | h
    · by_cases hk : k > m
      · rw [if_pos hk] at h ⊢; exact .inr (by rw [h]; exact List.mem_cons_self)
      · rw [if_neg hk] at h ⊢; exact .inl h
    · exact .inr (List.mem_cons_of_mem _ h)
theorem maxI_is {m M : Int} {ns : List Int} (h1 : M = m ∨ M ∈ ns) (h2 : m ≤ M) (h3 : ∀ n ∈ ns, n ≤ M) : maxI m ns = M := by
  obtain ⟨g1, g2⟩ := maxI_ge ns m
  rcases maxI_mem ns m with e | e
  · rcases h1 with rfl | h1
    · exact e
    · have := g2 M h1; omega
  · have := h3 _ e
    rcases h1 with rfl | h1
    · omega
    · have := g2 M h1; omega
section
variable {X : Cx}
theorem call_maxL (hc : X.calm = true) : CallR X (.builtin "max") (fun xs H Q => ∃ p m ns, xs = [.ref p] ∧ SqL X.K H p ((m :: ns).map V.int) ∧ Q (.int (maxI m ns)) H) := by
  intro pins s σ H xs us Q I r h
  obtain ⟨p, m, ns, rfl, hq, q⟩ := h
  obtain ⟨u, rfl, rx⟩ := vals1 r
  cases rx
  obtain ⟨its, r', pl, hz⟩ := I.list hq
  have hi : IntsAre its (m :: ns) := intsAre_of r'
  obtain ⟨ys, e⟩ := hi.allInts.items
  have hns : (m :: ns) = ys.toList.map (·.1) := by
    rw [← hi.numsOf, ← nums_intItems, ← e]
  have hsz : 0 < ys.size := by
    have h3 : ns.length + 1 = ys.size := by have := congrArg List.length hns; simpa using this
    omega
  have hl := pl.isList
  rw [e] at hl
  refine max_intList (I.ok.hd hc) hl hsz fun v h' tk hv hk => ?_
  obtain ⟨t, rfl⟩ := intItems_at hv
  obtain ⟨h1, h2⟩ := argBest_gt (numAt ys) (ys.size - 1)
  have hM : maxI m ns = numAt ys (argBest (fun i j => decide (numAt ys i > numAt ys j)) (ys.size - 1)) := by
    have hin : numAt ys (argBest (fun i j => decide (numAt ys i > numAt ys j)) (ys.size - 1)) ∈ m :: ns := by
      rw [hns, numAt_eq]; exact getD_mem (by rw [List.length_map, Array.length_toList]; omega)
    have hge : ∀ a ∈ m :: ns, a ≤ numAt ys (argBest (fun i j => decide (numAt ys i > numAt ys j)) (ys.size - 1)) := fun a ha => by
      rw [hns] at ha
      obtain ⟨j, hj, rfl⟩ := mem_getD ha
      rw [List.length_map, Array.length_toList] at hj
      rw [← numAt_eq]; exact h2 j (by omega)
    exact maxI_is (List.mem_cons.mp hin) (hge m List.mem_cons_self) fun n hn => hge n (List.mem_cons_of_mem _ hn)
  exact ⟨.int (maxI m ns), H, I.kept hk, ⟨t, by rw [hM]⟩, q⟩
def bSum : List U → MHp → UK → Prop := fun us M Q => match us with
  | [x] => match view M x with
    | .lst ws => ∃ ns, intsOf ws = some ns ∧ PySem.SumFits ns ∧ Q (.int ns.sum) M
    | _ => False
  | _ => False
def bMax : List U → MHp → UK → Prop := fun us M Q => match us with
  | [.int i, .int j] => Q (.int (if j > i then j else i)) M
  | [x] => match view M x with
    | .lst ws => ∃ m ns, intsOf ws = some (m :: ns) ∧ Q (.int (maxI m ns)) M
    | _ => False
  | _ => False
theorem b_maxX {D : Dat} : Blt D (.builtin "max") bMax := ⟨⟨_, fun X h => by
    have := (call_max2 (X := X) h.calm).or (call_maxL h.calm); rw [h.K] at this; exact this, fun xs us H M Q' rm rus h Q c => by
  unfold bMax at h
  split at h
  · rename_i i j
    obtain ⟨v, z, rfl, a1, a2⟩ := rus.two
    cases a1.int; cases a2.int
    exact .inl ⟨i, j, rfl, c.here rm relU_int h⟩
  · rename_i x
    obtain ⟨v, rfl, a1⟩ := rus.one
    split at h
    · rename_i ws e
      obtain ⟨m, ns, e2, q⟩ := h
      obtain ⟨b, zvs, rfl, s2, r2⟩ := view_lst rm a1 e
      rw [intsOf_rel r2 e2] at s2
      exact .inr ⟨b, m, ns, rfl, s2, c.here rm relU_int q⟩
    · exact h.elim
  · exact h.elim⟩⟩
end
end U2
namespace U2
open PySem PySem.Spec PyProof.Rows L2
section
variable {D : Dat} {a b c e o i : Expr} {ta tb tc te to ti : UE} {pos p : Pos} {es : List Expr} {tas : UA} {x : Str}
def uSetI (te to ti : UE) : US := fun D τ M => te τ M fun v M1 => to τ M1 fun x M2 => ti τ M2 fun y M3 => match x, y with
  | .ref a, .int k => match M3 a with
    | some (.lst us) => ∃ j, ixN us.length k = some j ∧ D.nx τ (mup M3 a (.lst (us.set j v)))
    | _ => False
  | _, _ => False
theorem us_asub {tpos : Pos} (he : PEU D e te) (ho : PEU D o to) (hi : PEU D i ti) (hs : ∀ env, swapsWithSole [.Subscript o i tpos] e pos.line env = pure false := by intro _; rfl) (hw : ∀ env, swappedStores [.Subscript o i tpos] e env = pure none := by intro _; rfl)
    (h1 : ∀ env, (assignEach [.Subscript o i tpos] env).map (·.2) = [assign (.Subscript o i tpos) env] := by intro _; rfl)
    (ha : ∀ env v, assign (.Subscript o i tpos) env v = (do
      let ov ← holding [v] (eval o env)
      let iv ← holding [v, ov] (eval i env)
      standAt tpos
      holding [v, ov, iv] (setItem ov iv v)
      release [v, ov, iv] []) := by intro _ _; rfl) : PSU D (.Assign [.Subscript o i tpos] e pos) (uSetI te to ti) := by
  obtain ⟨_, p1, s1⟩ := he; obtain ⟨_, p2, s2⟩ := ho; obtain ⟨_, p3, s3⟩ := hi
  refine ⟨_, fun X h => ps_asg (p1 X h) (pg_sub (p2 X h) (p3 X h) set_list (ha _)) (hs _) (hw _) (h1 _), fun σ τ H M D' rs rm h EE d => ?_⟩
  refine s1 σ τ H M _ rs rm h _ fun v vv M1 H1 st1 rm1 rv h1 => ?_
  refine s2 σ τ H1 M1 _ (rs.stp st1) rm1 h1 _ fun x vx M2 H2 st2 rm2 rx h2 => ?_
  refine s3 σ τ H2 M2 _ ((rs.stp st1).stp st2) rm2 h2 _ fun y vy M3 H3 st3 rm3 ry h3 => ?_
  split at h3
  · rename_i a k
    split at h3
    · rename_i us e
      obtain ⟨j, hj, q⟩ := h3
      cases (rx.stp st3).ref
      cases ry.int
      obtain ⟨vs, hv, rus⟩ := rm3 a _ e
      have rv3 := (rv.stp st2).stp st3
      have st4 : Stp H3 M3 (upd H3 a (.lst (vs.set j vv))) (mup M3 a (.lst (us.set j v))) := Stp.write e
      have rnew : RelM D.K (upd H3 a (.lst (vs.set j vv))) (mup M3 a (.lst (us.set j v))) := rm3.put st4 ⟨_, upd_same, (RelUs.set rv3 j rus).stp st4⟩
      refine ⟨a, vs, k, j, rfl, rfl, hv, by rw [← rus.length]; exact hj, ?_⟩
      exact d.nx _ _ _ _ (((st1.trans st2).trans st3).trans st4) rnew ((((rs.stp st1).stp st2).stp st3).stp st4) q
    · exact h3.elim
  · exact h3.elim
def mPopAt : U → List U → MHp → UK → Prop := fun x ws M Q => match x, ws with
  | .ref a, [.int i] => match M a with
    | some (.lst us) => -(2 ^ 63) ≤ i ∧ i < 2 ^ 63 ∧ ∃ k y, seqIndex? i us.length = some k ∧ us[k]? = some y ∧ Q y (mup M a (.lst (us.eraseIdx k)))
    | _ => False
  | _, _ => False
def bInt : List U → MHp → UK → Prop := fun us M Q => match us with
  | [.int i] => Q (.int i) M
  | [.bl k] => Q (.int (if k then 1 else 0)) M
  | _ => False
def CMulB (i j : Int) : Prop := CMul i j ∨ (Builtin.Int.intBits i ≤ 60000000 ∧ Builtin.Int.intBits j ≤ 60000000)
theorem CMulB.ok {i j : Int} (h : CMulB i j) : IntMulOk i j := by
  rcases h with h | ⟨h1, h2⟩
  · exact h.ok
  · exact IntMulOk.of_le h1 h2 (by decide)
theorem op_mulB {X : Cx} : OpR X (binaryOp .Mult) (rI CMulB fun i j => .int (i * j)) := opI fun _ _ _ _ _ _ _ hc q => mul_int q hc.ok
def repS (z : Str) (n : Int) : Str := if n < 1 then Str.empty else if (n == 1 || z.length == 0) = true then z else ⟨(List.replicate n.toNat z.cps).foldl (· ++ ·) #[]⟩
theorem op_repS {X : Cx} : OpR X (binaryOp .Mult) (fun x y H Q => ∃ z n, x = .str z ∧ y = .int n ∧ -(2 ^ 63) ≤ n ∧ n < 2 ^ 20 ∧ z.length ≤ 2 ^ 20 ∧ z.length * n.toNat ≤ 100000 ∧ Q (.str (repS z n)) H) := by
  intro pins s σ H x y v u Q I rx ry h
  obtain ⟨z, n, rfl, rfl, h1, h2, h3, h4, q⟩ := h
  obtain ⟨t, rfl⟩ := rx
  obtain ⟨t', rfl⟩ := ry
  have e1 : (decide (n < -(2 ^ 63 : Int)) || decide (n ≥ 2 ^ 63)) = false := by
    rw [decide_eq_false (by omega), decide_eq_false (by omega)]; rfl
  refine PySem.P.mul_str e1 (fun g1 g2 => ?_) (fun g1 g2 => ?_) ?_
  · intro hh
    have hn : (1 : Int) ≤ n := by omega
    have e3 : (z.length : Int) * n = ((z.length * n.toNat : Nat) : Int) := by
      rw [Int.natCast_mul, Int.toNat_of_nonneg (by omega)]
    have := Int.le_ediv_of_mul_le (show (0 : Int) < n by omega) (show (z.length : Int) * n ≤ 2 ^ 63 - 1 by rw [e3]; omega)
    omega
  · unfold Builtin.Str.tooLong sizeLine
    exact decide_eq_false (by omega)
  · have hq : ∀ (t2 : Tok) k, EP X pins σ Q (.str (repS z n) t2) { s with toks := k } := fun t2 k => ⟨.str (repS z n), H, I.tok k, ⟨t2, rfl⟩, q⟩
    unfold repS at hq
    by_cases g1 : n < 1
    · rw [if_pos g1]
      simp only [if_pos g1] at hq
      exact ⟨by decide, hq _ _⟩
    · rw [if_neg g1]
      simp only [if_neg g1] at hq
      by_cases g2 : (n == 1 || z.length == 0) = true
      · rw [if_pos g2]
        simp only [if_pos g2] at hq
        exact hq t s.toks
      · rw [if_neg g2]
        simp only [if_neg g2] at hq
        refine ⟨?_, hq _ _⟩
        have hsz : ∀ (k : Nat) (acc : Array Nat), ((List.replicate k z.cps).foldl (· ++ ·) acc).size = acc.size + k * z.cps.size := by
          intro k
          induction k with
          | zero => intro acc; simp
          | succ k ih => intro acc; rw [List.replicate_succ, List.foldl_cons, ih, Array.size_append, Nat.succ_mul]; omega
        show ((List.replicate n.toNat z.cps).foldl (· ++ ·) #[]).size ≤ sizeLine
        rw [hsz]
        have h5 : n.toNat * z.cps.size ≤ 100000 := by rw [Nat.mul_comm]; exact h4
        have : (100000 : Nat) ≤ sizeLine := by decide
        simp only [Array.size_empty, Nat.zero_add]
        omega
def uMul (o : Bool) : UR2 := fun x y M Q => match x, y with
  | .int i, .int j => CMulB i j ∧ Q (.int (i * j)) M
  | .str z, .int n => -(2 ^ 63) ≤ n ∧ n < 2 ^ 20 ∧ z.length ≤ 2 ^ 20 ∧ z.length * n.toNat ≤ 100000 ∧ Q (.str (repS z n)) M
  | .ref a, .int k => match M a with
    | some (.lst us) => -(2 ^ 63) ≤ k ∧ k < 2 ^ 63 ∧ us.length * k.toNat ≤ sizeLine ∧ mkL o (List.replicate k.toNat us).flatten M Q
    | _ => False
  | _, _ => False
theorem RelUs.rep {K : PySem.W.Frag} {H : Hp} {M : MHp} {us : List U} {vs : List V} (r : RelUs K H M us vs) : ∀ k : Nat, RelUs K H M (List.replicate k us).flatten (List.replicate k vs).flatten
  | 0 => by simp only [List.replicate_zero, List.flatten_nil]; exact .nil
  | k + 1 => by simp only [List.replicate_succ, List.flatten_cons]; exact r.append (RelUs.rep r k)
theorem sim_mul {K : PySem.W.Frag} {o : Bool} : SimR2 K (fun x y H Q => rI CMulB (fun i j => .int (i * j)) x y H Q ∨ ((∃ z n, x = .str z ∧ y = .int n ∧ -(2 ^ 63) ≤ n ∧ n < 2 ^ 20 ∧ z.length ≤ 2 ^ 20 ∧ z.length * n.toNat ≤ 100000 ∧ Q (.str (repS z n)) H) ∨ rRep x y H Q)) (uMul o) := fun x y u w H M Q' rm ru rw h Q c => by
  unfold uMul at h
  split at h
  · rename_i i j
    exact .inl (sim_int2c (C := CMulB) (f := fun i j => i * j) x y (.int i) (.int j) H M Q' rm ru rw h Q c)
  · rename_i z n
    cases ru.str; cases rw.int
    exact .inr (.inl ⟨z, n, rfl, rfl, h.1, h.2.1, h.2.2.1, h.2.2.2.1, c.here rm relU_str h.2.2.2.2⟩)
  · rename_i a k
    split at h
    · rename_i us e
      obtain ⟨vs, hv, r⟩ := rm a _ e
      cases ru.ref; cases rw.int
      exact .inr (.inr ⟨a, k, vs, rfl, rfl, hv, h.1, h.2.1, by rw [← r.length]; exact h.2.2.1, fun p hp => c.lst rm (r.rep k.toNat) hp h.2.2.2⟩)
    · exact h.elim
  · exact h.elim
theorem ue_mulX (own : Bool := false) (ha : PEU D a ta) (hb : PEU D b tb) : PEU D (.BinOp a .Mult b pos) (uOp (uMul own) ta tb) := ue_op (fun _ _ => op_mulB.or (op_repS.or op_rep)) sim_mul ha hb
def CDivB (_ j : Int) : Prop := 0 < j ∧ j < 2 ^ 64
theorem op_fdivB {X : Cx} : OpR X (binaryOp .FloorDiv) (rI CDivB fun i j => .int (i / j)) := opI fun i j _ _ _ _ _ hc q => by
  have h1 : (0 : Int) < j := hc.1
  have h2 : j.natAbs.log2 < 9000 := by
    have h3 : j.natAbs < 2 ^ 64 := by have := hc.2; omega
    by_cases h : j.natAbs = 0
    · rw [h]; decide
    · have := (Nat.log2_lt h).mpr h3
      omega
  exact floordiv_int (by omega) (by rw [Int.fdiv_eq_ediv_of_nonneg i (by omega)]; exact q) (.inl (PyProof.noPylong_of_log2 h2))
theorem ue_divX (ha : PEU D a ta) (hb : PEU D b tb) : PEU D (.BinOp a .FloorDiv b pos) (uOp (uI CDivB fun i j => .int (i / j)) ta tb) := ue_op (fun _ _ => op_fdivB) sim_int2c ha hb
end
end U2
namespace HT
open PySem PySem.Spec PyProof.Rows L2
variable {prog : Program} {w : World} {A : Around} {E : Value → Shared → Prop} {s : Shared}
theorem getItem_tuple_whole {t sl : Addr} {items : Array Value} {vl vu : Value} {lo hi : Option Int} {Q : Value → Shared → Prop} (ht : IsTup s.heap t items) (hs : s.heap.IsSliceOf sl vl vu .none) (pl : IsPart vl lo) (pu : IsPart vu hi)
    (hw : sIx items.size 0 lo = 0 ∧ sIx items.size items.size hi = items.size)
    (h : Q (.ref t) s) : wpAny (model prog w) A (getItem (.ref t) (.ref sl)) Q E s := by
  obtain ⟨os, hos, hcs, hds⟩ := id hs
  have hTs : s.TypeIs (.ref sl) "slice" := ⟨os, hos, hcs⟩
  unfold getItem
  try with_reducible refine wpAny_holding ?_
  first | refine wpAny_bind (wpAny_pure ?_) | skip
  refine wpAny_bind (wpAny_sequenceKey ht.typeIs (by decide) ?_)
  refine wpAny_bind (wpAny_callSpecial?_slot (name := Str.ofString "__getitem__") ht.typeIs PyProof.Rows.slot_tuple_getitem
    (wpAny_call_entry PyProof.Rows.slot_tuple_getitem ht.typeIs entry_tuple_getitem ?_ (args_tuple_getitem _ _)))
  show wpAny _ _ (Builtin.Tuple.tupleItemsOf (.ref t) >>= _) _ _ s
  refine wpAny_bind (tupleItemsOf_ ht ?_)
  refine wpAny_bind (wpAny_typeOf hTs ?_)
  rw [if_pos (by decide)]
  refine wpAny_bind (sliceApplied_gen hs pl pu ?_)
  have hyes : ((((sIx items.size 0 lo : Nat) : Int) == 0 && (1 : Int) == 1 && (sIx items.size items.size hi - sIx items.size 0 lo) == items.size) = true) := by
    rw [hw.1, hw.2]; simp
  show wpAny _ _ (if (((sIx items.size 0 lo : Nat) : Int) == 0 && (1 : Int) == 1 && (sIx items.size items.size hi - sIx items.size 0 lo) == items.size) = true then _ else _) _ _ s
  rw [if_pos hyes]
  unfold Builtin.Tuple.tupleIsExact
  refine wpAny_bind (wpAny_bind (wpAny_typeOf ht.typeIs (wpAny_pure ?_)))
  rw [if_pos (by decide)]
  refine wpAny_bind (wpAny_rule ?_)
  exact wpAny_pure ⟨_, rfl, wpAny_pure h⟩
end HT
namespace U2
open PySem PySem.Spec PyProof.Rows L2
def rSlW (K : PySem.W.Frag) : V → Option Int → Option Int → Hp → VK → Prop := fun x lo hi H Q => ∃ a xs, x = .ref a ∧ SqT K H a xs ∧ (HT.sIx xs.length 0 lo = 0 ∧ HT.sIx xs.length xs.length hi = xs.length) ∧ Q (.ref a) H
theorem sl_tupW {X : Cx} : SlR X (rSlW X.K) := by
  intro pins s σ H x v vl vu lo hi sl Q I rx hs pl pu h
  obtain ⟨a, xs, rfl, hx, hw, q⟩ := h
  cases rx
  obtain ⟨its, r, ht, hz⟩ := I.tuple hx
  have hlen : its.toArray.size = xs.length := by rw [List.size_toArray]; exact r.length.symm
  refine ⟨"tuple", _, PyProof.Rows.slot_tuple_getitem.lookup, ht.typeIs, ?_⟩
  refine HT.getItem_tuple_whole ht hs pl pu (by rw [hlen]; exact hw) ⟨.ref a, H, I, rfl, q⟩
def uSlX (o : Bool) (te : UE) (tl th : UO) : UE := fun τ M Q => te τ M fun x M1 => tl τ M1 fun l M2 => th τ M2 fun h M3 => match view M3 x with
  | .lst us => mkL o (cutU us l h) M3 Q
  | .tup us => Q (.tup (cutU us l h)) M3
  | .str z => z.length ≤ sizeLine ∧ Q (.str (Txt.slice z l h)) M3
  | _ => False
theorem sim_slX {K : PySem.W.Frag} {o : Bool} {te : TE} {te' : UE} {tl th : TO} {tl' th' : UO} (h0 : SimE K te te') (h1 : SimO K tl tl') (h2 : SimO K th th') : SimE K (tSl (fun x lo hi H Q => rSlA K x lo hi H Q ∨ rSlW K x lo hi H Q) te tl th) (uSlX o te' tl' th') := fun σ τ H M Q' rs rm q Q c =>
  h0 σ τ H M _ rs rm q _ fun u v M1 H1 s1 rm1 ru q1 => h1 σ τ H1 M1 _ (rs.stp s1) rm1 q1 _ fun lo M2 H2 s2 rm2 q2 => h2 σ τ H2 M2 _ ((rs.stp s1).stp s2) rm2 q2 _ fun hi M3 H3 s3 rm3 q3 => by
    have c3 := Cont.stp c ((s1.trans s2).trans s3)
    have ru3 := ru.stp (s2.trans s3)
    split at q3
    · rename_i us e
      obtain ⟨a, xs, rfl, r1, r2⟩ := view_lst rm3 ru3 e
      exact .inl (.inl ⟨a, xs, rfl, r1, fun p hp => c3.lst rm3 (cut_rel r2 lo hi) hp q3⟩)
    · rename_i us e
      have e' := view_tup e
      subst e'
      obtain ⟨a, xs, rfl, r1, r2⟩ := ru3.tup
      by_cases hw : HT.sIx xs.length 0 lo = 0 ∧ HT.sIx xs.length xs.length hi = xs.length
      · refine .inr ⟨a, xs, rfl, r1, hw, c3 _ _ M3 H3 (Stp.refl _ _) rm3 ?_ q3⟩
        have e4 : cutU us lo hi = us := by
          unfold cutU
          rw [r2.length, hw.1, hw.2, List.drop_zero, Nat.sub_zero, ← r2.length, List.take_length]
        rw [e4]
        exact ru3
      · exact .inl (.inr (.inl ⟨a, xs, rfl, r1, hw, fun p hp => c3.tup rm3 (cut_rel r2 lo hi) hp q3⟩))
    · rename_i z e
      have e' := view_str e
      subst e'
      exact .inl (.inr (.inr ⟨z, ru3.str, q3.1, c3 _ _ M3 H3 (Stp.refl _ _) rm3 relU_str q3.2⟩))
    · exact q3.elim
theorem ue_slX {D : Dat} {a : Expr} {ta : UE} {pos : Pos} (own : Bool := false) {lo hi : Option Expr} {tl th : UO} {p2 : Pos} (ha : PEU D a ta) (hl : POU D lo tl) (hh : POU D hi th) : PEU D (.Subscript a (.Slice lo hi none p2) pos) (uSlX own ta tl th) := by
  obtain ⟨_, p, s⟩ := ha; obtain ⟨_, q, r⟩ := hl; obtain ⟨_, u, v⟩ := hh
  refine ⟨_, fun X h => ?_, sim_slX s r v⟩
  have := pe_slice (pos := pos) (p2 := p2) (sl_any.or sl_tupW) (p X h) (q X h) (u X h)
  rw [h.K] at this
  exact this
end U2
namespace Att
open PySem PySem.Spec PyProof.Rows PySem.W Calls
end Att
namespace L2
open PySem PySem.Spec PyProof.Rows
end L2
namespace U2
open PySem PySem.Spec PyProof.Rows L2
def uRev (ta : UA) : UI := fun τ M R => ta τ M fun us M1 => match us with
  | [.lst us] => R ⟨none, us.reverse⟩ M1
  | _ => False
end U2
namespace U2
open PySem PySem.Spec PyProof.Rows L2
section
variable {prog : Program} {w : World} {A : Around} {E : Value → Shared → Prop} {s : Shared}
end
def uListRev (o : Bool) (ta : UA) : UE := fun τ M Q => ta τ M fun us M1 => match us with
  | [x] => match view M1 x with
    | .lst us => mkL o us.reverse M1 Q
    | _ => False
  | _ => False
end U2
namespace U2
open PySem PySem.Spec PyProof.Rows L2
section
variable {prog : Program} {w : World} {A : Around} {E : Value → Shared → Prop} {s : Shared}
end
end U2
namespace U2
open PySem PySem.Spec PyProof.Rows L2
end U2
namespace U2
open PySem PySem.Spec PyProof.Rows L2
theorem DatVs.len {K : PySem.W.Frag} {H : Hp} : ∀ {ds : List PyData} {vs : List V}, DatVs K H ds vs → ds.length = vs.length
  | [], vs, h => by simp only [DatVs] at h; subst h; rfl
  | d :: ds, vs, h => by
    simp only [DatVs] at h
    obtain ⟨v, vs', rfl, _, h2⟩ := h
    simp only [List.length_cons, DatVs.len h2]
end U2
namespace U2
open PySem PySem.Spec PyProof.Rows L2
def strsOf : List U → Option (List Str)
  | [] => some []
  | .str x :: r => (strsOf r).map (x :: ·)
  | _ => none
theorem strsOf_map : ∀ ss : List Str, strsOf (ss.map U.str) = some ss
  | [] => rfl
  | s :: ss => by simp only [List.map_cons, strsOf, strsOf_map ss]; rfl
theorem strsOf_rel {K : PySem.W.Frag} {H : Hp} {M : MHp} : ∀ {us : List U} {vs : List V} {ss : List Str}, RelUs K H M us vs → strsOf us = some ss → vs = ss.map V.str
  | [], vs, ss, r, e => by cases e; exact r.inv_nil
  | u :: us, vs, ss, r, e => by
    obtain ⟨v, vs', rfl, a, b⟩ := r.inv_cons
    cases u with
    | str x =>
      simp only [strsOf] at e
      cases e2 : strsOf us with
      | none => rw [e2] at e; cases e
      | some ss' =>
        rw [e2] at e; cases e
        rw [a.str, strsOf_rel b e2]; rfl
    | _ => cases e
end U2
namespace U2
open PySem PySem.Spec PyProof.Rows L2
end U2
namespace U2
open PySem PySem.Spec PyProof.Rows L2
abbrev envL (qual : Str) (scope : Scope) (L f c : Addr) (cl : List (Str × Addr)) : Env := PySem.W.envX qual scope L f (.ref c) cl
end U2
namespace U2
open PySem PySem.Spec PyProof.Rows L2
structure Lam where
  params : Arguments
  body : Expr
  scope : Scope
abbrev UAL := SU → MHp → (List U → List Addr → MHp → Prop) → Prop
def ulNil : UAL := fun _ M Q => Q [] [] M
def ulCons (te : UE) (t : UAL) : UAL := fun τ M Q => te τ M fun u M1 => t τ M1 fun us fs M2 => Q (u :: us) fs M2
def ulLam (P : Addr) (q : Str) (t : UAL) : UAL := fun τ M Q => M P = some (.tbl q) ∧ ∀ fl, t τ M fun us fs M2 => Q (.ref fl :: us) (fl :: fs) M2
end U2
namespace U2
open PySem PySem.Spec PyProof.Rows L2
structure CalleeF (P : Program) (w : World) (K : PySem.W.Frag) (mg : Str → Option Value) (base : Heap) (j : Nat) (f : Addr) (sp : USp) : Prop where
  ex : ∃ fd ps, FnOk P w K mg base CX0 j f fd ps (liftSp K sp) ∧ (PySem.W.keepIn K (.ref f) = true ∨ ∃ o fd', base.get? f = some o ∧ o.data = .func fd') ∧ Binds K fd ps []
theorem CalleeAt.f {P : Program} {w : World} {K : PySem.W.Frag} {mg : Str → Option Value} {base : Heap} {j : Nat} {f : Addr} {sp : USp} (c : CalleeAt P w K mg base j f sp) : CalleeF P w K mg base j f sp :=
  let ⟨fd, ps, a, b, d⟩ := c.ex; ⟨fd, ps, a, .inl b, d⟩
theorem pe_callvF {X : Cx} {x : Str} {p pos : Pos} {e : Expr} {es : List Expr} {i k : Nat} {f : Addr} {fd : FuncData} {ps : List Str} {sp : Sp} {t : TA} (hN : X.N[i]? = some x) (hv : Vis X.env.scope x) (F : FnOk X.prog X.w X.K X.mg X.base CX0 k f fd ps sp) (hr : Room k X.A) (hk : PySem.W.keepIn X.K (.ref f) = true ∨ ∃ o fd', X.base.get? f = some o ∧ o.data = .func fd') (hb : Binds X.K fd ps [])
    (ha : PA X (e :: es) t) (hd : (x == ("__debug__" : Str)) = false) (hcd : (x == ("__classdict__" : Str)) = false) (he : starEach (e :: es) X.env = (false, eval e X.env) :: starEach es X.env) (hpl : (backTo pos (starEach es X.env)).any (·.1) = false) :
    PE X (.Call (.Name x p) (e :: es) [] pos) (tCallV i f sp t) := by
  intro pins s σ H Q I h
  refine wpAny_Call_Name_kw (thn (pe_var (i := i) hN hv hd hcd pins s σ H _ I h) fun v s1 ⟨x', H1, I1, r1, e1, q1⟩ => ?_)
  subst e1
  cases r1
  rcases hk with hk | ⟨o, fd', ho, hof⟩
  · refine PySem.W.callWith_K (h₀ := X.base) I1.ok.mod.kin hk (thn (ha pos pins s1 σ H1 _ I1 q1) fun us s2 ⟨vs, H2, I2, r, q⟩ => ⟨I2.kIn, ?_⟩) he hpl
    exact run_fn (dvs := []) F hr hb .nil pass0 I2 r (by rw [List.append_nil]; exact q)
  · have ha' := ha pos pins s1 σ H1 _ I1 q1
    rw [he] at ha' ⊢
    refine PySem.W.callWith_of (P := fun h => h.get? f = some o) (by show ((false || (backTo pos (starEach es X.env)).any (·.1)) || false) = false; rw [hpl]; rfl) (fun h0 hh => ?_) (Calls.evalArgs_plain (thn ha' fun us s2 ⟨vs, H2, I2, r, q⟩ => ⟨I2.bk _ _ ho, ?_⟩))
    · refine ⟨.frame, .inl rfl, (PySem.W.Looks.ld (part := none) hh).andThen ?_⟩
      obtain ⟨oc, od, odt, osl⟩ := o
      have : odt = .func fd' := hof
      subst this
      exact .now
    · exact run_fn (dvs := []) F hr hb .nil pass0 I2 r (by rw [List.append_nil]; exact q)
section
variable {D : Dat}
theorem ue_callf (i : Nat) {x : Str} {p pos : Pos} {e : Expr} {es : List Expr} {j : Nat} {f : Addr} {sp : USp} {tas : UA} (F : CalleeF D.prog D.w D.K D.mg D.base j f sp) (ha : PAU D (e :: es) tas) (hN : D.N[i]? = some x := by rfl) (hv : Vis D.sc x := by first | exact Or.inl rfl | exact Or.inr (Or.inl rfl) | exact Or.inr (Or.inr rfl))
    (hj : j ≤ D.k := by first | exact Nat.le_refl _ | (dsimp only; omega) | omega | (dsimp only [compD]; omega)) (hd : (x == ("__debug__" : Str)) = false := by decide) (hcd : (x == ("__classdict__" : Str)) = false := by decide)
    (he : ∀ env, starEach (e :: es) env = (false, eval e env) :: starEach es env := by intro _; rfl) (hpl : ∀ env, (backTo pos (starEach es env)).any (·.1) = false := by intro _; rfl) : PEU D (.Call (.Name x p) (e :: es) [] pos) (uCallV i f sp tas) := by
  obtain ⟨fd, ps, F, kp, hb⟩ := F.ex
  obtain ⟨t, q, s⟩ := ha
  refine ⟨tCallV i f (liftSp D.K sp) t, fun X h => ?_, fun σ τ H M Q' rs rm h Q c => ?_⟩
  · have F' : FnOk X.prog X.w X.K X.mg X.base CX0 j f fd ps (liftSp D.K sp) := by rw [h.prog, h.w, h.K, h.mg, h.base]; exact F
    exact pe_callvF (by rw [h.N]; exact hN) (by rw [h.sc]; exact hv) F' (h.room.mono hj) (by rw [h.K, h.base]; exact kp) (by rw [h.K]; exact hb) (q X h) hd hcd (he _) (hpl _)
  · refine sim_var i σ τ H M _ rs rm h _ fun u v M1 H1 s1 rm1 ru h1 => ?_
    obtain ⟨rfl, h1⟩ := h1
    refine ⟨ru.ref, s σ τ H1 M1 _ (rs.stp s1) rm1 h1 _ fun us vs M2 H2 s2 rm2 rus h2 => ?_⟩
    exact ⟨us, M2, Q', rm2, rus, h2, Cont.stp c (s1.trans s2)⟩
end
def isCod (q : Str) (o : Option HO) : Prop := ∃ oc vs t, o = some (.frz oc (.own 0)) ∧ oc.data = .fields vs ∧ vs[1]? = some (.str q t)
open Classical in
noncomputable def hidC (q : Str) (H : Hp) : Hp := fun b => if isCod q (H b) then none else H b
open Classical in
noncomputable def resC (q : Str) (H H2 : Hp) : Hp := fun b => if isCod q (H b) then H b else H2 b
def mdel (M : MHp) (a : Addr) : MHp := fun b => if b = a then none else M b
theorem mdel_same {M : MHp} {a : Addr} : mdel M a a = none := by unfold mdel; rw [if_pos rfl]
theorem mdel_ne {M : MHp} {a b : Addr} (h : b ≠ a) : mdel M a b = M b := by unfold mdel; rw [if_neg h]
theorem hidC_code {q : Str} {H : Hp} {b : Addr} (h : isCod q (H b)) : hidC q H b = none := by unfold hidC; exact if_pos h
theorem hidC_not {q : Str} {H : Hp} {b : Addr} (h : ¬ isCod q (H b)) : hidC q H b = H b := by unfold hidC; exact if_neg h
theorem resC_code {q : Str} {H H2 : Hp} {b : Addr} (h : isCod q (H b)) : resC q H H2 b = H b := by unfold resC; exact if_pos h
theorem resC_not {q : Str} {H H2 : Hp} {b : Addr} (h : ¬ isCod q (H b)) : resC q H H2 b = H2 b := by unfold resC; exact if_neg h
end U2
namespace U2
open PySem PySem.Spec PyProof.Rows L2
def spLam (n : Nat) (te : UE) (caps : SU) : USp := fun us M Q => us.length = n ∧ te (us.map some ++ caps) M Q
structure LamD where
  lam : Lam
  N : List Str
  ps : List Str
  ix : List Nat
  te : UE
def flatR : U → Prop
  | .tup _ => False
  | .lst _ => False
  | .dic _ _ _ => False
  | _ => True
def capU (L : LamD) (τ : SU) : SU := L.ix.map fun i => (τ[i]?).getD none
def lamSp (L : LamD) (τ : SU) : USp := spLam L.ps.length L.te (capU L τ)
def uCallG (G : SU → List U → List Addr → MHp → UK → Prop) (t : UAL) : UE := fun τ M Q => t τ M fun us fs M1 => G τ us fs M1 Q
def gL1 (P : Addr) (q : Str) (L : LamD) (sp : Addr → USp → USp) : SU → List U → List Addr → MHp → UK → Prop := fun τ us fs M1 Q => match fs with
  | [fl] => M1 P = some (.tbl q) ∧ (∀ u, some u ∈ capU L τ → flatR u) ∧ ((∀ b, mdel M1 P b ≠ some (.tbl q)) → sp fl (lamSp L τ) us (mdel M1 P) fun u M2 => (∀ b, M2 b ≠ some (.tbl q)) ∧ Q u (mup M2 P (.tbl q)))
  | _ => False
def gL2 (P : Addr) (q : Str) (L L' : LamD) (sp : Addr → USp → Addr → USp → USp) : SU → List U → List Addr → MHp → UK → Prop := fun τ us fs M1 Q => match fs with
  | [fl, fl'] => M1 P = some (.tbl q) ∧ (∀ u, some u ∈ capU L τ → flatR u) ∧ (∀ u, some u ∈ capU L' τ → flatR u) ∧ ((∀ b, mdel M1 P b ≠ some (.tbl q)) → sp fl (lamSp L τ) fl' (lamSp L' τ) us (mdel M1 P) fun u M2 => (∀ b, M2 b ≠ some (.tbl q)) ∧ Q u (mup M2 P (.tbl q)))
  | _ => False
end U2
namespace U2
open PySem PySem.Spec PyProof.Rows L2
section
variable {P : Program} {w : World} {K : PySem.W.Frag} {mg : Str → Option Value} {base : Heap}
end
end U2
namespace U2
open PySem PySem.Spec PyProof.Rows L2
section
variable {D : Dat} {x : Str} {p pos : Pos} {e : Expr} {es : List Expr} {f P : Addr} {q : Str} {j : Nat}
end
end U2
namespace U2
open PySem PySem.Spec PyProof.Rows L2
section
variable {D : Dat} {x : Str} {p pos : Pos} {e : Expr} {es : List Expr} {f P : Addr} {q : Str} {j : Nat}
end
end U2
namespace L2
open PySem PySem.Spec PyProof.Rows
section
variable {M : Model} {A : Around} {E : Value → Shared → Prop} {s : Shared} {base : Heap} {env : Env} {outer : List Env} {L e : Addr} {oe : Obj} {vs : Array Value}
def Fly (e : Addr) (l : List Env) (h h' : Heap) : Prop := ∀ b o, h.get? b = some o → b ≠ e → (b ∉ frs l → h'.get? b = some o) ∧ ∃ sl, h'.get? b = some { o with slots := sl }
theorem new_note {head : Value} {hadNext : Bool} {Q : Unit → Shared → Prop} (hfr : A.frames = some (env :: outer)) (hl : s.heap.FunFrames base (env :: outer)) (hf : env.frame = some L)
    (he : s.heap.get? e = some oe) (hd : oe.data = .fields vs) (hsz : 1 < vs.size)
    (h : ∀ h' T oT ts, Fly e (env :: outer) s.heap h' → h'.get? e = some (oe.mapFields (·.setIfInBounds 1 (.ref T))) → s.heap.objs.size ≤ T → h'.get? T = some oT → oT.data = .fields ts → ts[3]? = some (rawInt L) → Q () { s with heap := h' }) :
    wpAny M A (do let a ← frameOf env; let pl ← entryPlaceOf L hadNext; let b ← EntryCells.newEntry head a .none (rawInt L) .none pl; setField (.ref e) 1 b) Q E s := by
  have hene : e ∉ (env :: outer).filterMap (·.frame) := fun hm => by
    obtain ⟨_, o, ho, hnf⟩ := hl.mem hm
    rw [he] at ho; injection ho with ho; subst ho; exact hnf vs hd
  refine wpAny_bind (wpAny_frameOf_fun hfr hl hf fun h₁ hs₁ => ?_)
  refine wpAny_bind (wpAny_entryPlaceOf fun pl hpl => ?_)
  unfold EntryCells.newEntry newFields
  refine wpAny_bind (wpAny_newObj_type ?_ (hpl.sizeOk5 _ _ _ _ _))
  have he₁ : h₁.get? e = some oe := (hs₁.2.1 e hene).trans he
  have he₂ := Heap.get?_push_of_some (h := h₁) { cls := .type "traceback", dict := none, data := .fields ([head, .ref L, .none, rawInt L, .none] ++ (if pl.isEmpty then List.replicate 6 Value.none else pl)).toArray } he₁
  refine wpAny_setField he₂ hd hsz ?_
  have hTe : h₁.objs.size ≠ e := Nat.ne_of_gt (Heap.lt_size he₁)
  have hd₃ := Obj.data_mapFields hd (·.setIfInBounds 1 (Value.ref h₁.objs.size))
  have he₃ := Heap.get?_update_self (Obj.mapFields (·.setIfInBounds 1 (Value.ref h₁.objs.size))) he₂ (Obj.isFreed_of_fields hd₃)
  have hT₃ := (Heap.get?_update_other (h₁.push { cls := .type "traceback", dict := none, data := .fields ([head, .ref L, .none, rawInt L, .none] ++ (if pl.isEmpty then List.replicate 6 Value.none else pl)).toArray })
    (Obj.mapFields (·.setIfInBounds 1 (Value.ref h₁.objs.size))) (Ne.symm hTe)).trans (Heap.get?_push_size h₁ rfl)
  have keep : ∀ b o, b ≠ e → h₁.get? b = some o →
      ((h₁.push { cls := .type "traceback", dict := none, data := .fields ([head, .ref L, .none, rawInt L, .none] ++ (if pl.isEmpty then List.replicate 6 Value.none else pl)).toArray }).update e (Obj.mapFields (·.setIfInBounds 1 (Value.ref h₁.objs.size)))).get? b = some o := fun b o hbe hb => by
    rw [Heap.get?_update_other _ _ (Ne.symm hbe)]
    exact Heap.get?_push_of_some _ hb
  refine h _ h₁.objs.size _ _ (fun b o hb hbe => ⟨fun hnf => keep b o hbe ((hs₁.2.1 b hnf).trans hb), ?_⟩) he₃ (by rw [hs₁.1]; exact Nat.le_refl _) hT₃ rfl ?_
  · obtain ⟨sl, hs⟩ := hs₁.2.2 b o hb
    exact ⟨sl, keep b _ hbe hs⟩
  · simp
def Trc (fl : Value → Prop) (h : Heap) (e : Addr) (vs : Array Value) (T : Option Addr) : Prop := match T with
  | none => vs[1]? = some .none
  | some T => vs[1]? = some (.ref T) ∧ T ≠ e ∧ ∃ oT ts v, h.get? T = some oT ∧ oT.data = .fields ts ∧ ts[3]? = some v ∧ fl v
end
end L2
namespace L2
open PySem PySem.Spec
section
variable {prog : Program} {w : World} {A : Around} {E : Value → Shared → Prop} {h : Heap} {g : Array GenState} {d : Drawn} {t : Nat} {os : OsState}
variable {nm q : Str} {C N : Addr} {bs bm : List Value} {hdct : Bool} {sn : List Str} {sub : List Value} {ab : Bool} {col : Option Bool} {dd : Option Addr} {k0 k1 k2 k3 k5 : Option Value}
def bmV : List Value := [.type "ValueError", .type "Exception", .type "BaseException", .type "object"]
theorem vF : ExcBaseFacts "ValueError" "ValueError.__new__" "ValueError.__init__" bmV := PySem.F.excBase_ValueError
structure UnderV (bm : List Value) : Prop where
  v : bm.contains (.type "ValueError") = true
  a : bm.contains (.type "AttributeError") = false
  n : bm.contains (.type "NameError") = false
  b : bm.contains (.type "BaseException") = true
theorem chk_newV (V : UnderV bm) {M : Model} {rest : List Value} {Q : Unit → Shared → Prop} (hC : h.get? C = some (excClassObj nm q C N bs bm hdct sn sub ab col dd k0 k1 k2 k3 k5 "ValueError.__new__"))
    (hq : Q () ⟨h, g, d, t, os⟩) : wpAny M A (checkBuiltinCall "ValueError.__new__" ⟨.ref C :: rest, []⟩) Q E ⟨h, g, d, t, os⟩ := by
  have hcont : (Value.ref C :: bm).contains (.type "ValueError") = true := by rw [List.contains_cons, V.v, Bool.or_true]
  have hstar := vF.noStar
  simp only [checkBuiltinCall, vF.newKind, vF.newSplit, vF.newRow]
  repeat (first | refine wpAny_loadPart_at hC ?_ | (refine wpAny_isSubtype_exc hC ?_; rw [hcont]) | refine wpAny_staticBase_exc hC ?_ | refine wpAny_madeBy_exc hC ?_ | simp only [bne_self_eq_false, Bool.false_eq_true, if_false] | wp_step)
  exact hq
theorem new_V (V : UnderV bm) {R : Result → Shared → Prop} {rest : List Value} (hC : h.get? C = some (excClassObj nm q C N bs bm hdct sn sub ab col dd k0 k1 k2 k3 k5 "ValueError.__new__"))
    (hq : R (.ok (.ret (.ref (h.objs.size + 1)))) ⟨(h.push { cls := .type "tuple", data := .seq rest.toArray }).push
      { cls := .ref C, data := .fields #[.ref h.objs.size, .none, .none, .none, .bool false, .none] }, g, d, t, os⟩) (hrest : rest.length ≤ sizeLine) :
    codeAny (model prog w) A (.builtin "ValueError.__new__" ⟨.ref C :: rest, []⟩) R ⟨h, g, d, t, os⟩ := by
  have hends := vF.ends
  have hcB : (Value.ref C :: bm).contains (.type "ValueError") = true := by rw [List.contains_cons, V.v, Bool.or_true]
  have hcA : (Value.ref C :: bm).contains (.type "AttributeError") = false := by rw [List.contains_cons, V.a]; rfl
  have hcN : (Value.ref C :: bm).contains (.type "NameError") = false := by rw [List.contains_cons, V.n]; rfl
  refine codeAny_builtinAt vF.entry ?_
  unfold Builtin.«BaseException.__new__»
  refine wpAt_bind ?_
  show wpAt _ _ _ (stack >>= _) _ _ _
  refine wpAt_bind (wpAt_stack fun p below => wpAt_of_wpAny ?_)
  wp_walk
  refine wpAt_of_wpAny ?_
  rw [vF.owner]
  repeat (first | with_reducible refine wpAny_madeHere_exc vF.canon hC ?_ | with_reducible refine wpAny_loadPart_at hC ?_ | (with_reducible refine wpAny_isSubtype_exc hC ?_; first | rw [hcB] | rw [hcA] | rw [hcN]) | wp_step)
  show R _ _
  rw [Heap.size_push]
  exact hq
def excHp (h : Heap) (C : Addr) (us : List Value) : Heap := (h.push { cls := .type "tuple", data := .seq us.toArray }).push { cls := .ref C, data := .fields #[.ref h.objs.size, .none, .none, .none, .bool false, .none] }
theorem excHp_get (h : Heap) (C : Addr) (us : List Value) : (excHp h C us).get? (h.objs.size + 1) = some { cls := .ref C, data := .fields #[.ref h.objs.size, .none, .none, .none, .bool false, .none] } := by
  unfold excHp; heap_get
theorem excHp_keep (h : Heap) (C : Addr) (us : List Value) : ∀ b o, h.get? b = some o → (excHp h C us).get? b = some o := fun b o e => Heap.get?_push_of_some _ (Heap.get?_push_of_some _ e)
theorem type_callV (V : UnderV bm) {K : PySem.W.Frag} {rest : List Value} {fI : Addr} {oI : Obj} {Q : Fin → Shared → Prop} (KX : K.In h)
    (hC : h.get? C = some (excClassObj nm q C N bs bm hdct sn sub ab col dd k0 k1 k2 k3 k5 "ValueError.__new__")) (hi : PySem.W.findIn K (.ref C) "__init__" = some (some (.ref fI)))
    (hfI : h.get? fI = some oI) (hfc : oI.cls = .type "function")
    (hq : wpAny (model prog w) A (call (.ref fI) (.ref (h.objs.size + 1) :: rest)) (fun r s' => r = .none ∧ Q (.done (.ret (.ref (h.objs.size + 1)))) s') E ⟨excHp h C rest, g, d, t, os⟩) (hrest : rest.length ≤ sizeLine) :
    wpAny (model prog w) A (Builtin.«type.__call__» ⟨.ref C :: rest, []⟩) Q E ⟨h, g, d, t, os⟩ := by
  repeat (first | with_reducible refine wpAny_loadPart_at hC ?_ | with_reducible refine wpAny_madeBy_exc hC ?_ | wp_step)
  refine codeAny_call_builtin_code (Code.quiet_builtin _ vF.quiet) (chk_newV V hC ?_)
  refine new_V V hC ?_ hrest
  show wpAny _ _ _ _ _ _
  have hk := excHp_keep h C rest
  have hC₁ := hk _ _ hC
  have hfI₁ := hk _ _ hfI
  have KX₁ := KX.keeps hk
  have hget := excHp_get h C rest
  have hcC : (Value.ref C :: bm).contains (.ref C) = true := by simp
  show wpAny _ _ _ _ _ (⟨excHp h C rest, g, d, t, os⟩ : Shared)
  unfold isInstance
  repeat (first | with_reducible refine wpAny_loadPart_at hget ?_ | (with_reducible refine wpAny_isSubtype_exc hC₁ ?_; rw [hcC]) | wp_step)
  show wpAny _ _ (typeLookup (.ref C) _) _ _ _
  refine (PySem.W.looks_findIn KX₁ hi).here ?_
  refine wpAny_holding (wpAny_bind ?_)
  unfold bindSpecial
  refine wpAny_bind (wpAny_typeOf (T := "function") ⟨_, hfI₁, hfc⟩ ?_)
  rw [if_pos (by decide)]
  refine wpAny_pure (wpAny_bind (wpAny_mono hq (fun r s' hr => ?_) fun _ _ x => x))
  obtain ⟨rfl, hQ⟩ := hr
  wp_walk
  exact hQ
theorem call_V (V : UnderV bm) {K : PySem.W.Frag} {rest : List Value} {fI : Addr} {oI : Obj} {Q : Value → Shared → Prop} (KX : K.In h)
    (hC : h.get? C = some (excClassObj nm q C N bs bm hdct sn sub ab col dd k0 k1 k2 k3 k5 "ValueError.__new__")) (hi : PySem.W.findIn K (.ref C) "__init__" = some (some (.ref fI)))
    (hfI : h.get? fI = some oI) (hfc : oI.cls = .type "function")
    (hq : wpAny (model prog w) (A.under (.builtin "type.__call__" ⟨.ref C :: rest, []⟩)) (call (.ref fI) (.ref (h.objs.size + 1) :: rest)) (fun r s' => r = .none ∧ Q (.ref (h.objs.size + 1)) s') E ⟨excHp h C rest, g, d, t, os⟩) (hrest : rest.length ≤ sizeLine) :
    wpAny (model prog w) A (call (.ref C) rest) Q E ⟨h, g, d, t, os⟩ := by
  have f1 := tc_lookup
  have f2 := tc_bind (.ref C)
  have hT : (⟨h, g, d, t, os⟩ : Shared).TypeIs (.ref C) "type" := ⟨_, hC, rfl⟩
  refine wpAny_call (codeAny_of_tree ?_)
  show wpAny _ _ (callAny (.ref C) _) _ _ _
  repeat (any_goals (first | assumption | with_reducible refine wpAny_loadPart_at hC ?_ | wp_step))
  refine ⟨rfl, ?_⟩
  refine codeAny_call_builtin_at (Code.quiet_builtin _ (by decide +kernel)) entry_typeCall (wpAny_check_type_call_sub hC (type_callV V KX hC hi hfI hfc ?_ hrest))
  exact hq
end
end L2
namespace L2
open PySem PySem.Spec
open Builtin Builtin.ObjectAttr
section
variable {prog : Program} {w : World} {A : Around} {E : Value → Shared → Prop} {h : Heap} {g : Array GenState} {d : Drawn} {t : Nat} {os : OsState}
variable {nm q : Str} {C N R x : Addr} {bs : List Value} {sn : List Str} {sub : List Value} {ab : Bool} {col : Option Bool} {dd : Option Addr} {k0 k1 k2 k3 k5 : Option Value} {K : PySem.W.Frag} {name : Str} {v : Value}
abbrev bmR (R : Addr) : List Value := .ref R :: bmV
theorem underR (R : Addr) : UnderV (bmR R) := ⟨rfl, rfl, rfl, rfl⟩
theorem chk_saV {M : Model} {o : Obj} {nameV : Value} {Q : Unit → Shared → Prop} (hC : h.get? C = some (excClassObj nm q C N bs (bmR R) true sn sub ab col dd k0 k1 k2 k3 k5 "ValueError.__new__")) (hx : h.get? x = some o) (hc : o.cls = .ref C) (hq : Q () ⟨h, g, d, t, os⟩) :
    wpAny M A (checkBuiltinCall "object.__setattr__" ⟨[.ref x, nameV, v], []⟩) Q E ⟨h, g, d, t, os⟩ := by
  have hcB : (Value.ref C :: bmR R).contains (.type "object") = true := by rw [List.contains_cons]; rfl
  have SF := PySem.F.store_ValueError
  have ha := SF.args (.ref x) nameV v
  simp only [checkBuiltinCall, SF.kind, SF.split]
  refine wpAny_bind ?_
  · unfold isInstance
    repeat (first | (with_reducible refine wpAny_loadPart_at hx ?_; rw [hc]) | (with_reducible refine wpAny_isSubtype_exc hC ?_; rw [hcB]) | wp_step)
    exact hq
theorem store_V {o : Obj} {Q : Unit → Shared → Prop} (KX : K.In h)
    (hC : h.get? C = some (excClassObj nm q C N bs (bmR R) true sn sub ab col dd k0 k1 k2 k3 k5 "ValueError.__new__"))
    (hsa : PySem.W.findIn K (.ref C) "__setattr__" = some (some (.builtin "object.__setattr__"))) (hna : PySem.W.findIn K (.ref C) name = some none)
    (hx : h.get? x = some o) (hc : o.cls = .ref C) (hnc : ∀ c, o.data ≠ .cls c) (hdn : o.dict = none)
    (hq : ∀ h' tk', h'.Ns1 h.objs.size (fun y => if y = name then some v else none) → h'.get? x = some { o with dict := some h.objs.size } → (∀ b ob, b ≠ x → h.get? b = some ob → h'.get? b = some ob) → Q () ⟨h', g, d, tk', os⟩) :
    wpAny (model prog w) A (setAttr (.ref x) name v) Q E ⟨h, g, d, t, os⟩ := by
  have SF := PySem.F.store_ValueError
  have f3 := SF.slot.bind (.ref x)
  have hpass : refuseLoop (.ref x) "__setattr__" (.ref C :: bmR R) = pure () := by rw [refuseLoop_ref, refuseLoop_ref]; exact SF.passes (.ref x)
  have L1 : ∀ {h' : Heap} {t' : Nat} {A' : Around} {Q' : Option Value → Shared → Prop} {E' : Value → Shared → Prop}, (∀ b o, h.get? b = some o → h'.get? b = some o) → Q' (some (.builtin "object.__setattr__")) ⟨h', g, d, t', os⟩ → wpAny (model prog w) A' (typeLookup (.ref C) "__setattr__") Q' E' ⟨h', g, d, t', os⟩ :=
    fun k z => (PySem.W.looks_findIn (KX.keeps k) hsa).here z
  have L2' : ∀ {t' : Nat} {A' : Around} {Q' : Option Value → Shared → Prop} {E' : Value → Shared → Prop}, Q' none ⟨h, g, d, t', os⟩ → wpAny (model prog w) A' (typeLookup (.ref C) name) Q' E' ⟨h, g, d, t', os⟩ :=
    fun z => (PySem.W.looks_findIn KX hna).here z
  have entry : ∀ {tk : Tok} {t' : Nat} {A' : Around} {Q' : Fin → Shared → Prop} {E' : Value → Shared → Prop},
      (∀ h' tk', h'.Ns1 h.objs.size (fun y => if y = name then some v else none) → h'.get? x = some { o with dict := some h.objs.size } → (∀ b ob, b ≠ x → h.get? b = some ob → h'.get? b = some ob) → Q' (.done (.ret .none)) ⟨h', g, d, tk', os⟩) →
      wpAny (model prog w) A' (Builtin.«object.__setattr__» ⟨[.ref x, .str name tk, v], []⟩) Q' E' ⟨h, g, d, t', os⟩ := by
    intro tk t' A' Q' E' hq
    unfold Builtin.«object.__setattr__»
    repeat (first | rw [refuse_eq] | (rw [hpass]) | (with_reducible refine wpAny_loadPart_at hx ?_; rw [hc]) | with_reducible refine wpAny_mroOf_exc hC ?_ | (with_reducible refine L2' ?_) | wp_step)
    rw [hdn, if_neg (by simp [typeHasDict])]
    split
    · rename_i hcd
      cases hcd
    split
    · rename_i c hcd
      exact absurd hcd (hnc c)
    · have hx₁ : (h.push { cls := .type "dict", data := .dict #[] }).get? x = some o := Heap.get?_push_of_some _ hx
      have hxs : x ≠ h.objs.size := Nat.ne_of_lt (Heap.lt_size hx)
      refine wpAny_bind (wpAny_alloc' ?_)
      refine wpAny_bind (wpAny_update' hx₁ ?_)
      refine wpAny_pure ?_
      have hgd : ((h.push { cls := .type "dict", data := .dict #[] }).update x fun o => { cls := o.cls, dict := some h.objs.size, data := o.data, slots := o.slots }).get? h.objs.size
          = some { cls := .type "dict", data := .dict #[] } :=
        (Heap.get?_update_ne _ _ _ _ hxs.symm).trans (Heap.get?_push_at rfl rfl)
      have hnd : ((h.push { cls := .type "dict", data := .dict #[] }).update x fun o => { cls := o.cls, dict := some h.objs.size, data := o.data, slots := o.slots }).Ns h.objs.size (fun _ => none) :=
        ⟨_, #[], _, hgd, rfl, fun e he => absurd he (by simp), fun _ => rfl⟩
      show wpAny _ _ (storeInDict h.objs.size (.str name tk) name v) _ _ _
      unfold storeInDict newKeyGuard
      refine wpAny_bind (wpAny_pure (wpAny_bind (wpAny_nsSet1 (Heap.Ns1.of_empty hnd) fun h' hn' hs => ?_)))
      obtain ⟨oD, esD, epD, hoD, hdD, hcD⟩ := hn'.count (Within.cons name v Within.nil)
      refine wpAny_bind (wpAny_lookBehind hoD (by rw [hdD]; exact pastItsLine_dict (Nat.le_trans hcD (by rw [List.length_cons, List.length_nil, sizeLine_eq]; omega))) ?_)
      wp_walk
      refine hq h' _ hn' ?_ (fun b ob hbx hb => ?_)
      · refine (hs.2 x hxs).trans (Heap.get?_update_self _ hx₁ ?_)
        have hfr := (Heap.get?_some_iff.mp hx).2
        obtain ⟨oc, od, odt, osl⟩ := o
        cases odt <;> first | rfl | exact hfr
      · exact (hs.2 b (Nat.ne_of_lt (Heap.lt_size hb))).trans ((Heap.get?_update_ne _ _ _ _ hbx).trans (Heap.get?_push_of_some _ hb))
  unfold setAttr callSpecial? specialOf
  repeat (any_goals (first | assumption | (with_reducible refine wpAny_loadPart_at hx ?_; rw [hc]) | (with_reducible refine L1 (fun _ _ z => z) ?_) | wp_step))
  refine codeAny_call_builtin SF.slot.plain SF.entry (chk_saV hC hx hc (entry fun h' tk' a1 a2 a3 => ?_))
  repeat (any_goals (first | assumption | wp_step))
  exact hq h' tk' a1 a2 a3
def excO (C t : Addr) (dx : Option Addr) : Obj := { cls := .ref C, dict := dx, data := .fields #[.ref t, .none, .none, .none, .bool false, .none] }
theorem init_V {t0 : Addr} {rest : List Value} {Q : Value → Shared → Prop}
    (hC : h.get? C = some (excClassObj nm q C N bs (bmR R) true sn sub ab col dd k0 k1 k2 k3 k5 "ValueError.__new__")) (hx : h.get? x = some (excO C t0 none)) (hrest : rest.length ≤ sizeLine)
    (hq : ∀ h', h'.get? x = some (excO C h.objs.size none) → (∀ b ob, b ≠ x → h.get? b = some ob → h'.get? b = some ob) → Q .none ⟨h', g, d, t, os⟩) :
    wpAny (model prog w) A (call (.builtin "ValueError.__init__") (.ref x :: rest)) Q E ⟨h, g, d, t, os⟩ := by
  have hcB : (Value.ref C :: bmR R).contains (.type "ValueError") = true := by rw [List.contains_cons]; rfl
  have hshort := vF.noStar
  unfold excO at hx
  have chk : ∀ {A' : Around} {E' : Value → Shared → Prop} {Q' : Unit → Shared → Prop}, Q' () ⟨h, g, d, t, os⟩ → wpAny (model prog w) A' (checkBuiltinCall "ValueError.__init__" ⟨.ref x :: rest, []⟩) Q' E' ⟨h, g, d, t, os⟩ := by
    intro A' E' Q' hq
    simp only [checkBuiltinCall, vF.initKind, vF.initSplit, vF.initRow]
    repeat (first | (with_reducible refine wpAny_loadPart_at hx ?_) | with_reducible refine wpAny_loadPart_at hC ?_ | (with_reducible refine wpAny_isSubtype_exc hC ?_; rw [hcB]) | wp_step)
    refine wpAny_onRaise ?_
    rw [show ∀ (a b : String) (n : Nat), Bind.check ⟨.positional, "*", "ValueError", .self, [⟨"args", .varPos, false⟩]⟩ a b n (List.map (fun x => x.fst) ({ pos := Value.ref x :: rest } : Args).kw) = pure () from
      fun a b n => check_star_args _ _ _ _ _ _]
    exact wpAny_pure hq
  refine wpAny_call (codeAny_call_builtin vF.init.plain vF.initEntry (chk ?_))
  have hx₁ := Heap.get?_push_of_some { cls := .type "tuple", data := .seq rest.toArray } hx
  unfold Builtin.«BaseException.__init__»
  wp_walk
  refine hq _ ?_ fun b ob hb e => ?_
  · rw [Heap.get?_update_self _ hx₁ rfl]; rfl
  · rw [Heap.get?_update_other _ _ (Ne.symm hb)]; exact Heap.get?_push_of_some _ e
end
end L2
namespace L2
open PySem PySem.Spec PyProof.Rows
structure RoomH (k : Nat) (A : Around) : Prop where
  dp : A.depth + 3 * k + 5 < recursionLimit
  un : A.units + 16 * k + 200 < cLine
theorem Room.h {k : Nat} {A : Around} (r : Room k A) : RoomH k A := ⟨r.dp, r.un⟩
theorem RoomH.mono {j k : Nat} {A : Around} (r : RoomH k A) (h : j ≤ k) : RoomH j A := ⟨by have := r.dp; omega, by have := r.un; omega⟩
theorem RoomH.make {k : Nat} {A : Around} (r : RoomH (k + 1) A) (C : Addr) (us : List Value) (kw : List (Str × Value)) : RoomH k (A.under (.builtin "type.__call__" ⟨.ref C :: us, kw⟩)) :=
  ⟨by have := r.dp; rw [make_depth]; omega, by have := r.un; rw [make_units]; omega⟩
structure FnOkH (P : Program) (w : World) (K : PySem.W.Frag) (mg : Str → Option Value) (base : Heap) (CX : CXT) (k : Nat) (f : Addr) (fd : FuncData) (ps : List Str) (sp : Sp) : Prop where
  len : ∀ vs H Q E, sp vs H Q E → vs.length = ps.length
  run : ∀ (A : Around) (outer : List Env) (s : Shared) (H : Hp) (args : Args) (us : List Value) (vs : List V) (Q : VK) (E : XK), RoomH k A → Env0 P w K mg base A outer s H → BindsTo s fd args (ps.zip us) → Vals vs us → sp vs H Q E →
    codeAny (model P w) A (.call (.ref f) args) (CR CX outer P w H s Q E) s
def Cx.unc (X : Cx) : Cx := { X with calm := false }
def Around.ch (A : Around) : Around := { A with handled := none }
theorem fn_ofH {CX : CXT} {P : Program} {w : World} {K : PySem.W.Frag} {mg : Str → Option Value} {base : Heap} {k : Nat} {f : Addr} {name qual : Str} {params : Arguments} {body : List Stmt} {scope : Scope} {dV kV doc pm cdv ct oc : Value} {an od : Option Addr}
    {osl : Array (Option Value)} {N ps : List Str} {sp : Sp} (lk : K.lookup f = some ⟨oc, od, .func (PySem.W.fnOf name qual params body scope dV kV doc pm an cdv ct), osl⟩) (hcd : PySem.W.codeIn K cdv qual = true) (S : FnScope N ps scope)
    (len : ∀ vs H Q E, sp vs H Q E → vs.length = ps.length)
    (hbody : ∀ (A : Around) (outer : List Env) (s : Shared) (H : Hp) (vs : List V) (Q : VK) (E : XK), sp vs H Q E →
      ∃ t, PSs (cxOf CX P w K mg base N qual scope f cdv A outer s H E).unc body t ∧ t { nx := fun _ H' => Q .non H', rt := Q } (start N vs) H) :
    FnOkH P w K mg base CX (k + 1) f (PySem.W.fnOf name qual params body scope dV kV doc pm an cdv ct) ps sp := by
  refine ⟨len, fun A outer s H args us vs Q E hr e0 hb r hsp => ?_⟩
  have hl := len _ _ _ _ hsp
  have KX : K.In s.heap := e0.mod.kin.keeps fun b o e => (e0.bs b o e).1
  have lim : s.heap.NoLimit := e0.mod.nolimit.keeps fun b o e => (e0.bs b o e).1
  have hkind : ∀ y ∈ ps.zip us, scope.names.lookup y.1 = some .local ∨ (scope.names.lookup y.1 = some .cell ∧ ((cellsFrom (s.heap.objs.size + 1) scope.names []).lookup y.1).isSome = true) := fun ⟨n, v⟩ hy => by
    rcases S.par n (List.of_mem_zip hy).1 with q | q
    · exact .inl q
    · exact .inr ⟨q, PySem.W.cellsFrom_some _ _ _ (.inl q)⟩
  refine codeAny_call_function (by have := hr.dp; omega) (KX _ _ lk) rfl S.co S.gen rfl (PySem.W.codeRec_of KX hcd) (hb _ _ _ _ ?_)
  refine wpAny_newFunctionEnv_cells S.kind hkind fun env he s1 x => ?_
  subst he
  refine ⟨lim.keeps x.toInCall.keep, codeAny_func ?_⟩
  obtain ⟨t, ht, hq⟩ := hbody A outer s H vs Q E hsp
  have e1 : Env0 P w K mg base (Around.ch A) outer s H := ⟨e0.frames, e0.mod, e0.bs, e0.bsz, e0.funs, e0.frf, e0.hok, e0.bare⟩
  have I0 : Inv (cxOf CX P w K mg base N qual scope f cdv (Around.ch A) outer s H E) [] (start N vs) H s1 := inv_start S rfl e1 hl r x
  have I : Inv (cxOf CX P w K mg base N qual scope f cdv A outer s H E).unc [] (start N vs) H s1 :=
    ⟨⟨I0.ok.mod, I0.ok.kind, I0.ok.glob, I0.ok.blt, I0.ok.above, I0.ok.inj, I0.ok.has, I0.ok.cab, (fun z => nomatch z), I0.ok.frames, I0.ok.stk, I0.ok.exf, I0.ok.bs, I0.ok.bsz, I0.ok.noex, I0.ok.exfs, I0.ok.funs, I0.ok.frf⟩, I0.os, I0.bare, I0.base, I0.loc, I0.cell, I0.free, I0.freeC, I0.pin, I0.hok, I0.len⟩
  refine wpAny_mono (ht [] s1 (start N vs) H _ I hq) (fun fl s' hs => ?_) fun e s' hs => hs
  have fin : ∀ {σ' : St} {H' : Hp} {v : V} {u : Value}, Inv (cxOf CX P w K mg base N qual scope f cdv A outer s H E).unc [] σ' H' s' → RelV v u → Q v H' → CE outer P w H s Q u s' :=
    fun {σ' H' v u} J rv q => ⟨v, H', J.os, J.bare, J.base, J.hok, rv, q⟩
  cases fl with
  | ret u =>
    obtain ⟨v, σ', H', J, rv, q⟩ := hs
    exact fin J rv q
  | next =>
    obtain ⟨σ', H', J, q⟩ := hs
    exact fin (v := V.non) (u := Value.none) J rfl q
  | brk =>
    obtain ⟨_, _, _, q⟩ := hs
    exact False.elim q
  | cont =>
    obtain ⟨_, _, _, q⟩ := hs
    exact False.elim q
theorem Fun.okH {P : Program} {w : World} {K : PySem.W.Frag} {mg : Str → Option Value} {base : Heap} {x qual : Str} {st : Stmt} {f : Addr} {fd : FuncData} {N ps : List Str} {k : Nat} {sp : Sp} (F : Fun K x qual st f fd) (S : FnScope N ps (defScope st)) (len : ∀ vs H Q E, sp vs H Q E → vs.length = ps.length)
    (hbody : ∀ (cdv : Value) (A : Around) (outer : List Env) (s : Shared) (H : Hp) (vs : List V) (Q : VK) (E : XK), sp vs H Q E →
      ∃ t, PSs (cxOf CX0 P w K mg base N qual (defScope st) f cdv A outer s H E).unc.nox (defBody st) t ∧ t { nx := fun _ H' => Q .non H', rt := Q } (start N vs) H) : FnOkH P w K mg base CX0 (k + 1) f fd ps sp := by
  obtain ⟨oc, od, kV, doc, pm, an, cdv, ct, osl, rfl, lk, hcd⟩ := F.ex
  refine fn_ofH lk hcd S len fun A outer s H vs Q E hsp => ?_
  obtain ⟨t, h, q⟩ := hbody cdv A outer s H vs Q E hsp
  exact ⟨t, h.nox, q⟩
end L2
namespace L2
open PySem PySem.Spec PyProof.Rows
def ExcOk (a C : Addr) (dx : Option Addr) (h : Heap) : Prop := ∃ t, h.get? a = some (excO C t dx)
theorem ExcOk.obj {P : Program} {w : World} {H : Hp} {h : Heap} {a C : Addr} {dx : Option Addr} (x : ExcOk a C dx h) : ObjOk P w H h a (.ext (ExcOk a C dx)) :=
  ⟨x, let ⟨_, e⟩ := x; ⟨_, e⟩, fun _ _ ⟨t, e⟩ k => ⟨t, k _ e⟩⟩
structure XCls (K : PySem.W.Frag) (C R fI : Addr) : Prop where
  obj : ∃ nm q N bs sn sub ab col dd k0 k1 k2 k3 k5, K.lookup C = some (excClassObj nm q C N bs (bmR R) true sn sub ab col dd k0 k1 k2 k3 k5 "ValueError.__new__")
  init : PySem.W.findIn K (.ref C) "__init__" = some (some (.ref fI))
  fn : PySem.W.isFn K (.ref fI) = true
  kp : PySem.W.keepIn K (.ref C) = true
  sa : PySem.W.findIn K (.ref C) "__setattr__" = some (some (.builtin "object.__setattr__"))
structure XBase (K : PySem.W.Frag) (R : Addr) : Prop where
  rd : PySem.W.readsIn K R (.type "type") = true
  ini : PySem.W.findCls K (.ref R) (.type "type") "__init__" = some (.val (.builtin "ValueError.__init__"))
  sp : PySem.W.specialIn K (.ref R) "__getattribute__" = some (some (.builtin "type.__getattribute__"))
section
variable {P : Program} {w : World} {H : Hp} {h h' : Heap} {a d : Addr} {o : HO}
theorem HOk.add (x : HOk P w H h) (n : H d = none) (new : ObjOk P w (upd H d o) h d o) : HOk P w (upd H d o) h := fun b u e => by
  by_cases hb : b = d
  · subst hb; rw [upd_same] at e; cases e; exact new
  · rw [upd_ne hb] at e
    exact (x b u e).stay (fun c v _ q => q) (fun c q => by rw [upd_ne (ne_of_none q n)]; exact q) fun c xs q => by rw [upd_ne (ne_of_none q n)]; exact q
theorem Un.add {fs ex : List Addr} {H1 : Hp} (u : Un fs ex H H1 h h') (hp : h.objs.size ≤ d) (n : H1 d = none) : Un fs ex H (upd H1 d o) h h' where
  keep := u.keep
  slot := u.slot
  free := fun b v q z hx => by rw [upd_ne (Nat.ne_of_lt (Nat.lt_of_lt_of_le (Heap.lt_size q) hp))]; exact u.free b v q z hx
  there := u.there
  tups := fun b xs q => by have := u.tups b xs q; rw [upd_ne (ne_of_none this n)]; exact this
  frzs := fun b v xs q => by have := u.frzs b v xs q; rw [upd_ne (ne_of_none this n)]; exact this
  tbls := fun b ps q => by obtain ⟨m, e⟩ := u.tbls b ps q; exact ⟨m, by rw [upd_ne (ne_of_none e n)]; exact e⟩
end
section
variable {X : Cx} {e1 e2 : Expr} {t1 t2 ta tv : TE} {p pos apos pos' : Pos} {r f : Str} {R : Addr}
def tInit (K : PySem.W.Frag) (R : Addr) (t1 t2 : TE) : TE := fun σ H Q => t1 σ H fun x H1 => t2 σ H1 fun y H2 => ∃ a C fI, x = .ref a ∧ H2 a = some (.ext (ExcOk a C none)) ∧ XCls K C R fI ∧ Q .non H2
theorem upd_self {H : Hp} {a : Addr} {o : HO} (h : H a = some o) : upd H a o = H := by
  funext b; unfold upd; split
  · rename_i e; subst e; exact h.symm
  · rfl
theorem pe_init {pl : Sem Bool} (hg : Gl X r) (hm : X.mg r = some (.ref R)) (B : XBase X.K R) (h1 : PE X e1 t1) (h2 : PE X e2 t2) (hdb : (r == ("__debug__" : Str)) = false := by decide)
    (hs1 : starEach [e1, e2] X.env = [(false, eval e1 X.env), (false, eval e2 X.env)] := by rfl) (hs2 : starEach [e2] X.env = [(false, eval e2 X.env)] := by rfl)
    (ht : eval (.Call (.Attribute (.Name r p) "__init__" apos) [e1, e2] [] pos) X.env = (do
      let ov ← eval (.Name r p) X.env
      standAt apos.atName
      let (f, first) ← holding [ov] (getMethod ov "__init__" pl)
      callWith pos f first (backTo pos (starEach [e1, e2] X.env)) (backToKw pos (keywordEach [] X.env))) := by rfl) :
    PE X (.Call (.Attribute (.Name r p) "__init__" apos) [e1, e2] [] pos) (tInit X.K R t1 t2) := by
  intro pins s σ H Q I h
  refine PySem.W.methodCall_KW (pl := pl) (ld_glob I hg hm ?_ hdb) ht
  refine PySem.W.method_cls I.kIn B.sp (PySem.W.cls_value I.kIn B.rd B.ini rfl ?_)
  have ha : PA X [e1, e2] (fun σ H Q => t1 σ H fun x H1 => t2 σ H1 fun y H2 => Q [x, y] H2) := by
    have := pa_cons h1 (pa_cons h2 pa_nil (by rw [hs2]; rfl)) (by rw [hs1, hs2])
    intro pos pins s σ H Q I h
    exact this pos pins s σ H Q I h
  let Q1 : List V → Hp → Prop := fun vs H2 => match vs with | [x, y] => (∃ a C fI, x = .ref a ∧ H2 a = some (.ext (ExcOk a C none)) ∧ XCls X.K C R fI ∧ Q .non H2) | _ => False
  refine PyProof.Rows.callWith_builtin1 (thn (ha pos pins _ σ H Q1 (I.tok _) h) fun us s1 ⟨vs, H1, I1, rv, q⟩ => ?_) (by rw [hs1, hs2]) (by rw [hs2]; rfl)
  match vs, rv, q with
  | [x, y], rv, ⟨a, C, fI, ex, ea, hK, q⟩ =>
    obtain ⟨u1, u2, rfl, r1, r2⟩ := vals2 rv
    subst ex
    obtain rfl : u1 = Value.ref a := r1
    obtain ⟨nm, qq, N, bs, sn, sub, ab, col, dd, k0, k1, k2, k3, k5, hC⟩ := hK.obj
    obtain ⟨⟨t0, ht0⟩, _, _⟩ := I1.hok a _ ea
    obtain ⟨hh, g, d, t, os⟩ := s1
    refine init_V (I1.kIn _ _ hC) ht0 (by show 1 ≤ sizeLine; decide) fun h' e1 e2 => ?_
    refine ⟨.non, H1, ?_, rfl, q⟩
    have := I1.write (h' := h') (t' := t) (x := a) (e := a) (o := .ext (ExcOk a C none)) (by rw [ea]; trivial) (.inl rfl) e2 ⟨_, e1⟩ (ExcOk.obj ⟨_, e1⟩)
    rw [upd_self ea] at this
    exact this
def sXset (K : PySem.W.Frag) (ta tv : TE) (f : Str) : TS := fun D σ H => tv σ H fun y H1 => ta σ H1 fun x H2 => ∃ a C, x = .ref a ∧ H2 a = some (.ext (ExcOk a C none)) ∧ (∃ R fI, XCls K C R fI ∧ NoAttr K C f) ∧ ∀ d, H2 d = none → d ≠ a → D.nx σ (upd (upd H2 a (.ext (ExcOk a C (some d)))) d (.xd [(f, y)]))
theorem ps_xset {o value : Expr} (ha : PE X o ta) (hv : PE X value tv) (hs : swapsWith value (some (.Attribute o f pos')) pos.line X.env = pure false) : PS X (.Assign [.Attribute o f pos'] value pos) (sXset X.K ta tv f) := by
  intro pins s σ H D I h
  refine plainObj_wpAny_Assign_Attribute (thn (hv pins s σ H _ I h) fun u s1 ⟨y, H1, I1, ry, q⟩ => thn (ha pins s1 σ H1 _ I1 q) fun ov s2 ⟨x, H2, I2, rx, a, C, ex, ea, c, q2⟩ => ?_) hs
  subst ex
  obtain rfl : ov = Value.ref a := rx
  obtain ⟨R, fI, c, n⟩ := c
  obtain ⟨nm, qq, N, bs, sn, sub, ab, col, dd, k0, k1, k2, k3, k5, hC⟩ := c.obj
  obtain ⟨⟨t0, ht0⟩, _, _⟩ := I2.hok a _ ea
  obtain ⟨hh, g, d, t, os⟩ := s2
  have hlt : a < hh.objs.size := Heap.lt_size ht0
  have hfr : H2 hh.objs.size = none := I2.hok.fresh (Nat.le_refl _)
  refine store_V (o := excO C t0 none) I2.kIn (I2.kIn _ _ hC) c.sa n ht0 rfl (fun c z => by cases z) rfl fun h' tk' hn hx hk => ?_
  refine ⟨σ, _, ?_, q2 hh.objs.size hfr (Nat.ne_of_gt hlt)⟩
  have mu : Mut (H2 a) := by rw [ea]; trivial
  have nd : upd H2 a (.ext (ExcOk a C (some hh.objs.size))) hh.objs.size = none := by rw [upd_ne (Nat.ne_of_gt hlt)]; exact hfr
  have hok1 : HOk X.prog X.w (upd H2 a (.ext (ExcOk a C (some hh.objs.size)))) h' := I2.hok.write mu (.inl rfl) hk ⟨_, hx⟩ (ExcOk.obj ⟨_, hx⟩)
  have un1 : Un X.fs [] H2 (upd H2 a (.ext (ExcOk a C (some hh.objs.size)))) hh h' := Un.write mu (.inl rfl) hk ⟨_, hx⟩
  refine I2.un (t' := tk') (un1.add (Nat.le_refl _) nd) (hok1.add nd ⟨_, hn, fun f' => ?_⟩)
  by_cases hf : f' = f
  · subst hf
    simp only [List.lookup, beq_self_eq_true, if_true]
    exact ry
  · have : (f' == f) = false := beq_eq_false_iff_ne.mpr hf
    simp only [List.lookup, this, if_neg hf]
    trivial
end
def spInit (C : Addr) (attr : Str) (cond : V → Prop) : Sp := fun vs H Q E => ∃ a y, vs = [.ref a, y] ∧ H a = some (.ext (ExcOk a C none)) ∧ cond y ∧ ∀ d, H d = none → d ≠ a → Q .non (upd (upd H a (.ext (ExcOk a C (some d)))) d (.xd [(attr, y)]))
theorem init_ok {P : Program} {w : World} {K : PySem.W.Frag} {mg : Str → Option Value} {base : Heap} {qual par attr rn : Str} {st : Stmt} {f C R : Addr} {fd : FuncData} {k : Nat} {e2 : Expr} {cond : V → Prop} {t2 : TE} {p1 p2 p3 p5 p6 p7 p8 p9 p10 : Pos}
    (F : Fun K "__init__" qual st f fd) (hm : mg rn = some (.ref R)) (B : XBase K R) (c : XCls K C R f) (n : NoAttr K C attr)
    (hb : defBody st = [.Expr (.Call (.Attribute (.Name rn p1) "__init__" p2) [.Name "self" p3, e2] [] p5) p6, .Assign [.Attribute (.Name "self" p7) attr p8] (.Name par p9) p10])
    (S : FnScope ["self", par] ["self", par] (defScope st)) (hg : (defScope st).names.lookup rn = some .globalImplicit)
    (h2 : ∀ X : Cx, X.N = [("self" : Str), par] → X.env.scope = defScope st → X.mg = mg → PE X e2 t2) (ht2 : ∀ a y H Q, cond y → (∀ z, Q z H) → t2 [some (.ref a), some y] H Q)
    {pl : Env → Sem Bool} (ht : ∀ env, eval (.Call (.Attribute (.Name rn p1) "__init__" p2) [.Name "self" p3, e2] [] p5) env = (do
      let ov ← eval (.Name rn p1) env
      standAt p2.atName
      let (f, first) ← holding [ov] (getMethod ov "__init__" (pl env))
      callWith p5 f first (backTo p5 (starEach [.Name "self" p3, e2] env)) (backToKw p5 (keywordEach [] env))) := by intro _; rfl)
    (hs1 : ∀ env, starEach [.Name "self" p3, e2] env = [(false, eval (.Name "self" p3) env), (false, eval e2 env)] := by intro _; rfl) (hs2 : ∀ env, starEach [e2] env = [(false, eval e2 env)] := by intro _; rfl)
    (hl1 : (defScope st).names.lookup ("self" : Str) = some .local := by rfl) (hl2 : (defScope st).names.lookup par = some .local := by rfl) (hdb : (rn == ("__debug__" : Str)) = false := by decide) (hpd : (par == ("__debug__" : Str)) = false := by decide) (hpc : (par == ("__classdict__" : Str)) = false := by decide)
    (hsw : ∀ env, swapsWith (.Name par p9) (some (.Attribute (.Name "self" p7) attr p8)) p10.line env = pure false := by intro _; rfl) :
    FnOkH P w K mg base CX0 (k + 1) f fd ["self", par] (spInit C attr cond) := by
  refine F.okH S (fun vs H Q E ⟨a, y, e, _⟩ => by rw [e]; rfl) fun cdv A outer s H vs Q E ⟨a, y, e, ha, hy, hq⟩ => ?_
  subst e
  rw [hb]
  let X : Cx := (cxOf CX0 P w K mg base ["self", par] qual (defScope st) f cdv A outer s H E).unc.nox
  have ps : PE X (.Name "self" p3) (tVar 0) := pe_var rfl (.inl hl1)
  have ps' : PE X (.Name "self" p7) (tVar 0) := pe_var rfl (.inl hl1)
  have pp : PE X (.Name par p9) (tVar 1) := pe_var rfl (.inl hl2) hpd hpc
  refine ⟨_, pss_cons (ps_expr (pe_init (X := X) hg hm B ps (h2 X rfl rfl rfl) hdb (hs1 _) (hs2 _) (ht _)) ) (pss_one (ps_xset ps' pp (hsw _))), ?_⟩
  refine ⟨_, rfl, ht2 a y H _ hy fun z => ⟨a, C, f, rfl, ha, c, ?_⟩⟩
  exact ⟨_, rfl, _, rfl, a, C, rfl, ha, ⟨R, f, c, n⟩, fun d h1 h2 => hq d h1 h2⟩
end L2
namespace L2
open PySem PySem.Spec PyProof.Rows
structure Rsd (fl : Value → Prop) (sz : Nat) (nw : Addr → Prop) (h : Heap) (a C d : Addr) (fs : List (Str × V)) : Prop where
  sa : sz ≤ a
  na : nw a
  nd : nw d
  ad : a ≠ d
  obj : ∃ oe vs T, h.get? a = some oe ∧ oe.cls = .ref C ∧ oe.dict = some d ∧ oe.data = .fields vs ∧ Trc fl h a vs T ∧ ∀ T', T = some T' → sz ≤ T' ∧ nw T' ∧ T' ≠ d
  att : ∃ mA, h.Ns1 d mA ∧ ∀ f, RelO (fs.lookup f) (mA f)
  cx : fs.length = 1 → ∀ oe vs, h.get? a = some oe → oe.data = .fields vs → vs[2]? = some .none
theorem Trc.imp {fl fl' : Value → Prop} {h : Heap} {e : Addr} {vs : Array Value} {T : Option Addr} (i : ∀ v, fl v → fl' v) (t : Trc fl h e vs T) : Trc fl' h e vs T := by
  cases T with
  | none => exact t
  | some T => obtain ⟨h1, h2, oT, ts, v, h3, h4, h5, h6⟩ := t; exact ⟨h1, h2, oT, ts, v, h3, h4, h5, i v h6⟩
theorem Rsd.imp {fl fl' : Value → Prop} {n n' : Nat} {nw nw' : Addr → Prop} {h : Heap} {a C d : Addr} {fs : List (Str × V)} (r : Rsd fl n nw h a C d fs) (hf : ∀ v, fl v → fl' v) (hn : n' ≤ n) (i : ∀ b, nw b → nw' b) : Rsd fl' n' nw' h a C d fs :=
  ⟨Nat.le_trans hn r.sa, i _ r.na, i _ r.nd, r.ad, let ⟨oe, vs, T, h1, h2, h3, h4, h5, h6⟩ := r.obj; ⟨oe, vs, T, h1, h2, h3, h4, h5.imp hf, fun T' e => ⟨Nat.le_trans hn (h6 T' e).1, i _ (h6 T' e).2.1, (h6 T' e).2.2⟩⟩, r.att, r.cx⟩
def New (X : Cx) (pins : List (Addr × Obj)) (H : Hp) (b : Addr) : Prop := X.s₀.heap.get? b = none ∧ H b = none ∧ b ≠ X.env.locals ∧ ∀ p ∈ X.pn ++ pins, p.1 ≠ b
section
variable {X : Cx} {pins : List (Addr × Obj)} {σ : St} {H : Hp} {s : Shared} {a C d : Addr} {fs : List (Str × V)}
theorem New.of (I : Inv X pins σ H s) (hx : X.ex = []) {H' : Hp} {b : Addr} (h : s.heap.get? b = none) (n : H' b = none) : New X pins H' b := by
  refine ⟨?_, n, fun e => ?_, fun p hp e => ?_⟩
  · cases q : X.s₀.heap.get? b with
    | none => rfl
    | some o =>
      obtain ⟨o', e⟩ := I.base.there b o q (by rw [hx]; simp)
      rw [h] at e; cases e
  · obtain ⟨m, ⟨o, es, ep, ho, r⟩, _⟩ := I.loc
    rw [← e, h] at ho; cases ho
  · have := (I.pin p hp).1
    rw [e, h] at this; cases this
def FlX (X : Cx) (v : Value) : Prop := v = .none ∨ v = rawInt X.env.locals
abbrev Raised (X : Cx) (pins : List (Addr × Obj)) (H : Hp) (h : Heap) (a C d : Addr) (fs : List (Str × V)) : Prop := Rsd (FlX X) X.s₀.heap.objs.size (New X pins H) h a C d fs
theorem New.nofs (I : Inv X pins σ H s) {b : Addr} (n : New X pins H b) : b ∉ frs X.stack := fun hb => by
  rcases List.mem_cons.mp (I.stkSub b hb) with e | e
  · exact n.2.2.1 e
  · obtain ⟨_, o, ho, _⟩ := I.ok.funs.mem e
    rw [n.1] at ho; cases ho
theorem noteX {M : Model} {E : Value → Shared → Prop} {Q : Unit → Shared → Prop} (I : Inv X pins σ H s) (hst : X.stack = X.env :: X.outer) (hf : X.env.frame = some X.env.locals) (hx : X.ex = []) (r : Raised X pins H s.heap a C d fs)
    (h : ∀ s', s'.os = s.os → Inv X pins σ H s' → Raised X pins H s'.heap a C d fs → (∃ oe vs T, s'.heap.get? a = some oe ∧ oe.data = .fields vs ∧ vs[1]? = some (.ref T)) → Q () s') :
    wpAny M X.A (noteFrame (.ref a) X.env) Q E s := by
  obtain ⟨oe, vs, T, e1, e2, e3, e4, e5, e6⟩ := r.obj
  obtain ⟨mA, n1, n2⟩ := r.att
  obtain ⟨od, esd, epd, f1, f2, f3⟩ := id n1
  have hsz : 1 < vs.size := by
    cases T with
    | none => exact (Array.getElem?_eq_some_iff.mp (show vs[1]? = some .none from e5)).1
    | some T => exact (Array.getElem?_eq_some_iff.mp e5.1).1
  by_cases hh : ∃ T0, T = some T0 ∧ ∃ oT ts, s.heap.get? T0 = some oT ∧ oT.data = .fields ts ∧ ts[3]? = some (rawInt X.env.locals)
  · obtain ⟨T0, rfl, oT, ts, g1, g2, g3⟩ := hh
    unfold noteFrame
    simp only [hf]
    refine wpAny_bind (wpAny_field e1 e4 e5.1 ?_)
    rw [if_pos (show (Value.ref T0 != Value.none) = true from by simp)]
    refine wpAny_bind (wpAny_field g1 g2 g3 ?_)
    rw [if_pos (show (rawInt X.env.locals == rawInt X.env.locals) = true from by first | (simp; done) | exact beq_self_eq_true _)]
    exact wpAny_pure (h s rfl I r ⟨oe, vs, T0, e1, e4, e5.1⟩)
  have e5' : Trc (fun v => v = .none) s.heap a vs T := by
    cases T with
    | none => exact e5
    | some T0 =>
      obtain ⟨h1, h2, oT, ts, v, h3, h4, h5, h6⟩ := e5
      rcases h6 with rfl | rfl
      · exact ⟨h1, h2, oT, ts, _, h3, h4, h5, rfl⟩
      · exact absurd ⟨T0, rfl, oT, ts, h3, h4, h5⟩ hh
  by_cases hT0 : ∃ T0, T = some T0 ∧ False
  · obtain ⟨_, _, z⟩ := hT0; exact z.elim
  have main : ∀ h' T' oT ts, (∀ b o, s.heap.get? b = some o → b ≠ a → T ≠ some b → (b ∉ frs (X.env :: X.outer) → h'.get? b = some o) ∧ ∃ sl, h'.get? b = some { o with slots := sl }) → h'.get? a = some (oe.mapFields (·.setIfInBounds 1 (.ref T'))) → s.heap.objs.size ≤ T' → h'.get? T' = some oT → oT.data = .fields ts → ts[3]? = some (rawInt X.env.locals) → Q () { s with heap := h' } := by
    intro h' T' oT ts k1 k2 k3 k4 k5 k6
    rw [← hst] at k1
    have nT : ∀ T'', T = some T'' → New X pins H T'' := fun T'' e => (e6 T'' e).2.1
    have kt : ∀ b o, s.heap.get? b = some o → H b ≠ none → h'.get? b = some o := fun b o e hb =>
      (k1 b o e (fun z => hb (by rw [z]; exact r.na.2.1)) (fun z => hb (nT b z).2.1)).1 fun z => hb (I.stkFree b z)
    have kd : h'.get? d = some od := (k1 d od f1 (Ne.symm r.ad) (fun z => (e6 d z).2.2 rfl)).1 (r.nd.nofs I)
    have un : Un (frs X.stack) (a :: T.toList) H H s.heap h' := by
      have hch : ∀ b, b ∉ a :: T.toList → b ≠ a ∧ T ≠ some b := fun b hb => ⟨fun z => hb (by rw [z]; exact List.mem_cons_self), fun z => hb (by rw [z]; exact List.mem_cons_of_mem _ List.mem_cons_self)⟩
      exact ⟨fun b o e _ hb hc => (k1 b o e (hch b hc).1 (hch b hc).2).1 hb, fun b o e _ _ hc => (k1 b o e (hch b hc).1 (hch b hc).2).2, fun _ _ _ n _ => n,
        fun b o e hc => let ⟨sl, q⟩ := (k1 b o e (hch b hc).1 (hch b hc).2).2; ⟨_, q⟩, fun _ _ q => q, fun _ _ _ q => q, fun _ ps q => ⟨#[], by rw [q]; simp⟩⟩
    have hok : HOk X.prog X.w H h' := fun b o e => (I.hok b o e).stay (fun c u hc q => kt c u q (by
      rcases hc with rfl | hc
      · rw [e]; exact fun z => nomatch z
      · rw [hc]; exact fun z => nomatch z) ) (fun _ q => q) fun _ _ q => q
    have ncell : ∀ b : Addr, (∃ o vs, s.heap.get? b = some o ∧ o.data = .fields vs) → ∀ x c, X.env.cells.lookup x = some c → c ≠ b := fun b ⟨o, vs, q1, q2⟩ x c e z => by
      obtain ⟨v, oc, g1, g2⟩ := I.cell x c e
      rw [z, q1] at g1; cases g1; rw [q2] at g2; cases g2
    have I' : Inv X pins σ H { s with heap := h' } := I.call (g' := s.gens) (t' := s.toks) (d' := s.drawn) un hok I.bare fun b hb => by
      rcases List.mem_cons.mp hb with rfl | hb
      · exact ⟨.inr r.sa, r.na.2.2.1, ncell b ⟨_, _, e1, e4⟩, r.na.2.2.2⟩
      · cases T with
        | none => cases hb
        | some T =>
          obtain rfl : b = T := by simpa using hb
          obtain ⟨_, _, oT0, ts0, v0, g1, g2, _⟩ := e5
          exact ⟨.inr (e6 b rfl).1, (nT b rfl).2.2.1, ncell b ⟨_, _, g1, g2⟩, (nT b rfl).2.2.2⟩
    have cx2 : fs.length = 1 → ∀ oe vs, h'.get? a = some oe → oe.data = .fields vs → vs[2]? = some .none := fun hl oe2 vs2 q1 q2 => by
      rw [k2] at q1; cases q1
      rw [Obj.data_mapFields e4] at q2; cases q2
      have := r.cx hl oe vs e1 e4
      rw [Array.getElem?_setIfInBounds_ne (by decide)]
      exact this
    refine h _ rfl I' ⟨r.sa, r.na, r.nd, r.ad, ⟨_, _, some T', k2, ?_, ?_, Obj.data_mapFields e4 _, ⟨?_, ?_, oT, ts, _, k4, k5, k6, .inr rfl⟩, ?_⟩, ⟨mA, ⟨od, esd, epd, kd, f2, f3⟩, n2⟩, cx2⟩ ⟨_, _, T', k2, Obj.data_mapFields e4 _, by simp [hsz]⟩
    · rw [Obj.cls_mapFields]; exact e2
    · obtain ⟨oc, odi, odt, osl⟩ := oe
      cases odt <;> exact e3
    · simp [hsz]
    · exact fun z => absurd (Heap.lt_size e1) (by rw [← z]; exact Nat.not_lt.mpr k3)
    · intro T'' e
      cases e
      exact ⟨Nat.le_trans I.sz k3, New.of I hx (Heap.get?_none_of_le k3) (I.hok.fresh k3), fun z => absurd (Heap.lt_size f1) (by rw [← z]; exact Nat.not_lt.mpr k3)⟩
  cases T with
  | none =>
    have h1 : vs[1]? = some .none := e5
    unfold noteFrame
    simp only [hf]
    refine wpAny_bind (wpAny_field e1 e4 h1 ?_)
    rw [if_neg (by decide)]
    exact new_note (base := X.base) (L := X.env.locals) (by rw [← hst]; exact I.ok.frames) (by rw [← hst]; exact I.stack) hf e1 e4 hsz fun h' T' oT ts a1 a2 a3 a4 a5 a6 => main h' T' oT ts (fun b o q ne _ => a1 b o q ne) a2 a3 a4 a5 a6
  | some T0 =>
    obtain ⟨h1, hTe, oT, ts, v, hT, hdT, h3, rfl⟩ := e5'
    unfold noteFrame
    simp only [hf]
    refine wpAny_bind (wpAny_field e1 e4 h1 ?_)
    rw [if_pos (show (Value.ref T0 != Value.none) = true from by simp)]
    refine wpAny_bind (wpAny_field hT hdT h3 ?_)
    rw [if_neg (show ¬ ((Value.none == rawInt X.env.locals) = true) from by simp [rawInt])]
    refine wpAny_bind (wpAny_setField hT hdT (Array.getElem?_eq_some_iff.mp h3).1 ?_)
    have other : ∀ b, b ≠ T0 → (s.heap.update T0 (Obj.mapFields (·.setIfInBounds 3 Value.none))).get? b = s.heap.get? b := fun b hb => Heap.get?_update_other _ _ (Ne.symm hb)
    have noRecord : ∀ b o, s.heap.get? b = some o → (∀ vs, o.data ≠ .fields vs) → b ≠ T0 := fun b o hb hnf q => by
      rw [q, hT] at hb; injection hb with hb; subst hb; exact hnf ts hdT
    have hl : s.heap.FunFrames X.base (X.env :: X.outer) := by rw [← hst]; exact I.stack
    exact new_note (base := X.base) (L := X.env.locals) (by rw [← hst]; exact I.ok.frames) (hl.of_keeps fun b o hb hnf => ⟨o, (other b (noRecord b o hb hnf)).trans hb, rfl⟩) hf ((other a (Ne.symm hTe)).trans e1) e4 hsz
      fun h' T' oT' ts' a1 a2 a3 a4 a5 a6 => main h' T' oT' ts' (fun b o q ne nT => a1 b o ((other b fun z => nT (by rw [z])).trans q) ne) a2 (by rw [Heap.size_after_update] at a3; exact a3) a4 a5 a6
theorem flight {M : Model} {A : Around} {E : Value → Shared → Prop} {Q : Unit → Shared → Prop} (fr : Option Addr) (I : Inv X pins σ H s) (hex : X.ex = []) (r : Raised X pins H s.heap a C d fs)
    (h : ∀ s', Inv X pins σ H s' → Rsd (fun v => v = fr.elim .none fun f => rawInt f) X.s₀.heap.objs.size (New X pins H) s'.heap a C d fs → Q () s') : wpAny M A (setFlight (.ref a) fr) Q E s := by
  obtain ⟨oe, vs, T, e1, e2, e3, e4, e5, e6⟩ := r.obj
  obtain ⟨mA, n1, n2⟩ := r.att
  obtain ⟨od, esd, epd, f1, f2, f3⟩ := id n1
  cases T with
  | none =>
    unfold setFlight
    refine wpAny_bind (wpAny_field e1 e4 (show vs[1]? = some .none from e5) ?_)
    rw [if_neg (by decide)]
    exact wpAny_pure (h s I ⟨r.sa, r.na, r.nd, r.ad, ⟨oe, vs, none, e1, e2, e3, e4, e5, e6⟩, r.att, r.cx⟩)
  | some T =>
    obtain ⟨t1, t2, oT, ts, v, t3, t4, t5, t6⟩ := e5
    obtain ⟨T1, T2, T3⟩ := e6 T rfl
    unfold setFlight
    refine wpAny_bind (wpAny_field e1 e4 t1 ?_)
    rw [if_pos (show (Value.ref T != Value.none) = true from by simp)]
    refine wpAny_setField t3 t4 (Array.getElem?_eq_some_iff.mp t5).1 ?_
    generalize hw : (fr.elim Value.none fun f => rawInt f) = w
    have oth : ∀ b, b ≠ T → (s.heap.update T (Obj.mapFields (·.setIfInBounds 3 w))).get? b = s.heap.get? b := fun b hb => Heap.get?_update_other _ _ (Ne.symm hb)
    have self := Heap.get?_update_self (Obj.mapFields (·.setIfInBounds 3 w)) t3 (Obj.isFreed_of_fields (Obj.data_mapFields t4 _))
    have un : Un (frs X.stack) [T] H H s.heap (s.heap.update T (Obj.mapFields (·.setIfInBounds 3 w))) := by
      have ne : ∀ b, b ∉ [T] → b ≠ T := fun b hb z => hb (by rw [z]; exact List.mem_cons_self)
      exact ⟨fun b o e _ _ hc => (oth b (ne b hc)).trans e, fun b o e _ _ hc => ⟨o.slots, (oth b (ne b hc)).trans e⟩, fun _ _ _ n _ => n, fun b o e hc => ⟨o, (oth b (ne b hc)).trans e⟩, fun _ _ q => q, fun _ _ _ q => q, fun _ ps q => ⟨#[], by rw [q]; simp⟩⟩
    have hok : HOk X.prog X.w H (s.heap.update T (Obj.mapFields (·.setIfInBounds 3 w))) := fun b o e => (I.hok b o e).stay (fun c u hc q => (oth c (by
      rintro rfl
      rcases hc with rfl | hc
      · rw [T2.2.1] at e; cases e
      · rw [T2.2.1] at hc; cases hc)).trans q) (fun _ q => q) fun _ _ q => q
    have I' : Inv X pins σ H { s with heap := s.heap.update T (Obj.mapFields (·.setIfInBounds 3 w)) } := I.call (g' := s.gens) (t' := s.toks) (d' := s.drawn) un hok I.bare fun b hb => by
      obtain rfl : b = T := by simpa using hb
      have nc : ∀ x c, X.env.cells.lookup x = some c → c ≠ b := fun x c e z => by
        obtain ⟨v, oc, g1, g2⟩ := I.cell x c e
        rw [z, t3] at g1; cases g1; rw [t4] at g2; cases g2
      exact ⟨.inr T1, T2.2.2.1, nc, T2.2.2.2⟩
    subst hw
    refine h _ I' ⟨r.sa, r.na, r.nd, r.ad, ⟨oe, vs, some T, (oth a (Ne.symm t2)).trans e1, e2, e3, e4, ⟨t1, t2, _, _, _, self, Obj.data_mapFields t4 _, ?_, rfl⟩, fun T' e => by cases e; exact ⟨T1, T2, T3⟩⟩, ⟨mA, ⟨od, esd, epd, (oth d (Ne.symm T3)).trans f1, f2, f3⟩, n2⟩, fun hl oe2 vs2 q1 q2 => r.cx hl oe2 vs2 ((oth a (Ne.symm t2)).symm.trans q1) q2⟩
    have := (Array.getElem?_eq_some_iff.mp t5).1
    simp [this]
theorem noted {M : Model} {E : Value → Shared → Prop} {Q : Unit → Shared → Prop} (I : Inv X pins σ H s) (hst : X.stack = X.env :: X.outer) (hf : X.env.frame = some X.env.locals) (hx : X.ex = []) (r : Raised X pins H s.heap a C d fs)
    (h : ∀ s', Inv X pins σ H s' → Rsd (fun v => v = .none) X.s₀.heap.objs.size (New X pins H) s'.heap a C d fs → Q () s') :
    wpAny M X.A (noteFrame (.ref a) X.env) (fun _ s₂ => wpAny M X.A (setFlight (.ref a) none) Q E s₂) E s :=
  noteX I hst hf hx r fun s1 _ I1 r1 _ => flight none I1 hx r1 fun s2 I2 r2 => h s2 I2 r2
theorem Rsd.any {X : Cx} {n : Nat} {nw : Addr → Prop} {h : Heap} {a C d : Addr} {fs : List (Str × V)} (r : Rsd (fun v => v = .none) n nw h a C d fs) : Rsd (FlX X) n nw h a C d fs := r.imp (fun _ e => .inl e) (Nat.le_refl _) fun _ z => z
end
end L2
namespace L2
open PySem PySem.Spec PyProof.Rows
def CX1 (P : Program) (w : World) : CXT := fun outer H s E e s' => ∃ a C d fs H', e = .ref a ∧ s'.os = s.os ∧ AllBare s'.gens ∧ Un (frs outer) [] H H' s.heap s'.heap ∧ HOk P w H' s'.heap ∧
  Rsd (fun v => v = .none) s.heap.objs.size (fun b => s.heap.get? b = none ∧ H' b = none) s'.heap a C d fs ∧ E (.ref C) (some d) (upd H' d (.xd fs))
abbrev XS := Value → Option Addr → St → Hp → Prop
def XP (X : Cx) (pins : List (Addr × Obj)) (E : XS) (e : Value) (s' : Shared) : Prop := ∃ a C d fs σ' H', e = .ref a ∧ Inv X pins σ' H' s' ∧ Raised X pins H' s'.heap a C d fs ∧ E (.ref C) (some d) σ' (upd H' d (.xd fs))
abbrev TSX := Ends → XS → St → Hp → Prop
abbrev TEX := St → Hp → VK → XS → Prop
def PEx (X : Cx) (e : Expr) (t : TEX) : Prop :=
  ∀ (pins : List (Addr × Obj)) (s : Shared) (σ : St) (H : Hp) (Q : VK) (E : XS), Inv X pins σ H s → t σ H Q E → wpAny (model X.prog X.w) X.A (eval e X.env) (EP X pins σ Q) (XP X pins E) s
def PSx (X : Cx) (st : Stmt) (t : TSX) : Prop :=
  ∀ (pins : List (Addr × Obj)) (s : Shared) (σ : St) (H : Hp) (D : Ends) (E : XS), Inv X pins σ H s → t D E σ H → wpAny (model X.prog X.w) X.A (exec st X.env) (SP X pins D) (XP X pins E) s
def PSxs (X : Cx) (st : List Stmt) (t : TSX) : Prop :=
  ∀ (pins : List (Addr × Obj)) (s : Shared) (σ : St) (H : Hp) (D : Ends) (E : XS), Inv X pins σ H s → t D E σ H → wpAny (model X.prog X.w) X.A (execs st X.env) (SP X pins D) (XP X pins E) s
section
variable {X : Cx} {e : Expr} {te : TE} {tx : TEX} {st : Stmt} {rest a b : List Stmt} {t u : TS} {t' u' : TSX} {pos : Pos}
abbrev NoX (X : Cx) : Prop := X.xe = fun _ _ => False
theorem psx_of (hx : NoX X) (h : PS X st t) : PSx X st (fun D _ σ H => t D σ H) := fun pins s σ H D E I q => wpAny_mono (h pins s σ H D I q) (fun _ _ z => z) fun _ _ z => by rw [hx] at z; exact z.elim
theorem psxs_of (hx : NoX X) (h : PSs X rest t) : PSxs X rest (fun D _ σ H => t D σ H) := fun pins s σ H D E I q => wpAny_mono (h pins s σ H D I q) (fun _ _ z => z) fun _ _ z => by rw [hx] at z; exact z.elim
def xSeq (t u : TSX) : TSX := fun D E σ H => t { D with nx := u D E } E σ H
theorem psxs_cons (h1 : PSx X st t') (h2 : PSxs X rest u') : PSxs X (st :: rest) (xSeq t' u') := by
  intro pins s σ H D E I h
  refine wpAny_execs_cons (thn (h1 pins s σ H { D with nx := u' D E } E I h) fun f s1 q => ?_)
  cases f with
  | next =>
    obtain ⟨σ', H', I', q⟩ := q
    exact h2 pins s1 σ' H' D E I' q
  | ret v => exact q
  | brk => exact q
  | cont => exact q
theorem psxs_one (h1 : PSx X st t') : PSxs X [st] t' := by
  intro pins s σ H D E I h
  refine wpAny_execs_cons (thn (h1 pins s σ H D E I h) fun f s1 q => ?_)
  cases f with
  | next => exact wpAny_execs_nil q
  | ret v => exact q
  | brk => exact q
  | cont => exact q
def xIf (c : TT) (t u : TSX) : TSX := fun D E σ H => c σ H fun b H1 => if b = true then t D E σ H1 else u D E σ H1
theorem psx_if {c : Expr} {tc : TT} (hx : NoX X) (hc : PT X c tc) (ha : PSxs X a t') (hb : PSxs X b u') : PSx X (.If c a b pos) (xIf tc t' u') := by
  intro pins s σ H D E I h
  refine wpAny_If (wpAny_mono (hc pins s σ H _ I h) (fun d s1 ⟨H1, I1, q1⟩ => ?_) fun _ _ z => by rw [hx] at z; exact z.elim)
  cases d with
  | true => exact ha pins s1 σ H1 D E I1 q1
  | false => exact hb pins s1 σ H1 D E I1 q1
theorem psx_expr (he : PEx X e tx) (hs : swapsWith e none pos.line X.env = pure false := by rfl) : PSx X (.Expr e pos) (fun D E σ H => tx σ H (fun _ H1 => D.nx σ H1) E) := by
  intro pins s σ H D E I h
  exact wpAny_Expr_any (thn (he pins s σ H _ E I h) fun v s1 ⟨x, H1, I1, r1, q1⟩ => ⟨σ, H1, I1, q1⟩) I.quiet hs
theorem psx_set {i : Nat} {x : Str} {pos' : Pos} (hN : X.N.Nodup) (hi : X.N[i]? = some x) (hx : Loc X.env.scope x) (he : PEx X e tx) (hs : swapsWith e (some (.Name x pos')) pos.line X.env = pure false := by rfl) (hf : X.fn x = true ∨ X.env.scope.names.lookup x = some .local := by first | exact .inl rfl | exact .inr rfl | assumption) :
    PSx X (.Assign [.Name x pos'] e pos) (fun D E σ H => tx σ H (fun v H1 => D.nx (σ.set i (some v)) H1) E) := by
  intro pins s σ H D E I h
  refine wpAny_Assign_Name (thn (he pins s σ H _ E I h) fun v s1 ⟨y, H1, I1, r1, q1⟩ => ?_) hs
  exact store_ok I1 hN hi hx r1 (fun s2 I2 => ⟨_, H1, I2, q1⟩) hf
def xCall (sp : Sp) (dvs : List V) (t : TA) : TEX := fun σ H Q E => t σ H fun vs H1 => sp (vs ++ dvs) H1 Q fun c d H2 => E c d σ H2
theorem run_fnx {k : Nat} {f : Addr} {fd : FuncData} {ps : List Str} {sp : Sp} {dvs : List V} {ds : List Value} {pins : List (Addr × Obj)} {σ : St} {H : Hp} {s : Shared} {Q : VK} {E : XS} {us : List Value} {vs : List V}
    (hex : X.ex = []) (F : FnOk X.prog X.w X.K X.mg X.base (CX1 X.prog X.w) k f fd ps sp) (hr : Room k X.A) (hb : Binds X.K fd ps ds) (hd : Vals dvs ds) (I : Inv X pins σ H s) (r : Vals vs us) (h : sp (vs ++ dvs) H Q fun c d H2 => E c d σ H2) :
    wpAny (model X.prog X.w) X.A (call (.ref f) us) (EP X pins σ Q) (XP X pins E) s := by
  have r2 : Vals (vs ++ dvs) (us ++ ds) := r.append hd
  have hl : (us ++ ds).length = ps.length := by rw [← r2.length]; exact F.len _ _ _ _ h
  refine wpAny_call (codeAny_mono (F.run X.A X.stack s H ⟨us, []⟩ (us ++ ds) (vs ++ dvs) Q (fun c d H2 => E c d σ H2) hr I.env0 (hb s us I.kIn hl) r2 h) fun r s' hq => ?_)
  cases r with
  | error e =>
    obtain ⟨a, C, d, fs, H', rfl, os, bare, un, hok, r, q⟩ := hq
    exact ⟨a, C, d, fs, σ, H', rfl, I.call' os un hok bare (fun b z => absurd z (by simp)), r.imp (fun _ e => .inl e) I.sz fun b z => New.of I hex z.1 z.2, q⟩
  | ok fl =>
    cases fl with
    | ret u => exact I.after hq
    | next => exact False.elim hq
    | brk => exact False.elim hq
    | cont => exact False.elim hq
theorem pex_call {k : Nat} {f : Addr} {fd : FuncData} {ps : List Str} {sp : Sp} {dvs : List V} {ds : List Value} {x : Str} {p : Pos} {es : List Expr} {ta : TA} (hx : NoX X) (hex : X.ex = []) (F : FnOk X.prog X.w X.K X.mg X.base (CX1 X.prog X.w) k f fd ps sp) (hr : Room k X.A) (hg : Gl X x) (hm : X.mg x = some (.ref f)) (hk : PySem.W.keepIn X.K (.ref f) = true) (hb : Binds X.K fd ps ds) (hd : Vals dvs ds)
    (ha : PA X (e :: es) ta) (hdb : (x == ("__debug__" : Str)) = false := by decide) (he : starEach (e :: es) X.env = (false, eval e X.env) :: starEach es X.env := by rfl) (hpl : (backTo pos (starEach es X.env)).any (·.1) = false := by rfl) :
    PEx X (.Call (.Name x p) (e :: es) [] pos) (xCall sp dvs ta) := by
  intro pins s σ H Q E I h
  refine wpAny_Call_Name_kw (ld_glob I hg hm ?_ hdb)
  refine PySem.W.callWith_K (h₀ := X.base) I.ok.mod.kin hk (wpAny_mono (ha pos pins s σ H _ I h) (fun us s1 ⟨vs, H1, I1, r, q⟩ => ⟨I1.kIn, ?_⟩) fun _ _ z => by rw [hx] at z; exact z.elim) he hpl
  exact run_fnx hex F hr hb hd I1 r q
def xRaise (K : PySem.W.Frag) (C : Addr) (attr : Str) (cond : V → Prop) (te : TE) : TSX := fun _ E σ H => te σ H fun y H1 => cond y ∧ ∀ d, H1 d = none → E (.ref C) (some d) σ (upd H1 d (.xd [(attr, y)]))
theorem raise_V {nm q : Str} {C N R : Addr} {bs : List Value} {sn : List Str} {sub : List Value} {ab : Bool} {col : Option Bool} {dd : Option Addr} {k0 k1 k2 k3 k5 : Option Value} {A : Around} {M : Model} {s : Shared} {E : Value → Shared → Prop} {env : Env} {x : Sem Value} {Q : Flow → Shared → Prop} (hh : A.handled = none)
    (h : wpAny M A x (fun v s₁ => ∃ e t d, v = .ref e ∧ s₁.heap.get? C = some (excClassObj nm q C N bs (bmR R) true sn sub ab col dd k0 k1 k2 k3 k5 "ValueError.__new__") ∧ s₁.heap.get? e = some (excO C t (some d)) ∧ E (.ref e) s₁) E s) :
    wpAny M A (raiseStmt env (some x) none) Q E s := by
  have hcB : (Value.ref C :: bmR R).contains (.type "BaseException") = true := by rw [List.contains_cons]; rfl
  unfold raiseStmt
  refine wpAny_bind (wpAny_mono h (fun v s₁ h₁ => ?_) fun _ _ x => x)
  obtain ⟨e, t, d, rfl, hC, he, hE⟩ := h₁
  unfold excO at he
  obtain ⟨hp, g, d, tk, os⟩ := s₁
  repeat (first | with_reducible refine wpAny_loadPart_at he ?_ | with_reducible refine wpAny_loadPart_at hC ?_ | (with_reducible refine wpAny_isSubtype_exc hC ?_; rw [hcB]) | wp_step)
  exact wpAny_raiseNew_none hh hE
end
end L2
namespace L2
open PySem PySem.Spec PyProof.Rows
section
variable {X : Cx}
theorem HOk.forget {P : Program} {w : World} {H H' : Hp} {h : Heap} (x : HOk P w H' h) (sub : ∀ b o, H b = some o → H' b = some o) (back : ∀ b o, H' b = some o → H b = some o ∨ (∀ y, o ≠ .own y) ∧ ∀ xs, o ≠ .tup xs) : HOk P w H h := fun b o e =>
  (x b o (sub b o e)).stay (fun _ _ _ q => q) (fun c q => (back c _ q).elim (fun z => z) fun z => absurd rfl (z.1 _)) fun c xs q => (back c _ q).elim (fun z => z) fun z => absurd rfl (z.2 _)
theorem run_exc {k : Nat} {C R fI : Addr} {fd : FuncData} {par attr : Str} {cond : V → Prop} {pins : List (Addr × Obj)} {σ : St} {H : Hp} {s : Shared} {u : Value} {y : V} {E : Value → Shared → Prop} (hex : X.ex = []) (c : XCls X.K C R fI)
    (F : FnOkH X.prog X.w X.K X.mg X.base CX0 k fI fd ["self", par] (spInit C attr cond)) (hr : RoomH (k + 1) X.A) (hb : Binds X.K fd ["self", par] []) (I : Inv X pins σ H s) (r : RelV y u) (hy : cond y) :
    wpAny (model X.prog X.w) X.A (call (.ref C) [u]) (fun v s' => ∃ a t d, v = .ref a ∧ s'.heap.get? a = some (excO C t (some d)) ∧ Inv X pins σ H s' ∧ Raised X pins H s'.heap a C d [(attr, y)]) E s := by
  obtain ⟨nm, qq, N, bs, sn, sub, ab, col, dd, k0, k1, k2, k3, k5, hC⟩ := c.obj
  have hfn : ∃ oI, X.K.lookup fI = some oI ∧ oI.cls = .type "function" := by
    have : (X.K.lookup fI).map (·.cls) = some (.type "function") := beq_iff_eq.mp c.fn
    cases q : X.K.lookup fI with
    | none => rw [q] at this; cases this
    | some oI => rw [q] at this; exact ⟨oI, rfl, by simpa using this⟩
  obtain ⟨oI, hoI, hoc⟩ := hfn
  obtain ⟨hh, g, d, t, os⟩ := s
  let A0 : Addr := hh.objs.size + 1
  have hn0 : H A0 = none := I.hok.fresh (Nat.le_succ _)
  have I2 : Inv X pins σ (upd H A0 (.ext (ExcOk A0 C none))) ⟨excHp hh C [u], g, d, t, os⟩ := I.laid (t' := t) (excHp_keep hh C [u]) (Nat.le_succ _) (ExcOk.obj ⟨_, excHp_get hh C [u]⟩)
  let H2 : Hp := upd H A0 (.ext (ExcOk A0 C none))
  let Q1 : VK := fun v H' => v = .non ∧ ∃ d, H2 d = none ∧ d ≠ A0 ∧ H' = upd (upd H2 A0 (.ext (ExcOk A0 C (some d)))) d (.xd [(attr, y)])
  have hq : spInit C attr cond [.ref A0, y] H2 Q1 E0 := ⟨A0, y, rfl, upd_same, hy, fun d h1 h2 => ⟨rfl, d, h1, h2, rfl⟩⟩
  have r2 : Vals [V.ref A0, y] [Value.ref A0, u] := .cons rfl (.cons r .nil)
  refine call_V (underR R) I.kIn (I.kIn _ _ hC) c.init (I.kIn _ _ hoI) hoc ?_ (by show 1 ≤ sizeLine; decide)
  refine wpAny_call (codeAny_mono (F.run _ X.stack _ H2 ⟨[Value.ref A0, u], []⟩ [Value.ref A0, u] _ Q1 E0 (hr.make C [u] []) (I2.env0.make C [u] []) (by have := hb ⟨excHp hh C [u], g, d, t, os⟩ [Value.ref A0, u] I2.kIn rfl; simpa using this) r2 hq) fun r s' hq' => ?_)
  cases r with
  | error e => exact False.elim hq'
  | ok fl =>
    cases fl with
    | next => exact False.elim hq'
    | brk => exact False.elim hq'
    | cont => exact False.elim hq'
    | ret v =>
      obtain ⟨v', H', eo, bare, un, hok, rv, rfl, d', h1, h2, rfl⟩ := hq'
      refine ⟨rv, A0, ?_⟩
      have hd0 : H d' = none := by rw [← upd_ne (H := H) (o := .ext (ExcOk A0 C none)) h2]; exact h1
      have sz : ∀ b o, H b = some o → b ≠ A0 ∧ b ≠ d' := fun b o e => ⟨ne_of_none e hn0, ne_of_none e hd0⟩
      have hgd : (excHp hh C [u]).get? d' = none := by
        cases q : (excHp hh C [u]).get? d' with
        | none => rfl
        | some o =>
          have := un.free d' o q h1 (by simp)
          rw [upd_same] at this; cases this
      have hgd0 : hh.get? d' = none := by
        cases q : hh.get? d' with
        | none => rfl
        | some o => rw [excHp_keep hh C [u] _ _ q] at hgd; cases hgd
      have lt : ∀ b o, hh.get? b = some o → b ≠ A0 ∧ b ≠ d' := fun b o e => ⟨Nat.ne_of_lt (Nat.lt_succ_of_lt (Heap.lt_size e)), fun z => by rw [z, hgd0] at e; cases e⟩
      have up : ∀ b, b ≠ A0 → H2 b = H b := fun b hb => upd_ne hb
      have un' : Un (frs X.stack) [] H H hh s'.heap := ⟨fun b o e n hb hx => un.keep b o (excHp_keep _ _ _ _ _ e) (by rw [up b (lt b o e).1]; exact n) hb hx,
        fun b o e n hb hx => un.slot b o (excHp_keep _ _ _ _ _ e) (by rw [up b (lt b o e).1]; exact n) hb hx, fun _ _ _ n _ => n, fun b o e hx => un.there b o (excHp_keep _ _ _ _ _ e) hx, fun _ _ q => q, fun _ _ _ q => q, fun _ ps q => ⟨#[], by rw [q]; simp⟩⟩
      have hok' : HOk X.prog X.w H s'.heap := hok.forget (fun b o e => by rw [upd_ne (sz b o e).2, upd_ne (sz b o e).1, up b (sz b o e).1]; exact e) fun b o e => by
        by_cases hb : b = d'
        · subst hb; rw [upd_same] at e; cases e; exact .inr ⟨fun _ z => (nomatch z), fun _ z => (nomatch z)⟩
        · rw [upd_ne hb] at e
          by_cases hb : b = A0
          · subst hb; rw [upd_same] at e; cases e; exact .inr ⟨fun _ z => (nomatch z), fun _ z => (nomatch z)⟩
          · rw [upd_ne hb, up b hb] at e; exact .inl e
      have I3 : Inv X pins σ H s' := I.call' (s := ⟨hh, g, d, t, os⟩) eo un' hok' bare (fun b z => absurd z (by simp))
      have oa := hok A0 (.ext (ExcOk A0 C (some d'))) (by rw [upd_ne (Ne.symm h2), upd_same])
      obtain ⟨⟨t0, e1⟩, _, _⟩ := oa
      obtain ⟨mA, n1, n2⟩ := hok d' (.xd [(attr, y)]) upd_same
      refine ⟨t0, d', rfl, e1, I3, Nat.le_trans I.sz (Nat.le_succ _), New.of I hex (Heap.get?_none_of_le (Nat.le_succ _)) hn0, New.of I hex hgd0 hd0, Ne.symm h2, ⟨_, _, none, e1, rfl, rfl, rfl, rfl, fun T' z => by cases z⟩, ⟨mA, n1, n2⟩, fun _ oe2 vs2 q1 q2 => by rw [e1] at q1; cases q1; cases q2; rfl⟩
theorem psx_raise {k : Nat} {C R fI : Addr} {fd : FuncData} {par attr x : Str} {cond : V → Prop} {e : Expr} {te : TE} {np cpos pos : Pos} (hx : NoX X) (hex : X.ex = []) (hcalm : X.calm = true) (c : XCls X.K C R fI)
    (F : FnOkH X.prog X.w X.K X.mg X.base CX0 k fI fd ["self", par] (spInit C attr cond)) (hr : RoomH (k + 1) X.A) (hb : Binds X.K fd ["self", par] []) (hg : Gl X x) (hm : X.mg x = some (.ref C)) (he : PE X e te) (hdb : (x == ("__debug__" : Str)) = false := by decide)
    (hs : starEach [e] X.env = [(false, eval e X.env)] := by rfl) : PSx X (.Raise (some (.Call (.Name x np) [e] [] cpos)) none pos) (xRaise X.K C attr cond te) := by
  intro pins s σ H D E I h
  obtain ⟨nm, qq, N, bs, sn, sub, ab, col, dd, k0, k1, k2, k3, k5, hC⟩ := c.obj
  rw [arm_exec_Raise]
  have ev : wpAny (model X.prog X.w) X.A (eval (.Call (.Name x np) [e] [] cpos) X.env) (fun v s' => ∃ a t d, v = .ref a ∧ s'.heap.get? C = some (excClassObj nm qq C N bs (bmR R) true sn sub ab col dd k0 k1 k2 k3 k5 "ValueError.__new__") ∧ s'.heap.get? a = some (excO C t (some d)) ∧ XP X pins E (.ref a) s') (XP X pins E) s := by
    refine wpAny_Call_Name_kw (ld_glob I hg hm ?_ hdb)
    have pa : PA X [e] (fun σ H Q => te σ H fun y H1 => Q [y] H1) := pa_cons he pa_nil (by rw [hs]; rfl)
    let Q1 : List V → Hp → Prop := fun vs H1 => match vs with | [y] => (cond y ∧ ∀ d, H1 d = none → E (.ref C) (some d) σ (upd H1 d (.xd [(attr, y)]))) | _ => False
    refine PySem.W.callWith_K (h₀ := X.base) I.ok.mod.kin c.kp (wpAny_mono (pa cpos pins s σ H Q1 I h) (fun us s1 ⟨vs, H1, I1, r, q⟩ => ⟨I1.kIn, ?_⟩) fun _ _ z => by rw [hx] at z; exact z.elim) (by rw [hs]; rfl) rfl
    match vs, r, q with
    | [y], .cons r .nil, ⟨q1, q2⟩ =>
      refine thn (run_exc hex c F hr hb I1 r q1) fun v s' ⟨a, t, d, z1, z2, I2, z3⟩ => ?_
      exact ⟨a, t, d, z1, I2.kIn _ _ hC, z2, a, C, d, _, σ, H1, rfl, I2, z3, q2 d z3.nd.2.1⟩
  have hh : X.A.handled = none := I.ok.hd hcalm
  first
    | exact wpAny_bind (wpAny_standAt (raise_V hh (wpAny_bind (wpAny_mono ev (fun v s₁ h₁ => wpAny_bind (wpAny_standAt (wpAny_pure h₁))) fun _ _ x => x))))
    | (simp only [evalOpt, Option.map]; exact wpAny_bind (wpAny_standAt (raise_V hh (wpAny_bind (wpAny_mono ev (fun v s₁ h₁ => wpAny_bind (wpAny_standAt (wpAny_pure h₁))) fun _ _ x => x)))))
end
end L2
namespace L2
open PySem PySem.Spec PyProof.Rows
theorem fn_ofX {P : Program} {w : World} {K : PySem.W.Frag} {mg : Str → Option Value} {base : Heap} {k : Nat} {f : Addr} {name qual : Str} {params : Arguments} {body : List Stmt} {scope : Scope} {dV kV doc pm cdv ct oc : Value} {an od : Option Addr}
    {osl : Array (Option Value)} {N ps : List Str} {sp : Sp} (lk : K.lookup f = some ⟨oc, od, .func (PySem.W.fnOf name qual params body scope dV kV doc pm an cdv ct), osl⟩) (hcd : PySem.W.codeIn K cdv qual = true) (S : FnScope N ps scope)
    (len : ∀ vs H Q E, sp vs H Q E → vs.length = ps.length)
    (hbody : ∀ (A : Around) (outer : List Env) (s : Shared) (H : Hp) (vs : List V) (Q : VK) (E : XK), Room k (A.deeper (envOfC qual scope s.heap.objs.size f cdv)) → sp vs H Q E →
      ∃ t, PSxs (cxOf (CX1 P w) P w K mg base N qual scope f cdv A outer s H E).nox body t ∧ t { nx := fun _ H' => Q .non H', rt := Q } (fun c d _ H' => E c d H') (start N vs) H) :
    FnOk P w K mg base (CX1 P w) (k + 1) f (PySem.W.fnOf name qual params body scope dV kV doc pm an cdv ct) ps sp := by
  refine ⟨len, fun A outer s H args us vs Q E hr e0 hb r hsp => ?_⟩
  have hl := len _ _ _ _ hsp
  have KX : K.In s.heap := e0.mod.kin.keeps fun b o e => (e0.bs b o e).1
  have lim : s.heap.NoLimit := e0.mod.nolimit.keeps fun b o e => (e0.bs b o e).1
  have hkind : ∀ y ∈ ps.zip us, scope.names.lookup y.1 = some .local ∨ (scope.names.lookup y.1 = some .cell ∧ ((cellsFrom (s.heap.objs.size + 1) scope.names []).lookup y.1).isSome = true) := fun ⟨n, v⟩ hy => by
    rcases S.par n (List.of_mem_zip hy).1 with q | q
    · exact .inl q
    · exact .inr ⟨q, PySem.W.cellsFrom_some _ _ _ (.inl q)⟩
  refine codeAny_call_function hr.depth (KX _ _ lk) rfl S.co S.gen rfl (PySem.W.codeRec_of KX hcd) (hb _ _ _ _ ?_)
  refine wpAny_newFunctionEnv_cells S.kind hkind fun env he s1 x => ?_
  subst he
  refine ⟨lim.keeps x.toInCall.keep, codeAny_func ?_⟩
  obtain ⟨t, ht, hq⟩ := hbody A outer s H vs Q E (hr.deeper _) hsp
  have I : Inv (cxOf (CX1 P w) P w K mg base N qual scope f cdv A outer s H E) [] (start N vs) H s1 := inv_start S hr.hd e0 hl r x
  refine wpAny_mono (ht [] s1 (start N vs) H _ _ (I.wish _) hq) (fun fl s' hs => ?_) fun e s' hs => ?_
  · have fin : ∀ {σ' : St} {H' : Hp} {v : V} {u : Value}, Inv (cxOf (CX1 P w) P w K mg base N qual scope f cdv A outer s H E).nox [] σ' H' s' → RelV v u → Q v H' → CE outer P w H s Q u s' :=
      fun {σ' H' v u} J rv q => ⟨v, H', J.os, J.bare, J.base, J.hok, rv, q⟩
    cases fl with
    | ret u =>
      obtain ⟨v, σ', H', J, rv, q⟩ := hs
      exact fin J rv q
    | next =>
      obtain ⟨σ', H', J, q⟩ := hs
      exact fin (v := V.non) (u := Value.none) J rfl q
    | brk =>
      obtain ⟨_, _, _, q⟩ := hs
      exact False.elim q
    | cont =>
      obtain ⟨_, _, _, q⟩ := hs
      exact False.elim q
  · obtain ⟨a, C, d, fs, σ', H', rfl, J, r, q⟩ := hs
    show wpAny _ _ (leaving _ _) _ _ _
    unfold leaving
    refine wpAny_bind (noted (X := (cxOf (CX1 P w) P w K mg base N qual scope f cdv A outer s H E).nox) J rfl rfl rfl r fun s'' J' r' => ?_)
    exact ⟨a, C, d, fs, H', rfl, J'.os, J'.bare, J'.base, J'.hok, r'.imp (fun _ e => e) (Nat.le_refl _) fun b z => ⟨z.1, z.2.1⟩, q⟩
theorem Fun.okX {P : Program} {w : World} {K : PySem.W.Frag} {mg : Str → Option Value} {base : Heap} {x qual : Str} {st : Stmt} {f : Addr} {fd : FuncData} {N ps : List Str} {k : Nat} {sp : Sp} (F : Fun K x qual st f fd) (S : FnScope N ps (defScope st)) (len : ∀ vs H Q E, sp vs H Q E → vs.length = ps.length)
    (hbody : ∀ (cdv : Value) (A : Around) (outer : List Env) (s : Shared) (H : Hp) (vs : List V) (Q : VK) (E : XK), Room k (A.deeper (envOfC qual (defScope st) s.heap.objs.size f cdv)) → sp vs H Q E →
      ∃ t, PSxs (cxOf (CX1 P w) P w K mg base N qual (defScope st) f cdv A outer s H E).nox (defBody st) t ∧ t { nx := fun _ H' => Q .non H', rt := Q } (fun c d _ H' => E c d H') (start N vs) H) : FnOk P w K mg base (CX1 P w) (k + 1) f fd ps sp := by
  obtain ⟨oc, od, kV, doc, pm, an, cdv, ct, osl, rfl, lk, hcd⟩ := F.ex
  exact fn_ofX lk hcd S len fun A outer s H vs Q E hr hsp => hbody cdv A outer s H vs Q E hr hsp
section
variable {X : Cx} {pins : List (Addr × Obj)} {σ : St} {H : Hp} {s : Shared}
theorem name_goes {M : Model} {A : Around} {E : Value → Shared → Prop} {i : Nat} {n : Str} {pos : Pos} {Q : Unit → Shared → Prop} (I : Inv X pins σ H s) (hN : X.N.Nodup) (hi : X.N[i]? = some n) (hk : X.env.scope.names.lookup n = some .local)
    (h : ∀ s', Inv X pins (σ.set i none) H s' → Q () s') : wpAny M A (do bindName X.env n .none; unbindBehindTheSuite X.env n pos) Q E s := by
  obtain ⟨m, hn, hl⟩ := id I.loc
  have hcls : (X.env.scope.kind == .class || (X.env.scope.kind == .module && X.env.locals != X.env.globals)) = false := by rw [I.ok.kind]; rfl
  have hiσ : i < σ.length := by rw [I.len]; exact (List.getElem?_eq_some_iff.mp hi).1
  have cne := I.cne
  refine wpAny_nameGoes_keeps hk hn hcls fun h' v hn' hs => ?_
  obtain ⟨oL, _, _, hoL, _⟩ := id hn
  have tracked : HOk X.prog X.w H h' := fun b ob e => by
    refine (I.hok b ob e).stay (fun c w' hc q => (hs.2 c ?_).trans q) (fun _ q => q) fun _ _ q => q
    rintro rfl
    rcases hc with rfl | hc
    · rw [I.free] at e; cases e
    · rw [I.free] at hc; cases hc
  refine h _ ⟨I.ok, I.os, I.bare, ⟨fun b o e n hb hx => ?_, fun b o e n hb hx => ?_, I.base.free, fun b o e hx => ?_, I.base.tups, I.base.frzs, I.base.tbls⟩, ⟨_, hn', fun j y v' e1 e2 e3 => ?_⟩, fun y c e => ?_, I.free, I.freeC, fun p hp => ?_, tracked, by simpa using I.len⟩
  · exact (hs.2 b (Nat.ne_of_lt (Nat.lt_of_lt_of_le (Heap.lt_size e) I.ok.above))).trans (I.base.keep b o e n hb hx)
  · obtain ⟨sl, e1⟩ := I.base.slot b o e n hb hx
    exact ⟨sl, (hs.2 b (Nat.ne_of_lt (Nat.lt_of_lt_of_le (Heap.lt_size e) I.ok.above))).trans e1⟩
  · obtain ⟨o', e1⟩ := I.base.there b o e hx
    exact ⟨o', (hs.2 b (Nat.ne_of_lt (Nat.lt_of_lt_of_le (Heap.lt_size e) I.ok.above))).trans e1⟩
  · by_cases hj : j = i
    · subst hj
      rw [List.getElem?_set_self hiσ] at e2
      cases e2
    · rw [List.getElem?_set_ne (Ne.symm hj)] at e2
      obtain ⟨u', r', q⟩ := hl j y v' e1 e2 e3
      refine ⟨u', r', ?_⟩
      rcases q with ⟨k, e⟩ | ⟨k, c, e, z⟩
      · refine .inl ⟨k, ?_⟩
        have : y ≠ n := fun e => hj (nodup_ix hN e1 (e ▸ hi))
        simp [this, e]
      · exact .inr ⟨k, c, e, z.sameBut hs (cne y c e)⟩
  · obtain ⟨w', z⟩ := I.cell y c e
    exact ⟨w', z.sameBut hs (cne y c e)⟩
  · obtain ⟨e, n, ne, nf, d⟩ := I.pin p hp
    exact ⟨(hs.2 p.1 ne).trans e, n, ne, nf, d⟩
end
end L2
namespace L2
open PySem PySem.Spec PyProof.Rows
structure HCls (K : PySem.W.Frag) (C : Addr) : Prop where
  ty : PySem.W.typeIn K (.ref C) = some (.type "type")
  cls : (PySem.W.clsIn K C).isSome = true
  ex : PySem.W.subIn K (.ref C) (.type "BaseException") = some true
theorem exc_matches {K : PySem.W.Frag} {M : Model} {A : Around} {E : Value → Shared → Prop} {s : Shared} {a C Cn : Addr} {oe : Obj} {b : Bool} {Q : Bool → Shared → Prop} (KX : K.In s.heap) (c : HCls K Cn) (he : s.heap.get? a = some oe) (hc : oe.cls = .ref C) (hs : PySem.W.subIn K (.ref C) (.ref Cn) = some b)
    (hq : Q b s) : wpAny M A (excMatches (.ref a) (.ref Cn)) Q E s := by
  have L1 : PySem.W.Looks M s.heap (typeOf (.ref Cn)) (.type "type") := PySem.W.looks_typeIn KX c.ty
  have L2' : PySem.W.Looks M s.heap (isSubtype (.ref Cn) (.type "BaseException")) true := PySem.W.looks_subIn KX c.ex
  have L3 : PySem.W.Looks M s.heap (isSubtype (.ref C) (.ref Cn)) b := PySem.W.looks_subIn KX hs
  have L4 : PySem.W.Looks M s.heap (isType (.ref Cn)) true := by
    have z := c.cls
    unfold PySem.W.clsIn at z
    split at z
    · rename_i c' d' cd' sl' ho
      intro A' Q' E' s' k q
      unfold isType loadHead
      exact wpAny_bind (wpAny_loadPart (k _ _ (KX _ _ ho)) (wpAny_pure q))
    · cases z
  have f := tc_notTuple
  unfold excMatches isInstance isExcClass
  refine wpAny_bind (wpAny_bind (L1.here ?_))
  rw [f]
  refine wpAny_pure ?_
  simp only [Bool.false_eq_true, if_false]
  refine wpAny_bind (wpAny_pure ?_)
  obtain ⟨hp, g, d, tk, os⟩ := s
  have L4' : ∀ {Q' : Bool → Shared → Prop} {E' : Value → Shared → Prop}, Q' true ⟨hp, g, d, tk, os⟩ → wpAny M A (isType (.ref Cn)) Q' E' ⟨hp, g, d, tk, os⟩ := fun q => L4.here q
  have L2'' : ∀ {Q' : Bool → Shared → Prop} {E' : Value → Shared → Prop}, Q' true ⟨hp, g, d, tk, os⟩ → wpAny M A (isSubtype (.ref Cn) (.type "BaseException")) Q' E' ⟨hp, g, d, tk, os⟩ := fun q => L2'.here q
  have L3' : ∀ {Q' : Bool → Shared → Prop} {E' : Value → Shared → Prop}, Q' b ⟨hp, g, d, tk, os⟩ → wpAny M A (isSubtype (.ref C) (.ref Cn)) Q' E' ⟨hp, g, d, tk, os⟩ := fun q => L3.here q
  repeat (first | with_reducible refine L4' ?_ | with_reducible refine L2'' ?_ | with_reducible refine L3' ?_ | (with_reducible refine wpAny_loadPart_at he ?_; rw [hc]) | wp_step)
  cases b <;> (wp_walk; exact hq)
def Cx.inX (X : Cx) (a : Addr) (pl : List (Addr × Obj)) : Cx := { X with A := X.A.mark (some (.ref a)), calm := false, pn := X.pn ++ pl }
section
variable {X : Cx} {pins pl : List (Addr × Obj)} {σ : St} {H : Hp} {s : Shared} {a C d : Addr} {fs : List (Str × V)}
theorem Inv.inX (I : Inv X pins σ H s) (hp : ∀ p ∈ pl, s.heap.get? p.1 = some p.2 ∧ H p.1 = none ∧ p.1 ≠ X.env.locals ∧ p.1 ∉ X.fs ∧ ∀ v, p.2.data ≠ .cell v) : Inv (X.inX a pl) pins σ H s :=
  ⟨⟨I.ok.mod, I.ok.kind, I.ok.glob, I.ok.blt, I.ok.above, I.ok.inj, I.ok.has, I.ok.cab, (fun z => nomatch z), I.ok.frames, I.ok.stk, I.ok.exf, I.ok.bs, I.ok.bsz, I.ok.noex, I.ok.exfs, I.ok.funs, I.ok.frf⟩, I.os, I.bare, I.base, I.loc, I.cell, I.free, I.freeC, fun p h => by
    rcases List.mem_append.mp h with h | h
    · rcases List.mem_append.mp h with h | h
      · exact I.pin p (List.mem_append_left _ h)
      · exact hp p h
    · exact I.pin p (List.mem_append_right _ h), I.hok, I.len⟩
theorem Inv.outX (ok : X.Ok) (I : Inv (X.inX a pl) pins σ H s) : Inv X pins σ H s :=
  ⟨ok, I.os, I.bare, I.base, I.loc, I.cell, I.free, I.freeC, fun p h => by
    rcases List.mem_append.mp h with h | h
    · exact I.pin p (List.mem_append_left _ (List.mem_append_left _ h))
    · exact I.pin p (List.mem_append_right _ h), I.hok, I.len⟩
def DictX (od : Obj) (fs : List (Str × V)) : Prop := ∃ es ep, ∃ mA : Str → Option Value, od.data = .dict es ep ∧ StrKeys es ∧ UniqKeys es ∧ (∀ name, nsFind es name = mA name) ∧ ∀ f, RelO (fs.lookup f) (mA f)
theorem raisedPins (I : Inv X pins σ H s) (r : Raised X pins H s.heap a C d fs) : ∃ oe od, oe.cls = .ref C ∧ oe.dict = some d ∧ (∃ vs, oe.data = .fields vs) ∧ DictX od fs ∧ ∀ p ∈ [(a, oe), (d, od)], s.heap.get? p.1 = some p.2 ∧ H p.1 = none ∧ p.1 ≠ X.env.locals ∧ p.1 ∉ X.fs ∧ ∀ v, p.2.data ≠ .cell v := by
  obtain ⟨oe, vs, T, e1, e2, e3, e4, e5, e6⟩ := r.obj
  obtain ⟨mA, ⟨od, esd, epd, f1, f2, f3, f4, f5⟩, n2⟩ := r.att
  have nofs : ∀ b, New X pins H b → b ∉ X.fs := fun b n hb => by
    obtain ⟨_, o, ho, _⟩ := I.ok.funs.mem hb
    rw [n.1] at ho; cases ho
  refine ⟨oe, od, e2, e3, ⟨vs, e4⟩, ⟨esd, epd, mA, f2, f3, f4, f5, n2⟩, fun p hp => ?_⟩
  rcases List.mem_cons.mp hp with rfl | hp
  · exact ⟨e1, r.na.2.1, r.na.2.2.1, nofs _ r.na, fun v z => by rw [e4] at z; cases z⟩
  · obtain rfl : p = (d, od) := by simpa using hp
    exact ⟨f1, r.nd.2.1, r.nd.2.2.1, nofs _ r.nd, fun v z => by rw [f2] at z; cases z⟩
def sTry (i : Nat) (Cn : Addr) (K : PySem.W.Frag) (tb : TSX) (th : Addr → Addr → Addr → List (Str × V) → TS) : TS := fun D σ H => tb D (fun c dx σ' H' => ∀ C d H1 fs, c = .ref C → dx = some d → H' = upd H1 d (.xd fs) → H1 d = none →
  PySem.W.subIn K (.ref C) (.ref Cn) = some true ∧ ∀ a, th a C d fs { nx := fun σ H => D.nx (σ.set i none) H, rt := D.rt, bk := fun σ H => D.bk (σ.set i none) H, ct := fun σ H => D.ct (σ.set i none) H } (σ'.set i (some (.ref a))) H1) σ H
theorem ps_try {i : Nat} {n cn : Str} {Cn : Addr} {body suite : List Stmt} {b₀ : Stmt} {tb : TSX} {th : Addr → Addr → Addr → List (Str × V) → TS} {cp hp pos : Pos} (hx : NoX X) (hex : X.ex = []) (hst : X.stack = X.env :: X.outer) (hf : X.env.frame = some X.env.locals) (hN : X.N.Nodup) (hi : X.N[i]? = some n) (hk : X.env.scope.names.lookup n = some .local)
    (hbody : PSxs X body tb) (hg : Gl X cn) (hm : X.mg cn = some (.ref Cn)) (hc : HCls X.K Cn) (hh : ∀ a C d fs oe od, oe.cls = .ref C → oe.dict = some d → (∃ vs, oe.data = .fields vs) → DictX od fs → PSs (X.inX a [(a, oe), (d, od)]) (b₀ :: suite) (th a C d fs)) (hdb : (cn == ("__debug__" : Str)) = false := by decide) :
    PS X (.Try body [.ExceptHandler (some (.Name cn cp)) (some n) (b₀ :: suite) hp] [] [] pos) (sTry i Cn X.K tb th) := by
  intro pins s σ H D I h
  refine wpAny_Try_except (wpAny_mono (hbody pins s σ H D _ I h) (fun f s1 q => ?_) fun e s1 q => ?_)
  · cases f with
    | next => exact wpAny_execs_nil q
    | ret v => exact q
    | brk => exact q
    | cont => exact q
  · obtain ⟨a, C, d, fs, σ', H', rfl, I1, r, q⟩ := q
    obtain ⟨hsub, q⟩ := q C d H' fs rfl rfl rfl r.nd.2.1
    refine noted I1 hst hf hex r fun s2 I2 r2 => ?_
    refine wpAny_handleBy_cons (codeAny_handlers_test ?_) (by intro q; cases q)
    obtain ⟨oe, vs, T, e1, e2, e3, e4, e5, e6⟩ := r2.obj
    have I3 : Inv (X.inX a []) pins σ' H' s2 := I2.inX fun p hp => by cases hp
    refine ld_glob (X := X.inX a []) I3 hg hm ?_ hdb
    refine exc_matches (K := X.K) I2.kIn hc e1 e2 hsub ?_
    refine codeAny_handlers_suite_as (flight none I2 hex r2.any fun s3 I4 r4 => ?_)
    obtain ⟨oe, od, o1, o2, o3, o4, o5⟩ := raisedPins I4 (Rsd.any r4)
    have I5 : Inv (X.inX a [(a, oe), (d, od)]) pins σ' H' s3 := I4.inX o5
    refine store_ok (X := X.inX a [(a, oe), (d, od)]) I5 hN hi (.inl hk) (v := .ref a) rfl (fun s5 I6 => ?_) (.inr hk)
    refine wpAny_mono (hh a C d fs oe od o1 o2 o3 o4 pins s5 _ H' _ I6 (q a)) (fun f s6 q6 => ?_) fun _ _ z => by
      have z' : X.xe _ _ := z
      rw [hx] at z'; exact z'.elim
    cases f with
    | next =>
      obtain ⟨σ7, H7, I7, q7⟩ := q6
      exact name_goes (I7.outX I.ok) hN hi hk fun s8 I8 => ⟨_, H7, I8, q7⟩
    | ret u =>
      obtain ⟨v, σ7, H7, I7, rv, q7⟩ := q6
      exact name_goes (I7.outX I.ok) hN hi hk fun s8 I8 => ⟨v, _, H7, I8, rv, q7⟩
    | brk =>
      obtain ⟨σ7, H7, I7, q7⟩ := q6
      exact name_goes (I7.outX I.ok) hN hi hk fun s8 I8 => ⟨_, H7, I8, q7⟩
    | cont =>
      obtain ⟨σ7, H7, I7, q7⟩ := q6
      exact name_goes (I7.outX I.ok) hN hi hk fun s8 I8 => ⟨_, H7, I8, q7⟩
end
end L2
namespace L2
open PySem PySem.Spec
structure XGet (K : PySem.W.Frag) (C R fI : Addr) : Prop where
  cl : XCls K C R fI
  ga : PySem.W.findIn K (.ref C) "__getattribute__" = some (some (.builtin "BaseException.__getattribute__"))
  gh : PySem.W.findIn K (.ref C) "__getattr__" = some none
  kl : PySem.W.findIn K (.ref C) "__class__" = some (some (.builtin "object.__class__"))
section
variable {prog : Program} {w : World} {A : Around} {E : Value → Shared → Prop} {h : Heap} {g : Array GenState} {d : Drawn} {t : Nat} {os : OsState} {K : PySem.W.Frag} {a C R fI : Addr} {o : Obj}
theorem vA : ExcAttrFacts "ValueError" := PySem.F.excAttr_ValueError
theorem xlook {M : Model} {A' : Around} {E' : Value → Shared → Prop} {Q' : Option Value → Shared → Prop} {t' : Nat} {n : Str} {r : Option Value} (KX : K.In h) (e : PySem.W.findIn K (.ref C) n = some r) (q : Q' r ⟨h, g, d, t', os⟩) : wpAny M A' (typeLookup (.ref C) n) Q' E' ⟨h, g, d, t', os⟩ := (PySem.W.looks_findIn KX e).here q
theorem xga_check {M : Model} {nameV : Value} {Q : Unit → Shared → Prop} (KX : K.In h) (c : XGet K C R fI) (hx : h.get? a = some o) (hc : o.cls = .ref C) (hq : Q () ⟨h, g, d, t, os⟩) : wpAny M A (checkBuiltinCall "BaseException.__getattribute__" ⟨[.ref a, nameV], []⟩) Q E ⟨h, g, d, t, os⟩ := by
  obtain ⟨nm, qq, N, bs, sn, sub, ab, col, dd, k0, k1, k2, k3, k5, hC⟩ := c.cl.obj
  have hC := KX _ _ hC
  have hk : builtinKind "BaseException.__getattribute__" = some .slot := by decide +kernel
  have hsplit : splitId "BaseException.__getattribute__" = some ("BaseException", "__getattribute__") := by decide +kernel
  have hcB : (Value.ref C :: bmR R).contains (.type "BaseException") = true := by rw [List.contains_cons]; rfl
  have ha := F.args_bexc_ga (.ref a) nameV
  simp only [checkBuiltinCall, hk, hsplit]
  refine wpAny_bind ?_
  · unfold isInstance
    repeat (first | (with_reducible refine wpAny_loadPart_at hx ?_; rw [hc]) | (with_reducible refine wpAny_isSubtype_exc hC ?_; rw [hcB]) | wp_step)
    exact hq
theorem xclass_get {Q : Fin → Shared → Prop} {tk : Tok} (KX : K.In h) (c : XGet K C R fI) (hx : h.get? a = some o) (hc : o.cls = .ref C) (hq : Q (.done (.ret (.ref C))) ⟨h, g, d, t, os⟩) :
    wpAny (model prog w) A (Builtin.«object.__getattribute__» ⟨[.ref a, .str "__class__" tk], []⟩) Q E ⟨h, g, d, t, os⟩ := by
  obtain ⟨nm, qq, N, bs, sn, sub, ab, col, dd, k0, k1, k2, k3, k5, hC⟩ := c.cl.obj
  have hC := KX _ _ hC
  have hT5 : (⟨h, g, d, t, os⟩ : Shared).TypeIs (.builtin "object.__class__") "getset_descriptor" := F.typeOf_object_class
  have f5 := F.typeOf_object_class
  have f6 := F.slot_gs_get.lookup
  have f7 := F.slot_gs_set.lookup
  have hcB : (Value.ref C :: bmR R).contains (.type (".".intercalate ("object.__class__".cutAt '.').dropLast)) = true := by
    rw [F.owner_object_class, List.contains_cons]; rfl
  repeat (any_goals (first | assumption | (with_reducible refine wpAny_loadPart_at hx ?_; rw [hc]) | with_reducible refine xlook KX c.kl ?_ | wp_step))
  refine codeAny_call_builtin F.slot_gs_get.plain F.entry_gs_get (F.slot_gs_get.check _ _ _ _ _ _ _ _ hT5 (F.args_gs_get _ _ _) ?_)
  repeat (any_goals (first | assumption | (with_reducible refine wpAny_loadPart_at hx ?_; rw [hc]) | (with_reducible refine wpAny_isSubtype_exc hC ?_; rw [hcB]) | wp_step))
  refine ⟨Code.quiet_builtin _ (by decide +kernel), codeAny_builtin F.entry_object_class ?_⟩
  repeat (any_goals (first | assumption | (with_reducible refine wpAny_loadPart_at hx ?_; rw [hc]) | wp_step))
theorem xby {tk : Tok} {fill expr : Bool} {n : Str} {v : Value} {Q : Value → Shared → Prop} (KX : K.In h) (c : XGet K C R fI) (hx : h.get? a = some o) (hc : o.cls = .ref C) (hh : ∀ id, v ≠ .builtin id)
    (hg : ∀ {A' : Around} {E' : Value → Shared → Prop} {Q' : Fin → Shared → Prop}, Q' (.done (.ret v)) ⟨h, g, d, t, os⟩ → wpAny (model prog w) A' (Builtin.«object.__getattribute__» ⟨[.ref a, .str n tk], []⟩) Q' E' ⟨h, g, d, t, os⟩)
    (hq : Q v ⟨h, g, d, t, os⟩) : wpAny (model prog w) A (getAttrBy (.ref a) (.str n tk) fill expr) Q E ⟨h, g, d, t, os⟩ := by
  have f3 := vA.ga.bind (.ref a)
  have hx0 : (expr && onTheHeap (Value.builtin "BaseException.__getattribute__")) = false := by cases expr <;> rfl
  have hx2 : (Value.builtin "BaseException.__getattribute__" == Value.builtin "object.__getattribute__") = false := by decide +kernel
  have hx1 : (onTheHeap (Value.ref C) && Value.builtin "BaseException.__getattribute__" == Value.builtin "object.__getattribute__") = false := by rw [hx2]; rfl
  repeat (any_goals (first | assumption | (with_reducible refine wpAny_loadPart_at hx ?_; rw [hc]) | with_reducible refine xlook KX c.ga ?_ | with_reducible refine xlook KX c.gh ?_ | wp_step))
  refine codeAny_call_builtin vA.ga.plain F.entry_bexc_ga (xga_check KX c hx hc (hg ?_))
  repeat (any_goals (first | assumption | wp_step))
  cases v <;> first | exact wpAny_pure hq | exact absurd rfl (hh _)
theorem xclass_attr {Q : Option Value → Shared → Prop} (KX : K.In h) (c : XGet K C R fI) (hx : h.get? a = some o) (hc : o.cls = .ref C) (hq : Q (some (.ref C)) ⟨h, g, d, t + 1, os⟩) : wpAny (model prog w) A (getAttr? (.ref a) "__class__") Q E ⟨h, g, d, t, os⟩ := by
  unfold getAttr? getAttrBy?
  repeat (any_goals (first | assumption | with_reducible apply xby (t := t + 1) KX c hx hc (fun _ z => nomatch z) (fun q => xclass_get KX c hx hc q) | wp_step))
def XAt (a C : Addr) (h : Heap) : Prop := ∃ o, h.get? a = some o ∧ o.cls = .ref C
theorem kitx_exc (c : XGet K C R fI) : PySem.W.KitX K (.ref a) (.ref C) (XAt a C) where
  ty := fun M h _ ⟨o, h1, h2⟩ => h2 ▸ (PySem.W.Looks.ld h1).andThen .now
  it := fun M h X _ => by
    obtain ⟨nm, qq, N, bs, sn, sub, ab, col, dd, k0, k1, k2, k3, k5, hC⟩ := c.cl.obj
    intro A' Q' E' s' k q
    unfold isType loadHead
    exact wpAny_bind (wpAny_loadPart (k _ _ (X _ _ hC)) (wpAny_pure q))
  ne := fun h tp dd its n sl X htp => by
    obtain ⟨nm, qq, N, bs, sn, sub, ab, col, dd, k0, k1, k2, k3, k5, hC⟩ := c.cl.obj
    refine Bool.eq_false_iff.mpr fun q => ?_
    have e : C = tp := Value.ref.inj (beq_iff_eq.mp q)
    subst e
    have z := (X _ _ hC).symm.trans htp
    exact absurd (Value.type.inj (congrArg Obj.cls (Option.some.inj z))) (by decide)
  ca := fun {prog w A E Q s} X ⟨o, h1, h2⟩ q => by
    obtain ⟨h, g, d, t, os⟩ := s
    exact xclass_attr X c h1 h2 q
theorem xattr_get {Q : Fin → Shared → Prop} {tk : Tok} {n : Str} {dx : Addr} {m : Str → Option Value} {v : Value} (KX : K.In h) (c : XGet K C R fI) (hn : PySem.W.findIn K (.ref C) n = some none) (hx : h.get? a = some o) (hc : o.cls = .ref C) (hd : o.dict = some dx) {vs : Array Value} (hdt : o.data = .fields vs) (hm : h.Ns dx m) (hv : m n = some v)
    (hq : Q (.done (.ret v)) ⟨h, g, d, t, os⟩) : wpAny (model prog w) A (Builtin.«object.__getattribute__» ⟨[.ref a, .str n tk], []⟩) Q E ⟨h, g, d, t, os⟩ := by
  unfold Builtin.«object.__getattribute__»
  repeat (any_goals (first | assumption | (with_reducible refine wpAny_loadPart_at hx ?_; first | rw [hc] | rw [hd]) | with_reducible refine xlook KX hn ?_ | (with_reducible refine wpAny_nsGet hm ?_; rw [hv]) | wp_step))
  rw [hdt]
  show wpAny _ _ (instanceDict a false) _ _ _
  unfold instanceDict
  repeat (any_goals (first | assumption | (with_reducible refine wpAny_loadPart_at hx ?_; first | rw [hc] | rw [hd]) | (with_reducible refine wpAny_load hx ?_; first | rw [hc] | rw [hd]) | (with_reducible refine wpAny_nsGet hm ?_; rw [hv]) | wp_step))
  obtain ⟨nm, qq, N, bs, sn, sub, ab, col, dd, k0, k1, k2, k3, k5, hC⟩ := c.cl.obj
  have hC := KX _ _ hC
  refine wpAny_load hC (wpAny_pure ?_)
  show wpAny _ _ (match o.dict with | some d => pure (some d) | none => _) _ _ _
  rw [hd]
  refine wpAny_pure ?_
  show wpAny _ _ (Builtin.ObjectAttr.inDict n (some dx)) _ _ _
  unfold Builtin.ObjectAttr.inDict
  repeat (any_goals (first | assumption | (with_reducible refine wpAny_nsGet hm ?_; rw [hv]) | wp_step))
theorem xattr {n : Str} {dx : Addr} {m : Str → Option Value} {v : Value} {expr : Bool} {Q : Value → Shared → Prop} (KX : K.In h) (c : XGet K C R fI) (hn : PySem.W.findIn K (.ref C) n = some none) (hx : h.get? a = some o) (hc : o.cls = .ref C) (hd : o.dict = some dx) {vs : Array Value} (hdt : o.data = .fields vs) (hm : h.Ns dx m) (hv : m n = some v)
    (hh : ∀ id, v ≠ .builtin id) (hq : Q v ⟨h, g, d, t + 1, os⟩) : wpAny (model prog w) A (getAttr (.ref a) n expr) Q E ⟨h, g, d, t, os⟩ := by
  unfold getAttr
  repeat (any_goals (first | assumption | with_reducible apply xby (t := t + 1) KX c hx hc hh (fun q => xattr_get KX c hn hx hc hd hdt hm hv q) | wp_step))
end
end L2
namespace U2
open PySem PySem.Spec L2
abbrev UXS := Addr → List (Str × U) → SU → MHp → Prop
abbrev UXF := Addr → List (Str × U) → MHp → Prop
abbrev USX := UEnds → UXS → SU → MHp → Prop
abbrev UEX := SU → MHp → UK → UXS → Prop
abbrev USpX := List U → MHp → UK → UXF → Prop
def flatV : U → Option V
  | .non => some .non
  | .bl b => some (.bl b)
  | .int i => some (.int i)
  | .str x => some (.str x)
  | _ => none
def RelA (fs' : List (Str × U)) (fs : List (Str × V)) : Prop := Paired (fun (p : Str × U) (q : Str × V) => p.1 = q.1 ∧ flatV p.2 = some q.2) fs' fs
def ContX (K : PySem.W.Frag) (H : Hp) (M : MHp) (E' : UXS) (E : XS) : Prop := ∀ C fs' fs σ τ H1 M1 d, Stp H M H1 M1 → RelM K H1 M1 → RelS K H1 M1 σ τ → RelA fs' fs → H1 d = none → E' C fs' τ M1 → E (.ref C) (some d) σ (upd H1 d (.xd fs))
def ContF (K : PySem.W.Frag) (H : Hp) (M : MHp) (E' : UXF) (E : XK) : Prop := ∀ C fs' fs H1 M1 d, Stp H M H1 M1 → RelM K H1 M1 → RelA fs' fs → H1 d = none → E' C fs' M1 → E (.ref C) (some d) (upd H1 d (.xd fs))
theorem ContX.stp {K : PySem.W.Frag} {H H1 : Hp} {M M1 : MHp} {E' : UXS} {E : XS} (c : ContX K H M E' E) (st : Stp H M H1 M1) : ContX K H1 M1 E' E := fun C fs' fs σ τ H2 M2 d s => c C fs' fs σ τ H2 M2 d (st.trans s)
def SimSX (K : PySem.W.Frag) (t : TSX) (t' : USX) : Prop := ∀ (σ : St) (τ : SU) (H : Hp) (M : MHp) (D' : UEnds) (E' : UXS), RelS K H M σ τ → RelM K H M → t' D' E' τ M → ∀ (D : Ends) (E : XS), SimD K H M D D' → ContX K H M E' E → t D E σ H
def SimEX (K : PySem.W.Frag) (t : TEX) (t' : UEX) : Prop := ∀ (σ : St) (τ : SU) (H : Hp) (M : MHp) (Q' : UK) (E' : UXS), RelS K H M σ τ → RelM K H M → t' τ M Q' E' → ∀ (Q : VK) (E : XS), Cont K H M Q' Q → ContX K H M E' E → t σ H Q E
def PEXU (D : Dat) (e : Expr) (t' : UEX) : Prop := ∃ t, (∀ X, Has D X → PEx X e t) ∧ SimEX D.K t t'
def PSXU (D : Dat) (s : Stmt) (t' : USX) : Prop := ∃ t, (∀ X, Has D X → PSx X s t) ∧ SimSX D.K t t'
def PSsXU (D : Dat) (s : List Stmt) (t' : USX) : Prop := ∃ t, (∀ X, Has D X → PSxs X s t) ∧ SimSX D.K t t'
def liftSpX (K : PySem.W.Frag) (sp : USpX) : Sp := fun vs H Q E => ∃ us M Q' E', RelM K H M ∧ RelUs K H M us vs ∧ sp us M Q' E' ∧ Cont K H M Q' Q ∧ ContF K H M E' E
section
variable {D : Dat} {e : Expr} {te : UE} {tx : UEX} {st : Stmt} {rest a b : List Stmt} {t u : US} {t' u' : USX} {pos : Pos}
def ux0 (t : US) : USX := fun De _ τ M => t De τ M
theorem ux_of (h : PSU D st t) : PSXU D st (ux0 t) := let ⟨_, p, s⟩ := h; ⟨_, fun X h => psx_of h.xe (p X h), fun σ τ H M D' E' rs rm q D E d _ => s σ τ H M D' rs rm q D d⟩
theorem uxs_of (h : PSsU D rest t) : PSsXU D rest (ux0 t) := let ⟨_, p, s⟩ := h; ⟨_, fun X h => psxs_of h.xe (p X h), fun σ τ H M D' E' rs rm q D E d _ => s σ τ H M D' rs rm q D d⟩
def uxSeq (t u : USX) : USX := fun De E τ M => t { De with nx := u De E } E τ M
theorem ux_cons (h1 : PSXU D st t') (h2 : PSsXU D rest u') : PSsXU D (st :: rest) (uxSeq t' u') := let ⟨_, p, s⟩ := h1; let ⟨_, q, r⟩ := h2; ⟨_, fun X h => psxs_cons (p X h) (q X h), fun σ τ H M D' E' rs rm z D E d c =>
  s σ τ H M _ E' rs rm z _ E ⟨fun σ1 τ1 H1 M1 s1 rm1 rs1 q1 => r σ1 τ1 H1 M1 D' E' rs1 rm1 q1 D E (d.stp s1) (c.stp s1), d.rt, d.bk, d.ct⟩ c⟩
theorem ux_one (h1 : PSXU D st t') : PSsXU D [st] t' := let ⟨_, p, s⟩ := h1; ⟨_, fun X h => psxs_one (p X h), s⟩
def uxIf (c : UT) (t u : USX) : USX := fun De E τ M => c τ M fun b M1 => if b = true then t De E τ M1 else u De E τ M1
theorem ux_if {c : Expr} {tc : UT} (hc : PTU D c tc) (ha : PSsXU D a t') (hb : PSsXU D b u') : PSXU D (.If c a b pos) (uxIf tc t' u') := by
  obtain ⟨_, p, s⟩ := ha; obtain ⟨_, q, r⟩ := hb; obtain ⟨_, x, y⟩ := hc
  refine ⟨_, fun X h => psx_if h.xe (x X h) (p X h) (q X h), fun σ τ H M D' E' rs rm z D E d c => y σ τ H M _ rs rm z _ fun b M1 H1 s1 rm1 q1 => ?_⟩
  cases b with
  | true => exact s σ τ H1 M1 D' E' (rs.stp s1) rm1 q1 D E (d.stp s1) (c.stp s1)
  | false => exact r σ τ H1 M1 D' E' (rs.stp s1) rm1 q1 D E (d.stp s1) (c.stp s1)
def uxDrop (tx : UEX) : USX := fun De E τ M => tx τ M (fun _ M1 => De.nx τ M1) E
theorem ux_expr (he : PEXU D e tx) (hs : ∀ env, swapsWith e none pos.line env = pure false := by intro _; rfl) : PSXU D (.Expr e pos) (uxDrop tx) := let ⟨_, p, s⟩ := he; ⟨_, fun X h => psx_expr (p X h) (hs _), fun σ τ H M D' E' rs rm z D E d c =>
  s σ τ H M _ E' rs rm z _ E (fun u v M1 H1 s1 rm1 ru q => d.nx σ τ H1 M1 s1 rm1 (rs.stp s1) q) c⟩
def uxSet (tx : UEX) (i : Nat) : USX := fun De E τ M => tx τ M (fun u M1 => De.nx (τ.set i (some u)) M1) E
theorem ux_set (i : Nat) {x : Str} {pos' : Pos} (hN : D.N.Nodup) (he : PEXU D e tx) (hi : D.N[i]? = some x := by rfl) (hx : Loc D.sc x := by first | exact Or.inl rfl | exact Or.inr rfl) (hs : ∀ env, swapsWith e (some (.Name x pos')) pos.line env = pure false := by intro _; rfl)
    (hf : D.fn = true ∨ D.sc.names.lookup x = some .local := by first | exact .inl rfl | exact .inr rfl) : PSXU D (.Assign [.Name x pos'] e pos) (uxSet tx i) := by
  obtain ⟨_, p, s⟩ := he
  exact ⟨_, fun X h => psx_set (i := i) (by rw [h.N]; exact hN) (by rw [h.N]; exact hi) (by rw [h.sc]; exact hx) (p X h) (hs _) (by rcases hf with z | z; exact .inl (h.fn z x); exact .inr (by rw [h.sc]; exact z)), fun σ τ H M D' E' rs rm z D E d c =>
    s σ τ H M _ E' rs rm z _ E (fun u v M1 H1 s1 rm1 ru q => d.nx _ _ H1 M1 s1 rm1 ((rs.stp s1).set ru) q) c⟩
structure CalleeX (P : Program) (w : World) (K : PySem.W.Frag) (mg : Str → Option Value) (base : Heap) (j : Nat) (x : Str) (sp : USpX) (dus : List U) : Prop where
  ex : ∃ f fd ps dvs ds, FnOk P w K mg base (CX1 P w) j f fd ps (liftSpX K sp) ∧ mg x = some (.ref f) ∧ PySem.W.keepIn K (.ref f) = true ∧ Binds K fd ps ds ∧ Vals dvs ds ∧ ∀ H M, RelUs K H M dus dvs
abbrev CalX (D : Dat) := CalleeX D.prog D.w D.K D.mg D.base
def uxCall (sp : USpX) (dus : List U) (t : UA) : UEX := fun τ M Q E => t τ M fun us M1 => sp (us ++ dus) M1 Q fun C fs M2 => E C fs τ M2
theorem ex_call {sp : USpX} {dus : List U} {j : Nat} {x : Str} {p : Pos} {es : List Expr} {tas : UA} (F : CalX D j x sp dus) (ha : PAU D (e :: es) tas) (hfn : D.fn = true := by rfl) (hj : j ≤ D.k := by first | exact Nat.le_refl _ | (dsimp only; omega) | omega) (hg : D.sc.names.lookup x = some .globalImplicit := by rfl) (hdb : (x == ("__debug__" : Str)) = false := by decide)
    (he : ∀ env, starEach (e :: es) env = (false, eval e env) :: starEach es env := by intro _; rfl) (hpl : ∀ env, (backTo pos (starEach es env)).any (·.1) = false := by intro _; rfl) : PEXU D (.Call (.Name x p) (e :: es) [] pos) (uxCall sp dus tas) := by
  obtain ⟨f, fd, ps, dvs, ds, F, hm, kp, hb, hd, hr⟩ := F.ex
  obtain ⟨_, q, s⟩ := ha
  refine ⟨xCall (liftSpX D.K sp) dvs _, fun X h => ?_, fun σ τ H M Q' E' rs rm z Q E c cx => s σ τ H M _ rs rm z _ fun us vs M1 H1 s1 rm1 ru h1 =>
    ⟨us ++ dus, M1, Q', _, rm1, ru.append (hr _ _), h1, Cont.stp c s1, fun C fs' fs H2 M2 d s2 rm2 ra hd q => cx C fs' fs σ τ H2 M2 d (s1.trans s2) rm2 (rs.stp (s1.trans s2)) ra hd q⟩⟩
  have F' : FnOk X.prog X.w X.K X.mg X.base (CX1 X.prog X.w) j f fd ps (liftSpX D.K sp) := by rw [h.prog, h.w, h.K, h.mg, h.base]; exact F
  exact pex_call h.xe (h.dl hfn).1 F' (h.room.mono hj) (by show X.env.scope.names.lookup x = _; rw [h.sc]; exact hg) (by rw [h.mg]; exact hm) (by rw [h.K]; exact kp) (by rw [h.K]; exact hb) hd (q X h) hdb (he _) (hpl _)
theorem flatV_rel {K : PySem.W.Frag} {H : Hp} {M : MHp} {u : U} {v v' : V} (e : flatV u = some v') (r : RelU K H M u v) : v = v' ∧ ∀ H M, RelU K H M u v' := by
  cases u with
  | non => cases e; exact ⟨r.non, fun _ _ => relU_non⟩
  | bl b => cases e; exact ⟨r.bl, fun _ _ => relU_bl⟩
  | int i => cases e; exact ⟨r.int, fun _ _ => relU_int⟩
  | str x => cases e; exact ⟨r.str, fun _ _ => relU_str⟩
  | _ => cases e
structure ExcC (P : Program) (w : World) (K : PySem.W.Frag) (mg : Str → Option Value) (base : Heap) (j : Nat) (cn : Str) (C : Addr) (attr : Str) (cond : V → Prop) : Prop where
  ex : ∃ R fI fd par, XGet K C R fI ∧ mg cn = some (.ref C) ∧ FnOkH P w K mg base CX0 j fI fd ["self", par] (spInit C attr cond) ∧ Binds K fd ["self", par] []
def uxRaise (C : Addr) (attr : Str) (cond : V → Prop) (te : UE) : USX := fun _ E τ M => te τ M fun u M1 => (∃ v, flatV u = some v ∧ cond v) ∧ E C [(attr, u)] τ M1
theorem ux_raise {j : Nat} {cn attr : Str} {C : Addr} {cond : V → Prop} {np cpos : Pos} (c : ExcC D.prog D.w D.K D.mg D.base j cn C attr cond) (he : PEU D e te) (hfn : D.fn = true := by rfl) (hj : j + 1 ≤ D.k := by first | exact Nat.le_refl _ | (dsimp only; omega) | omega) (hg : D.sc.names.lookup cn = some .globalImplicit := by rfl) (hdb : (cn == ("__debug__" : Str)) = false := by decide)
    (hs : ∀ env, starEach [e] env = [(false, eval e env)] := by intro _; rfl) : PSXU D (.Raise (some (.Call (.Name cn np) [e] [] cpos)) none pos) (uxRaise C attr cond te) := by
  obtain ⟨R, fI, fd, par, cc, hm, F, hb⟩ := c.ex
  obtain ⟨_, p, s⟩ := he
  refine ⟨xRaise D.K C attr cond _, fun X h => ?_, fun σ τ H M D' E' rs rm z Q E d cx => s σ τ H M _ rs rm z _ fun u v M1 H1 s1 rm1 ru ⟨⟨v', e1, e2⟩, q⟩ => ?_⟩
  · have cc' : XCls X.K C R fI := by rw [h.K]; exact cc.cl
    have F' : FnOkH X.prog X.w X.K X.mg X.base CX0 j fI fd ["self", par] (spInit C attr cond) := by rw [h.prog, h.w, h.K, h.mg, h.base]; exact F
    have := psx_raise (pos := pos) (np := np) (cpos := cpos) h.xe (h.dl hfn).1 h.calm cc' F' (h.room.h.mono hj) (by rw [h.K]; exact hb) (by show X.env.scope.names.lookup cn = _; rw [h.sc]; exact hg) (by rw [h.mg]; exact hm) (p X h) hdb (hs _)
    exact this
  · obtain ⟨rfl, r⟩ := flatV_rel e1 ru
    exact ⟨e2, fun d hd => cx C [(attr, u)] [(attr, v)] σ τ H1 M1 d s1 rm1 (rs.stp s1) (.cons ⟨rfl, e1⟩ .nil) hd q⟩
end
section
variable {P : Program} {w : World} {K : PySem.W.Frag} {mg : Str → Option Value} {base : Heap}
theorem calleeX_of {x : Str} {st : Stmt} {f : Addr} {fd : FuncData} {N ps : List Str} {k : Nat} {sp : USpX} {t : USX} (F : Fun K x x st f fd) (hm : mg x = some (.ref f)) (S : FnScope N ps (defScope st))
    (bind : ∀ (kV doc pm : Value) (an : Option Addr) (cdv ct : Value) (us : List Value), us.length = ps.length → bindArgs (PySem.W.fnOf x x (defArgs st) (defBody st) (defScope st) .none kV doc pm an cdv ct) ⟨us, []⟩ = pure (ps.zip us))
    (len : ∀ us M Q E, sp us M Q E → us.length = ps.length)
    (h : PSsXU ⟨P, w, K, mg, base, N, defScope st, k, true, .none, ""⟩ (defBody st) t)
    (q : ∀ us M Q E, sp us M Q E → t { nx := fun _ M' => rtU Q .non M', rt := rtU Q } (fun C fs _ M1 => ∃ M', Sub M' M1 ∧ E C fs M') (startU N us) M) : CalleeX P w K mg base (k + 1) x sp [] := by
  obtain ⟨t0, h1, h2⟩ := h
  refine ⟨f, fd, ps, [], [], F.okX S (fun vs H Q E ⟨us, M, Q', E', _, r, hs, _⟩ => by rw [← r.length]; exact len us M Q' E' hs) (fun cdv A outer s H vs Q E hr ⟨us, M, Q', E', rm, r, hs, c, cx⟩ => ?_), hm, F.kp, F.binds bind, .nil, fun H M => .nil⟩
  refine ⟨t0, h1 _ ⟨rfl, rfl, rfl, rfl, rfl, rfl, rfl, hr, rfl, rfl, fun _ _ => rfl, fun h => absurd rfl h, fun _ => ⟨rfl, rfl, rfl⟩⟩, ?_⟩
  refine h2 _ (startU N us) H M _ _ (start_rel r) rm (q us M Q' E' hs) _ _ ⟨fun σ τ H1 M1 s1 rm1 rs1 q1 => ?_, fun u v H1 M1 s1 rm1 ru q1 => rtU.ok c s1 rm1 ru q1, fun _ _ _ _ _ _ _ z => z.elim, fun _ _ _ _ _ _ _ z => z.elim⟩ fun C fs' fs σ τ H1 M1 d s1 rm1 rs1 ra hd ⟨M', sb, q1⟩ => ?_
  · exact rtU.ok c s1 rm1 relU_non q1
  · exact cx C fs' fs H1 M' d (s1.trans sb.less) (rm1.sub sb) ra hd q1
end
end U2
namespace U2
open PySem PySem.Spec L2
structure HasH (D : Dat) (a C d : Addr) (fs : List (Str × V)) (X : Cx) : Prop where
  prog : X.prog = D.prog
  w : X.w = D.w
  K : X.K = D.K
  mg : X.mg = D.mg
  N : X.N = D.N
  sc : X.env.scope = D.sc
  fn : D.fn = true → ∀ x, X.fn x = true
  exc : ∃ oe od, (a, oe) ∈ X.pn ∧ (d, od) ∈ X.pn ∧ oe.cls = .ref C ∧ oe.dict = some d ∧ (∃ vs, oe.data = .fields vs) ∧ DictX od fs
def uOfV : V → U
  | .non => .non
  | .bl b => .bl b
  | .int i => .int i
  | .str x => .str x
  | .ref a => .ref a
  | .ty n => .ty n
  | _ => .lst []
def uFs (fs : List (Str × V)) : List (Str × U) := fs.map fun p => (p.1, uOfV p.2)
theorem flatV_uOfV {u : U} {v : V} (e : flatV u = some v) : u = uOfV v := by
  cases u <;> first | (cases e; rfl) | cases e
theorem RelA.eq {fs' : List (Str × U)} {fs : List (Str × V)} (r : RelA fs' fs) : fs' = uFs fs := by
  induction r with
  | nil => rfl
  | cons h _ ih =>
    rename_i p q _ _ _
    obtain ⟨p1, p2⟩ := p
    obtain ⟨q1, q2⟩ := q
    obtain ⟨h1, h2⟩ := h
    dsimp only at h1 h2
    rw [ih, h1, flatV_uOfV h2]
    rfl
def PEH (D : Dat) (a C : Addr) (fs' : List (Str × U)) (e : Expr) (t' : UE) : Prop := ∃ t, (∀ X d fs, uFs fs = fs' → HasH D a C d fs X → PE X e t) ∧ SimE D.K t t'
def PAH (D : Dat) (a C : Addr) (fs' : List (Str × U)) (e : List Expr) (t' : UA) : Prop := ∃ t, (∀ X d fs, uFs fs = fs' → HasH D a C d fs X → PA X e t) ∧ SimA D.K t t'
def PSH (D : Dat) (a C : Addr) (fs' : List (Str × U)) (s : Stmt) (t' : US) : Prop := ∃ t, (∀ X d fs, uFs fs = fs' → HasH D a C d fs X → PS X s t) ∧ SimS D.K t t'
def PSsH (D : Dat) (a C : Addr) (fs' : List (Str × U)) (s : List Stmt) (t' : US) : Prop := ∃ t, (∀ X d fs, uFs fs = fs' → HasH D a C d fs X → PSs X s t) ∧ SimS D.K t t'
section
variable {D : Dat} {a0 C : Addr} {F : List (Str × U)} {e : Expr} {te : UE} {es : List Expr} {tas : UA} {pos : Pos} {st : Stmt} {sts : List Stmt} {t u : US}
theorem h_var (i : Nat) {x : Str} (hN : D.N[i]? = some x := by rfl) (hv : Vis D.sc x := by first | exact Or.inl rfl | exact Or.inr (Or.inl rfl) | exact Or.inr (Or.inr rfl)) (hd : (x == ("__debug__" : Str)) = false := by decide)
    (hcd : (x == ("__classdict__" : Str)) = false := by decide) : PEH D a0 C F (.Name x pos) (uVar i) :=
  ⟨_, fun X _ _ _ h => pe_var (by rw [h.N]; exact hN) (by rw [h.sc]; exact hv) hd hcd, sim_var i⟩
theorem h_ref {x : Str} {f : Addr} (hm : D.mg x = some (.ref f)) (hg : D.sc.names.lookup x = some .globalImplicit := by rfl) (hd : (x == ("__debug__" : Str)) = false := by decide) : PEH D a0 C F (.Name x pos) (uC (.ref f)) :=
  ⟨_, fun X _ _ _ h => pe_glob (v := .ref f) (by show X.env.scope.names.lookup x = _; rw [h.sc]; exact hg) (by rw [h.mg]; exact hm) rfl hd, sim_ref⟩
theorem h_ty {x : Str} {n : String} (hm : D.mg x = none) (hv : bootBuiltins x = some (.type n) := by kernel_rfl) (hg : D.sc.names.lookup x = some .globalImplicit := by rfl) (hn : x ≠ "__name__" := by decide) (hd : (x == ("__debug__" : Str)) = false := by decide) : PEH D a0 C F (.Name x pos) (uC (.ty n)) :=
  ⟨_, fun X _ _ _ h => pe_bltn (v := .ty n) (by show X.env.scope.names.lookup x = _; rw [h.sc]; exact hg) (by rw [h.mg]; exact hm) hv rfl hn hd, sim_ty⟩
theorem h_nil : PAH D a0 C F [] uNil := ⟨_, fun _ _ _ _ h => pa_nil, sim_nil⟩
theorem h_cons (ha : PEH D a0 C F e te) (hr : PAH D a0 C F es tas) (hs : ∀ env, starEach (e :: es) env = (false, eval e env) :: starEach es env := by intro _; rfl) : PAH D a0 C F (e :: es) (uCons te tas) := let ⟨_, p, s⟩ := ha; let ⟨_, q, r⟩ := hr; ⟨_, fun X d fs r h => pa_cons (p X d fs r h) (q X d fs r h) (hs _), sim_cons s r⟩
theorem h_tup {x1} (h : PAH D a0 C F es tas) : PEH D a0 C F (.Tuple es x1 pos) (uTup tas) := let ⟨_, p, s⟩ := h; ⟨_, fun X d fs r h => pe_tup (p X d fs r h), sim_tup s⟩
theorem h_lst (own : Bool := false) (h : PAH D a0 C F es tas) : PEH D a0 C F (.List es pos) (uLst own tas) := let ⟨_, p, s⟩ := h; ⟨_, fun X d fs r h => pe_lst (p X d fs r h), sim_lst s⟩
theorem h_set (i : Nat) {x : Str} {pos' : Pos} (hN : D.N.Nodup) (he : PEH D a0 C F e te) (hi : D.N[i]? = some x := by rfl) (hx : Loc D.sc x := by first | exact Or.inl rfl | exact Or.inr rfl) (hs : ∀ env, swapsWith e (some (.Name x pos')) pos.line env = pure false := by intro _; rfl)
    (hf : D.fn = true ∨ D.sc.names.lookup x = some .local := by first | exact .inl rfl | exact .inr rfl) : PSH D a0 C F (.Assign [.Name x pos'] e pos) (uAsg te (hName i)) := by
  obtain ⟨_, p, s⟩ := he
  exact ⟨_, fun X d fs r h => ps_set (i := i) (by rw [h.N]; exact hN) (by rw [h.N]; exact hi) (by rw [h.sc]; exact hx) (p X d fs r h) (hs _) (by rcases hf with z | z; exact .inl (h.fn z x); exact .inr (by rw [h.sc]; exact z)), sim_asg s (sim_gname i)⟩
theorem hs_cons (h1 : PSH D a0 C F st t) (h2 : PSsH D a0 C F sts u) : PSsH D a0 C F (st :: sts) (uSeq t u) := let ⟨_, p, s⟩ := h1; let ⟨_, q, r⟩ := h2; ⟨_, fun X d fs r h => pss_cons (p X d fs r h) (q X d fs r h), sim_seq s r⟩
theorem hs_one (h1 : PSH D a0 C F st t) : PSsH D a0 C F [st] t := let ⟨_, p, s⟩ := h1; ⟨_, fun X d fs r h => pss_one (p X d fs r h), s⟩
def vRef : V → Value
  | .ref a => .ref a
  | .ty n => .type n
  | _ => .none
def rIsiX (K : PySem.W.Frag) (a C : Addr) : List V → Hp → VK → Prop := fun xs H Q => (∃ R fI, XGet K C R fI) ∧ ∃ c b, xs = [.ref a, c] ∧ ((vRef c ≠ .none ∧ PySem.W.kitOne K (.ref C) (vRef c) = some b) ∨ (∃ tp vs, c = .ref tp ∧ H tp = some (.tup vs) ∧ (∀ v ∈ vs, vRef v ≠ .none) ∧ PySem.W.kitAny K (.ref C) (vs.map vRef) = some b)) ∧ Q (.bl b) H
theorem vRef_rel {v : V} {u : Value} (r : RelV v u) (n : vRef v ≠ .none) : u = vRef v := by
  cases v <;> first | exact r | exact absurd rfl n
theorem vRefs_rel : ∀ {vs : List V} {us : List Value}, Vals vs us → (∀ v ∈ vs, vRef v ≠ .none) → us = vs.map vRef
  | _, _, .nil, _ => rfl
  | _, _, .cons r t, n => by rw [vRef_rel r (n _ List.mem_cons_self), vRefs_rel t fun v hv => n v (List.mem_cons_of_mem _ hv)]; rfl
theorem call_isiX {X : Cx} {a d : Addr} {fs : List (Str × V)} (h : HasH D a C d fs X) : CallR X (.builtin "isinstance") (rIsiX D.K a C) := by
  intro pins s σ H xs us Q I r ⟨⟨R, fI, cg⟩, c, b, e, hc, q⟩
  subst e
  obtain ⟨u, w', rfl, ru, rw'⟩ := vals2 r
  cases ru
  obtain ⟨oe, od, m1, _, o1, _⟩ := h.exc
  have KX : D.K.In s.heap := by have := I.kIn; rw [h.K] at this; exact this
  have XA : XAt a C s.heap := ⟨oe, (I.pin (a, oe) (List.mem_append_left _ m1)).1, o1⟩
  rcases hc with ⟨n, e⟩ | ⟨tp, vs, rfl, m, n, e⟩
  · have := vRef_rel rw' n
    subst this
    exact PySem.W.kia_one (kitx_exc cg) KX XA e (fun z => nomatch z) fun tk => ⟨.bl b, H, I.tok tk, rfl, q⟩
  · cases rw'
    obtain ⟨_, its, rv, o, g1, g2, g3, k, g4⟩ := (show ObjOk X.prog X.w H s.heap tp (.tup vs) from I.hok tp _ m)
    obtain ⟨oc, odi, odt, osl⟩ := o
    obtain rfl : oc = .type "tuple" := g2
    obtain rfl : odt = .seq its.toArray k := g4
    rw [vRefs_rel rv n] at g1
    exact PySem.W.kia_tup (kitx_exc cg) KX XA g1 e (fun z => nomatch z) fun tk => ⟨.bl b, H, I.tok tk, rfl, q⟩
def uRef : U → Value
  | .ref a => .ref a
  | .ty n => .type n
  | _ => .none
def bIsiX (K : PySem.W.Frag) (a C : Addr) : List U → MHp → UK → Prop := fun us M Q => (∃ R fI, XGet K C R fI) ∧ match us with
  | [.ref x, .tup As] => x = a ∧ (∀ v ∈ As, uRef v ≠ .none) ∧ ∃ b, PySem.W.kitAny K (.ref C) (As.map uRef) = some b ∧ Q (.bl b) M
  | [.ref x, c] => x = a ∧ uRef c ≠ .none ∧ ∃ b, PySem.W.kitOne K (.ref C) (uRef c) = some b ∧ Q (.bl b) M
  | _ => False
theorem uRef_rel {K : PySem.W.Frag} {H : Hp} {M : MHp} {u : U} {v : V} (r : RelU K H M u v) (n : uRef u ≠ .none) : vRef v = uRef u := by
  cases u <;> first | (rw [r.ref]; rfl) | (rw [r.ty]; rfl) | exact absurd rfl n
theorem uRefs_rel {K : PySem.W.Frag} {H : Hp} {M : MHp} : ∀ {us : List U} {vs : List V}, RelUs K H M us vs → (∀ v ∈ us, uRef v ≠ .none) → vs.map vRef = us.map uRef ∧ ∀ v ∈ vs, vRef v ≠ .none
  | [], vs, r, _ => by simp only [RelUs] at r; subst r; exact ⟨rfl, fun v z => nomatch z⟩
  | u :: us, vs, r, n => by
    simp only [RelUs] at r
    obtain ⟨v, vs', rfl, r1, r2⟩ := r
    obtain ⟨e1, e2⟩ := uRefs_rel r2 fun v hv => n v (List.mem_cons_of_mem _ hv)
    have e := uRef_rel r1 (n u List.mem_cons_self)
    refine ⟨by rw [List.map_cons, List.map_cons, e, e1], fun x hx => ?_⟩
    rcases List.mem_cons.mp hx with rfl | hx
    · rw [e]; exact n u List.mem_cons_self
    · exact e2 x hx
theorem sim_isiX {K : PySem.W.Frag} {a : Addr} : SimCl K (rIsiX K a C) (bIsiX K a C) := fun xs us H M Q' rm rus h Q c => by
  obtain ⟨cg, h⟩ := h
  refine ⟨cg, ?_⟩
  split at h
  · rename_i x As
    obtain ⟨rfl, n, b, e, q⟩ := h
    obtain ⟨v, z, rfl, a1, a2⟩ := rus.two
    cases a1.ref
    simp only [RelU] at a2
    obtain ⟨tp, vs, rfl, m, r⟩ := a2
    obtain ⟨e1, e2⟩ := uRefs_rel r n
    exact ⟨_, b, rfl, .inr ⟨tp, vs, rfl, m.2, e2, by rw [e1]; exact e⟩, c.here rm relU_bl q⟩
  · rename_i x c' _
    obtain ⟨rfl, n, b, e, q⟩ := h
    obtain ⟨v, z, rfl, a1, a2⟩ := rus.two
    cases a1.ref
    have e1 := uRef_rel a2 n
    exact ⟨_, b, rfl, .inl ⟨by rw [e1]; exact n, by rw [e1]; exact e⟩, c.here rm relU_bl q⟩
  · exact h.elim
theorem h_isi {x : Str} {p : Pos} (hx : x = "isinstance") (hm : D.mg x = none) (ha : PAH D a0 C F (e :: es) tas) (hg : D.sc.names.lookup x = some .globalImplicit := by rfl)
    (he : ∀ env, starEach (e :: es) env = (false, eval e env) :: starEach es env := by intro _; rfl) (hpl : ∀ env, (backTo pos (starEach es env)).any (·.1) = false := by intro _; rfl) : PEH D a0 C F (.Call (.Name x p) (e :: es) [] pos) (uCB (bIsiX D.K a0 C) tas) := by
  subst hx
  obtain ⟨_, q, s⟩ := ha
  exact ⟨_, fun X d fs r h => pe_callB (call_isiX h) (by show X.env.scope.names.lookup _ = _; rw [h.sc]; exact hg) (by rw [h.mg]; exact hm) (by kernel_rfl) (q X d fs r h) (by decide) (by decide) (he _) (hpl _), sim_cb sim_isiX s⟩
def uTry (i : Nat) (Cn : Addr) (K : PySem.W.Frag) (tb : USX) (th : Addr → Addr → List (Str × U) → US) : US := fun De τ M => tb De (fun C fs τ' M' => PySem.W.subIn K (.ref C) (.ref Cn) = some true ∧
  ∀ a, th a C fs { nx := fun τ M => De.nx (τ.set i none) M, rt := De.rt, bk := fun τ M => De.bk (τ.set i none) M, ct := fun τ M => De.ct (τ.set i none) M } (τ'.set i (some (.ref a))) M') τ M
theorem RelS.setNone {K : PySem.W.Frag} {H : Hp} {M : MHp} {σ : St} {τ : SU} {i : Nat} (r : RelS K H M σ τ) : RelS K H M (σ.set i none) (τ.set i none) := by
  refine ⟨by simp [r.1], fun j w e => ?_⟩
  rw [List.getElem?_set] at e ⊢
  split at e
  · split at e <;> cases e
  · rename_i hj
    rw [if_neg hj]
    exact r.2 j w e
theorem us_try (i : Nat) {n cn : Str} {Cn : Addr} {body suite : List Stmt} {b₀ : Stmt} {tb : USX} {th : Addr → Addr → List (Str × U) → US} {cp hp : Pos} (hN : D.N.Nodup) (hm : D.mg cn = some (.ref Cn)) (hc : HCls D.K Cn) (hbody : PSsXU D body tb) (hh : ∀ a C fs, PSsH D a C fs (b₀ :: suite) (th a C fs))
    (hi : D.N[i]? = some n := by rfl) (hk : D.sc.names.lookup n = some .local := by rfl) (hg : D.sc.names.lookup cn = some .globalImplicit := by rfl) (hfn : D.fn = true := by rfl) (hdb : (cn == ("__debug__" : Str)) = false := by decide) :
    PSU D (.Try body [.ExceptHandler (some (.Name cn cp)) (some n) (b₀ :: suite) hp] [] [] pos) (uTry i Cn D.K tb th) := by
  obtain ⟨t0, p, s⟩ := hbody
  refine ⟨sTry i Cn D.K t0 (fun a C d fs => (hh a C (uFs fs)).choose), fun X h => ?_, fun σ τ H M D' rs rm z De d => s σ τ H M D' _ rs rm z De _ d ?_⟩
  · have hd := h.dl hfn
    have := ps_try (i := i) (b₀ := b₀) (suite := suite) (pos := pos) (hp := hp) (cp := cp) (th := fun a C d fs => (hh a C (uFs fs)).choose) h.xe hd.1 hd.2.1 hd.2.2 (by rw [h.N]; exact hN) (by rw [h.N]; exact hi) (by rw [h.sc]; exact hk) (p X h) (by show X.env.scope.names.lookup cn = _; rw [h.sc]; exact hg) (by rw [h.mg]; exact hm) (by rw [h.K]; exact hc) (fun a C d fs oe od o1 o2 o3 o4 => ?_) hdb
    · rw [h.K] at this
      exact this
    · refine (hh a C (uFs fs)).choose_spec.1 _ d fs rfl ⟨h.prog, h.w, h.K, h.mg, h.N, h.sc, h.fn, oe, od, ?_, ?_, o1, o2, o3, o4⟩
      · exact List.mem_append_right _ List.mem_cons_self
      · exact List.mem_append_right _ (List.mem_cons_of_mem _ List.mem_cons_self)
  · intro C fs' fs σ1 τ1 H1 M1 d1 s1 rm1 rs1 ra hd1 ⟨q1, q2⟩ C' d' H' fsx e1 e2 e3 e4
    cases e1; cases e2
    have e5 : fsx = fs := by
      have := congrFun e3 d1
      rw [upd_same, upd_same] at this
      cases this; rfl
    have e6 : H' = H1 := by
      funext b
      by_cases hb : b = d1
      · rw [hb, hd1, e4]
      · have := congrFun e3 b
        rw [upd_ne hb, upd_ne hb] at this
        exact this.symm
    subst e5; subst e6
    refine ⟨q1, fun a => ?_⟩
    have q3 := q2 a
    rw [ra.eq] at q3
    refine (hh a C (uFs fsx)).choose_spec.2 _ _ H' M1 _ (rs1.set relU_ref) rm1 q3 _ ⟨fun σ2 τ2 H2 M2 s2 rm2 rs2 q => ?_, fun u v H2 M2 s2 rm2 ru q => ?_, fun σ2 τ2 H2 M2 s2 rm2 rs2 q => ?_, fun σ2 τ2 H2 M2 s2 rm2 rs2 q => ?_⟩
    · exact d.nx _ _ H2 M2 (s1.trans s2) rm2 rs2.setNone q
    · exact d.rt u v H2 M2 (s1.trans s2) rm2 ru q
    · exact d.bk _ _ H2 M2 (s1.trans s2) rm2 rs2.setNone q
    · exact d.ct _ _ H2 M2 (s1.trans s2) rm2 rs2.setNone q
end
end U2
namespace L2
open PySem PySem.Spec
section
variable {X : Cx}
theorem passX {pins : List (Addr × Obj)} {E : XS} (hex : X.ex = []) (hst : X.stack = X.env :: X.outer) (hf : X.env.frame = some X.env.locals) : PassesOwn (model X.prog X.w) X.A X.env (XP X pins E) := by
  rintro e s' ⟨a, C, d, fs, σ', H', rfl, I, r, q⟩
  refine noteX I hst hf hex r fun s1 eo I1 r1 ⟨oe, vs, T, g1, g2, g3⟩ => ?_
  refine wpAny_bind (wpAny_field g1 g2 g3 ?_)
  rw [if_neg (show ¬ ((Value.ref T == Value.none) = true) from by simp), hf]
  exact flight (some X.env.locals) I1 hex r1 fun s2 I2 r2 => ⟨a, C, d, fs, σ', H', rfl, I2, r2.imp (fun v e => .inr e) (Nat.le_refl _) fun _ z => z, q⟩
end
end L2
namespace U2
open PySem PySem.Spec L2
section
variable {D : Dat} {pos : Pos}
end
end U2
namespace L2
open PySem PySem.Spec
section
variable {X : Cx} {e : Expr} {te : TE} {p1 p2 p3 p4 : Pos} {a b : Str}
def fmtV : V → Option Str
  | .str z => some z
  | .int n => if n.natAbs.log2 < 1920 then some (toString n) else none
  | _ => none
def tF2 (a : Str) (te : TE) : TE := fun σ H Q => te σ H fun v H1 => ∃ z, fmtV v = some z ∧ z.length ≤ 100000 ∧ (a ++ z).length ≤ 100000 ∧ Q (.str (a ++ z)) H1
theorem small_sz {n : Nat} (h : n ≤ 100000) : n ≤ sizeLine := Nat.le_trans h (by decide)
theorem len_app (a b : Str) : (a ++ b).length = a.length + b.length := strLen_append a b
theorem pe_fmt {pos : Pos} (he : PE X e te) : PE X (.FormattedValue e (-1) none pos) (fun σ H Q => te σ H fun v H1 => ∃ z, fmtV v = some z ∧ z.length ≤ 100000 ∧ Q (.str z) H1) := by
  intro pins s σ H Q I h
  refine PyProof.Rows.FormattedValue_plain (thn (he pins s σ H _ I h) fun u s1 ⟨v, H1, I1, r, z, e1, e2, q⟩ => ?_)
  cases v with
  | str y =>
    obtain rfl : y = z := Option.some.inj e1
    obtain ⟨t, rfl⟩ := (show ∃ t, u = Value.str y t from r)
    exact PyProof.Rows.formatField_str (fun t' tk => ⟨.str y, H1, I1.tok tk, ⟨t', rfl⟩, q⟩) (small_sz e2)
  | int n =>
    by_cases hn : n.natAbs.log2 < 1920
    · have e1' : fmtV (.int n) = some (Str.ofString (toString n)) := if_pos hn
      rw [e1'] at e1
      obtain rfl := Option.some.inj e1
      obtain ⟨t, rfl⟩ := (show ∃ t, u = Value.int n t from r)
      exact PyProof.Rows.formatField_int_small hn ⟨.str (toString n), H1, I1.tok _, ⟨_, rfl⟩, q⟩
    · have e1' : fmtV (.int n) = none := if_neg hn
      rw [e1'] at e1; cases e1
  | _ => cases e1
theorem pe_f2 {j} (he : PE X e te) (ha : a.length ≤ 100000 := by decide) (hev : evalEach [.Constant (.str a) j p1, .FormattedValue e (-1) none p2] X.env = [eval (.Constant (.str a) j p1) X.env, eval (.FormattedValue e (-1) none p2) X.env] := by rfl) : PE X (.JoinedStr [.Constant (.str a) j p1, .FormattedValue e (-1) none p2] p3) (tF2 a te) := by
  intro pins s σ H Q I h
  refine wpAny_JoinedStr ?_
  rw [hev]
  refine thn (pe_str pins s σ H (fun v H1 => v = .str a ∧ H1 = H) I ⟨rfl, rfl⟩) fun u1 s1 ⟨v1, H1, I1, r1, e1, e2⟩ => ?_
  subst e1; subst e2
  obtain ⟨t1, rfl⟩ := (show ∃ t, u1 = Value.str a t from r1)
  have hl := PySem.Str.empty_append a
  refine ⟨a, t1, rfl, by rw [hl]; exact small_sz ha, ?_⟩
  rw [hl]
  let Q' : VK := fun w H1 => match w with | .str z => (a ++ z).length ≤ 100000 ∧ Q (.str (a ++ z)) H1 | _ => False
  refine thn (pe_fmt (pos := p2) he pins s1 σ H1 Q' I1 h) fun u2 s2 ⟨v2, H2, I2, r2, q2⟩ => ?_
  cases v2 with
  | str z =>
    obtain ⟨t2, rfl⟩ := (show ∃ t, u2 = Value.str z t from r2)
    exact ⟨z, t2, rfl, small_sz q2.1, small_sz q2.1, ⟨.str (a ++ z), H2, I2.tok _, ⟨_, rfl⟩, q2.2⟩⟩
  | _ => exact q2.elim
end
end L2
namespace U2
open PySem PySem.Spec L2
section
variable {P : Program} {w : World} {K : PySem.W.Frag} {mg : Str → Option Value} {base : Heap}
end
section
variable {D : Dat} {a0 C : Addr} {F : List (Str × U)} {e : Expr} {te ta tb : UE} {a b : Expr} {pos : Pos}
theorem h_op {op : Operator} {r : R2} {r' : UR2} (ho : ∀ X d fs, HasH D a0 C d fs X → OpR X (binaryOp op) r) (hr : SimR2 D.K r r') (ha : PEH D a0 C F a ta) (hb : PEH D a0 C F b tb) : PEH D a0 C F (.BinOp a op b pos) (uOp r' ta tb) := by
  obtain ⟨x, p, s⟩ := ha; obtain ⟨y, q, r⟩ := hb
  exact ⟨_, fun X d fs e h => pe_op (ho X d fs h) (p X d fs e h) (q X d fs e h), sim_op hr s r⟩
theorem h_add (own : Bool := false) (ha : PEH D a0 C F a ta) (hb : PEH D a0 C F b tb) : PEH D a0 C F (.BinOp a .Add b pos) (uOp (uAdd own) ta tb) :=
  h_op (r := rAddA D.K) (fun X d fs h => by have := op_add.or (op_add_str.or ((op_catTA (X := X)).or (op_catL (X := X)))); rw [h.K] at this; exact this) sim_add ha hb
theorem uFs_look : ∀ {fs : List (Str × V)} {x : Str} {u : U} {v : V}, (uFs fs).lookup x = some u → flatV u = some v → fs.lookup x = some v
  | [], _, _, _, h, _ => nomatch h
  | (y, w) :: fs, x, u, v, h, e => by
    unfold uFs at h
    simp only [List.map_cons, List.lookup] at h ⊢
    cases hx : (x == y) with
    | true =>
      rw [hx] at h
      cases h
      cases w <;> first | (cases e; rfl) | cases e
    | false =>
      rw [hx] at h
      exact uFs_look (fs := fs) h e
theorem flatV_any {K : PySem.W.Frag} {H : Hp} {M : MHp} {u : U} {v : V} (e : flatV u = some v) : RelU K H M u v := by
  cases u <;> first | (cases e; first | exact relU_non | exact relU_bl | exact relU_int | exact relU_str) | cases e
def uAttr (K : PySem.W.Frag) (a C : Addr) (F : List (Str × U)) (x : Str) (te : UE) : UE := fun τ M Q => te τ M fun y M1 => y = .ref a ∧ (∃ R fI, XGet K C R fI ∧ PySem.W.findIn K (.ref C) x = some none) ∧ ∃ u v, F.lookup x = some u ∧ flatV u = some v ∧ Q u M1
theorem h_attr {x : Str} (he : PEH D a0 C F e te) (hb : ∀ env, attributeBase e x env (eval e env) = eval e env := by intro _; rfl) : PEH D a0 C F (.Attribute e x pos) (uAttr D.K a0 C F x te) := by
  obtain ⟨t0, p, s⟩ := he
  refine ⟨fun σ H Q => t0 σ H fun y H1 => y = .ref a0 ∧ (∃ R fI, XGet D.K C R fI ∧ PySem.W.findIn D.K (.ref C) x = some none) ∧ ∃ u v, F.lookup x = some u ∧ flatV u = some v ∧ Q v H1, fun X d fs ef h => ?_, fun σ τ H M Q' rs rm z Q c => s σ τ H M _ rs rm z _ fun u v M1 H1 s1 rm1 ru ⟨e1, e2, u', v', e3, e4, q⟩ => ?_⟩
  · intro pins s σ H Q I hq
    refine attr_of (hb _) (thn (p X d fs ef h pins s σ H _ I hq) fun u s1 ⟨y, H1, I1, r1, e1, ⟨R, fI, cg, nf⟩, u', v', e3, e4, q⟩ => ?_)
    subst e1
    obtain rfl : u = Value.ref a0 := r1
    obtain ⟨oe, od, m1, m2, o1, o2, ⟨vs, o3⟩, es, ep, mA, g1, g2, g3, g4, g5⟩ := h.exc
    have k1 := (I1.pin (a0, oe) (List.mem_append_left _ m1)).1
    have k2 := (I1.pin (d, od) (List.mem_append_left _ m2)).1
    subst ef
    have hl := uFs_look e3 e4
    have hm := g5 x
    rw [hl] at hm
    cases hu : mA x with
    | none => rw [hu] at hm; exact hm.elim
    | some w' =>
      rw [hu] at hm
      have hv : RelV v' w' := hm
      have KX : D.K.In s1.heap := by have := I1.kIn; rw [h.K] at this; exact this
      obtain ⟨hh, g, dd, t, os⟩ := s1
      refine xattr KX cg nf k1 o1 o2 o3 (m := mA) ⟨od, es, ep, k2, g1, g2, g4⟩ hu (fun id z => ?_) ⟨v', H1, I1.tok _, hv, q⟩
      subst z
      cases u' <;> first | (cases e4; first | (obtain ⟨_, z⟩ := hv; cases z) | cases hv) | cases e4
  · subst e1
    exact ⟨ru.ref, e2, u', v', e3, e4, c u' v' M1 H1 s1 rm1 (flatV_any e4) q⟩
end
end U2
namespace L2
open PySem PySem.Spec PyProof.Rows
section
variable {X : Cx} {pins pl : List (Addr × Obj)} {σ : St} {H : Hp} {s : Shared} {a C d : Addr} {fs : List (Str × V)}
end
end L2
namespace U2
open PySem PySem.Spec L2
section
variable {D : Dat} {a0 C : Addr} {F : List (Str × U)} {e : Expr} {te : UE} {pos : Pos} {sts : List Stmt} {t : US}
end
end U2
namespace L2
open PySem PySem.Spec PyProof.Rows
section
variable {X : Cx} {pos : Pos}
def xWhile (c : TT) (tb : TSX) : TSX := fun D E σ H => tWhile c (fun D' σ H => tb D' E σ H) D σ H
theorem psx_while {c : Expr} {body : List Stmt} {tc : TT} {tb : TSX} (hx : NoX X) (hex : X.ex = []) (hst : X.stack = X.env :: X.outer) (hf : X.env.frame = some X.env.locals) (hc : PT X c tc) (hb : PSxs X body tb) : PSx X (.While c body [] pos) (xWhile tc tb) := by
  intro pins s σ H D E I h
  have no : ∀ {α : Type} {t : Sem α} {Q : α → Shared → Prop} {s : Shared}, wpAny (model X.prog X.w) X.A t Q X.xe s → wpAny (model X.prog X.w) X.A t Q (XP X pins E) s := fun z => wpAny_mono z (fun _ _ y => y) fun _ _ y => by rw [hx] at y; exact y.elim
  have hp : PassesOwn (model X.prog X.w) X.A X.env (XP X pins E) := passX hex hst hf
  obtain ⟨W, ⟨m0, w0⟩, turn⟩ := h
  refine wpAny_While (codeAny_whileLoop (fun n s' => ∃ σ' H', Inv X pins σ' H' s' ∧ W n σ' H') ?_ m0 ⟨σ, H, I, w0⟩)
  rintro n s1 ⟨σ1, H1, I1, w1⟩
  refine wpAny_passesOwn hp (thn (no (hc pins s1 σ1 H1 _ I1 (turn n σ1 H1 w1))) fun b s2 ⟨H2, I2, q2⟩ => ?_)
  cases b with
  | true =>
    obtain ⟨N, hN, q2⟩ := q2
    rw [if_pos rfl]
    refine wpAny_passesOwn hp (wpAny_mono (hb pins s2 σ1 H2 _ E I2 q2) (fun f s3 q3 => ?_) fun _ _ z => z)
    cases f with
    | next =>
      obtain ⟨σ3, H3, I3, n3⟩ := q3
      obtain ⟨m', hm, w3⟩ := hN σ3 H3 n3
      exact ⟨m', hm, σ3, H3, I3, w3⟩
    | cont =>
      obtain ⟨σ3, H3, I3, n3⟩ := q3
      obtain ⟨m', hm, w3⟩ := hN σ3 H3 n3
      exact ⟨m', hm, σ3, H3, I3, w3⟩
    | brk => exact q3
    | ret v => exact q3
  | false =>
    rw [if_neg Bool.false_ne_true]
    exact wpAny_execs_nil ⟨σ1, H2, I2, q2⟩
end
end L2
namespace U2
open PySem PySem.Spec L2
section
variable {D : Dat} {pos : Pos}
def uxWhile (c : UT) (tb : USX) : USX := fun De E τ M => uWhile c (fun D' τ M => tb D' E τ M) De τ M
theorem sim_whileX {K : PySem.W.Frag} {t : TSX} {t' : USX} {c : TT} {c' : UT} (hc : SimT K c c') (h1 : SimSX K t t') : SimSX K (xWhile c t) (uxWhile c' t') := fun σ τ H M D' E' rs rm h D E d cx => by
  obtain ⟨P, μ, p0, turn⟩ := h
  refine ⟨fun m σ1 H1 => ∃ τ1 M1, Stp H M H1 M1 ∧ RelM K H1 M1 ∧ RelS K H1 M1 σ1 τ1 ∧ P τ1 M1 ∧ m = μ τ1 M1, ⟨_, τ, M, Stp.refl _ _, rm, rs, p0, rfl⟩, ?_⟩
  rintro m σ1 H1 ⟨τ1, M1, s1, rm1, rs1, p1, rfl⟩
  refine hc σ1 τ1 H1 M1 _ rs1 rm1 (turn τ1 M1 p1) _ fun b M2 H2 s2 rm2 q2 => ?_
  cases b with
  | true =>
    rw [if_pos rfl] at q2 ⊢
    refine ⟨fun σ3 H3 => ∃ τ3 M3, Stp H M H3 M3 ∧ RelM K H3 M3 ∧ RelS K H3 M3 σ3 τ3 ∧ P τ3 M3 ∧ μ τ3 M3 < μ τ1 M1, ?_, ?_⟩
    · rintro σ3 H3 ⟨τ3, M3, s3, rm3, rs3, p3, hm⟩
      exact ⟨μ τ3 M3, hm, τ3, M3, s3, rm3, rs3, p3, rfl⟩
    · have st := s1.trans s2
      have d2 := d.stp st
      exact h1 σ1 τ1 H2 M2 _ E' (rs1.stp s2) rm2 q2 _ E ⟨fun σ4 τ4 H4 M4 s4 rm4 rs4 q4 => ⟨τ4, M4, st.trans s4, rm4, rs4, q4⟩, d2.rt, d2.nx, fun σ4 τ4 H4 M4 s4 rm4 rs4 q4 => ⟨τ4, M4, st.trans s4, rm4, rs4, q4⟩⟩ (cx.stp st)
  | false =>
    rw [if_neg Bool.false_ne_true] at q2 ⊢
    exact d.nx σ1 τ1 H2 M2 (s1.trans s2) rm2 (rs1.stp s2) q2
theorem ux_while {c : Expr} {body : List Stmt} {tc : UT} {t : USX} (hc : PTU D c tc) (hb : PSsXU D body t) (hfn : D.fn = true := by rfl) : PSXU D (.While c body [] pos) (uxWhile tc t) := by
  obtain ⟨_, p, s⟩ := hc; obtain ⟨_, x, y⟩ := hb
  exact ⟨_, fun X h => psx_while h.xe (h.dl hfn).1 (h.dl hfn).2.1 (h.dl hfn).2.2 (p X h) (x X h), sim_whileX s y⟩
end
end U2
namespace L2
open PySem PySem.Spec PyProof.Rows
abbrev TAX := St → Hp → (List V → Hp → Prop) → XS → Prop
def PAx (X : Cx) (es : List Expr) (t : TAX) : Prop := ∀ (pos : Pos) (pins : List (Addr × Obj)) (s : Shared) (σ : St) (H : Hp) (Q : List V → Hp → Prop) (E : XS), Inv X pins σ H s → t σ H Q E →
  wpAny (model X.prog X.w) X.A (spliced (backTo pos (starEach es X.env))) (AP X pins σ Q) (XP X pins E) s
section
variable {X : Cx} {e a b o : Expr} {es : List Expr} {te tb : TEX} {ta to : TE} {t : TAX} {t0 : TA} {pos : Pos}
theorem pax_of (hx : NoX X) (h : PA X es t0) : PAx X es (fun σ H Q _ => t0 σ H Q) := fun pos pins s σ H Q E I q => wpAny_mono (h pos pins s σ H Q I q) (fun _ _ z => z) fun _ _ z => by rw [hx] at z; exact z.elim
theorem pax_cons (ha : PEx X e te) (hr : PAx X es t) (hs : starEach (e :: es) X.env = (false, eval e X.env) :: starEach es X.env := by rfl) : PAx X (e :: es) (fun σ H Q E => te σ H (fun x H1 => t σ H1 (fun xs H2 => Q (x :: xs) H2) E) E) := by
  intro pos pins s σ H Q E I h
  rw [hs]
  show wpAny _ _ (spliced ((false, eval e X.env) :: backTo pos (starEach es X.env))) _ _ s
  refine Calls.spliced_cons (thn (ha pins s σ H _ E I h) fun u s1 ⟨x, H1, I1, r1, q1⟩ => ?_)
  exact thn (hr pos pins s1 σ H1 _ E I1 q1) fun us s2 ⟨xs, H2, I2, r2, q2⟩ => ⟨x :: xs, H2, I2, .cons r1 r2, q2⟩
theorem pex_lst (h : PAx X es t) : PEx X (.List es pos) (fun σ H Q E => t σ H (fun xs H1 => xs.length ≤ sizeLine ∧ ∀ p, H1 p = none → Q (.ref p) (upd H1 p (.lst xs))) E) := by
  intro pins s σ H Q E I hq
  refine wpAny_List_spliced (thn (h pos pins s σ H _ E I hq) fun us s1 ⟨xs, H1, I1, r, z, q⟩ => ⟨by rw [← r.length]; exact z, ?_⟩)
  have hf : H1 s1.heap.objs.size = none := I1.hok.fresh (Nat.le_refl _)
  refine ⟨.ref s1.heap.objs.size, upd H1 s1.heap.objs.size (.lst xs), I1.laid (t' := s1.toks) (fun b u e => Heap.get?_push_of_some _ e) (Nat.le_refl _) ?_, rfl, q _ hf⟩
  exact ⟨z, us, 0, r, Heap.get?_push_size _ rfl⟩
theorem pex_bm {name : Str} {apos cpos : Pos} {T id : String} {r : V → List V → Hp → VK → Prop} (hx : NoX X) (pa : PlainAttrs T) (slot : Slot T name id) (hty : typeOf (.builtin id) = pure (.type "method_descriptor")) (hm : MtR X id r) (ho : PE X o to) (ha : PAx X (e :: es) t)
    (hbase : attributeBase o name X.env (eval o X.env) = eval o X.env := by rfl)
    (hfew : ((backTo cpos (starEach (e :: es) X.env)).all (fun x => !x.1) && (backToKw cpos (keywordEach [] X.env)).all (fun x => x.1.isSome)
      && decide ((e :: es).length + ([] : List Keyword).length + (if ([] : List Keyword).isEmpty then 0 else 1) < 30)) = true := by rfl)
    (hline : (apos.endLine == cpos.line) = true := by rfl) (hs : starEach (e :: es) X.env = (false, eval e X.env) :: starEach es X.env := by rfl) (hplain : (backTo cpos (starEach es X.env)).any (·.1) = false := by rfl) :
    PEx X (.Call (.Attribute o name apos) (e :: es) [] cpos) (fun σ H Q E => to σ H fun x H1 => tyV X.K T x H1 ∧ t σ H1 (fun xs H2 => r x xs H2 Q) E) := by
  intro pins s σ H Q E I h
  have no : ∀ {α : Type} {t : Sem α} {Q : α → Shared → Prop} {s : Shared}, wpAny (model X.prog X.w) X.A t Q X.xe s → wpAny (model X.prog X.w) X.A t Q (XP X pins E) s := fun z => wpAny_mono z (fun _ _ y => y) fun _ _ y => by rw [hx] at y; exact y.elim
  refine wpAny_Call_method_late hbase hfew hline rfl (thn (no (ho pins s σ H _ I h)) fun v s1 ⟨x, H1, I1, r1, ty, q1⟩ => ?_)
  obtain ⟨h1, h2⟩ := tyV_is I1 r1 ty
  refine ⟨T, id, pa, slot, hty, h1, h2, ?_⟩
  have hA := ha cpos pins s1 σ H1 _ E I1 q1
  rw [hs] at hA ⊢
  refine Calls.callWith_builtin (by show (false || (backTo cpos (starEach es X.env)).any (·.1)) = false; rw [hplain] <;> rfl) (Calls.evalArgs_plain ?_)
  exact thn hA fun us s2 ⟨vs, H2, I2, r2, q2⟩ => no (hm pins s2 σ H2 x vs v us Q I2 r1 r2 q2)
theorem pex_callv {x : Str} {p : Pos} {i k : Nat} {f : Addr} {fd : FuncData} {ps : List Str} {sp : Sp} (hx : NoX X) (hex : X.ex = []) (hN : X.N[i]? = some x) (hv : Vis X.env.scope x) (F : FnOk X.prog X.w X.K X.mg X.base (CX1 X.prog X.w) k f fd ps sp) (hr : Room k X.A) (hk : PySem.W.keepIn X.K (.ref f) = true) (hb : Binds X.K fd ps [])
    (ha : PA X (e :: es) t0) (hd : (x == ("__debug__" : Str)) = false) (hcd : (x == ("__classdict__" : Str)) = false) (he : starEach (e :: es) X.env = (false, eval e X.env) :: starEach es X.env) (hpl : (backTo pos (starEach es X.env)).any (·.1) = false) :
    PEx X (.Call (.Name x p) (e :: es) [] pos) (fun σ H Q E => tVar i σ H fun v H1 => v = .ref f ∧ t0 σ H1 fun vs H2 => sp vs H2 Q fun c d H3 => E c d σ H3) := by
  intro pins s σ H Q E I h
  have no : ∀ {α : Type} {t : Sem α} {Q : α → Shared → Prop} {s : Shared}, wpAny (model X.prog X.w) X.A t Q X.xe s → wpAny (model X.prog X.w) X.A t Q (XP X pins E) s := fun z => wpAny_mono z (fun _ _ y => y) fun _ _ y => by rw [hx] at y; exact y.elim
  refine wpAny_Call_Name_kw (thn (no (pe_var (i := i) hN hv hd hcd pins s σ H _ I h)) fun v s1 ⟨x', H1, I1, r1, e1, q1⟩ => ?_)
  subst e1
  cases r1
  refine PySem.W.callWith_K (h₀ := X.base) I1.ok.mod.kin hk (thn (no (ha pos pins s1 σ H1 _ I1 q1)) fun us s2 ⟨vs, H2, I2, r, q⟩ => ⟨I2.kIn, ?_⟩) he hpl
  exact run_fnx (dvs := []) hex F hr hb .nil I2 r (by rw [List.append_nil]; exact q)
end
end L2
namespace U2
open PySem PySem.Spec L2
abbrev UAX := SU → MHp → (List U → MHp → Prop) → UXS → Prop
def SimAX (K : PySem.W.Frag) (t : TAX) (t' : UAX) : Prop := ∀ (σ : St) (τ : SU) (H : Hp) (M : MHp) (Q' : List U → MHp → Prop) (E' : UXS), RelS K H M σ τ → RelM K H M → t' τ M Q' E' →
  ∀ (Q : List V → Hp → Prop) (E : XS), (∀ us vs M1 H1, Stp H M H1 M1 → RelM K H1 M1 → RelUs K H1 M1 us vs → Q' us M1 → Q vs H1) → ContX K H M E' E → t σ H Q E
def PAXU (D : Dat) (es : List Expr) (t' : UAX) : Prop := ∃ t, (∀ X, Has D X → PAx X es t) ∧ SimAX D.K t t'
section
variable {D : Dat} {e a b o : Expr} {es : List Expr} {te tb : UEX} {ta to : UE} {t : UAX} {t0 : UA} {pos : Pos}
theorem ax_of (h : PAU D es t0) : PAXU D es (fun τ M Q _ => t0 τ M Q) := let ⟨_, p, s⟩ := h; ⟨_, fun X h => pax_of h.xe (p X h), fun σ τ H M Q' E' rs rm q Q E c _ => s σ τ H M Q' rs rm q Q c⟩
def uxCons (te : UEX) (t : UAX) : UAX := fun τ M Q E => te τ M (fun u M1 => t τ M1 (fun us M2 => Q (u :: us) M2) E) E
theorem ax_cons (ha : PEXU D e te) (hr : PAXU D es t) (hs : ∀ env, starEach (e :: es) env = (false, eval e env) :: starEach es env := by intro _; rfl) : PAXU D (e :: es) (uxCons te t) :=
  let ⟨_, p, s⟩ := ha; let ⟨_, q, r⟩ := hr; ⟨_, fun X h => pax_cons (p X h) (q X h) (hs _), fun σ τ H M Q' E' rs rm h Q E c cx =>
    s σ τ H M _ E' rs rm h _ E (fun u v M1 H1 s1 rm1 ru h1 => r σ τ H1 M1 _ E' (rs.stp s1) rm1 h1 _ E (fun us vs M2 H2 s2 rm2 rus h2 => c (u :: us) (v :: vs) M2 H2 (s1.trans s2) rm2 (.cons (ru.stp s2) rus) h2) (cx.stp s1)) cx⟩
def uxLst (o : Bool) (t : UAX) : UEX := fun τ M Q E => t τ M (fun us M1 => us.length ≤ sizeLine ∧ mkL o us M1 Q) E
theorem ex_lst (own : Bool := false) (h : PAXU D es t) : PEXU D (.List es pos) (uxLst own t) := let ⟨_, p, s⟩ := h; ⟨_, fun X h => pex_lst (p X h), fun σ τ H M Q' E' rs rm q Q E c cx =>
  s σ τ H M _ E' rs rm q _ E (fun us vs M1 H1 s1 rm1 r h1 => ⟨by rw [← r.length]; exact h1.1, fun p hp => (Cont.stp c s1).lst rm1 r hp h1.2⟩) cx⟩
def uxBM (r : U → List U → MHp → UK → Prop) (to : UE) (t : UAX) : UEX := fun τ M Q E => to τ M fun x M1 => isL M1 x ∧ t τ M1 (fun xs M2 => r x xs M2 Q) E
theorem ex_append {apos : Pos} (ho : PEU D o to) (ha : PAXU D [e] t) (hbase : ∀ env, attributeBase o "append" env (eval o env) = eval o env := by intro _; rfl)
    (hfew : ∀ env, ((backTo pos (starEach [e] env)).all (fun x => !x.1) && (backToKw pos (keywordEach [] env)).all (fun x => x.1.isSome) && decide ([e].length + ([] : List Keyword).length + (if ([] : List Keyword).isEmpty then 0 else 1) < 30)) = true := by intro _; rfl)
    (hline : (apos.endLine == pos.line) = true := by rfl) (hs : ∀ env, starEach [e] env = [(false, eval e env)] := by intro _; rfl) : PEXU D (.Call (.Attribute o "append" apos) [e] [] pos) (uxBM mAppend to t) := by
  obtain ⟨w1, p, s⟩ := ho; obtain ⟨w2, q, r⟩ := ha
  refine ⟨fun σ H Q E => w1 σ H fun x H1 => tyV D.K "list" x H1 ∧ w2 σ H1 (fun xs H2 => rAppend x xs H2 Q) E, fun X h => ?_, fun σ τ H M Q' E' rs rm h Q E c cx => s σ τ H M _ rs rm h _ fun u v M1 H1 s1 rm1 ru h1 => ⟨h1.1.ty rm1 ru, r σ τ H1 M1 _ E' (rs.stp s1) rm1 h1.2 _ E (fun us vs M2 H2 s2 rm2 rus h2 => sim_append v vs u us H2 M2 Q' rm2 (ru.stp s2) rus h2 Q (Cont.stp c (s1.trans s2))) (cx.stp s1)⟩⟩
  have := pex_bm (cpos := pos) (apos := apos) h.xe PySem.F.plainAttrs_list PySem.F.slot_list_append PySem.F.type_list_append mt_append (p X h) (q X h) (hbase _) (hfew _) hline (hs _) (by rfl)
  rw [h.K] at this
  exact this
structure CalleeAtX (P : Program) (w : World) (K : PySem.W.Frag) (mg : Str → Option Value) (base : Heap) (j : Nat) (f : Addr) (sp : USpX) : Prop where
  ex : ∃ fd ps, FnOk P w K mg base (CX1 P w) j f fd ps (liftSpX K sp) ∧ PySem.W.keepIn K (.ref f) = true ∧ Binds K fd ps []
def uxCallV (i : Nat) (f : Addr) (sp : USpX) (t : UA) : UEX := fun τ M Q E => uVar i τ M fun v M1 => v = .ref f ∧ t τ M1 fun us M2 => sp us M2 Q fun C fs M3 => E C fs τ M3
theorem ex_callv (i : Nat) {x : Str} {p : Pos} {j : Nat} {f : Addr} {sp : USpX} (F : CalleeAtX D.prog D.w D.K D.mg D.base j f sp) (ha : PAU D (e :: es) t0) (hfn : D.fn = true := by rfl) (hN : D.N[i]? = some x := by rfl) (hv : Vis D.sc x := by first | exact Or.inl rfl | exact Or.inr (Or.inl rfl) | exact Or.inr (Or.inr rfl))
    (hj : j ≤ D.k := by first | exact Nat.le_refl _ | (dsimp only; omega) | omega) (hd : (x == ("__debug__" : Str)) = false := by decide) (hcd : (x == ("__classdict__" : Str)) = false := by decide)
    (he : ∀ env, starEach (e :: es) env = (false, eval e env) :: starEach es env := by intro _; rfl) (hpl : ∀ env, (backTo pos (starEach es env)).any (·.1) = false := by intro _; rfl) : PEXU D (.Call (.Name x p) (e :: es) [] pos) (uxCallV i f sp t0) := by
  obtain ⟨fd, ps, F, kp, hb⟩ := F.ex
  obtain ⟨t1, q, s⟩ := ha
  refine ⟨fun σ H Q E => tVar i σ H fun v H1 => v = .ref f ∧ t1 σ H1 fun vs H2 => liftSpX D.K sp vs H2 Q fun c d H3 => E c d σ H3, fun X h => ?_, fun σ τ H M Q' E' rs rm h Q E c cx => ?_⟩
  · have F' : FnOk X.prog X.w X.K X.mg X.base (CX1 X.prog X.w) j f fd ps (liftSpX D.K sp) := by rw [h.prog, h.w, h.K, h.mg, h.base]; exact F
    exact pex_callv h.xe (h.dl hfn).1 (by rw [h.N]; exact hN) (by rw [h.sc]; exact hv) F' (h.room.mono hj) (by rw [h.K]; exact kp) (by rw [h.K]; exact hb) (q X h) hd hcd (he _) (hpl _)
  · refine sim_var i σ τ H M _ rs rm h _ fun u v M1 H1 s1 rm1 ru h1 => ?_
    obtain ⟨rfl, h1⟩ := h1
    refine ⟨ru.ref, s σ τ H1 M1 _ (rs.stp s1) rm1 h1 _ fun us vs M2 H2 s2 rm2 rus h2 => ?_⟩
    exact ⟨us, M2, Q', fun C fs M3 => E' C fs τ M3, rm2, rus, h2, Cont.stp c (s1.trans s2), fun C fs' fs H3 M3 d s3 rm3 ra hd q3 => cx C fs' fs σ τ H3 M3 d ((s1.trans s2).trans s3) rm3 (rs.stp ((s1.trans s2).trans s3)) ra hd q3⟩
end
end U2
namespace U2
open PySem PySem.Spec L2
theorem CalleeX.at {P : Program} {w : World} {K : PySem.W.Frag} {mg : Str → Option Value} {base : Heap} {j : Nat} {x : Str} {f : Addr} {sp : USpX} (c : CalleeX P w K mg base j x sp []) (hm : mg x = some (.ref f)) : CalleeAtX P w K mg base j f sp := by
  obtain ⟨f', fd, ps, dvs, ds, F, hm', kp, hb, hv, hr⟩ := c.ex
  rw [hm] at hm'; cases hm'
  have h0 : dvs = [] := (hr (fun _ => none) (fun _ => none)).inv_nil
  subst h0
  cases hv
  exact ⟨fd, ps, F, kp, hb⟩
end U2
namespace L2
open PySem PySem.Spec PyProof.Rows
section
variable {κ : Type} [DecidableEq κ]
def valV (kvs : List (κ × V)) (k : κ) : Option V := (kvs.find? fun kv => decide (kv.1 = k)).map (·.2)
def putK (kvs : List (κ × V)) (k : κ) (v : V) : List (κ × V) :=
  if (kvs.any fun kv => decide (kv.1 = k)) = true then kvs.map (fun kv => if kv.1 = k then (kv.1, v) else kv) else kvs ++ [(k, v)]
def dropK (kvs : List (κ × V)) (k : κ) : List (κ × V) := kvs.filter fun kv => decide (kv.1 ≠ k)
theorem valV_pos {p : κ × V} {r : List (κ × V)} {k : κ} (e : p.1 = k) : valV (p :: r) k = some p.2 := by simp [valV, List.find?_cons, e]
theorem valV_neg {p : κ × V} {r : List (κ × V)} {k : κ} (e : ¬ p.1 = k) : valV (p :: r) k = valV r k := by simp [valV, List.find?_cons, e]
theorem valV_any (k : κ) : ∀ kvs : List (κ × V), (kvs.any fun kv => decide (kv.1 = k)) = (valV kvs k).isSome
  | [] => rfl
  | p :: r => by
    rw [List.any_cons]
    by_cases e : p.1 = k
    · simp only [valV_pos e, decide_eq_true e, Bool.true_or, Option.isSome_some]
    · rw [valV_neg e, decide_eq_false e, Bool.false_or]; exact valV_any k r
theorem valV_map (k j : κ) (y : V) : ∀ kvs : List (κ × V), valV (kvs.map fun kv => if kv.1 = k then (kv.1, y) else kv) j = (valV kvs j).map fun x => if j = k then y else x
  | [] => rfl
  | p :: r => by
    have ih := valV_map k j y r
    rw [List.map_cons]
    by_cases h : p.1 = k
    · rw [if_pos h]
      by_cases e : p.1 = j
      · rw [valV_pos (p := (p.1, y)) e, valV_pos e, Option.map_some, if_pos (e.symm.trans h)]
      · rw [valV_neg (p := (p.1, y)) e, valV_neg e, ih]
    · rw [if_neg h]
      by_cases e : p.1 = j
      · rw [valV_pos (p := p) e, valV_pos e, Option.map_some, if_neg (fun z => h (e.trans z))]
      · rw [valV_neg (p := p) e, valV_neg e, ih]
theorem putK_new {kvs : List (κ × V)} {k : κ} (v : V) (h : valV kvs k = none) : putK kvs k v = kvs ++ [(k, v)] := by
  unfold putK
  rw [valV_any, h]
  exact if_neg (by decide)
end
theorem kV_inj {a b : Key} (e : kV a = kV b) : a = b := by
  cases a with
  | inl i => cases b with
    | inl j => have e' : V.int i = V.int j := e; injection e' with e'; rw [e']
    | inr y => exact nomatch (show V.int i = V.str y from e)
  | inr x => cases b with
    | inl j => exact nomatch (show V.str x = V.int j from e)
    | inr y => have e' : V.str x = V.str y := e; injection e' with e'; rw [e']
theorem kVs_inj : ∀ {a b : List Key}, a.map kV = b.map kV → a = b
  | [], [], _ => rfl
  | [], _ :: _, e => by simp at e
  | _ :: _, [], e => by simp at e
  | x :: xs, y :: ys, e => by
    rw [List.map_cons, List.map_cons] at e
    injection e with e1 e2
    rw [kV_inj e1, kVs_inj e2]
abbrev KTp (H : Hp) : List (List Key × V) → List (List Key × Addr × Value) → Prop := Paired fun p q => p.1 = q.1 ∧ H q.2.1 = some (.tup (p.1.map kV)) ∧ RelV p.2 q.2.2
section
variable {P : Program} {w : World} {H : Hp} {h : Heap} {a : Addr}
end
section
variable {X : Cx} {pins : List (Addr × Obj)} {σ : St} {H : Hp} {s : Shared} {a : Addr} {y v : V} {u r : Value} {o : Option V} {A : Around} {E : Value → Shared → Prop}
end
section
variable {X : Cx} {pins : List (Addr × Obj)} {σ : St} {H : Hp} {s : Shared} {a : Addr} {kvs : List (Key × V)} {k : Key} {u : Value} {A : Around} {E : Value → Shared → Prop}
end
section
variable {X : Cx} {o i e value : Expr} {pos pos' tpos : Pos} {td ty tv : TE}
end
section
variable {X : Cx} {pos : Pos}
end
abbrev VV : List (V × V) → List (Value × Value) → Prop := Paired fun p q => RelV p.1 q.1 ∧ RelV p.2 q.2
section
variable {X : Cx} {pins : List (Addr × Obj)} {σ : St} {H : Hp} {s : Shared} {a : Addr} {y d : V} {u r : Value} {o : Option V} {A : Around} {E : Value → Shared → Prop}
end
section
variable {X : Cx} {o e f : Expr} {apos cpos : Pos} {td ty tx : TE}
end
section
variable {X : Cx} {pins : List (Addr × Obj)} {σ : St} {H : Hp} {s : Shared} {a : Addr} {kvs : List (Key × V)} {A : Around} {E : Value → Shared → Prop}
end
section
variable {X : Cx} {pins : List (Addr × Obj)} {σ : St} {H : Hp} {s : Shared} {a : Addr} {y : V} {u : Value} {A : Around} {E : Value → Shared → Prop}
end
section
variable {X : Cx}
end
section
variable {κ : Type} [DecidableEq κ]
theorem dropK_pos {p : κ × V} {r : List (κ × V)} {k : κ} (e : p.1 = k) : dropK (p :: r) k = dropK r k := by
  unfold dropK
  rw [List.filter_cons, if_neg (by simp [e])]
theorem dropK_neg {p : κ × V} {r : List (κ × V)} {k : κ} (e : ¬ p.1 = k) : dropK (p :: r) k = p :: dropK r k := by
  unfold dropK
  rw [List.filter_cons, if_pos (by simp [e])]
theorem dropK_no : ∀ {kvs : List (κ × V)} {k : κ}, ¬ k ∈ kvs.map (·.1) → dropK kvs k = kvs
  | [], _, _ => rfl
  | p :: r, k, h => by
    have h' : ¬ k ∈ r.map (·.1) := fun m => by
      obtain ⟨q, hq, e⟩ := List.mem_map.mp m
      exact h (List.mem_map.mpr ⟨q, List.mem_cons.mpr (Or.inr hq), e⟩)
    rw [dropK_neg fun e => h (List.mem_map.mpr ⟨p, List.mem_cons.mpr (Or.inl rfl), e⟩), dropK_no h']
end
end L2
namespace L2
open PySem PySem.Spec PyProof.Rows PySem.F
section
variable {prog : Program} {w : World} {A : Around} {E : Value → Shared → Prop} {s : Shared} {d it vw : Addr} {es : Array DictEntry} {ep i : Nat} {e : DictEntry}
end
end L2
namespace U2
open PySem PySem.Spec PyProof.Rows L2
end U2
namespace U2
open PySem PySem.Spec PyProof.Rows L2
def keyU : U → Option Key
  | .int i => some (.inl i)
  | .str x => some (.inr x)
  | _ => none
def keysU : List U → Option (List Key)
  | [] => some []
  | u :: us => match keyU u, keysU us with
    | some k, some ks => some (k :: ks)
    | _, _ => none
def kU : Key → U
  | .inl i => .int i
  | .inr x => .str x
theorem keyU_kU (k : Key) : keyU (kU k) = some k := by cases k <;> rfl
theorem keysU_kU : ∀ ks : List Key, keysU (ks.map kU) = some ks
  | [] => rfl
  | k :: ks => by simp only [List.map_cons, keysU, keyU_kU, keysU_kU ks]
theorem keyU_rel {K : PySem.W.Frag} {H : Hp} {M : MHp} {u : U} {v : V} {k : Key} (r : RelU K H M u v) (e : keyU u = some k) : v = kV k := by
  cases u with
  | int i => cases e; exact r.int
  | str x => cases e; exact r.str
  | _ => cases e
theorem keysU_rel {K : PySem.W.Frag} {H : Hp} {M : MHp} : ∀ {us : List U} {vs : List V} {ks : List Key}, RelUs K H M us vs → keysU us = some ks → vs = ks.map kV
  | [], _, _, r, e => by cases e; exact r.inv_nil
  | u :: us, _, ks, r, e => by
    obtain ⟨v, vs', rfl, a, b⟩ := r.inv_cons
    simp only [keysU] at e
    cases e1 : keyU u with
    | none => rw [e1] at e; cases e
    | some k =>
      cases e2 : keysU us with
      | none => rw [e1, e2] at e; cases e
      | some ks' =>
        rw [e1, e2] at e; cases e
        rw [keyU_rel a e1, keysU_rel b e2]; rfl
section
variable {κ : Type} [DecidableEq κ]
def valU (kvs : List (κ × U)) (k : κ) : Option U := (kvs.find? fun kv => decide (kv.1 = k)).map (·.2)
theorem valU_pos {p : κ × U} {r : List (κ × U)} {k : κ} (e : p.1 = k) : valU (p :: r) k = some p.2 := by simp [valU, List.find?_cons, e]
theorem valU_neg {p : κ × U} {r : List (κ × U)} {k : κ} (e : ¬ p.1 = k) : valU (p :: r) k = valU r k := by simp [valU, List.find?_cons, e]
theorem valU_any (k : κ) : ∀ kvs : List (κ × U), (kvs.any fun kv => decide (kv.1 = k)) = (valU kvs k).isSome
  | [] => rfl
  | p :: r => by
    rw [List.any_cons]
    by_cases e : p.1 = k
    · simp only [valU_pos e, decide_eq_true e, Bool.true_or, Option.isSome_some]
    · rw [valU_neg e, decide_eq_false e, Bool.false_or]; exact valU_any k r
variable {K : PySem.W.Frag} {H : Hp} {M : MHp}
end
def hd1 : List Key → Key
  | [k] => k
  | _ => .inl 0
def dvw (M : MHp) : U → Option MO
  | .ref a => M a
  | .dic ks true us => some (.dT (ks.zip us))
  | .dic ks false us => some (.dK ((ks.map hd1).zip us))
  | _ => none
section
variable {K : PySem.W.Frag} {H : Hp} {M : MHp} {x y : U} {v u : V}
def dLook (tk : Bool) (M : MHp) (x y : U) : Option (Option U) := match tk with
  | false => match dvw M x, keyU y with
    | some (.dK kvs), some k => some (valU kvs k)
    | _, _ => none
  | true => match dvw M x, y with
    | some (.dT kvs), .tup ys => (keysU ys).map (valU kvs)
    | _, _ => none
end
section
variable {D : Dat} {a b c e o i : Expr} {ta tb tc te to ti : UE} {pos p : Pos} {es : List Expr} {tas : UA} {x : Str}
end
end U2
namespace U2
open PySem PySem.Spec PyProof.Rows L2
end U2
namespace L2
open PySem PySem.Spec PyProof.Rows
def lenD : HO → Nat
  | .dK kvs => kvs.length
  | .dT kvs => kvs.length
  | _ => 0
section
variable {X : Cx} {tg : Expr}
end
end L2
namespace U2
open PySem PySem.Spec PyProof.Rows L2
def keyOf (tk : Bool) (k : List Key) : U := if tk then .tup (k.map kU) else kU (hd1 k)
def keyUs (tk : Bool) (ks : List (List Key)) : List U := ks.map (keyOf tk)
def pairUs (tk : Bool) (ks : List (List Key)) (us : List U) : List U := (ks.zip us).map fun p => .tup [keyOf tk p.1, p.2]
theorem keyUs_len (tk : Bool) (ks : List (List Key)) : (keyUs tk ks).length = ks.length := by simp [keyUs]
section
variable {K : PySem.W.Frag} {H : Hp} {M : MHp}
end
section
variable {D : Dat} {tg e : Expr} {te : UE} {pos p : Pos}
end
end U2
namespace U2
open PySem PySem.Spec PyProof.Rows L2
section
variable {K : PySem.W.Frag} {H : Hp} {M1 M' : MHp}
def setK (kvs : List (Key × U)) : U := .dic (kvs.map fun e => [e.1]) false (kvs.map (·.2))
def setT (kvs : List (List Key × U)) : U := .dic (kvs.map (·.1)) true (kvs.map (·.2))
end
end U2
namespace L2
open PySem PySem.Spec PyProof.Rows
section
variable {X : Cx} {o e f : Expr} {apos cpos : Pos} {td ty tx : TE}
end
end L2
namespace U2
open PySem PySem.Spec PyProof.Rows L2
end U2
namespace U2
open PySem L2
end U2
namespace U2
open PySem PySem.Spec PyProof.Rows L2
section
variable {prog : Program} {w : World} {κ : Type} [DecidableEq κ] {knd : KeyKind prog w κ} {A : Around} {E : Value → Shared → Prop} {s : Shared}
end
end U2
namespace U2
open PySem PySem.Spec PyProof.Rows L2
open AutoSeq1 (wpAny_loadPart')
open MeetsSeq MeetsSeq2 MeetsSeq3 SeqRoads2
def mTIndex : U → List U → MHp → UK → Prop := fun x ws M Q => match x, ws with
  | .tup us, [.str w] => ∃ (ss : List Str) (j : Nat), strsU us = some ss ∧ ss[j]? = some w ∧ (∀ m z, m < j → ss[m]? = some z → z ≠ w) ∧ Q (.int (j : Nat)) M
  | _, _ => False
theorem strsAre_ofP : ∀ {ys : List Str} {its : List Value}, Vals (ys.map V.str) its → StrsAre its ys
  | [], its, r => by cases r; exact .nil
  | y :: ys, its, r => by
    cases r with
    | cons r rr =>
      obtain ⟨t, rfl⟩ := r
      exact .cons _ _ (strsAre_ofP rr)
def rJoin (K : PySem.W.Frag) : V → List V → Hp → VK → Prop := fun x vs H Q => ∃ z p ys, x = .str z ∧ vs = [.ref p] ∧ (SqL K H p (ys.map V.str) ∨ SqT K H p (ys.map V.str)) ∧ (ys.map (·.length)).sum + ys.length * z.length ≤ 16777216 ∧ Q (.str (Txt.join z ys)) H
theorem mt_join {X : Cx} : MtM X "str.join" (rJoin X.K) := by
  intro pins s σ H x vs v us Q I rx rv h
  obtain ⟨z, p, ys, rfl, rfl, hq, hsz, q⟩ := h
  obtain ⟨t, rfl⟩ := rx
  obtain ⟨u, rfl, ru⟩ := rv.one
  cases ru
  rcases hq with hq | hq
  · obtain ⟨its, r, pl, hz⟩ := I.list hq
    exact join_list pl.isList (by simpa using strsAre_ofP r) hsz fun t' k => ⟨.str _, H, I.tok k, ⟨t', rfl⟩, q⟩
  · obtain ⟨its, r, pl, hz⟩ := I.tuple hq
    exact join_tuple pl (by simpa using strsAre_ofP r) hsz fun t' k => ⟨.str _, H, I.tok k, ⟨t', rfl⟩, q⟩
def isS (x : U) : Prop := ∃ z, x = .str z
def uBMS (r : U → List U → MHp → UK → Prop) (to : UE) (t : UA) : UE := fun τ M Q => to τ M fun x M1 => isS x ∧ t τ M1 fun xs M2 => r x xs M2 Q
theorem sim_bmS {K : PySem.W.Frag} {r : V → List V → Hp → VK → Prop} {r' : U → List U → MHp → UK → Prop} {to : TE} {to' : UE} {t : TA} {t' : UA} (hr : SimMt K r r') (ho : SimE K to to') (h : SimA K t t') :
    SimE K (tBM K "str" r to t) (uBMS r' to' t') := fun σ τ H M Q' rs rm q Q c =>
  ho σ τ H M _ rs rm q _ fun u v M1 H1 s1 rm1 ru h1 => by
    obtain ⟨⟨z, rfl⟩, h1⟩ := h1
    cases ru.str
    exact ⟨rfl, h σ τ H1 M1 _ (rs.stp s1) rm1 h1 _ fun us' vs' M2 H2 s2 rm2 rus h2 => hr _ vs' _ us' H2 M2 Q' rm2 (ru.stp s2) rus h2 Q (Cont.stp c (s1.trans s2))⟩
def mJoin : U → List U → MHp → UK → Prop := fun x ws M Q => match x, ws with
  | .str z, [y] => match items M y with
    | some us => ∃ ss : List Str, strsU us = some ss ∧ (ss.map (·.length)).sum + ss.length * z.length ≤ 16777216 ∧ Q (.str (Txt.join z ss)) M
    | none => False
  | _, _ => False
theorem sim_join {K : PySem.W.Frag} : SimMt K (rJoin K) mJoin := fun x xs u us H M Q' rm ru rus h Q c => by
  unfold mJoin at h
  split at h
  · rename_i z y
    split at h
    · rename_i us e
      obtain ⟨ss, h1, h2, q⟩ := h
      cases ru.str
      obtain ⟨v, rfl, a1⟩ := rus.one
      obtain ⟨p, vs, rfl, sq, rs⟩ := items_rel rm a1 e
      rw [strsU_rel rs h1] at sq
      exact ⟨z, p, ss, rfl, rfl, sq, h2, c.here rm relU_str q⟩
    · exact h.elim
  · exact h.elim
theorem ue_join {D : Dat} {o e : Expr} {ta : UE} {tas : UA} {pos apos : Pos} (ho : PEU D o ta) (ha : PAU D [e] tas) (hbase : ∀ env, attributeBase o "join" env (eval o env) = eval o env := by intro _; rfl)
    (hfew : ∀ env, ((backTo pos (starEach [e] env)).all (fun x => !x.1) && (backToKw pos (keywordEach [] env)).all (fun x => x.1.isSome) && decide ([e].length + ([] : List Keyword).length + (if ([] : List Keyword).isEmpty then 0 else 1) < 30)) = true := by intro _; rfl)
    (hline : (apos.endLine == pos.line) = true := by rfl) (hs : ∀ env, starEach [e] env = [(false, eval e env)] := by intro _; rfl) : PEU D (.Call (.Attribute o "join" apos) [e] [] pos) (uBMS mJoin ta tas) := by
  obtain ⟨_, p, s⟩ := ho; obtain ⟨_, q, r⟩ := ha
  refine ⟨_, fun X h => ?_, sim_bmS sim_join s r⟩
  have := pe_bm (cpos := pos) (apos := apos) PySem.F.plainAttrs_str PySem.F.slot_str_join PySem.F.type_str_join mt_join (p X h) (q X h) (hbase _) (hfew _) hline (hs _) (by rfl)
  rw [h.K] at this
  exact this
end U2
namespace U2
open PySem PySem.Spec PyProof.Rows L2
section
variable {prog : Program} {w : World} {A : Around} {E : Value → Shared → Prop} {s : Shared}
end
section
variable {prog : Program} {w : World} {A : Around} {E : Value → Shared → Prop} {s : Shared}
end
theorem countP_get {α β : Type} (f : α → Bool) (g : β → Bool) : ∀ (l : List α) (m : List β), l.length = m.length → (∀ (i : Nat) a b, l[i]? = some a → m[i]? = some b → f a = g b) → l.countP f = m.countP g
  | [], [], _, _ => rfl
  | [], _ :: _, h, _ => by cases h
  | _ :: _, [], h, _ => by cases h
  | a :: l, b :: m, h, k => by
    rw [List.countP_cons, List.countP_cons, k 0 a b rfl rfl, countP_get f g l m (by simpa using h) fun i a b h1 h2 => k (i + 1) a b h1 h2]
def intsU : List U → Option (List Int)
  | [] => some []
  | .int b :: r => (intsU r).map (b :: ·)
  | _ => none
theorem intsU_rel {K : PySem.W.Frag} {H : Hp} {M : MHp} : ∀ {us : List U} {vs : List V} {bs : List Int}, RelUs K H M us vs → intsU us = some bs → vs = bs.map V.int
  | [], _, _, r, h => by cases h; exact r.inv_nil
  | u :: us, _, bs, r, h => by
    obtain ⟨v, vs', rfl, a, b⟩ := r.inv_cons
    cases u with
    | int y =>
      simp only [intsU] at h
      cases e : intsU us with
      | none => rw [e] at h; cases h
      | some cs =>
        rw [e] at h
        cases h
        rw [intsU_rel b e, a.int]; rfl
    | _ => cases h
theorem intsU_map : ∀ l : List Int, intsU (l.map U.int) = some l
  | [] => rfl
  | a :: l => by simp only [List.map_cons, intsU, intsU_map l, Option.map_some]
end U2
namespace U2
open PySem PySem.Spec PyProof.Rows L2
def findF (z y : Str) : Int := match Builtin.Str.occurrences z y 0 z.length 1 with | i :: _ => (i : Int) | [] => -1
def rFind : V → List V → Hp → VK → Prop := fun x vs H Q => ∃ z y, x = .str z ∧ vs = [.str y] ∧ Q (.int (findF z y)) H
theorem mt_find {X : Cx} : MtM X "str.find" rFind := by
  intro pins s σ H x vs v us Q I rx rv h
  obtain ⟨z, y, rfl, rfl, q⟩ := h
  obtain ⟨t, rfl⟩ := rx
  obtain ⟨u, rfl, ru⟩ := rv.one
  obtain ⟨t2, rfl⟩ := ru
  refine call_gives PySem.F.slot_str_find (typeIs_str _ _ _) PySem.F.entry_str_find (PySem.F.args_str_find_2 _ _) (PySem.gives_str_find z y t t2) ?_
  exact ⟨.int (findF z y), H, I.tok _, ⟨_, rfl⟩, q⟩
def mFind : U → List U → MHp → UK → Prop := fun x ws M Q => match x, ws with
  | .str z, [.str y] => Q (.int (findF z y)) M
  | _, _ => False
theorem sim_find {K : PySem.W.Frag} : SimMt K rFind mFind := fun x xs u us H M Q' rm ru rus h Q c => by
  unfold mFind at h
  split at h
  · obtain ⟨v, rfl, a1⟩ := rus.one
    cases a1.str
    cases ru.str
    exact ⟨_, _, rfl, rfl, c.here rm relU_int h⟩
  · exact h.elim
def isTx (x : U) : Prop := ∃ z, x = .str z
def uBMF (r : U → List U → MHp → UK → Prop) (to : UE) (t : UA) : UE := fun τ M Q => to τ M fun x M1 => isTx x ∧ t τ M1 fun xs M2 => r x xs M2 Q
theorem sim_bmF {K : PySem.W.Frag} {r : V → List V → Hp → VK → Prop} {r' : U → List U → MHp → UK → Prop} {to : TE} {to' : UE} {t : TA} {t' : UA} (hr : SimMt K r r') (ho : SimE K to to') (h : SimA K t t') :
    SimE K (tBM K "str" r to t) (uBMF r' to' t') := fun σ τ H M Q' rs rm q Q c =>
  ho σ τ H M _ rs rm q _ fun u v M1 H1 s1 rm1 ru h1 => by
    obtain ⟨⟨z, rfl⟩, h1⟩ := h1
    cases ru.str
    exact ⟨rfl, h σ τ H1 M1 _ (rs.stp s1) rm1 h1 _ fun us' vs' M2 H2 s2 rm2 rus h2 => hr _ vs' _ us' H2 M2 Q' rm2 (ru.stp s2) rus h2 Q (Cont.stp c (s1.trans s2))⟩
theorem ue_find {D : Dat} {o e : Expr} {ta : UE} {tas : UA} {pos apos : Pos} (ho : PEU D o ta) (ha : PAU D [e] tas) (hbase : ∀ env, attributeBase o "find" env (eval o env) = eval o env := by intro _; rfl)
    (hfew : ∀ env, ((backTo pos (starEach [e] env)).all (fun x => !x.1) && (backToKw pos (keywordEach [] env)).all (fun x => x.1.isSome) && decide ([e].length + ([] : List Keyword).length + (if ([] : List Keyword).isEmpty then 0 else 1) < 30)) = true := by intro _; rfl)
    (hline : (apos.endLine == pos.line) = true := by rfl) (hs : ∀ env, starEach [e] env = [(false, eval e env)] := by intro _; rfl) : PEU D (.Call (.Attribute o "find" apos) [e] [] pos) (uBMF mFind ta tas) := by
  obtain ⟨_, p, s⟩ := ho; obtain ⟨_, q, r⟩ := ha
  refine ⟨_, fun X h => ?_, sim_bmF sim_find s r⟩
  have := pe_bm (cpos := pos) (apos := apos) PySem.F.plainAttrs_str PySem.F.slot_str_find PySem.F.type_str_find mt_find (p X h) (q X h) (hbase _) (hfew _) hline (hs _) (by rfl)
  rw [h.K] at this
  exact this
end U2
namespace U2
open PySem PySem.Spec PyProof.Rows L2
open Builtin Builtin.Str
def splF (z y : Str) : List V → Option (List Str)
  | [] => some (Txt.split z y)
  | [.int k] => if (decide (k < -(2 ^ 63 : Int)) || decide (k ≥ 2 ^ 63)) = false then some (Txt.splitMax z y k) else none
  | _ => none
theorem occ_run (s sub : Str) (hi L N : Nat) : ∀ (l : List Nat) (a b : Array Nat × Nat), (b.1.size < L → a = b) → a.1.toList = b.1.toList.take L → b.1.size + l.length ≤ N → (forIn l a (StrLaws.occBody s sub hi L)).run.fst.toList = ((forIn l b (StrLaws.occBody s sub hi N)).run.fst.toList).take L
  | [], a, b, h1, h2, _ => h2
  | i :: l, a, b, h1, h2, h3 => by
    rw [List.forIn_cons, List.forIn_cons]
    have hlen : a.1.size = min L b.1.size := by
      have := congrArg List.length h2
      simpa using this
    simp only [List.length_cons] at h3
    by_cases hb : b.1.size < L
    · have e := h1 hb
      subst e
      unfold StrLaws.occBody
      by_cases hc : (a.2 ≤ i ∧ i + sub.length ≤ hi) ∧ subAt s sub i = true
      · rw [if_pos ⟨⟨⟨hb, hc.1.1⟩, hc.1.2⟩, hc.2⟩, if_pos ⟨⟨⟨by omega, hc.1.1⟩, hc.1.2⟩, hc.2⟩]
        refine occ_run s sub hi L N l _ _ (fun _ => rfl) ?_ (by show (a.1.push i).size + l.length ≤ N; rw [Array.size_push]; omega)
        show (a.1.push i).toList = _
        rw [List.take_of_length_le]
        show (a.1.push i).toList.length ≤ L
        simp; omega
      · rw [if_neg (fun z => hc ⟨⟨z.1.1.2, z.1.2⟩, z.2⟩), if_neg (fun z => hc ⟨⟨z.1.1.2, z.1.2⟩, z.2⟩)]
        exact occ_run s sub hi L N l _ _ (fun _ => rfl) h2 (by show a.1.size + l.length ≤ N; omega)
    · have e1 : StrLaws.occBody s sub hi L i a = pure (ForInStep.yield (a.1, a.2)) := by
        unfold StrLaws.occBody
        rw [if_neg (fun z => by have := z.1.1.1; omega)]
      rw [e1]
      unfold StrLaws.occBody
      split
      · refine occ_run s sub hi L N l _ _ (fun z => ?_) ?_ (by show (b.1.push i).size + l.length ≤ N; rw [Array.size_push]; omega)
        · have z' : (b.1.push i).size < L := z
          rw [Array.size_push] at z'; omega
        · show a.1.toList = (b.1.push i).toList.take L
          rw [Array.toList_push, List.take_append_of_le_length (by simpa using Nat.le_of_not_lt hb)]
          exact h2
      · exact occ_run s sub hi L N l _ _ (fun z => absurd z hb) h2 (by show b.1.size + l.length ≤ N; omega)
theorem occ_take (x y : Str) (L : Nat) : occurrences x y 0 x.length L = (occurrences x y 0 x.length (x.length + 1)).take L := by
  rw [StrLaws.occ_eq, StrLaws.occ_eq]
  exact occ_run x y x.length L (x.length + 1) _ _ _ (fun _ => rfl) (by simp) (by simp)
theorem parts_len (x : Str) (w : Nat) : ∀ (cuts : List Nat) (a : Nat), (StrLaws.partsFrom x w a cuts).length = cuts.length + 1
  | [], _ => rfl
  | c :: r, a => by simp only [StrLaws.partsFrom, List.length_cons, parts_len x w r]
theorem parts_take (x y : Str) : ∀ (k : Nat) (cuts : List Nat) (a f : Nat), StrLaws.ChainTo x y x.length a cuts f → k ≤ cuts.length → StrLaws.partsFrom x y.length a (cuts.take k) = (StrLaws.partsFrom x y.length a cuts).take k ++ [Str.join y ((StrLaws.partsFrom x y.length a cuts).drop k)]
  | 0, cuts, a, f, h, _ => by
    rw [List.take_zero, List.take_zero, List.drop_zero, StrLaws.join_partsFrom x y cuts a f h]
    rfl
  | k + 1, [], a, f, h, hk => by simp at hk
  | k + 1, c :: r, a, f, h, hk => by
    simp only [List.take_succ_cons, StrLaws.partsFrom, List.drop_succ_cons, List.cons_append]
    rw [parts_take x y k r (c + y.length) f h.2.2 (by simpa using hk)]
end U2
namespace U2
open PySem PySem.Spec PyProof.Rows L2
section
variable {prog : Program} {w : World} {A : Around} {E : Value → Shared → Prop} {s : Shared}
end
section
variable {M : Model} {A : Around} {E : Value → Shared → Prop} {s : Shared} {env : Env}
end
def numbS (us : List U) : List U := us.zipIdx.map fun p => .tup [.int ((p.2 + 1 : Nat) : Int), p.1]
theorem numbS_len (us : List U) : (numbS us).length = us.length := by simp [numbS]
end U2
namespace U2
open PySem PySem.Spec PyProof.Rows L2
def rIndexS : V → List V → Hp → VK → Prop := fun x vs H Q => ∃ z y i rest, x = .str z ∧ vs = [.str y] ∧ Builtin.Str.occurrences z y 0 z.length 1 = i :: rest ∧ Q (.int (i : Nat)) H
theorem mt_indexS {X : Cx} : MtM X "str.index" rIndexS := by
  intro pins s σ H x vs v us Q I rx rv h
  obtain ⟨z, y, i, rest, rfl, rfl, ho, q⟩ := h
  obtain ⟨t, rfl⟩ := rx
  obtain ⟨u, rfl, ru⟩ := rv.one
  obtain ⟨t2, rfl⟩ := ru
  refine call_gives PySem.F.slot_str_index (typeIs_str _ _ _) PySem.F.entry_str_index (PySem.F.args_str_index_2 _ _) (PySem.gives_str_index z y t t2 i rest ho) ?_
  exact ⟨.int (i : Nat), H, I.tok _, ⟨_, rfl⟩, q⟩
def mIndexS : U → List U → MHp → UK → Prop := fun x ws M Q => match x, ws with
  | .str z, [.str y] => ∃ i rest, Builtin.Str.occurrences z y 0 z.length 1 = i :: rest ∧ Q (.int (i : Nat)) M
  | _, _ => False
theorem sim_indexS {K : PySem.W.Frag} : SimMt K rIndexS mIndexS := fun x xs u us H M Q' rm ru rus h Q c => by
  unfold mIndexS at h
  split at h
  · obtain ⟨v, rfl, a1⟩ := rus.one
    cases a1.str
    cases ru.str
    obtain ⟨i, rest, ho, h⟩ := h
    exact ⟨_, _, _, _, rfl, rfl, ho, c.here rm relU_int h⟩
  · exact h.elim
theorem ue_indexS {D : Dat} {o e : Expr} {ta : UE} {tas : UA} {pos apos : Pos} (ho : PEU D o ta) (ha : PAU D [e] tas) (hbase : ∀ env, attributeBase o "index" env (eval o env) = eval o env := by intro _; rfl)
    (hfew : ∀ env, ((backTo pos (starEach [e] env)).all (fun x => !x.1) && (backToKw pos (keywordEach [] env)).all (fun x => x.1.isSome) && decide ([e].length + ([] : List Keyword).length + (if ([] : List Keyword).isEmpty then 0 else 1) < 30)) = true := by intro _; rfl)
    (hline : (apos.endLine == pos.line) = true := by rfl) (hs : ∀ env, starEach [e] env = [(false, eval e env)] := by intro _; rfl) : PEU D (.Call (.Attribute o "index" apos) [e] [] pos) (uBMF mIndexS ta tas) := by
  obtain ⟨_, p, s⟩ := ho; obtain ⟨_, q, r⟩ := ha
  refine ⟨_, fun X h => ?_, sim_bmF sim_indexS s r⟩
  have := pe_bm (cpos := pos) (apos := apos) PySem.F.plainAttrs_str PySem.F.slot_str_index PySem.F.type_str_index mt_indexS (p X h) (q X h) (hbase _) (hfew _) hline (hs _) (by rfl)
  rw [h.K] at this
  exact this
def IteT (z : Str) : It :=
  ⟨fun i _ => i < z.cps.size, fun i H x H' => ∃ p c, z.cps[i]? = some c ∧ H p = none ∧ x = .ref p ∧ H' = upd H p (.tup [.int i, .str ⟨#[c]⟩]), fun i _ => i = z.cps.size⟩
theorem turn_enumT {P : Program} {w : World} {K : PySem.W.Frag} {elts : List Expr} {kk : Nat} {pos : Pos} {ty : String} (z : Str) (t : Tok) (it e : Addr)
    (D : ∀ A' : Around, A'.handled = none → Draws P w A' it [it] z.cps.size (SignAt z) (fun i h => h.IsStrIter it ty z t i)) (hty : ty ≠ "enumerate") :
    Turn P w K (.Tuple elts kk pos) (IteT z) [e, it] e (fun i h => (∃ old, IsEnum h e it i old) ∧ h.IsStrIter it ty z t i) where
  mem := by simp
  obj := fun i h st b hb => by
    obtain ⟨⟨old, he⟩, hi⟩ := st
    obtain ⟨o, ho, hc, hd⟩ := hi
    have : b = e ∨ b = it := by simpa using hb
    rcases this with rfl | rfl
    · exact ⟨_, he, fun v z => by
        have z' : Data.fields _ = Data.cell v := z
        cases z'⟩
    · exact ⟨o, ho, fun v z => by rw [hd] at z; cases z⟩
  keep := fun i h h' st k => let ⟨⟨old, he⟩, ⟨o, ho, r⟩⟩ := st; ⟨⟨old, k e (by simp) _ he⟩, ⟨o, k it (by simp) o ho, r⟩⟩
  item := by
    intro X hP hw hK hc i pins s σ H E I hf st hg
    subst hP hw hK
    obtain ⟨⟨old, he⟩, hit⟩ := st
    obtain ⟨oi, hoi, hci, hdi⟩ := id hit
    have n2 : e ≠ it := cls_ne he hoi rfl hci (fun q => hty q.symm)
    have hD := D X.A.in1 (show X.A.in1.handled = none from I.ok.hd hc)
    have W := WalksT.enumerateD (prog := X.prog) (w := X.w) (A := X.A) hD e n2 (by simp [n2]) (by simp)
    refine wpAny_pyNext_enum_itemD hD he hit hg n2 (by simp [n2]) fun y h' tk hy ho0 hs0 hT0 hsz0 hk0 => ?_
    have helt : e < s.heap.objs.size := Heap.lt_size he
    have hilt : it < s.heap.objs.size := Heap.lt_size hoi
    have hTup : IsTupP h' s.heap.objs.size #[Value.int i tk, y] := ⟨_, hT0, rfl, rfl, _, rfl⟩
    have hk : ∀ b o, b ∉ [e, it] → s.heap.get? b = some o → h'.get? b = some o := fun b o hb z => hk0 b o (fun e' => hb (by simp [e'])) (fun e' => hb (by simp [e'])) z
    have hMid := (⟨⟨_, ho0⟩, hs0, Nat.ne_of_gt helt, Nat.ne_of_gt hilt⟩ : (∃ x, IsEnumOut h' e it ((i : Int) + 1) x s.heap.objs.size) ∧ _ ∧ s.heap.objs.size ≠ e ∧ s.heap.objs.size ≠ it)
    obtain ⟨T, hTe⟩ : ∃ T, T = s.heap.objs.size := ⟨_, rfl⟩
    rw [← hTe] at hTup hMid ⊢
    have hT : s.heap.objs.size ≤ T := Nat.le_of_eq hTe.symm
    refine ⟨.ref T, rfl, W.go elts kk pos i T _ _ E hMid fun h'' hSt hk2 => ?_⟩
    obtain ⟨c, u, hcc, rfl⟩ := hy
    have hTT : IsTupP h'' T #[.int i tk, .str ⟨#[c]⟩ u] := let ⟨o, ho, r⟩ := hTup; ⟨o, hk2 T o (W.apart i T _ hMid) ho, r⟩
    refine ⟨.ref T, upd H T (.tup [.int i, .str ⟨#[c]⟩]), inv_turnedLaid (s := s) (h' := h'') (tk := tk + 1) (ch := [e, it]) I hf (fun b o hb q => hk2 b o (by simpa using hb) (hk b o (by simpa using hb) q)) hT ⟨by show 2 ≤ sizeLine; decide, [.int i tk, .str ⟨#[c]⟩ u], .cons ⟨tk, rfl⟩ (.cons ⟨u, rfl⟩ .nil), hTT⟩, rfl, ⟨T, c, hcc, I.hok.fresh hT, rfl, rfl⟩, ⟨by simpa using hSt.1, hSt.2⟩, fun b hb => ?_⟩
    have hn := (hf b hb).1
    rw [upd_ne (Nat.ne_of_lt (Nat.lt_of_lt_of_le ?_ hT))]
    · exact hn
    · have : b = e ∨ b = it := by simpa using hb
      rcases this with rfl | rfl
      · exact Heap.lt_size he
      · exact Heap.lt_size hoi
  done := by
    intro X hP hw hK hc i pins s σ H E I hf st hg
    subst hP hw hK
    obtain ⟨⟨old, he⟩, hit⟩ := st
    obtain ⟨oi, hoi, hci, hdi⟩ := id hit
    have n2 : e ≠ it := cls_ne he hoi rfl hci (fun q => hty q.symm)
    have hD := D X.A.in1 (show X.A.in1.handled = none from I.ok.hd hc)
    have W := WalksT.enumerateD (prog := X.prog) (w := X.w) (A := X.A) hD e n2 (by simp [n2]) (by simp)
    have hi : i = z.cps.size := hg
    subst hi
    refine W.done s _ E ⟨⟨old, he⟩, hit⟩ fun h' tk hk => ⟨rfl, ?_⟩
    have := I.call' (ch := [e, it]) (H' := H) (s' := { s with heap := h', toks := tk }) rfl ⟨fun b u q n hb hx => hk b u (by simpa using hx) q, fun b u q n hb hx => ⟨u.slots, hk b u (by simpa using hx) q⟩, fun b u q n hx => n, fun b u q hx => ⟨u, hk b u (by simpa using hx) q⟩, fun b xs q => q, fun b u xs q => q, fun b ps q => ⟨#[], by rw [q]; simp⟩⟩
      (fun a u e' => ?_) I.bare fun b hb => ⟨(hf b hb).2.2.2.1, (hf b hb).2.1, (hf b hb).2.2.2.2.1, (hf b hb).2.2.2.2.2⟩
    · exact this
    · refine (I.hok a u e').stay (fun b z hb q => hk b z (fun hc => ?_) q) (fun _ q => q) fun _ _ q => q
      have hnone := (hf b (by simpa using hc)).1
      rcases hb with rfl | hb
      · rw [hnone] at e'; cases e'
      · rw [hnone] at hb; cases hb
  self := fun _ _ _ _ _ st h => let ⟨⟨old, he⟩, _⟩ := st; wpAny_pyIter_enum he h
def iEnumT (ta : TA) : TI := fun σ H R => ta σ H fun vs H1 => ∃ z, vs = [.str z] ∧ R (IteT z) H1
theorem pi_enumT {X : Cx} {elts : List Expr} {kk : Nat} {tpos : Pos} {a : Expr} {ta : TA} {p pos : Pos} (hg : Gl X "enumerate") (hm : X.mg "enumerate" = none) (ha : PA X [a] ta) (hs : starEach [a] X.env = [(false, eval a X.env)]) :
    PI X (.Tuple elts kk tpos) (.Call (.Name "enumerate" p) [a] [] pos) (iEnumT ta) := by
  intro pins s σ H R I h
  refine Call_ (ld_blt I hg hm boot_enumerate (PyProof.Rows.callWith_type1 (thn (ha pos pins s σ H _ I h) fun us s1 ⟨vs, H1, I1, r1, q1⟩ => ?_) hs rfl))
  obtain ⟨z, e, q⟩ := q1
  subst e
  obtain ⟨u, rfl, ru⟩ := r1.one
  obtain ⟨t, rfl⟩ := ru
  refine call_enumerate_str fun h' he hit hsz hk => ?_
  refine wpAny_pyIter_enum (s := { s1 with heap := h' }) he ?_
  have I2 : L2.Inv X pins σ H1 { s1 with heap := h', toks := s1.toks } := I1.kept hk
  have fp : ∀ b ∈ [s1.heap.objs.size + 1, s1.heap.objs.size], FpOk X pins H1 b := fun b hb => by
    have e : b = s1.heap.objs.size + 1 ∨ b = s1.heap.objs.size := by simpa using hb
    rcases e with rfl | rfl
    · exact I1.fpOk (Nat.le_succ _) (I1.hok.fresh (Nat.le_succ _))
    · exact I1.fpOk (Nat.le_refl _) (I1.hok.fresh (Nat.le_refl _))
  cases hall : z.cps.all (· < 128)
  · have hit' : h'.IsStrIter s1.heap.objs.size "str_iterator" z t 0 := by simpa [strIterType, hall] using hit
    exact ⟨s1.heap.objs.size + 1, [s1.heap.objs.size + 1, s1.heap.objs.size], _, _, H1, rfl, I2, turn_enumT z t s1.heap.objs.size (s1.heap.objs.size + 1) (fun A' hA => Draws.strWide hA _ z t) (by decide), ⟨⟨_, he⟩, hit'⟩, fp, q⟩
  · have hit' : h'.IsStrIter s1.heap.objs.size "str_ascii_iterator" z t 0 := by simpa [strIterType, hall] using hit
    exact ⟨s1.heap.objs.size + 1, [s1.heap.objs.size + 1, s1.heap.objs.size], _, _, H1, rfl, I2, turn_enumT z t s1.heap.objs.size (s1.heap.objs.size + 1) (fun A' hA => Draws.strAscii hA _ z t) (by decide), ⟨⟨_, he⟩, hit'⟩, fp, q⟩
theorem walk_enumT {K : PySem.W.Frag} {z : Str} {H : Hp} {M : MHp} : Walk K (IteT z) ⟨none, numbered (chars z)⟩ H M := by
  have hl : (chars z).length = z.cps.size := by simp [chars]
  refine ⟨fun H1 M1 s rm _ i u e => ?_, fun H1 M1 s rm _ => by show (numbered (chars z)).length = z.cps.size; rw [numbered_len, hl]⟩
  obtain ⟨w, e1, rfl⟩ := numbered_get e
  have hi : i < z.cps.size := by have := (List.getElem?_eq_some_iff.mp e1).1; omega
  refine ⟨hi, fun x H2 y => ?_⟩
  obtain ⟨p, c, y, hp, rfl, rfl⟩ := y
  have hw : w = .str ⟨#[c]⟩ := by
    simp only [chars, List.getElem?_map, Array.getElem?_toList] at e1
    rw [y] at e1
    simpa using e1.symm
  subst hw
  have st := Stp.laid (o := .tup [.int i, .str ⟨#[c]⟩]) rm hp
  have rr : RelUs K H1 M1 [.int i, .str ⟨#[c]⟩] [.int i, .str ⟨#[c]⟩] := by
    simp only [RelUs]
    exact ⟨_, _, rfl, relU_int, _, _, rfl, relU_str, rfl⟩
  exact ⟨st, rm.laid hp, relU_tup (rm.no hp) upd_same (rr.stp st)⟩
def uEnumT (ta : UA) : UI := fun τ M R => ta τ M fun us M1 => match us with
  | [.str z] => R ⟨none, numbered (chars z)⟩ M1
  | _ => False
theorem sim_enumT {K : PySem.W.Frag} {ta : TA} {ta' : UA} (h : SimA K ta ta') : SimI K (iEnumT ta) (uEnumT ta') := fun σ τ H M R' rs rm q R c => h σ τ H M _ rs rm q _ fun us vs M1 H1 s1 rm1 ru h1 => by
  split at h1
  · obtain ⟨v, rfl, a⟩ := ru.one
    cases a.str
    exact ⟨_, rfl, c _ _ M1 H1 s1 rm1 walk_enumT h1⟩
  · exact h1.elim
theorem ui_enumT {D : Dat} {elts : List Expr} {kk : Nat} {tpos : Pos} {a : Expr} {p pos : Pos} {ta : UA} (hm : D.mg "enumerate" = none) (ha : PAU D [a] ta) (hg : D.sc.names.lookup ("enumerate" : Str) = some .globalImplicit := by rfl) (hs : ∀ env, starEach [a] env = [(false, eval a env)] := by intro _; rfl) : PIU D (.Tuple elts kk tpos) (.Call (.Name "enumerate" p) [a] [] pos) (uEnumT ta) := by
  obtain ⟨_, q, s⟩ := ha
  exact ⟨_, fun X h => pi_enumT (by show X.env.scope.names.lookup _ = _; rw [h.sc]; exact hg) (by rw [h.mg]; exact hm) (q X h) (hs _), sim_enumT s⟩
end U2
namespace L2
open PySem
theorem ar0 {q : List Value → Prop} (h : q []) (us : List Value) (e : us.length = 0) : q us := by rw [List.length_eq_zero_iff.mp e]; exact h
theorem arS {n : Nat} {q : List Value → Prop} (h : ∀ x us, us.length = n → q (x :: us)) (us : List Value) (e : us.length = n + 1) : q us := by
  cases us with
  | nil => cases e
  | cons x r => exact h x r (Nat.succ.inj e)
abbrev Ar := Value → Value → Value → Option Addr → Value → Value → List Value → Prop
theorem ar1 {p : Ar} (h : ∀ a b c d e g x0, p a b c d e g [x0]) (a b c d e g) : ∀ us, us.length = 1 → p a b c d e g us := arS fun x0 => ar0 (h a b c d e g x0)
theorem ar2 {p : Ar} (h : ∀ a b c d e g x0 x1, p a b c d e g [x0, x1]) (a b c d e g) : ∀ us, us.length = 2 → p a b c d e g us := arS fun x0 => arS fun x1 => ar0 (h a b c d e g x0 x1)
theorem ar3 {p : Ar} (h : ∀ a b c d e g x0 x1 x2, p a b c d e g [x0, x1, x2]) (a b c d e g) : ∀ us, us.length = 3 → p a b c d e g us := arS fun x0 => arS fun x1 => arS fun x2 => ar0 (h a b c d e g x0 x1 x2)
theorem ar4 {p : Ar} (h : ∀ a b c d e g x0 x1 x2 x3, p a b c d e g [x0, x1, x2, x3]) (a b c d e g) : ∀ us, us.length = 4 → p a b c d e g us := arS fun x0 => arS fun x1 => arS fun x2 => arS fun x3 => ar0 (h a b c d e g x0 x1 x2 x3)
theorem ar5 {p : Ar} (h : ∀ a b c d e g x0 x1 x2 x3 x4, p a b c d e g [x0, x1, x2, x3, x4]) (a b c d e g) : ∀ us, us.length = 5 → p a b c d e g us := arS fun x0 => arS fun x1 => arS fun x2 => arS fun x3 => arS fun x4 => ar0 (h a b c d e g x0 x1 x2 x3 x4)
theorem ar6 {p : Ar} (h : ∀ a b c d e g x0 x1 x2 x3 x4 x5, p a b c d e g [x0, x1, x2, x3, x4, x5]) (a b c d e g) : ∀ us, us.length = 6 → p a b c d e g us := arS fun x0 => arS fun x1 => arS fun x2 => arS fun x3 => arS fun x4 => arS fun x5 => ar0 (h a b c d e g x0 x1 x2 x3 x4 x5)
end L2
namespace U2
open PySem PySem.Spec PyProof.Rows L2
theorem fsc {N P : List Str} {sc : Scope} (a : sc.kind = .function := by rfl) (b : sc.isCoroutine = false := by rfl) (c : sc.isGenerator = false := by rfl) (d : N.Nodup := by decide +kernel) (e : N.take P.length = P := by rfl) (f : ∀ x ∈ P, sc.names.lookup x = some .local ∨ sc.names.lookup x = some .cell := by decide +kernel) (g : ∀ y ∈ sc.names, y.2 ≠ .free := by decide +kernel) : FnScope N P sc := ⟨a, b, c, d, e, f, g⟩
theorem nk {xs : List U} {I : Nat → SU → MHp → Prop} : ∀ i τ M, I i τ M → (Src.mk none xs).ok M := fun _ _ _ _ _ e => nomatch e
theorem callee2 {P : Program} {w : World} {K : PySem.W.Frag} {mg : Str → Option Value} {base : Heap} {x : Str} {st : Stmt} {f : Addr} {fd : FuncData} {N ps : List Str} {k : Nat} {sp : USp} {t : US} (F : Fun K x x st f fd) (hm : mg x = some (.ref f)) (S : FnScope N ps (defScope st))
    (bind : ∀ (kV doc pm : Value) (an : Option Addr) (cdv ct : Value) (us : List Value), us.length = ps.length → bindArgs (PySem.W.fnOf x x (defArgs st) (defBody st) (defScope st) .none kV doc pm an cdv ct) ⟨us, []⟩ = pure (ps.zip us))
    (h : PSsU ⟨P, w, K, mg, base, N, defScope st, k, true, .none, ""⟩ (defBody st) t)
    (q : ∀ us M Q, sp us M Q → us.length = ps.length ∧ t { nx := fun _ M' => rtU Q .non M', rt := rtU Q } (startU N us) M) : Callee P w K mg base (k + 1) x sp [] :=
  callee_of F hm S bind (fun us M Q hs => (q us M Q hs).1) h (fun us M Q hs => (q us M Q hs).2)
end U2
namespace K09
open PySem L2 U2
def top (i : Nat) : Stmt := PySem.Challenge.pw_rowsmith_k09_whole_texts_judged.main.body.getD i (.Pass ⟨0, 0, 0, 0⟩)
abbrev s_is_whole : Stmt := top 18
theorem sc_is_whole : FnScope ["thing"] ["thing"] (defScope s_is_whole) := fsc
abbrev s_is_number : Stmt := top 19
theorem sc_is_number : FnScope ["thing"] ["thing"] (defScope s_is_number) := fsc
abbrev s_is_sign : Stmt := top 20
theorem sc_is_sign : FnScope ["thing"] ["thing"] (defScope s_is_sign) := fsc
abbrev s_is_shape : Stmt := top 21
theorem sc_is_shape : FnScope ["thing", "is_leaf", "most_pieces", "most_within", "count", "waiting", "entry", "piece", "depth"] ["thing", "is_leaf", "most_pieces", "most_within"] (defScope s_is_shape) := fsc
abbrev s_end_of_name : Stmt := top 22
theorem sc_end_of_name : FnScope ["text", "at", "end"] ["text", "at"] (defScope s_end_of_name) := fsc
abbrev s_read_number : Stmt := top 23
theorem sc_read_number : FnScope ["text", "at", "number", "end", "longer"] ["text", "at"] (defScope s_read_number) := fsc
abbrev s_read_shape : Stmt := top 24
theorem sc_read_shape : FnScope ["text", "read_leaf", "brackets", "shape", "at", "found"] ["text", "read_leaf"] (defScope s_read_shape) := fsc
abbrev s_read_openings : Stmt := top 25
theorem sc_read_openings : FnScope ["text", "at", "brackets", "here"] ["text", "at", "brackets"] (defScope s_read_openings) := fsc
abbrev s_read_behind : Stmt := top 26
theorem sc_read_behind : FnScope ["text", "shape", "at", "brackets", "whole", "here", "bracket"] ["text", "shape", "at", "brackets"] (defScope s_read_behind) := fsc
abbrev s_read_middle : Stmt := top 27
theorem sc_read_middle : FnScope ["text", "at", "sign"] ["text", "at"] (defScope s_read_middle) := fsc
abbrev s_need_sign : Stmt := top 28
theorem sc_need_sign : FnScope ["text", "at", "sign"] ["text", "at", "sign"] (defScope s_need_sign) := fsc
abbrev s_is_name : Stmt := top 30
theorem sc_is_name : FnScope ["thing"] ["thing"] (defScope s_is_name) := fsc
abbrev s_is_tree_leaf : Stmt := top 31
theorem sc_is_tree_leaf : FnScope ["thing"] ["thing"] (defScope s_is_tree_leaf) := fsc
abbrev s_is_tree : Stmt := top 32
theorem sc_is_tree : FnScope ["thing"] ["thing"] (defScope s_is_tree) := fsc
abbrev s_read_leaf : Stmt := top 34
theorem sc_read_leaf : FnScope ["text", "at", "end", "found"] ["text", "at"] (defScope s_read_leaf) := fsc
abbrev s_read : Stmt := top 35
theorem sc_read : FnScope ["text", "tree"] ["text"] (defScope s_read) := fsc
abbrev s_law_whole : Stmt := top 37
theorem sc_law_whole : FnScope ["found"] ["found"] (defScope s_law_whole) := fsc
abbrev s_law_cell_at : Stmt := top 38
theorem sc_law_cell_at : FnScope ["script", "k"] ["script", "k"] (defScope s_law_cell_at) := fsc
abbrev s_law_name_of : Stmt := top 39
theorem sc_law_name_of : FnScope ["number", "name"] ["number"] (defScope s_law_name_of) := fsc
abbrev s_law_base : Stmt := top 40
theorem sc_law_base : FnScope ["cells", "some", "cell", "kind", "right"] ["cells"] (defScope s_law_base) := fsc
abbrev s_law_sign : Stmt := top 41
theorem sc_law_sign : FnScope ["number", "way", "some"] ["number", "way"] (defScope s_law_sign) := fsc
abbrev s_law_digits : Stmt := top 42
theorem sc_law_digits : FnScope ["cell", "number", "many", "text"] ["cell"] (defScope s_law_digits) := fsc
abbrev s_law_text : Stmt := top 43
theorem sc_law_text : FnScope ["base", "draw", "cell", "way", "at", "sign", "end", "many"] ["base", "draw", "cell"] (defScope s_law_text) := fsc
abbrev s_law_begins : Stmt := top 44
theorem sc_law_begins : FnScope ["now", "sign"] ["now", "sign"] (defScope s_law_begins) := fsc
abbrev s_law_inside : Stmt := top 45
theorem sc_law_inside : FnScope ["now", "sign"] ["now", "sign"] (defScope s_law_inside) := fsc
abbrev s_law_goes_on : Stmt := top 46
theorem sc_law_goes_on : FnScope ["now", "sign"] ["now", "sign"] (defScope s_law_goes_on) := fsc
abbrev s_law_due : Stmt := top 47
theorem sc_law_due : FnScope ["text", "now", "at", "sign"] ["text"] (defScope s_law_due) := fsc
abbrev s_law_written : Stmt := top 48
theorem sc_law_written : FnScope ["found", "deep", "sign"] ["found", "deep"] (defScope s_law_written) := fsc
abbrev s_law_base_told : Stmt := top 49
abbrev s_law : Stmt := top 50
inductive Op where
  | sum | less | by_
def Op.word : Op → Str
  | .sum => "sum" | .less => "less" | .by_ => "by"
def Op.mid : Op → Str
  | .sum => " + " | .less => " - " | .by_ => " * "
inductive Tr where
  | num (n : Int) | name (x : Str) | turn (a : Tr) | two (o : Op) (a b : Tr)
namespace Tr
def toU : Tr → U
  | num n => .tup [.str "num", .int n]
  | name x => .tup [.str "name", .str x]
  | turn a => .tup [.str "turn", a.toU]
  | two o a b => .tup [.str o.word, a.toU, b.toU]
def sh : Tr → Str
  | num n => Str.ofString (toString n)
  | name x => x
  | turn a => Str.ofString "(- " ++ a.sh ++ Str.ofString ")"
  | two o a b => Str.ofString "(" ++ a.sh ++ o.mid ++ b.sh ++ Str.ofString ")"
def ok : Tr → Prop
  | num n => 0 ≤ n ∧ n ≤ 10 ^ 18
  | name x => x.length ≤ 8 ∧ 1 ≤ x.length ∧ ∀ c ∈ x.cps.toList, 97 ≤ c ∧ c ≤ 122
  | turn a => a.ok
  | two _ a b => a.ok ∧ b.ok
def size : Tr → Nat
  | num _ => 1
  | name _ => 1
  | turn a => a.size + 1
  | two _ a b => a.size + b.size + 1
def dep : Tr → Nat
  | num _ => 1
  | name _ => 1
  | turn a => a.dep + 1
  | two _ a b => max a.dep b.dep + 1
end Tr
open Tr
theorem len_app (x y : Str) : (x ++ y).length = x.length + y.length := by
  show (x.cps ++ y.cps).size = x.cps.size + y.cps.size
  simp
theorem num_len {n : Int} (h0 : 0 ≤ n) (h1 : n ≤ 10 ^ 18) : (Str.ofString (toString n)).length ≤ 20 := by
  have h2 : n.natAbs < 10 ^ 19 := by
    have : (10 : Nat) ^ 19 = 10000000000000000000 := by decide
    rw [this]; omega
  have h := PySem.int_text_length_le10 (a := n) (k := 19) (by decide) h2
  rw [PySem.ofString_length]; exact h
theorem sh_len : ∀ {t : Tr}, t.ok → t.sh.length ≤ 25 * t.size
  | num n, h => by have := num_len h.1 h.2; simp only [sh, size]; omega
  | name x, h => by
    have h' : x.length ≤ 8 := h.1
    simp only [sh, size]; omega
  | turn a, h => by
    have := sh_len (t := a) h
    simp only [sh, size, len_app, show (Str.ofString "(- ").length = 3 from by decide +kernel, show (Str.ofString ")").length = 1 from by decide +kernel]
    omega
  | two o a b, h => by
    have h1 := sh_len h.1
    have h2 := sh_len h.2
    have e : o.mid.length = 3 := by cases o <;> decide +kernel
    simp only [sh, size, len_app, e, show (Str.ofString "(").length = 1 from by decide +kernel, show (Str.ofString ")").length = 1 from by decide +kernel]
    omega
def SIGNS : List (Str × Fl) := [("turn", .int 1), ("sum", .int 2), ("less", .int 2), ("by", .int 2)]
theorem small {n : Nat} (h : n ≤ 100000) : n ≤ sizeLine := Nat.le_trans h (by decide)
section
variable {P : Program} {w : World} {K : PySem.W.Frag} {mg : Str → Option Value} {base : Heap} {f d d2 fl : Addr} {fd : FuncData}
def strA : List U → MHp → UK → Prop := fun us M Q => match us with
  | [.int i] => i.natAbs.log2 < 1920 ∧ Q (.str (toString i)) M
  | [.str z] => Q (.str z) M
  | _ => False
theorem log_ok {n : Int} (h0 : 0 ≤ n) (h1 : n ≤ 10 ^ 18) : n.natAbs.log2 < 1920 := by
  have h2 : n.natAbs < 2 ^ 64 := by
    have : (2 : Nat) ^ 64 = 18446744073709551616 := by decide
    rw [this]; omega
  by_cases h : n.natAbs = 0
  · rw [h]; decide
  · have := (Nat.log2_lt h).mpr h2
    omega
theorem dep_pos : ∀ t : Tr, 1 ≤ t.dep
  | num _ => Nat.le_refl _
  | name _ => Nat.le_refl _
  | turn a => by simp only [dep]; omega
  | two o a b => by simp only [dep]; omega
def spCell : USp := fun us M Q => ∃ (ns : List Int) (k : Int), us = [.lst (ns.map .int), .int k] ∧ 0 ≤ k ∧ ∀ c : Int, Q (.int c) M
local macro_rules | `(tactic| simp_all! only [$xs,*]) => `(tactic| simp only [$xs,*, Bool.false_eq_true, Bool.not_false, Bool.not_true, List.append_nil, List.cons_append, List.getElem?_cons_succ, List.getElem?_cons_zero, List.length_cons, List.length_nil, List.map_cons, List.map_nil, List.nil_append, List.replicate, List.set_cons_succ, List.set_cons_zero, Nat.add_sub_cancel, Nat.reduceAdd, Nat.reduceSub, Nat.sub_self, Option.some.injEq, and_true, at0, at1, at2, at3, bAll, bInt1, bInt2, bIsi2, bLen, bList, bTuple, cGe, cGt, cLe, cLt, decide_false, decide_true, exists_eq_left', if_false, if_true, inSt, isi_NoneType_bool, isi_NoneType_dict, isi_NoneType_int, isi_NoneType_list, isi_NoneType_str, isi_NoneType_tuple, isi_bool_bool, isi_bool_dict, isi_bool_int, isi_bool_list, isi_bool_str, isi_bool_tuple, isi_dict_bool, isi_dict_dict, isi_dict_int, isi_dict_list, isi_dict_str, isi_dict_tuple, isi_int_bool, isi_int_dict, isi_int_int, isi_int_list, isi_int_str, isi_int_tuple, isi_list_bool, isi_list_dict, isi_list_int, isi_list_list, isi_list_str, isi_list_tuple, isi_str_bool, isi_str_dict, isi_str_int, isi_str_list, isi_str_str, isi_str_tuple, isi_tuple_bool, isi_tuple_dict, isi_tuple_int, isi_tuple_list, isi_tuple_str, isi_tuple_tuple, mAppend, mPop, mkL, reduceCtorEq, startU, true_and, typU, uAdd, uAddL, uAnd, uBM, uBM0, uC, uCB, uCall, uCallV, uChain, uCons, uEqS, uI, uI0, uIf, uIsN, uIter, uIx, uLst, uNeS, uNil, uNoPart, uNot, uNotN, uNotV, uOp, uOr, uOrV, uPart, uRng1, uRng2, uTest, uTru, uTup, uUn, uVar])
theorem ok_cell_at (F : Fun K "_law_cell_at" "_law_cell_at" s_law_cell_at f fd) (hm : mg "_law_cell_at" = some (.ref f)) (m_len : mg "len" = none) : Callee P w K mg base 1 "_law_cell_at" spCell [] := by
  refine callee2 F hm sc_law_cell_at (ar2 fun _ _ _ _ _ _ _ _ => rfl) (uss_cons (us_if (ut_c k_lt (uv 1) (ue_b b_len m_len (ua_cons (uv 0) ua_nil)))
  (uss_one (us_ret (ue_ix (uv 0) (uv 1))))
  uss_nil)
  (uss_one (us_ret un_))) ?_
  rintro us M Q ⟨ns, k, rfl, hk, q⟩
  refine ⟨rfl, ?_⟩
  simp_all! only [inTab, ixTab, uSeq, uIfS, uNext, uRet, uRetN, uAsg, hName, uAndV, uDrop, view, eqS, isNon, uSl, uBreak, uCont]
  by_cases h : k < ((ns.map U.int).length : Int)
  · rw [if_pos (by simpa using h)]
    obtain ⟨u, hu⟩ := atI_ex (ns.map U.int) k hk h
    obtain ⟨j, _, hj, _⟩ := atI_get hu
    obtain ⟨c, _, hc⟩ := List.mem_map.mp (List.mem_of_getElem? hj)
    subst hc
    exact ⟨_, hu, rt_same (q c)⟩
  · rw [if_neg (by simpa using h)]
    exact rt_same (q 0)
theorem app_toList (x y : Str) : (x ++ y).cps.toList = x.cps.toList ++ y.cps.toList := by
  show (x.cps ++ y.cps).toList = _
  simp
theorem atI_mem {α : Type} {l : List α} {i : Int} {c : α} (h : atI l i = some c) : c ∈ l := by
  unfold atI at h
  cases e : ixN l.length i with
  | none => rw [e] at h; cases h
  | some j => rw [e] at h; exact List.mem_of_getElem? h
theorem pos_len {y : Str} (h : y ≠ Str.ofString "") : 1 ≤ y.length := by
  rcases Nat.eq_zero_or_pos y.length with e | e
  · refine absurd ?_ h
    cases y with
    | mk a =>
      have : a = #[] := Array.eq_empty_of_size_eq_zero e
      subst this; rfl
  · exact e
def ABC : Str := Str.ofString "abcdefghijklmnopqrstuvwxyz"
def letterF (m : Int) : Str := ⟨#[(atI ABC.cps.toList (m % 26)).getD 0]⟩
def nameGo : Nat → Int → Str → Str
  | 0, _, y => y
  | k + 1, n, y => if y.length < 8 ∧ (y = Str.ofString "" ∨ 0 < n) then
      nameGo k ((if y = Str.ofString "" then n else n - 1) / 26) (y ++ letterF (if y = Str.ofString "" then n else n - 1)) else y
theorem letter_len (m : Int) : (letterF m).length = 1 := rfl
theorem nameGo_len : ∀ (k : Nat) (n : Int) (y : Str), y.length ≤ 8 → (nameGo k n y).length ≤ 8
  | 0, _, _, h => h
  | k + 1, n, y, h => by
    simp only [nameGo]
    split
    · rename_i hh
      exact nameGo_len k _ _ (by rw [len_app, letter_len]; omega)
    · exact h
theorem letter_ok (m : Int) : ∀ c ∈ (letterF m).cps.toList, 97 ≤ c ∧ c ≤ 122 := by
  have hL : ABC.cps.toList.length = 26 := by decide +kernel
  have hA : ∀ c ∈ ABC.cps.toList, 97 ≤ c ∧ c ≤ 122 := by decide +kernel
  obtain ⟨c, hc⟩ := atI_ex ABC.cps.toList (m % 26) (Int.emod_nonneg _ (by decide)) (by rw [hL]; exact Int.emod_lt_of_pos _ (by decide))
  intro x hx
  simp only [letterF, hc, Option.getD_some, List.mem_cons, List.not_mem_nil, or_false] at hx
  subst hx
  exact hA _ (atI_mem hc)
theorem nameGo_ok : ∀ (k : Nat) (n : Int) (y : Str), (∀ c ∈ y.cps.toList, 97 ≤ c ∧ c ≤ 122) → (y ≠ Str.ofString "" ∨ 0 < k) → 1 ≤ (nameGo k n y).length ∧ ∀ c ∈ (nameGo k n y).cps.toList, 97 ≤ c ∧ c ≤ 122
  | 0, n, y, h, z => ⟨by
      simp only [nameGo]
      rcases z with z | z
      · exact pos_len z
      · omega, by simpa only [nameGo] using h⟩
  | k + 1, n, y, h, z => by
    simp only [nameGo]
    split
    · refine nameGo_ok k _ _ (fun c hc => ?_) (.inl fun e => ?_)
      · rw [app_toList] at hc
        rcases List.mem_append.mp hc with hc | hc
        · exact h c hc
        · exact letter_ok _ c hc
      · have := congrArg Str.length e
        rw [len_app, letter_len] at this
        exact absurd this (Nat.succ_ne_zero _)
    · rename_i hh
      refine ⟨?_, h⟩
      by_cases e : y = Str.ofString ""
      · subst e; exact absurd ⟨by decide, .inl rfl⟩ hh
      · exact pos_len e
def nameF (n : Int) : Str := nameGo 8 n (Str.ofString "")
def spNameOf : USp := fun us M Q => ∃ n : Int, us = [.int n] ∧ Q (.str (nameF n)) M
theorem ok_name_of (F : Fun K "_law_name_of" "_law_name_of" s_law_name_of f fd) (hm : mg "_law_name_of" = some (.ref f)) (m_len : mg "len" = none) : Callee P w K mg base 1 "_law_name_of" spNameOf [] := by
  refine callee2 F hm sc_law_name_of (ar1 fun _ _ _ _ _ _ _ => rfl) (uss_cons (us_set 1 sc_law_name_of.nd us_)
  (uss_cons (us_while (PWU.pt (uw_and (ut_c k_ltX (ue_b b_len m_len (ua_cons (uv 1) ua_nil)) un_) (uw_and1 (PWU.pt (uw_or (ut_c k_eqX (uv 1) us_) (uw_or1 (ut_c k_gt (uv 0) un_)))))))
  (uss_cons (us_if (ut_c k_neX (uv 1) us_)
  (uss_one (us_set 0 sc_law_name_of.nd (ue_sub (uv 0) un_)))
  uss_nil)
  (uss_cons (us_set 1 sc_law_name_of.nd (ue_add (own := false) (uv 1) (ue_ix us_ (ue_mod (uv 0) un_))))
  (uss_one (us_set 0 sc_law_name_of.nd (ue_div (uv 0) un_))))))
  (uss_one (us_ret (uv 1))))) ?_
  rintro us M Q ⟨n0, rfl, q⟩
  refine ⟨rfl, ?_⟩
  simp_all! only [capt, hTup, hCons, hNil, uEqX, uEqD, uLtX, uIn, items, uEnum, uZip, mExtend, mClear, inTab, ixTab, bMax, bSum, uSeq, uIfS, uNext, uRet, uRetN, uAsg, hName, uAndV, uDrop, view, eqS, isNon, uSl, uBreak, uCont]
  have hL : ABC.cps.toList.length = 26 := by decide +kernel
  have hL2 : ABC.length ≤ sizeLine := by decide +kernel
  refine while_by (fun τ M' => ∃ (n : Int) (y : Str), τ = [some (.int n), some (.str y)] ∧ M' = M ∧ y.length ≤ 8 ∧ nameGo (8 - y.length) n y = nameF n0) (fun τ _ => match τ with | [_, some (.str y)] => 8 - y.length | _ => 0) ⟨_, _, rfl, rfl, by decide, rfl⟩ ?_
  rintro τ M' ⟨n, y, rfl, rfl, hy, hg⟩
  have hys : y.length ≤ sizeLine := small (by omega)
  have lt : ∀ m : Int, ∃ c, atI ABC.cps.toList (m % 26) = some c ∧ letterF m = ⟨#[c]⟩ := fun m => by
    obtain ⟨c, hc⟩ := atI_ex ABC.cps.toList (m % 26) (Int.emod_nonneg _ (by decide)) (by rw [hL]; exact Int.emod_lt_of_pos _ (by decide))
    exact ⟨c, hc, by unfold letterF; rw [hc]; rfl⟩
  simp_all! only [eqS, capt, hTup, hCons, hNil, uEqX, uEqD, uLtX, uIn, items, uEnum, uZip, mExtend, mClear, inTab, ixTab, bMax, bSum, uSeq, uIfS, uNext, uRet, uRetN, uAsg, hName, uAndV, uDrop, view, eqS, isNon, uSl, uBreak, uCont]
  refine ⟨hys, ?_⟩
  by_cases h8 : y.length < 8
  · rw [if_pos (decide_eq_true (by omega))]
    have go : ∀ m : Int, (if y = Str.ofString "" then n else n - 1) = m → (y = Str.ofString "" ∨ 0 < n) → (0 : Int) < 26 ∧ (Str.ofString "abcdefghijklmnopqrstuvwxyz").length ≤ sizeLine ∧
        ∃ c, atI (Str.ofString "abcdefghijklmnopqrstuvwxyz").cps.toList (m % 26) = some c ∧ y.length + (⟨#[c]⟩ : Str).length ≤ sizeLine ∧ CDiv m 26 ∧
          (∃ (n1 : Int) (y1 : Str), [some (U.int (m / 26)), some (U.str (y ++ ⟨#[c]⟩))] = [some (U.int n1), some (U.str y1)] ∧ y1.length ≤ 8 ∧ nameGo (8 - y1.length) n1 y1 = nameF n0) ∧ 8 - (y ++ (⟨#[c]⟩ : Str)).length < 8 - y.length := by
      intro m hm hc
      obtain ⟨c, e1, e2⟩ := lt m
      have l1 : (⟨#[c]⟩ : Str).length = 1 := rfl
      refine ⟨by decide, hL2, c, e1, small (by rw [l1]; omega), ⟨by decide, by decide⟩, ⟨_, _, rfl, by rw [len_app, l1]; omega, ?_⟩, by rw [len_app, l1]; omega⟩
      rw [← hg, len_app, l1, show 8 - y.length = (8 - (y.length + 1)) + 1 by omega, nameGo, if_pos ⟨h8, hc⟩, hm, e2]
    by_cases he : y = Str.ofString ""
    · have := go n (if_pos he) (.inl he)
      simpa only [he, decide_true, Bool.not_true, if_true, Bool.false_eq_true, if_false] using this
    · by_cases hn : 0 < n
      · have := go (n - 1) (if_neg he) (.inr hn)
        simpa only [he, hn, decide_true, decide_false, Bool.not_false, if_true, Bool.false_eq_true, if_false] using this
      · rw [if_neg (by simpa using he), if_neg (by simpa using hn)]
        have : nameF n0 = y := by rw [← hg, show 8 - y.length = (8 - (y.length + 1)) + 1 by omega, nameGo, if_neg (fun z => z.2.elim he hn)]
        rw [this] at q
        exact rt_same q
  · rw [if_neg (fun z => h8 (by have := of_decide_eq_true z; omega))]
    have : nameF n0 = y := by rw [← hg, show 8 - y.length = 0 by omega, nameGo]
    rw [this] at q
    exact rt_same q
theorem nameF_ok (n : Int) : (nameF n).length ≤ 8 ∧ 1 ≤ (nameF n).length ∧ ∀ c ∈ (nameF n).cps.toList, 97 ≤ c ∧ c ≤ 122 := by
  have h1 := nameGo_len 8 n (Str.ofString "") (by decide)
  have h2 := nameGo_ok 8 n (Str.ofString "") (by intro c hc; cases hc) (.inr (by decide))
  exact ⟨h1, h2.1, h2.2⟩
theorem max_cast (a b : Nat) : (if (b : Int) > (a : Int) then (b : Int) else (a : Int)) = ((max a b : Nat) : Int) := by
  split <;> omega
end
end K09
namespace K09
open PySem L2 U2
open Tr
def tx (s : List Nat) : Str := ⟨s.toArray⟩
theorem tx_ch (s : List Nat) : (tx s).cps.toList = s := by simp [tx]
theorem tx_of (z : Str) : tx z.cps.toList = z := by cases z; simp [tx]
theorem tx_inj {a b : List Nat} : (tx a = tx b) = (a = b) := by
  refine propext ⟨fun h => ?_, fun h => by rw [h]⟩
  have := congrArg (fun z : Str => z.cps.toList) h
  simpa [tx_ch] using this
theorem drop_at {L : List Nat} {i : Nat} {c : Nat} {r : List Nat} (h : L.drop i = c :: r) : L[i]? = some c ∧ i < L.length ∧ L.drop (i + 1) = r := by
  have hl : i < L.length := by
    have := congrArg List.length h
    rw [List.length_drop] at this
    simp at this
    omega
  rw [List.drop_eq_getElem_cons hl] at h
  injection h with h1 h2
  exact ⟨by rw [List.getElem?_eq_getElem hl, h1], hl, h2⟩
def dig (n : Nat) : List Nat := if h : n < 10 then [48 + n] else dig (n / 10) ++ [48 + n % 10]
termination_by n
decreasing_by omega
def val (l : List Nat) : Nat := l.foldl (fun a c => a * 10 + (c - 48)) 0
theorem val_snoc (l : List Nat) (c : Nat) : val (l ++ [c]) = val l * 10 + (c - 48) := by simp [val, List.foldl_append]
theorem digits_dig : ∀ n : Nat, (Nat.toDigits 10 n).map Char.toNat = dig n := by
  intro n
  have hd : ∀ k : Fin 10, (Nat.digitChar k.val).toNat = 48 + k.val := by decide
  induction n using Nat.strongRecOn with
  | _ n ih =>
    by_cases h : n < 10
    · rw [Nat.toDigits_of_lt_base h, dig, dif_pos h]
      have := hd ⟨n, h⟩
      simp only [List.map_cons, List.map_nil]
      rw [this]
    · rw [Nat.toDigits_of_base_le (by decide) (by omega), dig, dif_neg h, List.map_append, ih (n / 10) (by omega)]
      have := hd ⟨n % 10, by omega⟩
      simp only [List.map_cons, List.map_nil]
      rw [this]
theorem num_ch {n : Int} (h : 0 ≤ n) : (Str.ofString (toString n)).cps.toList = dig n.toNat := by
  obtain ⟨k, rfl⟩ : ∃ k : Nat, n = k := ⟨n.toNat, by omega⟩
  rw [Str.ofString_eq_toList]
  have e : (toString (k : Int)).toList = Nat.toDigits 10 k := by
    show (toString k).toList = _
    rw [show toString k = k.repr from rfl, Nat.toList_repr]
  rw [e]
  simp only [Int.toNat_natCast]
  rw [← digits_dig]
end K09
namespace K09
open PySem L2 U2
open Tr
section
variable {P : Program} {w : World} {K : PySem.W.Frag} {mg : Str → Option Value} {base : Heap} {f d d2 fl : Addr} {fd : FuncData}
theorem eqX_int {neg : Bool} {i j : Int} {M : MHp} {Q : UK} : uEqX neg (.int i) (.int j) M Q = Q (.bl (if neg then !decide (i = j) else decide (i = j))) M := rfl
theorem eqX_str {neg : Bool} {i j : Str} {M : MHp} {Q : UK} : uEqX neg (.str i) (.str j) M Q = Q (.bl (if neg then !decide (i = j) else decide (i = j))) M := rfl
theorem big {k : Nat} (h : k < 100000) : k < sizeLine := Nat.lt_of_lt_of_le h (by decide)
theorem szl {n : Nat} (h : n ≤ 100000) : (n ≤ sizeLine) = True := eq_true (small h)
theorem seq_gen {u v : US} {D : UEnds} {τ : SU} {M : MHp} (h : ∀ V : SU → MHp → Prop, V = v D → u { D with nx := V } τ M) : uSeq u v D τ M := h _ rfl
theorem if_gen {c : UT} {t u : US} {D : UEnds} {τ : SU} {M : MHp} (h : ∀ A B : MHp → Prop, A = t D τ → B = u D τ → c τ M fun b M1 => if b = true then A M1 else B M1) : uIfS c t u D τ M := h _ _ rfl rfl
theorem subN {M M1 : MHp} {p : Addr} {o : MO} (h : Sub M M1) (hp : M1 p = none) : Sub M (mup M1 p o) := h.mup (h.none hp)
def oc : Op → Nat
  | .sum => 43 | .less => 45 | .by_ => 42
def cT (t : Tr) : List Nat := t.sh.cps.toList
theorem app_l (x y : Str) : (x ++ y).cps.toList = x.cps.toList ++ y.cps.toList := app_toList x y
theorem cT_turn (a : Tr) : cT (turn a) = 40 :: 45 :: 32 :: (cT a ++ [41]) := by
  unfold cT
  simp only [sh, app_l]
  rw [show (Str.ofString "(- ").cps.toList = [40, 45, 32] by decide +kernel, show (Str.ofString ")").cps.toList = [41] by decide +kernel]
  simp
theorem cT_two (o : Op) (a b : Tr) : cT (two o a b) = 40 :: (cT a ++ 32 :: oc o :: 32 :: (cT b ++ [41])) := by
  unfold cT
  simp only [sh, app_l]
  rw [show (Str.ofString "(").cps.toList = [40] by decide +kernel, show (Str.ofString ")").cps.toList = [41] by decide +kernel]
  have : o.mid.cps.toList = [32, oc o, 32] := by cases o <;> decide +kernel
  rw [this]
  simp
end
end K09
namespace K09
open PySem L2 U2
open Tr
section
variable {P : Program} {w : World} {K : PySem.W.Frag} {mg : Str → Option Value} {base : Heap} {f d d2 fl : Addr} {fd : FuncData}
def LET : Str := "abcdefghijklmnopqrstuvwxyz"
theorem eqX_non {z : Str} {M : MHp} {Q : UK} : uEqX false U.non (.str z) M Q = Q (.bl false) M := by
  have : eqS U.non (.str z) = some false := rfl
  unfold uEqX; rw [this]; rfl
def isLetter (c : Nat) : Bool := !(Builtin.Str.occurrences LET ⟨#[c]⟩ 0 LET.length 1).isEmpty
def isName : U → Bool
  | .str z => decide (1 ≤ z.length) && decide (z.length ≤ 8) && z.cps.toList.all isLetter
  | _ => false
def okU : U → Prop
  | .str z => z.length ≤ sizeLine
  | .ref _ => False
  | .ty _ => False
  | _ => True
def spName : USp := fun us M Q => ∃ x, us = [x] ∧ okU x ∧ Q (.bl (isName x)) M
theorem chars_mem {z : Str} {x : U} (h : x ∈ chars z) : ∃ c, x = .str ⟨#[c]⟩ := by
  obtain ⟨c, _, e⟩ := List.mem_map.mp h
  exact ⟨c, e.symm⟩
theorem chars_len (z : Str) : (chars z).length = z.length := by simp [chars, Str.length]
def elt1 : U → Option U
  | .str y => some (.bl (!(Builtin.Str.occurrences LET y 0 LET.length 1).isEmpty))
  | _ => none
theorem bls1 : ∀ l : List Nat, blsU ((l.map fun c => U.str ⟨#[c]⟩).filterMap elt1) = some (l.map isLetter)
  | [] => rfl
  | c :: r => by
    have := bls1 r
    simp only [List.map_cons, List.filterMap_cons, elt1] at this ⊢
    simp only [blsU, this, Option.map_some]
    rfl
local macro_rules | `(tactic| simp_all! only [$xs,*]) => `(tactic| simp only [$xs,*, Bool.false_eq_true, Bool.not_false, Bool.not_true, List.append_nil, List.cons_append, List.getElem?_cons_succ, List.getElem?_cons_zero, List.length_cons, List.length_nil, List.map_cons, List.map_nil, List.nil_append, List.replicate, List.set_cons_succ, List.set_cons_zero, Nat.add_sub_cancel, Nat.reduceAdd, Nat.reduceSub, Nat.sub_self, Option.some.injEq, and_true, at0, at1, at2, at3, bAll, bInt1, bInt2, bIsi2, bLen, bList, bTuple, cGe, cGt, cLe, cLt, decide_false, decide_true, exists_eq_left', if_false, if_true, inSt, isi_NoneType_bool, isi_NoneType_dict, isi_NoneType_int, isi_NoneType_list, isi_NoneType_str, isi_NoneType_tuple, isi_bool_bool, isi_bool_dict, isi_bool_int, isi_bool_list, isi_bool_str, isi_bool_tuple, isi_dict_bool, isi_dict_dict, isi_dict_int, isi_dict_list, isi_dict_str, isi_dict_tuple, isi_int_bool, isi_int_dict, isi_int_int, isi_int_list, isi_int_str, isi_int_tuple, isi_list_bool, isi_list_dict, isi_list_int, isi_list_list, isi_list_str, isi_list_tuple, isi_str_bool, isi_str_dict, isi_str_int, isi_str_list, isi_str_str, isi_str_tuple, isi_tuple_bool, isi_tuple_dict, isi_tuple_int, isi_tuple_list, isi_tuple_str, isi_tuple_tuple, mAppend, mPop, mkL, reduceCtorEq, startU, true_and, typU, uAdd, uAddL, uAnd, uBM, uBM0, uC, uCB, uCall, uCallV, uChain, uCons, uEqS, uI, uI0, uIf, uIsN, uIter, uIx, uLst, uNeS, uNil, uNoPart, uNot, uNotN, uNotV, uOp, uOr, uOrV, uPart, uRng1, uRng2, uTest, uTru, uTup, uUn, uVar])
theorem ok_is_name {t1 t2 : Tok} (F : Fun K "is_name" "is_name" s_is_name f fd) (hm : mg "is_name" = some (.ref f)) (m_len : mg "len" = none) (m_isinstance : mg "isinstance" = none) (m_str : mg "str" = none) (m_all : mg "all" = none)
    (g_LETTERS : mg "LETTERS" = some (.str LET t1)) (g_LONGEST_NAME : mg "LONGEST_NAME" = some (.int 8 t2)) : Callee P w K mg base 1 "is_name" spName [] := by
  refine callee2 F hm sc_is_name (ar1 fun _ _ _ _ _ _ _ => rfl) (uss_cons (us_if (PWU.pt (uw_or (ut_not (ut_val (ue_b b_isi m_isinstance (ua_cons (uv 0) (ua_cons (ug_ty (n := "str") m_str) ua_nil))))) (uw_or1 (ut_not (ut_ch k_le k_le un_ (ue_b b_len m_len (ua_cons (uv 0) ua_nil)) (ug_int g_LONGEST_NAME))))))
  (uss_one (us_ret ub_))
  uss_nil)
  (uss_one (us_ret (ue_b b_all m_all (ua_cons (ue_comp false ["sign"] 1 [] (ui_seq (uv 0)) (ug_name (k := 1) 0 (by dsimp only [compD]; decide +kernel)) uif_nil (ue_c k_inS (uv 0) (ug_str g_LETTERS))) ua_nil))))) ?_
  rintro us M Q ⟨x, rfl, ok, q⟩
  refine ⟨rfl, ?_⟩
  cases x with
  | str z =>
    simp_all! only [capt, hTup, hCons, hNil, uEqX, uEqD, uLtX, uIn, items, uEnum, uZip, mExtend, mClear, inTab, ixTab, bMax, bSum, uSeq, uIfS, uNext, uRet, uRetN, uAsg, hName, uAndV, uDrop, view, eqS, isNon, uSlX, uBreak, uCont]
    refine ⟨ok, ?_⟩
    simp only [isName] at q
    by_cases h1 : 1 ≤ (z.length : Int)
    · rw [if_pos (by simpa using h1)]
      by_cases h8 : (z.length : Int) ≤ 8
      · rw [if_neg (by simp [h8])]
        refine uComp_pure (S := ⟨none, chars z⟩) (M1 := M) (hw := fun R r => r) elt1 (by rw [show (Src.mk none (chars z)).xs.length = z.length from chars_len z]; exact ok) (fun a e => by cases e) (fun x hx M' _ R r => ?_) ?_
        · obtain ⟨c, rfl⟩ := chars_mem hx
          exact r
        · show (match blsU ((chars z).filterMap elt1) with | some bs => rtU Q (U.bl (bs.all fun b => b)) M | none => False)
          unfold chars
          rw [bls1]
          refine rt_same ?_
          have e : ((z.cps.toList.map isLetter).all fun b => b) = (decide (1 ≤ z.length) && decide (z.length ≤ 8) && z.cps.toList.all isLetter) := by
            rw [decide_eq_true (show 1 ≤ z.length by omega), decide_eq_true (show z.length ≤ 8 by omega), List.all_map]
            rfl
          rw [e]; exact q
      · rw [if_pos (by simp [h8])]
        rw [decide_eq_false (show ¬ z.length ≤ 8 by omega)] at q
        simp at q
        exact rt_same q
    · rw [if_neg (by simpa using h1)]
      rw [decide_eq_false (show ¬ 1 ≤ z.length by omega)] at q
      simp at q
      exact rt_same q
  | ref a => exact ok.elim
  | ty a => exact ok.elim
  | _ => simp_all! only [capt, hTup, hCons, hNil, uEqX, uEqD, uLtX, uIn, items, uEnum, uZip, mExtend, mClear, inTab, ixTab, bMax, bSum, uSeq, uIfS, uNext, uRet, uRetN, uAsg, hName, uAndV, uDrop, view, eqS, isNon, uSlX, uBreak, uCont]; exact rt_same q
def numV : U → Bool
  | .int i => decide (0 ≤ i) && decide (i ≤ 1000000000000000000)
  | _ => false
inductive LF : U → Bool → Prop
  | non : LF .non false
  | bl (b : Bool) : LF (.bl b) false
  | int (i : Int) : LF (.int i) false
  | str (z : Str) : LF (.str z) false
  | lst (l : List U) : LF (.lst l) false
  | tnil : LF (.tup []) false
  | tn (r : List U) : LF (.tup (.non :: r)) false
  | tt (xs r : List U) (h : r.length = 1 → ∀ (z : Str) (M : MHp) (Q : UK), PyData.strOk z = true → Q (.bl false) M → uEqX false (.tup xs) (.str z) M Q) : LF (.tup (.tup xs :: r)) false
  | tl (xs r : List U) (h : r.length = 1 → ∀ (z : Str) (M : MHp) (Q : UK), PyData.strOk z = true → Q (.bl false) M → uEqX false (.lst xs) (.str z) M Q) : LF (.tup (.lst xs :: r)) false
  | word (z : Str) (r : List U) (h : tabGet SIGNS z = none ∨ ∃ k : Nat, tabGet SIGNS z = some (.int k) ∧ r.length ≠ k) (h2 : r.length = 1 → z ≠ Str.ofString "num" ∧ z ≠ Str.ofString "name") : LF (.tup (.str z :: r)) false
  | num (x : U) (h : okU x) : LF (.tup [.str (Str.ofString "num"), x]) (numV x)
  | name (x : U) (h : okU x) : LF (.tup [.str (Str.ofString "name"), x]) (isName x)
inductive G where
  | leaf (u : U) (b : Bool) | turn (a : G) | two (o : Op) (a b : G)
namespace G
def toU : G → U
  | leaf u _ => u
  | turn a => .tup [.str "turn", a.toU]
  | two o a b => .tup [.str o.word, a.toU, b.toU]
def size : G → Nat
  | leaf _ _ => 1
  | turn a => a.size + 1
  | two _ a b => a.size + b.size + 1
def dep : G → Nat
  | leaf _ _ => 1
  | turn a => a.dep + 1
  | two _ a b => max a.dep b.dep + 1
def fit : G → Bool
  | leaf _ b => b
  | turn a => a.fit
  | two _ a b => a.fit && b.fit
def wf (L : U → Bool → Prop) : G → Prop
  | leaf u b => L u b
  | turn a => a.wf L
  | two _ a b => a.wf L ∧ b.wf L
end G
def spWholeG : USp := fun us M Q => ∃ u, us = [u] ∧ okU u ∧ Q (.bl (match u with | .int _ => true | _ => false)) M
theorem ok_is_whole (F : Fun K "is_whole" "is_whole" s_is_whole f fd) (hm : mg "is_whole" = some (.ref f)) (m_isinstance : mg "isinstance" = none) (m_int : mg "int" = none) (m_bool : mg "bool" = none) : Callee P w K mg base 1 "is_whole" spWholeG [] := by
  refine callee2 F hm sc_is_whole (ar1 fun _ _ _ _ _ _ _ => rfl) (uss_one (us_ret (ue_and (ue_b b_isi m_isinstance (ua_cons (uv 0) (ua_cons (ug_ty (n := "int") m_int) ua_nil))) (ue_one (ue_not (ue_b b_isi m_isinstance (ua_cons (uv 0) (ua_cons (ug_ty (n := "bool") m_bool) ua_nil)))))))) ?_
  rintro us M Q ⟨u, rfl, ho, q⟩
  refine ⟨rfl, ?_⟩
  cases u with
  | ref a => exact ho.elim
  | ty a => exact ho.elim
  | _ => simp_all! only [capt, hTup, hCons, hNil, uEqX, uEqD, uLtX, uIn, items, uEnum, uZip, mExtend, mClear, inTab, ixTab, bMax, bSum, uSeq, uIfS, uNext, uRet, uRetN, uAsg, hName, uAndV, uDrop, view, eqS, isNon, uSlX, uBreak, uCont]; exact rt_same q
def spNumber : USp := fun us M Q => ∃ u, us = [u] ∧ okU u ∧ Q (.bl (numV u)) M
theorem ok_is_number {t1 : Tok} (F : Fun K "is_number" "is_number" s_is_number f fd) (hm : mg "is_number" = some (.ref f)) (g_GREATEST : mg "GREATEST" = some (.int 1000000000000000000 t1)) (C_is_whole : Callee P w K mg base 1 "is_whole" spWholeG []) : Callee P w K mg base 2 "is_number" spNumber [] := by
  refine callee2 F hm sc_is_number (ar1 fun _ _ _ _ _ _ _ => rfl) (uss_one (us_ret (ue_and (ue_call C_is_whole (ua_cons (uv 0) ua_nil)) (ue_one (ue_ch k_le k_le un_ (uv 0) (ug_int g_GREATEST)))))) ?_
  rintro us M Q ⟨u, rfl, ho, q⟩
  refine ⟨rfl, ?_⟩
  simp_all! only [capt, hTup, hCons, hNil, uEqX, uEqD, uLtX, uIn, items, uEnum, uZip, mExtend, mClear, inTab, ixTab, bMax, bSum, uSeq, uIfS, uNext, uRet, uRetN, uAsg, hName, uAndV, uDrop, view, eqS, isNon, uSlX, uBreak, uCont]
  refine ⟨u, rfl, ho, ?_⟩
  cases u with
  | ref a => exact ho.elim
  | ty a => exact ho.elim
  | int i =>
    simp only [numV, capt, hTup, hCons, hNil, uEqX, uEqD, uLtX, uIn, items, uEnum, uZip, mExtend, mClear, at0, at1, at2, at3, Option.some.injEq, exists_eq_left', true_and, and_true, uBM, uBM0, mAppend, mPop, uCallV, inTab, ixTab, bMax, bSum, cLt, cLe, cGt, cGe, uAddL, startU, uSeq, uIfS, uOr, uAnd, uNot, uTru, uTest, uCB, uCons, uVar, uC, uNil, uNext, uRet, uRetN, uAsg, hName, uOp, uUn, uChain, uI0, uI, uAndV, uOrV, uNotV, uIf, uTup, uLst, mkL, uDrop, uCall, bIsi2, bLen, bAll, bInt1, bInt2, bList, bTuple, view, typU, uEqS, uNeS, eqS, uIsN, uNotN, isNon, uAdd, uIx, uSlX, uNoPart, uPart, inSt, uIter, uRng1, uRng2, uBreak, uCont, List.map_cons, List.map_nil, List.length_cons, List.length_nil, List.cons_append, List.nil_append, List.replicate, List.getElem?_cons_zero, List.getElem?_cons_succ, List.set_cons_zero, List.set_cons_succ, List.append_nil, Nat.reduceAdd, Nat.reduceSub, Nat.sub_self, Nat.add_sub_cancel, Bool.not_false, Bool.not_true, if_true, if_false, Bool.false_eq_true, reduceCtorEq, decide_true, decide_false, isi_NoneType_bool, isi_NoneType_int, isi_NoneType_str, isi_NoneType_tuple, isi_NoneType_list, isi_NoneType_dict, isi_bool_bool, isi_bool_int, isi_bool_str, isi_bool_tuple, isi_bool_list, isi_bool_dict, isi_int_bool, isi_int_int, isi_int_str, isi_int_tuple, isi_int_list, isi_int_dict, isi_str_bool, isi_str_int, isi_str_str, isi_str_tuple, isi_str_list, isi_str_dict, isi_tuple_bool, isi_tuple_int, isi_tuple_str, isi_tuple_tuple, isi_tuple_list, isi_tuple_dict, isi_list_bool, isi_list_int, isi_list_str, isi_list_tuple, isi_list_list, isi_list_dict, isi_dict_bool, isi_dict_int, isi_dict_str, isi_dict_tuple, isi_dict_list, isi_dict_dict] at q ⊢
    by_cases h : 0 ≤ i
    · rw [if_pos (decide_eq_true h)]
      rw [decide_eq_true h, Bool.true_and] at q
      exact rt_same q
    · rw [if_neg (by simpa using h)]
      rw [decide_eq_false h, Bool.false_and] at q
      exact rt_same q
  | _ => simp_all! only [capt, hTup, hCons, hNil, uEqX, uEqD, uLtX, uIn, items, uEnum, uZip, mExtend, mClear, inTab, ixTab, bMax, bSum, uSeq, uIfS, uNext, uRet, uRetN, uAsg, hName, uAndV, uDrop, view, eqS, isNon, uSlX, uBreak, uCont]; exact rt_same q
def spSign : USp := fun us M Q => ∃ u, us = [u] ∧ ((∃ b, LF u b ∧ Q (.bl false) M) ∨ (∃ (z : Str) (r : List U), u = .tup (.str z :: r) ∧ tabGet SIGNS z = some (.int (r.length : Nat)) ∧ Q (.bl true) M))
theorem ok_is_sign (F : Fun K "is_sign" "is_sign" s_is_sign f fd) (hm : mg "is_sign" = some (.ref f)) (m_isinstance : mg "isinstance" = none) (m_tuple : mg "tuple" = none) (m_len : mg "len" = none) (m_str : mg "str" = none) (T_SIGNS : IsTab P w K d SIGNS) (g_SIGNS : mg "SIGNS" = some (.ref d)) : Callee P w K mg base 1 "is_sign" spSign [] := by
  refine callee2 F hm sc_is_sign (ar1 fun _ _ _ _ _ _ _ => rfl) (uss_cons (us_if (PWU.pt (uw_or (ut_not (ut_val (ue_b b_isi m_isinstance (ua_cons (uv 0) (ua_cons (ug_ty (n := "tuple") m_tuple) ua_nil))))) (uw_or (ut_c k_eqX (ue_b b_len m_len (ua_cons (uv 0) ua_nil)) un_) (uw_or1 (ut_not (ut_val (ue_b b_isi m_isinstance (ua_cons (ue_ix (uv 0) un_) (ua_cons (ug_ty (n := "str") m_str) ua_nil)))))))))
  (uss_one (us_ret ub_))
  uss_nil)
  (uss_one (us_ret (ue_and (ue_c (k_inTab T_SIGNS) (ue_ix (uv 0) un_) (ug_ref g_SIGNS)) (ue_one (ue_c k_eqX (ue_b b_len m_len (ua_cons (uv 0) ua_nil)) (ue_add (own := false) un_ (ue_dix T_SIGNS (ug_ref g_SIGNS) (ue_ix (uv 0) un_))))))))) ?_
  rintro us M Q ⟨u, rfl, h⟩
  refine ⟨rfl, ?_⟩
  have hne : ∀ n : Nat, decide (((n + 1 : Nat) : Int) = 0) = false := fun n => decide_eq_false (by omega)
  have nn : tabGet SIGNS (Str.ofString "num") = none := by decide +kernel
  have nm : tabGet SIGNS (Str.ofString "name") = none := by decide +kernel
  have no : ∀ (z : Str) (r : List U), tabGet SIGNS z = none → Q (.bl false) M → uAndV (uOp (inTab d SIGNS false) (uOp uIx (uVar 0) (uC (U.int 0))) (uC (U.ref d))) (uOp (uEqX false) (uCB bLen (uCons (uVar 0) uNil)) (uOp (uAdd false) (uC (U.int 1)) (uOp (ixTab d SIGNS) (uC (U.ref d)) (uOp uIx (uVar 0) (uC (U.int 0)))))) [some (.tup (.str z :: r))] M (rtU Q) := fun z r h q => by
    simp_all! only [h, Option.isSome_none, capt, hTup, hCons, hNil, uEqX, uEqD, uLtX, uIn, items, uEnum, uZip, mExtend, mClear, inTab, ixTab, bMax, bSum, uSeq, uIfS, uNext, uRet, uRetN, uAsg, hName, uAndV, uDrop, view, eqS, isNon, uSlX, uBreak, uCont]
    exact rt_same q
  have yes : ∀ (z : Str) (r : List U) (k : Nat), tabGet SIGNS z = some (.int k) → Q (.bl (decide (r.length = k))) M → uAndV (uOp (inTab d SIGNS false) (uOp uIx (uVar 0) (uC (U.int 0))) (uC (U.ref d))) (uOp (uEqX false) (uCB bLen (uCons (uVar 0) uNil)) (uOp (uAdd false) (uC (U.int 1)) (uOp (ixTab d SIGNS) (uC (U.ref d)) (uOp uIx (uVar 0) (uC (U.int 0)))))) [some (.tup (.str z :: r))] M (rtU Q) := fun z r k h q => by
    simp_all! only [h, Option.isSome_some, Fl.u, eqS, capt, hTup, hCons, hNil, uEqX, uEqD, uLtX, uIn, items, uEnum, uZip, mExtend, mClear, inTab, ixTab, bMax, bSum, uSeq, uIfS, uNext, uRet, uRetN, uAsg, hName, uAndV, uDrop, view, eqS, isNon, uSlX, uBreak, uCont]
    refine rt_same ?_
    have e : decide (((r.length + 1 : Nat) : Int) = 1 + (k : Int)) = decide (r.length = k) := by
      by_cases e : r.length = k
      · rw [decide_eq_true e]; exact decide_eq_true (by omega)
      · rw [decide_eq_false e]; exact decide_eq_false (by omega)
    rw [e]
    exact q
  rcases h with ⟨b, hb, q⟩ | ⟨z, r, rfl, hz, q⟩
  · cases hb with
    | word z r h h2 =>
      simp_all! only [hne, eqS, uSeq, uIfS, capt, hTup, hCons, hNil, uEqX, uEqD, uLtX, uIn, items, uEnum, uZip, mExtend, mClear, bMax, bSum, uSeq, uIfS, uNext, uRet, uRetN, uAsg, hName, uDrop, vw_non, vw_bl, vw_int, vw_str, vw_tup, vw_lst, vw_own, mup_same, mup_mup, eqS, isNon, uSlX, uBreak, uCont]
      rcases h with h | ⟨k, h, hk⟩
      · exact no z r h q
      · exact yes z r k h (by rw [decide_eq_false hk]; exact q)
    | num x h =>
      simp_all! only [hne, eqS, uSeq, uIfS, capt, hTup, hCons, hNil, uEqX, uEqD, uLtX, uIn, items, uEnum, uZip, mExtend, mClear, bMax, bSum, uSeq, uIfS, uNext, uRet, uRetN, uAsg, hName, uDrop, vw_non, vw_bl, vw_int, vw_str, vw_tup, vw_lst, vw_own, mup_same, mup_mup, eqS, isNon, uSlX, uBreak, uCont]
      exact no _ _ nn q
    | name x h =>
      simp_all! only [hne, eqS, uSeq, uIfS, capt, hTup, hCons, hNil, uEqX, uEqD, uLtX, uIn, items, uEnum, uZip, mExtend, mClear, bMax, bSum, uSeq, uIfS, uNext, uRet, uRetN, uAsg, hName, uDrop, vw_non, vw_bl, vw_int, vw_str, vw_tup, vw_lst, vw_own, mup_same, mup_mup, eqS, isNon, uSlX, uBreak, uCont]
      exact no _ _ nm q
    | tnil => simp_all! only [eqS, show decide (((0 : Nat) : Int) = 0) = true from rfl, capt, hTup, hCons, hNil, uEqX, uEqD, uLtX, uIn, items, uEnum, uZip, mExtend, mClear, inTab, ixTab, bMax, bSum, uSeq, uIfS, uNext, uRet, uRetN, uAsg, hName, uAndV, uDrop, view, eqS, isNon, uSlX, uBreak, uCont]; exact rt_same q
    | _ => simp_all! only [hne, eqS, capt, hTup, hCons, hNil, uEqX, uEqD, uLtX, uIn, items, uEnum, uZip, mExtend, mClear, inTab, ixTab, bMax, bSum, uSeq, uIfS, uNext, uRet, uRetN, uAsg, hName, uAndV, uDrop, view, eqS, isNon, uSlX, uBreak, uCont]; exact rt_same q
  · simp_all! only [hne, eqS, uSeq, uIfS, capt, hTup, hCons, hNil, uEqX, uEqD, uLtX, uIn, items, uEnum, uZip, mExtend, mClear, bMax, bSum, uSeq, uIfS, uNext, uRet, uRetN, uAsg, hName, uDrop, vw_non, vw_bl, vw_int, vw_str, vw_tup, vw_lst, vw_own, mup_same, mup_mup, eqS, isNon, uSlX, uBreak, uCont]
    exact yes z r r.length hz (by rw [decide_eq_true rfl]; exact q)
def spTLeaf : USp := fun us M Q => ∃ u b, us = [u] ∧ LF u b ∧ Q (.bl b) M
local macro_rules | `(tactic| dsimp! only [$xs,*] $[$l]?) => `(tactic| simp only [$xs,*, Bool.false_eq_true, Bool.not_false, Bool.not_true, List.append_nil, List.cons_append, List.getElem?_cons_succ, List.getElem?_cons_zero, List.length_cons, List.length_nil, List.map_cons, List.map_nil, List.nil_append, List.replicate, List.set_cons_succ, List.set_cons_zero, Nat.add_sub_cancel, Nat.reduceAdd, Nat.reduceLeDiff, Nat.reduceSub, Nat.sub_self, Option.getD_some, Option.some.injEq, and_true, at0, at1, at2, at3, bAll, bInt, bInt1, bInt2, bIsi2, bLen, bList, bMax, bSum, bTuple, cGe, cGt, cLe, cLt, capt, decide_false, decide_true, eqX_int, eqX_str, exists_eq_left', if_false, if_true, inSt, isNon, isi_NoneType_bool, isi_NoneType_dict, isi_NoneType_int, isi_NoneType_list, isi_NoneType_str, isi_NoneType_tuple, isi_bool_bool, isi_bool_dict, isi_bool_int, isi_bool_list, isi_bool_str, isi_bool_tuple, isi_dict_bool, isi_dict_dict, isi_dict_int, isi_dict_list, isi_dict_str, isi_dict_tuple, isi_int_bool, isi_int_dict, isi_int_int, isi_int_list, isi_int_str, isi_int_tuple, isi_list_bool, isi_list_dict, isi_list_int, isi_list_list, isi_list_str, isi_list_tuple, isi_str_bool, isi_str_dict, isi_str_int, isi_str_list, isi_str_str, isi_str_tuple, isi_tuple_bool, isi_tuple_dict, isi_tuple_int, isi_tuple_list, isi_tuple_str, isi_tuple_tuple, items, mAppend, mClear, mExtend, mPop, mPopAt, mkL, mup_mup, mup_same, reduceCtorEq, startU, szl, true_and, typU, uAdd, uAddL, uAnd, uAndV, uBM, uBM0, uC, uCB, uCall, uCallV, uChain, uCons, uEnum, uEnumL, uEqS, uI, uI0, uIf, uIsN, uIter, uIx, uLst, uLtX, uMul, uNeS, uNil, uNoPart, uNot, uNotN, uNotV, uOp, uOr, uOrV, uPart, uRng1, uRng2, uSlX, uTest, uTru, uTup, uUn, uVar, uZip, vw_bl, vw_int, vw_lst, vw_non, vw_own, vw_str, vw_tup] $[$l]?)
theorem ok_is_tree_leaf (F : Fun K "is_tree_leaf" "is_tree_leaf" s_is_tree_leaf f fd) (m_isinstance : mg "isinstance" = none) (m_tuple : mg "tuple" = none) (m_len : mg "len" = none) (C_is_number : Callee P w K mg base 2 "is_number" spNumber []) (C_is_name : Callee P w K mg base 1 "is_name" spName []) : CalleeAt P w K mg base 3 f spTLeaf := by
  have h : FnOk P w K mg base CX0 3 f fd ["thing"] (liftSp K spTLeaf) := by
    refine fnok_of F sc_is_tree_leaf (fun us M Q h => by obtain ⟨x, y, rfl, _⟩ := h; rfl) (uss_cons (us_if (PWU.pt (uw_or (ut_not (ut_val (ue_b b_isi m_isinstance (ua_cons (uv 0) (ua_cons (ug_ty (n := "tuple") m_tuple) ua_nil))))) (uw_or1 (ut_c k_neX (ue_b b_len m_len (ua_cons (uv 0) ua_nil)) un_))))
  (uss_one (us_ret ub_))
  uss_nil)
  (uss_cons (us_if (ut_c k_eqX (ue_ix (uv 0) un_) us_)
  (uss_one (us_ret (ue_call C_is_number (ua_cons (ue_ix (uv 0) un_) ua_nil))))
  uss_nil)
  (uss_one (us_ret (ue_and (ue_c k_eqX (ue_ix (uv 0) un_) us_) (ue_one (ue_call C_is_name (ua_cons (ue_ix (uv 0) un_) ua_nil)))))))) ?_
    rintro us M Q ⟨u, b, rfl, hb, q⟩
    have hl : ∀ n : Nat, (!decide (((n + 1 : Nat) : Int) = 2)) = !decide (n = 1) := fun n => by
      by_cases e : n = 1
      · subst e; rfl
      · rw [decide_eq_false e, decide_eq_false (by omega)]
    have w1 : decide (Str.ofString "num" = Str.ofString "num") = true := by decide +kernel
    have w2 : decide (Str.ofString "name" = Str.ofString "num") = false := by decide +kernel
    have w3 : decide (Str.ofString "name" = Str.ofString "name") = true := by decide +kernel
    cases hb with
    | tnil => dsimp! only [show (!decide (((0 : Nat) : Int) = 2)) = true from rfl, hTup, hCons, hNil, uIn, inTab, ixTab, uSeq, uIfS, uNext, uRet, uRetN, uAsg, hName, uDrop, uBreak, uCont, uSetI, uListRev, uRev, uCallG, gL1, gL2, ulCons, ulLam, ulNil]; exact rt_same q
    | tt xs r h =>
      by_cases e : r.length = 1
      · dsimp! only [hl, e, hTup, hCons, hNil, uIn, inTab, ixTab, uSeq, uIfS, uNext, uRet, uRetN, uAsg, hName, uDrop, uBreak, uCont, uSetI, uListRev, uRev, uCallG, gL1, gL2, ulCons, ulLam, ulNil]
        refine h e _ _ _ (by decide +kernel) ?_
        dsimp! only [hTup, hCons, hNil, uIn, inTab, ixTab, uSeq, uIfS, uNext, uRet, uRetN, uAsg, hName, uDrop, uBreak, uCont, uSetI, uListRev, uRev, uCallG, gL1, gL2, ulCons, ulLam, ulNil]
        refine h e _ _ _ (by decide +kernel) ?_
        dsimp! only [hTup, hCons, hNil, uIn, inTab, ixTab, uSeq, uIfS, uNext, uRet, uRetN, uAsg, hName, uDrop, uBreak, uCont, uSetI, uListRev, uRev, uCallG, gL1, gL2, ulCons, ulLam, ulNil]
        exact rt_same q
      · dsimp! only [hl, e, hTup, hCons, hNil, uIn, inTab, ixTab, uSeq, uIfS, uNext, uRet, uRetN, uAsg, hName, uDrop, uBreak, uCont, uSetI, uListRev, uRev, uCallG, gL1, gL2, ulCons, ulLam, ulNil]
        exact rt_same q
    | tl xs r h =>
      by_cases e : r.length = 1
      · dsimp! only [hl, e, hTup, hCons, hNil, uIn, inTab, ixTab, uSeq, uIfS, uNext, uRet, uRetN, uAsg, hName, uDrop, uBreak, uCont, uSetI, uListRev, uRev, uCallG, gL1, gL2, ulCons, ulLam, ulNil]
        refine h e _ _ _ (by decide +kernel) ?_
        dsimp! only [hTup, hCons, hNil, uIn, inTab, ixTab, uSeq, uIfS, uNext, uRet, uRetN, uAsg, hName, uDrop, uBreak, uCont, uSetI, uListRev, uRev, uCallG, gL1, gL2, ulCons, ulLam, ulNil]
        refine h e _ _ _ (by decide +kernel) ?_
        dsimp! only [hTup, hCons, hNil, uIn, inTab, ixTab, uSeq, uIfS, uNext, uRet, uRetN, uAsg, hName, uDrop, uBreak, uCont, uSetI, uListRev, uRev, uCallG, gL1, gL2, ulCons, ulLam, ulNil]
        exact rt_same q
      · dsimp! only [hl, e, hTup, hCons, hNil, uIn, inTab, ixTab, uSeq, uIfS, uNext, uRet, uRetN, uAsg, hName, uDrop, uBreak, uCont, uSetI, uListRev, uRev, uCallG, gL1, gL2, ulCons, ulLam, ulNil]
        exact rt_same q
    | word z r h h2 =>
      by_cases e : r.length = 1
      · obtain ⟨n1, n2⟩ := h2 e
        dsimp! only [hl, e, n1, n2, hTup, hCons, hNil, uIn, inTab, ixTab, uSeq, uIfS, uNext, uRet, uRetN, uAsg, hName, uDrop, uBreak, uCont, uSetI, uListRev, uRev, uCallG, gL1, gL2, ulCons, ulLam, ulNil]
        exact rt_same q
      · dsimp! only [hl, e, hTup, hCons, hNil, uIn, inTab, ixTab, uSeq, uIfS, uNext, uRet, uRetN, uAsg, hName, uDrop, uBreak, uCont, uSetI, uListRev, uRev, uCallG, gL1, gL2, ulCons, ulLam, ulNil]
        exact rt_same q
    | num x h =>
      dsimp! only [hl, w1, hTup, hCons, hNil, uIn, inTab, ixTab, uSeq, uIfS, uNext, uRet, uRetN, uAsg, hName, uDrop, uBreak, uCont, uSetI, uListRev, uRev, uCallG, gL1, gL2, ulCons, ulLam, ulNil]
      exact ⟨x, rfl, h, rt_same q⟩
    | name x h =>
      dsimp! only [hl, w2, w3, hTup, hCons, hNil, uIn, inTab, ixTab, uSeq, uIfS, uNext, uRet, uRetN, uAsg, hName, uDrop, uBreak, uCont, uSetI, uListRev, uRev, uCallG, gL1, gL2, ulCons, ulLam, ulNil]
      exact ⟨x, rfl, h, rt_same q⟩
    | tn r =>
      by_cases e : r.length = 1
      · dsimp! only [hl, e, eqX_non, hTup, hCons, hNil, uIn, inTab, ixTab, uSeq, uIfS, uNext, uRet, uRetN, uAsg, hName, uDrop, uBreak, uCont, uSetI, uListRev, uRev, uCallG, gL1, gL2, ulCons, ulLam, ulNil]
        exact rt_same q
      · dsimp! only [hl, e, hTup, hCons, hNil, uIn, inTab, ixTab, uSeq, uIfS, uNext, uRet, uRetN, uAsg, hName, uDrop, uBreak, uCont, uSetI, uListRev, uRev, uCallG, gL1, gL2, ulCons, ulLam, ulNil]
        exact rt_same q
    | _ => dsimp! only [hTup, hCons, hNil, uIn, inTab, ixTab, uSeq, uIfS, uNext, uRet, uRetN, uAsg, hName, uDrop, uBreak, uCont, uSetI, uListRev, uRev, uCallG, gL1, gL2, ulCons, ulLam, ulNil]; exact rt_same q
  exact ⟨fd, _, h, F.kp, F.binds (ar1 fun _ _ _ _ _ _ _ => rfl)⟩
def ent (x : G × Nat) : U := .tup [x.1.toU, .int (x.2 : Nat)]
def tot : List (G × Nat) → Nat
  | [] => 0
  | x :: r => x.1.size + tot r
theorem tot_app : ∀ l r : List (G × Nat), tot (l ++ r) = tot l + tot r
  | [], _ => by simp [tot]
  | t :: l, r => by simp [tot, tot_app l r]; omega
def VV (c : Nat) (st : List (G × Nat)) : Prop := c + tot st ≤ 200 ∧ (∀ x ∈ st, x.2 + x.1.dep ≤ 41) ∧ ∀ x ∈ st, x.1.fit = true
def verd (g : G) : Bool := decide (g.size ≤ 200) && (decide (g.dep ≤ 40) && g.fit)
theorem verd_iff (g : G) : verd g = true ↔ VV 0 [(g, 1)] := by
  unfold verd VV
  simp only [Bool.and_eq_true, decide_eq_true_eq, tot, List.mem_cons, List.not_mem_nil, or_false, forall_eq]
  constructor
  · rintro ⟨a, b, c⟩; exact ⟨by omega, by omega, c⟩
  · rintro ⟨a, b, c⟩; exact ⟨by omega, by omega, c⟩
theorem vv_turn {c d : Nat} {st : List (G × Nat)} {a : G} : VV (c + 1) (st ++ [(a, d + 1)]) ↔ VV c (st ++ [(G.turn a, d)]) := by
  unfold VV
  simp only [tot_app, tot, List.mem_append, List.mem_cons, List.not_mem_nil, or_false, G.size]
  constructor
  · rintro ⟨h1, h2, h3⟩
    refine ⟨by omega, fun x hx => ?_, fun x hx => ?_⟩
    · rcases hx with hx | rfl
      · exact h2 x (.inl hx)
      · have := h2 (a, d + 1) (.inr rfl); simp only [G.dep] at this ⊢; omega
    · rcases hx with hx | rfl
      · exact h3 x (.inl hx)
      · exact h3 (a, d + 1) (.inr rfl)
  · rintro ⟨h1, h2, h3⟩
    refine ⟨by omega, fun x hx => ?_, fun x hx => ?_⟩
    · rcases hx with hx | rfl
      · exact h2 x (.inl hx)
      · have := h2 (G.turn a, d) (.inr rfl); simp only [G.dep] at this ⊢; omega
    · rcases hx with hx | rfl
      · exact h3 x (.inl hx)
      · exact h3 (G.turn a, d) (.inr rfl)
theorem vv_two {c d : Nat} {st : List (G × Nat)} {a b : G} {o : Op} : VV (c + 1) (st ++ [(a, d + 1), (b, d + 1)]) ↔ VV c (st ++ [(G.two o a b, d)]) := by
  unfold VV
  simp only [tot_app, tot, List.mem_append, List.mem_cons, List.not_mem_nil, or_false, G.size]
  constructor
  · rintro ⟨h1, h2, h3⟩
    refine ⟨by omega, fun x hx => ?_, fun x hx => ?_⟩
    · rcases hx with hx | rfl
      · exact h2 x (.inl hx)
      · have e1 := h2 (a, d + 1) (.inr (.inl rfl)); have e2 := h2 (b, d + 1) (.inr (.inr rfl)); simp only [G.dep] at e1 e2 ⊢; omega
    · rcases hx with hx | rfl
      · exact h3 x (.inl hx)
      · have e1 := h3 (a, d + 1) (.inr (.inl rfl)); have e2 := h3 (b, d + 1) (.inr (.inr rfl)); simp only [G.fit] at e1 e2 ⊢; rw [e1, e2]; rfl
  · rintro ⟨h1, h2, h3⟩
    have e1 := h2 (G.two o a b, d) (.inr rfl)
    have e2 := h3 (G.two o a b, d) (.inr rfl)
    simp only [G.dep, G.fit, Bool.and_eq_true] at e1 e2
    refine ⟨by omega, fun x hx => ?_, fun x hx => ?_⟩
    · rcases hx with hx | rfl | rfl
      · exact h2 x (.inl hx)
      · simp only; omega
      · simp only; omega
    · rcases hx with hx | rfl | rfl
      · exact h3 x (.inl hx)
      · exact e2.1
      · exact e2.2
theorem vv_leaf {c d : Nat} {st : List (G × Nat)} {u : U} (hd : d ≤ 40) : VV (c + 1) st ↔ VV c (st ++ [(G.leaf u true, d)]) := by
  unfold VV
  simp only [tot_app, tot, List.mem_append, List.mem_cons, List.not_mem_nil, or_false, G.size]
  constructor
  · rintro ⟨h1, h2, h3⟩
    refine ⟨by omega, fun x hx => ?_, fun x hx => ?_⟩
    · rcases hx with hx | rfl
      · exact h2 x hx
      · simp only [G.dep]; omega
    · rcases hx with hx | rfl
      · exact h3 x hx
      · rfl
  · rintro ⟨h1, h2, h3⟩
    exact ⟨by omega, fun x hx => h2 x (.inl hx), fun x hx => h3 x (.inl hx)⟩
theorem last_of {α : Type} (l : List α) : l = [] ∨ ∃ r x, l = r ++ [x] := by
  rcases List.eq_nil_or_concat l with h | ⟨r, x, h⟩
  · exact .inl h
  · exact .inr ⟨r, x, by simpa using h⟩
def spShape (fl : Addr) (s : USp) : USp := fun us M Q => ∃ (g : G) (L : U → Bool → Prop), us = [g.toU, .ref fl, .int 200, .int 40] ∧ g.wf L ∧ (∀ u b, L u b → ∃ b', LF u b') ∧ (∀ u b M' Q', Sub M M' → L u b → Q' (.bl b) M' → s [u] M' Q') ∧ Q (.bl (verd g)) M
theorem sg_turn : tabGet SIGNS (Str.ofString "turn") = some (.int 1) := by kernel_rfl
theorem sg_two (o : Op) : tabGet SIGNS o.word = some (.int 2) := by cases o <;> kernel_rfl
theorem ok_is_shape (F : Fun K "is_shape" "is_shape" s_is_shape f fd) (hm : mg "is_shape" = some (.ref f)) (C_is_sign : Callee P w K mg base 1 "is_sign" spSign []) {s : USp} {ka : Nat} (A_is_leaf : CalleeF P w K mg base (ka + 1) fl s) : Callee P w K mg base (ka + 2) "is_shape" (spShape fl s) [] := by
  refine callee2 F hm sc_is_shape (ar4 fun _ _ _ _ _ _ _ _ _ _ => rfl) (uss_cons (us_set 4 sc_is_shape.nd un_)
  (uss_cons (us_set 5 sc_is_shape.nd (ue_lst (own := true) (ua_cons (ue_tup (ua_cons (uv 0) (ua_cons un_ ua_nil))) ua_nil)))
  (uss_cons (us_while (ut_val (uv 5))
  (uss_cons (us_set 6 sc_is_shape.nd (ue_pop (uv 5)))
  (uss_cons (us_set 7 sc_is_shape.nd (ue_ix (uv 6) un_))
  (uss_cons (us_set 8 sc_is_shape.nd (ue_ix (uv 6) un_))
  (uss_cons (us_set 4 sc_is_shape.nd (ue_add (own := false) (uv 4) un_))
  (uss_cons (us_if (PWU.pt (uw_or (ut_c k_gt (uv 4) (uv 2)) (uw_or1 (ut_c k_gt (uv 8) (uv 3)))))
  (uss_one (us_ret ub_))
  uss_nil)
  (uss_one (us_if (ut_val (ue_call C_is_sign (ua_cons (uv 7) ua_nil)))
  (uss_one (us_expr (ue_extend (uv 5) (ua_cons (ue_comp false ["part", "depth"] 1 [8] (ui_seq (ue_slX (own := false) (uv 7) (uo_some un_) uo_none)) (ug_name (k := 1) 0 (by dsimp only [compD]; decide +kernel)) uif_nil (ue_tup (ua_cons (uv 0) (ua_cons (ue_add (own := false) (uv 1) un_) ua_nil)))) ua_nil))))
  (uss_one (us_if (ut_not (ut_val (ue_callf 1 A_is_leaf (ua_cons (uv 7) ua_nil))))
  (uss_one (us_ret ub_))
  uss_nil))))))))))
  (uss_one (us_ret ub_))))) ?_
  rintro us M Q ⟨g, L, rfl, hwf, hLF, hs, q⟩
  refine ⟨rfl, ?_⟩
  dsimp! only [hTup, hCons, hNil, uIn, inTab, ixTab, uSeq, uIfS, uNext, uRet, uRetN, uAsg, hName, uDrop, uBreak, uCont, uSetI, uListRev, uRev, uCallG, gL1, gL2, ulCons, ulLam, ulNil]
  refine fun p hp => ?_
  refine while_by (fun τ M' => ∃ (c : Nat) (st : List (G × Nat)) (e1 e2 e3 : Option U), τ = [some g.toU, some (.ref fl), some (.int 200), some (.int 40), some (.int (c : Nat)), some (.ref p), e1, e2, e3] ∧ M' = mup M p (.lst (st.map ent)) ∧ (∀ x ∈ st, x.1.wf L) ∧ c ≤ 200 ∧ st.length ≤ c + 1 ∧ (VV c st ↔ VV 0 [(g, 1)]))
    (fun τ _ => match τ with | [_, _, _, _, some (.int c), _, _, _, _] => 201 - c.toNat | _ => 0) ⟨0, [(g, 1)], none, none, none, rfl, rfl, (fun x hx => by cases List.mem_singleton.mp hx; exact hwf), by omega, by simp, Iff.rfl⟩ ?_
  rintro τ M' ⟨c, st, e1, e2, e3, rfl, rfl, hst, hc, hlen, hV⟩
  have no : ¬ VV c st → Q (.bl false) M := fun h => by
    have : verd g = false := by
      cases hv : verd g with
      | false => rfl
      | true => exact absurd (hV.mpr ((verd_iff g).mp hv)) h
    rw [this] at q
    exact q
  have fin : ∀ us, rtU Q (.bl false) (mup M p (.lst us)) ↔ rtU Q (.bl false) (mup M p (.lst us)) := fun _ => Iff.rfl
  have out : ∀ us, Q (.bl false) M → rtU Q (.bl false) (mup M p (.lst us)) := fun us h => ⟨_, M, (Sub.refl M).mup hp, .inl rfl, h⟩
  rcases last_of st with rfl | ⟨st, ⟨x, dd⟩, rfl⟩
  · dsimp! only [List.isEmpty_nil, hTup, hCons, hNil, uIn, inTab, ixTab, uSeq, uIfS, uNext, uRet, uRetN, uAsg, hName, uDrop, uBreak, uCont, uSetI, uListRev, uRev, uCallG, gL1, gL2, ulCons, ulLam, ulNil]
    have : verd g = true := by
      rw [verd_iff, ← hV]
      exact ⟨by simp only [tot]; omega, (fun x hx => by cases hx), (fun x hx => by cases hx)⟩
    rw [this] at q
    exact ⟨_, M, (Sub.refl M).mup hp, .inl rfl, q⟩
  · have hlen' : st.length ≤ c := by simpa using hlen
    have hxw : x.wf L := hst (x, dd) (by simp)
    have hse : (st.map ent ++ [U.tup [x.toU, U.int (dd : Nat)]]).isEmpty = false := by simp
    dsimp! only [List.map_append, hse, gl_1, dl_1, ent, hTup, hCons, hNil, uIn, inTab, ixTab, uSeq, uIfS, uNext, uRet, uRetN, uAsg, hName, uDrop, uBreak, uCont, uSetI, uListRev, uRev, uCallG, gL1, gL2, ulCons, ulLam, ulNil]
    refine ⟨isL_own, ite2 (fun h => ?_) (fun h => ite2 (fun h2 => ?_) (fun h2 => ?_))⟩
    · refine out _ (no fun hv => ?_)
      have := of_decide_eq_true h
      have h3 := hv.1
      rw [tot_app] at h3
      have h4 : 1 ≤ x.size := by cases x <;> simp only [G.size] <;> omega
      simp only [tot] at h3
      omega
    · refine out _ (no fun hv => ?_)
      have := of_decide_eq_true h2
      have h3 := hv.2.1 (x, dd) (by simp)
      have h4 : 1 ≤ x.dep := by cases x <;> simp only [G.dep] <;> omega
      simp only at h3
      omega
    · have hc1 : c + 1 ≤ 200 := by
        have : ¬ (200 : Int) < (c : Int) + 1 := fun z => h (decide_eq_true z)
        omega
      have hdd : dd ≤ 40 := by
        have : ¬ (40 : Int) < (dd : Int) := fun z => h2 (decide_eq_true z)
        omega
      have hst' : ∀ y ∈ st, y.1.wf L := fun y hy => hst y (by simp [hy])
      cases x with
      | leaf u b =>
        obtain ⟨b', hb'⟩ := hLF u b hxw
        refine ⟨_, rfl, .inl ⟨b', hb', ?_⟩⟩
        dsimp! only [hTup, hCons, hNil, uIn, inTab, ixTab, uSeq, uIfS, uNext, uRet, uRetN, uAsg, hName, uDrop, uBreak, uCont, uSetI, uListRev, uRev, uCallG, gL1, gL2, ulCons, ulLam, ulNil]
        refine hs u b _ _ ((Sub.refl M).mup hp) hxw ?_
        cases b with
        | false =>
          dsimp! only [hTup, hCons, hNil, uIn, inTab, ixTab, uSeq, uIfS, uNext, uRet, uRetN, uAsg, hName, uDrop, uBreak, uCont, uSetI, uListRev, uRev, uCallG, gL1, gL2, ulCons, ulLam, ulNil]
          refine out _ (no fun hv => ?_)
          have := hv.2.2 (G.leaf u false, dd) (by simp)
          cases this
        | true =>
          dsimp! only [hTup, hCons, hNil, uIn, inTab, ixTab, uSeq, uIfS, uNext, uRet, uRetN, uAsg, hName, uDrop, uBreak, uCont, uSetI, uListRev, uRev, uCallG, gL1, gL2, ulCons, ulLam, ulNil]
          refine ⟨⟨c + 1, st, _, _, _, rfl, rfl, hst', hc1, by omega, ?_⟩, by omega⟩
          rw [← hV]
          exact vv_leaf hdd
      | turn a =>
        refine ⟨_, rfl, .inr ⟨_, _, rfl, sg_turn, ?_⟩⟩
        dsimp! only [G.toU, hTup, hCons, hNil, uIn, inTab, ixTab, uSeq, uIfS, uNext, uRet, uRetN, uAsg, hName, uDrop, uBreak, uCont, uSetI, uListRev, uRev, uCallG, gL1, gL2, ulCons, ulLam, ulNil]
        refine ⟨isL_own, uComp_list (S := ⟨none, [a.toU]⟩) (M1 := mup M p (.lst (st.map ent))) [ent (a, dd + 1)] (fun R r => ?_) rfl (show 1 ≤ sizeLine by decide) (fun a e => by cases e) ?_ ?_⟩
        · dsimp! only [cut1, hTup, hCons, hNil, uIn, inTab, ixTab, uSeq, uIfS, uNext, uRet, uRetN, uAsg, hName, uDrop, uBreak, uCont, uSetI, uListRev, uRev, uCallG, gL1, gL2, ulCons, ulLam, ulNil]
          exact r
        · intro j x y hx hy M' _ R r'
          match j, hx, hy with
          | 0, hx, hy =>
            cases hx; cases hy
            dsimp! only [hTup, hCons, hNil, uIn, inTab, ixTab, uSeq, uIfS, uNext, uRet, uRetN, uAsg, hName, uDrop, uBreak, uCont, uSetI, uListRev, uRev, uCallG, gL1, gL2, ulCons, ulLam, ulNil]
            first | refine ⟨by decide, ?_⟩ | skip
            have e : U.tup [a.toU, U.int ((dd : Int) + 1)] = ent (a, dd + 1) := rfl
            rw [e]; exact r'
          | j + 1, hx, hy => cases hx
        · dsimp! only [hTup, hCons, hNil, uIn, inTab, ixTab, uSeq, uIfS, uNext, uRet, uRetN, uAsg, hName, uDrop, uBreak, uCont, uSetI, uListRev, uRev, uCallG, gL1, gL2, ulCons, ulLam, ulNil]
          refine ⟨small (by simp; omega), ⟨c + 1, st ++ [(a, dd + 1)], _, _, _, rfl, by rw [List.map_append]; rfl, ?_, hc1, by simp; omega, ?_⟩, by omega⟩
          · intro y hy
            rcases List.mem_append.mp hy with hy | hy
            · exact hst' y hy
            · cases List.mem_singleton.mp hy; exact hxw
          · rw [← hV]; exact vv_turn
      | two o a b =>
        refine ⟨_, rfl, .inr ⟨_, _, rfl, sg_two o, ?_⟩⟩
        dsimp! only [G.toU, hTup, hCons, hNil, uIn, inTab, ixTab, uSeq, uIfS, uNext, uRet, uRetN, uAsg, hName, uDrop, uBreak, uCont, uSetI, uListRev, uRev, uCallG, gL1, gL2, ulCons, ulLam, ulNil]
        refine ⟨isL_own, uComp_list (S := ⟨none, [a.toU, b.toU]⟩) (M1 := mup M p (.lst (st.map ent))) [ent (a, dd + 1), ent (b, dd + 1)] (fun R r => ?_) rfl (show 2 ≤ sizeLine by decide) (fun a e => by cases e) ?_ ?_⟩
        · dsimp! only [cut1, hTup, hCons, hNil, uIn, inTab, ixTab, uSeq, uIfS, uNext, uRet, uRetN, uAsg, hName, uDrop, uBreak, uCont, uSetI, uListRev, uRev, uCallG, gL1, gL2, ulCons, ulLam, ulNil]
          exact r
        · intro j x y hx hy M' _ R r'
          match j, hx, hy with
          | 0, hx, hy =>
            cases hx; cases hy
            dsimp! only [hTup, hCons, hNil, uIn, inTab, ixTab, uSeq, uIfS, uNext, uRet, uRetN, uAsg, hName, uDrop, uBreak, uCont, uSetI, uListRev, uRev, uCallG, gL1, gL2, ulCons, ulLam, ulNil]
            first | refine ⟨by decide, ?_⟩ | skip
            have e : U.tup [a.toU, U.int ((dd : Int) + 1)] = ent (a, dd + 1) := rfl
            rw [e]; exact r'
          | 1, hx, hy =>
            cases hx; cases hy
            dsimp! only [hTup, hCons, hNil, uIn, inTab, ixTab, uSeq, uIfS, uNext, uRet, uRetN, uAsg, hName, uDrop, uBreak, uCont, uSetI, uListRev, uRev, uCallG, gL1, gL2, ulCons, ulLam, ulNil]
            first | refine ⟨by decide, ?_⟩ | skip
            have e : U.tup [b.toU, U.int ((dd : Int) + 1)] = ent (b, dd + 1) := rfl
            rw [e]; exact r'
          | j + 2, hx, hy => cases hx
        · dsimp! only [hTup, hCons, hNil, uIn, inTab, ixTab, uSeq, uIfS, uNext, uRet, uRetN, uAsg, hName, uDrop, uBreak, uCont, uSetI, uListRev, uRev, uCallG, gL1, gL2, ulCons, ulLam, ulNil]
          refine ⟨small (by simp; omega), ⟨c + 1, st ++ [(a, dd + 1), (b, dd + 1)], _, _, _, rfl, by rw [List.map_append]; rfl, ?_, hc1, by simp; omega, ?_⟩, by omega⟩
          · intro y hy
            rcases List.mem_append.mp hy with hy | hy
            · exact hst' y hy
            · simp only [List.mem_cons, List.not_mem_nil, or_false] at hy
              rcases hy with rfl | rfl
              · exact hxw.1
              · exact hxw.2
          · rw [← hV]; exact vv_two
def spIsTree : USp := fun us M Q => ∃ g : G, us = [g.toU] ∧ g.wf LF ∧ Q (.bl (verd g)) M
theorem ok_is_tree {t1 t2 : Tok} (F : Fun K "is_tree" "is_tree" s_is_tree f fd) (hm : mg "is_tree" = some (.ref f)) (v_is_tree_leaf : mg "is_tree_leaf" = some (.ref fl)) (g_TREE_PIECES : mg "TREE_PIECES" = some (.int 200 t1)) (g_TREE_WITHIN : mg "TREE_WITHIN" = some (.int 40 t2)) (C_is_shape : Callee P w K mg base 4 "is_shape" (spShape fl spTLeaf) []) : Callee P w K mg base 5 "is_tree" spIsTree [] := by
  refine callee2 F hm sc_is_tree (ar1 fun _ _ _ _ _ _ _ => rfl) (uss_one (us_ret (ue_call C_is_shape (ua_cons (uv 0) (ua_cons (ug_ref v_is_tree_leaf) (ua_cons (ug_int g_TREE_PIECES) (ua_cons (ug_int g_TREE_WITHIN) ua_nil))))))) ?_
  rintro us M Q ⟨g, rfl, hwf, q⟩
  refine ⟨rfl, ?_⟩
  dsimp! only [hTup, hCons, hNil, uIn, inTab, ixTab, uSeq, uIfS, uNext, uRet, uRetN, uAsg, hName, uDrop, uBreak, uCont, uSetI, uListRev, uRev, uCallG, gL1, gL2, ulCons, ulLam, ulNil]
  exact ⟨g, LF, rfl, hwf, fun u b h => ⟨b, h⟩, fun u b M' Q' _ h hq => ⟨u, b, rfl, h, hq⟩, rt_same q⟩
theorem seqx_gen {t u : USX} {De : UEnds} {E : UXS} {τ : SU} {M : MHp} (h : ∀ V, V = u De E → t { De with nx := V } E τ M) : uxSeq t u De E τ M := h _ rfl
theorem ifx_gen {c : UT} {t u : USX} {De : UEnds} {E : UXS} {τ : SU} {M : MHp} (h : ∀ A B : MHp → Prop, A = t De E τ → B = u De E τ → c τ M fun b M1 => if b = true then A M1 else B M1) : uxIf c t u De E τ M := h _ _ rfl rfl
theorem rt_own {Q : UK} {v : U} {M : MHp} {p : Addr} {o o' : MO} (h : M p = some o) (q : Q v (mup M p o')) : rtU Q v (mup M p o') := rt_same q
theorem lenL (z : Str) : z.cps.toList.length = z.length := by simp [Str.length]
theorem idx_clip (i j len : Nat) : Builtin.Str.strSliceIndices (some (i : Int)) (some (j : Int)) 1 len = Builtin.Str.strSliceIndices (some ((min i len : Nat) : Int)) (some ((min j len : Nat) : Int)) 1 len := by
  unfold Builtin.Str.strSliceIndices
  have h1 : ∀ k : Nat, max (0 : Int) (min (if ((k : Nat) : Int) < 0 then ((k : Nat) : Int) + (len : Int) else ((k : Nat) : Int)) (len : Int)) = max (0 : Int) (min (if ((min k len : Nat) : Int) < 0 then ((min k len : Nat) : Int) + (len : Int) else ((min k len : Nat) : Int)) (len : Int)) := fun k => by
    rw [if_neg (by omega), if_neg (by omega)]; omega
  simp only [show ((1 : Int) > 0) = True by decide, if_true, h1 i, h1 j]
theorem slcG (z : Str) {i j : Nat} (h : i ≤ j) : Txt.slice z (some (i : Int)) (some (j : Int)) = tx ((z.cps.toList.drop i).take (j - i)) := by
  have hl := lenL z
  have e := PySem.StrLaws.sliced_plain z (a := min i z.length) (b := min j z.length) (by omega) (by omega)
  have e0 : (z.cps.toList.drop (min i z.length)).take (min j z.length - min i z.length) = (z.cps.toList.drop i).take (j - i) := by
    by_cases hi : i ≤ z.length
    · rw [Nat.min_eq_left hi]
      by_cases hj : j ≤ z.length
      · rw [Nat.min_eq_left hj]
      · rw [Nat.min_eq_right (by omega), List.take_of_length_le (by rw [List.length_drop]; omega), List.take_of_length_le (by rw [List.length_drop]; omega)]
    · rw [List.drop_eq_nil_of_le (by omega : z.cps.toList.length ≤ i), List.take_nil]
      have : min j z.length - min i z.length = 0 := by omega
      rw [this, List.take_zero]
  unfold Txt.slice
  rw [idx_clip i j z.length]
  split
  · rename_i hc
    have hc' : (Builtin.Str.strSliceIndices (some ((min i z.length : Nat) : Int)) (some ((min j z.length : Nat) : Int)) 1 z.length).length = z.length := by simpa using hc
    rw [PySem.StrLaws.strSliceIndices_plain (by omega) (by omega)] at hc'
    simp only [List.length_map, List.length_range] at hc'
    rw [← e0, List.take_of_length_le (by rw [List.length_drop]; omega)]
    by_cases h0 : z.length = 0
    · have : z.cps.toList = [] := List.length_eq_zero_iff.mp (by omega)
      rw [this, List.drop_nil, ← tx_of z, this]
    · have : min i z.length = 0 := by omega
      rw [this, List.drop_zero, tx_of]
  · rw [e, e0]; rfl
theorem take1 (L : List Nat) (i : Nat) : (L.drop i).take 1 = L[i]?.toList := by
  cases h : L[i]? with
  | none => rw [List.drop_eq_nil_of_le (List.getElem?_eq_none_iff.mp h)]; rfl
  | some c =>
    obtain ⟨hi, e⟩ := List.getElem?_eq_some_iff.mp h
    rw [List.drop_eq_getElem_cons hi, e]; rfl
theorem dec_one (L : List Nat) (i c : Nat) : decide (tx ((L.drop i).take 1) = tx [c]) = decide (L[i]? = some c) := by
  refine decide_eq_decide.mpr ?_
  rw [take1]
  cases L[i]? with
  | none => simp [tx]
  | some x => simp [tx]
theorem slc1G (z : Str) (i : Nat) : Txt.slice z (some (i : Int)) (some ((i : Int) + 1)) = tx ((z.cps.toList.drop i).take 1) := by
  have := slcG z (i := i) (j := i + 1) (by omega)
  rw [show i + 1 - i = 1 by omega] at this
  exact this
def FIG : Str := "0123456789"
def condT (v : V) : Prop := ∃ i : Nat, v = .int (i : Int) ∧ i ≤ 1000000
def eAt (i : Nat) : List (Str × U) := [(Str.ofString "at", .int (i : Int))]
theorem cT_ok {i : Nat} (h : i ≤ 1000000) : ∃ v, U2.flatV (.int (i : Int)) = some v ∧ condT v := ⟨_, rfl, i, rfl, h⟩
def spNeedX (N : Addr) : USpX := fun us M Q E => ∃ (z : Str) (i c : Nat), us = [.str z, .int (i : Int), .str (tx [c])] ∧ z.length ≤ 100000 ∧ i ≤ 200000 ∧ (if z.cps.toList[i]? = some c then Q .non M else E N (eAt i) M)
local macro_rules | `(tactic| simp! only [$xs,*] $[$l]?) => `(tactic| simp only [$xs,*, Bool.false_eq_true, Bool.not_false, Bool.not_true, List.append_nil, List.cons_append, List.getElem?_cons_succ, List.getElem?_cons_zero, List.length_cons, List.length_nil, List.map_cons, List.map_nil, List.nil_append, List.replicate, List.set_cons_succ, List.set_cons_zero, Nat.add_sub_cancel, Nat.reduceAdd, Nat.reduceLeDiff, Nat.reduceSub, Nat.sub_self, Option.getD_some, Option.some.injEq, and_true, at0, at1, at2, at3, bAll, bInt, bInt1, bInt2, bIsi2, bLen, bList, bMax, bSum, bTuple, cGe, cGt, cLe, cLt, capt, decide_false, decide_true, eqX_int, eqX_str, exists_eq_left', if_false, if_true, inSt, isNon, isi_NoneType_bool, isi_NoneType_dict, isi_NoneType_int, isi_NoneType_list, isi_NoneType_str, isi_NoneType_tuple, isi_bool_bool, isi_bool_dict, isi_bool_int, isi_bool_list, isi_bool_str, isi_bool_tuple, isi_dict_bool, isi_dict_dict, isi_dict_int, isi_dict_list, isi_dict_str, isi_dict_tuple, isi_int_bool, isi_int_dict, isi_int_int, isi_int_list, isi_int_str, isi_int_tuple, isi_list_bool, isi_list_dict, isi_list_int, isi_list_list, isi_list_str, isi_list_tuple, isi_str_bool, isi_str_dict, isi_str_int, isi_str_list, isi_str_str, isi_str_tuple, isi_tuple_bool, isi_tuple_dict, isi_tuple_int, isi_tuple_list, isi_tuple_str, isi_tuple_tuple, items, mAppend, mClear, mExtend, mPop, mPopAt, mkL, mup_mup, mup_same, reduceCtorEq, startU, szl, true_and, typU, uAdd, uAddL, uAnd, uAndV, uBM, uBM0, uC, uCB, uCall, uCallV, uChain, uCons, uEnum, uEnumL, uEqS, uI, uI0, uIf, uIsN, uIter, uIx, uLst, uLtX, uMul, uNeS, uNil, uNoPart, uNot, uNotN, uNotV, uOp, uOr, uOrV, uPart, uRng1, uRng2, uSlX, uTest, uTru, uTup, uUn, uVar, uZip, ux0, uxCall, uxCallV, vw_bl, vw_int, vw_lst, vw_non, vw_own, vw_str, vw_tup] $[$l]?)
theorem ok_needX {N : Addr} (F : Fun K "need_sign" "need_sign" s_need_sign f fd) (hm : mg "need_sign" = some (.ref f)) (X_NoText : ExcC P w K mg base 1 "NoText" N "at" condT) : CalleeX P w K mg base 3 "need_sign" (spNeedX N) [] := by
  refine calleeX_of F hm sc_need_sign (ar3 fun _ _ _ _ _ _ _ _ _ => rfl) (fun us M Q E h => by obtain ⟨_, _, _, rfl, _⟩ := h; rfl) (ux_one (ux_if (ut_c k_neX (ue_slX (own := false) (uv 0) (uo_some (uv 1)) (uo_some (ue_add (own := false) (uv 1) un_))) (uv 2))
  (ux_one (ux_raise X_NoText (uv 1)))
  (uxs_of uss_nil))) ?_
  rintro us M Q E ⟨z, i, c, rfl, hz, hi, q⟩
  refine ifx_gen fun A B hA hB => ?_
  simp! only [slc1G, dec_one]
  refine ⟨small hz, ?_⟩
  by_cases h : z.cps.toList[i]? = some c
  · rw [if_pos h] at q
    rw [decide_eq_true h]
    subst hB
    simp! only [uNext]
    exact rt_same q
  · rw [if_neg h] at q
    rw [decide_eq_false h]
    subst hA
    simp! only [uxRaise]
    exact ⟨cT_ok (by omega), M, Sub.refl M, q⟩
def GR : Nat := 1000000000000000000
def numF (v k : Nat) : List Nat → Nat × Nat
  | [] => (v, k)
  | c :: r => if 48 ≤ c ∧ c ≤ 57 then (if v * 10 + (c - 48) > GR ∨ (v = 0 ∧ 0 < k) then (v, k) else numF (v * 10 + (c - 48)) (k + 1) r) else (v, k)
def rdNum (L : List Nat) (i : Nat) : Except Nat (Nat × Nat) := if (numF 0 0 (L.drop i)).2 = 0 then .error i else .ok ((numF 0 0 (L.drop i)).1, i + (numF 0 0 (L.drop i)).2)
def spNumX (N : Addr) : USpX := fun us M Q E => ∃ (z : Str) (i : Nat), us = [.str z, .int (i : Int)] ∧ z.length ≤ 100000 ∧ i ≤ 200000 ∧ (match rdNum z.cps.toList i with
  | .ok (v, j) => Q (.tup [.int (v : Int), .int (j : Int)]) M
  | .error k => E N (eAt k) M)
theorem mem_fig (c : Nat) : decide (c ∈ FIG.cps.toList) = decide (48 ≤ c ∧ c ≤ 57) := by
  have : FIG.cps.toList = List.range' 48 10 := by decide +kernel
  rw [this]
  refine decide_eq_decide.mpr ?_
  rw [List.mem_range'_1]
  omega
theorem in_fig (c : Nat) : (!(Builtin.Str.occurrences FIG ⟨#[c]⟩ 0 FIG.length 1).isEmpty) = decide (48 ≤ c ∧ c ≤ 57) := by rw [PySem.StrLaws.found_one, mem_fig]
theorem find_fig {c : Nat} (h : 48 ≤ c ∧ c ≤ 57) : findF FIG ⟨#[c]⟩ = ((c - 48 : Nat) : Int) := by
  have : ∀ k : Fin 10, findF FIG ⟨#[48 + k.val]⟩ = (k.val : Int) := by decide +kernel
  have := this ⟨c - 48, by omega⟩
  simp only at this
  rw [show 48 + (c - 48) = c by omega] at this
  exact this
theorem atI_of {L : List Nat} {i c : Nat} (h : L[i]? = some c) : atI L (i : Int) = some c := by
  have hl := (List.getElem?_eq_some_iff.mp h).1
  unfold atI ixN
  rw [if_pos (by omega), if_pos (by omega)]
  simpa using h
theorem bits60 {v : Int} (h1 : -1000000000000000000 ≤ v) (h2 : v ≤ 1000000000000000000) : Builtin.Int.intBits v ≤ 60 := PySem.intBits_le_iff.mpr (by omega)
theorem mulB {i j : Int} (h1 : -1000000000000000000 ≤ i) (h2 : i ≤ 1000000000000000000) (h3 : -1000000000000000000 ≤ j) (h4 : j ≤ 1000000000000000000) : CMulB i j := .inr ⟨Nat.le_trans (bits60 h1 h2) (by decide), Nat.le_trans (bits60 h3 h4) (by decide)⟩
theorem ok_numX {N : Addr} {t1 t2 : Tok} (F : Fun K "read_number" "read_number" s_read_number f fd) (hm : mg "read_number" = some (.ref f)) (m_len : mg "len" = none) (g_GREATEST : mg "GREATEST" = some (.int 1000000000000000000 t1)) (g_FIGURES : mg "FIGURES" = some (.str FIG t2)) (X_NoText : ExcC P w K mg base 1 "NoText" N "at" condT) : CalleeX P w K mg base 3 "read_number" (spNumX N) [] := by
  refine calleeX_of F hm sc_read_number (ar2 fun _ _ _ _ _ _ _ _ => rfl) (fun us M Q E h => by obtain ⟨_, _, rfl, _⟩ := h; rfl) (ux_cons (ux_of (us_set 2 sc_read_number.nd un_))
  (ux_cons (ux_of (us_set 3 sc_read_number.nd (uv 1)))
  (ux_cons (ux_of (us_while (PWU.pt (uw_and (ut_c k_ltX (uv 3) (ue_b b_len m_len (ua_cons (uv 0) ua_nil))) (uw_and1 (ut_c k_inS (ue_ix (uv 0) (uv 3)) (ug_str g_FIGURES)))))
  (uss_cons (us_set 4 sc_read_number.nd (ue_add (own := false) (ue_mulX (own := false) (uv 2) un_) (ue_find (ug_str g_FIGURES) (ua_cons (ue_ix (uv 0) (uv 3)) ua_nil))))
  (uss_cons (us_if (PWU.pt (uw_or (ut_c k_gt (uv 4) (ug_int g_GREATEST)) (uw_or1 (PWU.pt (uw_and (ut_c k_eqX (uv 2) un_) (uw_and1 (ut_c k_gt (uv 3) (uv 1))))))))
  (uss_one us_break)
  uss_nil)
  (uss_cons (us_set 2 sc_read_number.nd (uv 4))
  (uss_one (us_set 3 sc_read_number.nd (ue_add (own := false) (uv 3) un_))))))))
  (ux_cons (ux_if (ut_c k_eqX (uv 3) (uv 1))
  (ux_one (ux_raise X_NoText (uv 1)))
  (uxs_of uss_nil))
  (ux_one (ux_of (us_ret (ue_tup (ua_cons (uv 2) (ua_cons (uv 3) ua_nil)))))))))) ?_
  rintro us M Q E ⟨z, i, rfl, hz, hi, q⟩
  have hL := lenL z
  refine seqx_gen fun V1 hV1 => ?_
  simp! only [uAsg, hName]
  subst hV1
  refine seqx_gen fun V2 hV2 => ?_
  simp! only [uAsg, hName]
  subst hV2
  refine seqx_gen fun V3 hV3 => ?_
  simp only [ux0]
  refine while_by (fun τ M' => ∃ (k v : Nat) (e : Option U), τ = [some (.str z), some (.int (i : Int)), some (.int (v : Int)), some (.int ((i + k : Nat) : Int)), e] ∧ M' = M ∧ v ≤ GR ∧ numF v k (z.cps.toList.drop (i + k)) = numF 0 0 (z.cps.toList.drop i)) (fun τ _ => match τ with | [_, _, _, some (.int e), _] => z.length - e.toNat | _ => 0) ⟨0, 0, none, rfl, rfl, by decide, rfl⟩ ?_
  rintro τ M' ⟨k, v, e, rfl, rfl, hv, hn⟩
  have fin : ∀ (e : Option U), numF 0 0 (z.cps.toList.drop i) = (v, k) → V3 [some (U.str z), some (U.int (i : Int)), some (U.int (v : Int)), some (U.int ((i + k : Nat) : Int)), e] M' := fun e he => by
    subst hV3
    refine seqx_gen fun V4 hV4 => ?_
    refine ifx_gen fun A B hA hB => ?_
    simp! only [true_and]
    unfold rdNum at q
    rw [he] at q
    by_cases hk : k = 0
    · rw [decide_eq_true (by omega), if_pos rfl]
      rw [if_pos hk] at q
      subst hA
      simp! only [uxRaise]
      exact ⟨cT_ok (by omega), M', Sub.refl M', q⟩
    · rw [decide_eq_false (by omega), if_neg (by simp)]
      rw [if_neg hk] at q
      subst hB
      simp! only [uNext]
      subst hV4
      simp! only [uRet]
      exact rt_same q
  simp! only [true_and]
  refine ⟨small hz, ?_⟩
  cases hd : z.cps.toList.drop (i + k) with
  | nil =>
    rw [hd] at hn
    have hlt : z.cps.toList.length ≤ i + k := List.drop_eq_nil_iff.mp hd
    rw [if_neg (fun e => by have := of_decide_eq_true e; omega)]
    exact fin e hn.symm
  | cons c r =>
    obtain ⟨a1, a2, a3⟩ := drop_at hd
    rw [hd] at hn
    rw [if_pos (decide_eq_true (by omega))]
    refine ⟨small hz, c, atI_of a1, ?_⟩
    rw [in_fig]
    by_cases hc : 48 ≤ c ∧ c ≤ 57
    · rw [decide_eq_true hc, if_pos rfl]
      simp only [numF, if_pos hc] at hn
      refine seq_gen fun V4 hV4 => ?_
      have hG : (GR : Nat) = 1000000000000000000 := rfl
      simp! only [uAsg, hName, uBMF, mFind, isTx]
      refine ⟨mulB (by omega) (by omega) (by decide) (by decide), ⟨_, rfl⟩, small hz, _, atI_of a1, ?_⟩
      rw [find_fig hc]
      have ev : ((v : Int) * 10 + ((c - 48 : Nat) : Int)) = ((v * 10 + (c - 48) : Nat) : Int) := by omega
      rw [ev]
      generalize hx : v * 10 + (c - 48) = x at hn
      subst hV4
      refine seq_gen fun V5 hV5 => ?_
      refine if_gen fun A B hA hB => ?_
      simp! only [true_and]
      by_cases hstop : x > GR ∨ (v = 0 ∧ 0 < k)
      · rw [if_pos hstop] at hn
        have hA' : A M' := by
          subst hA
          simp! only [uBreak]
          exact fin _ hn.symm
        refine ite2 (fun _ => hA') (fun b1 => ite2 (fun _ => ite2 (fun _ => hA') fun b3 => ?_) fun b2 => ?_)
        · have h1 : ¬ ((1000000000000000000 : Int) < (x : Int)) := fun z => b1 (decide_eq_true z)
          have h3 : ¬ ((i : Int) < ((i + k : Nat) : Int)) := fun z => b3 (decide_eq_true z)
          omega
        · have h1 : ¬ ((1000000000000000000 : Int) < (x : Int)) := fun z => b1 (decide_eq_true z)
          have h2 : ¬ ((v : Int) = 0) := fun z => b2 (decide_eq_true z)
          omega
      · rw [if_neg hstop] at hn
        have hB' : B M' := by
          subst hB
          simp only [uNext]
          subst hV5
          simp! only [uSeq, uAsg, hName]
          refine ⟨⟨k + 1, x, some (.int (x : Int)), by rw [show (((i + k : Nat) : Int) + 1) = ((i + (k + 1) : Nat) : Int) by omega], by omega, ?_⟩, by omega⟩
          rw [show i + (k + 1) = i + k + 1 by omega, a3]
          exact hn
        refine ite2 (fun b1 => ?_) (fun _ => ite2 (fun b2 => ite2 (fun b3 => ?_) fun _ => hB') fun _ => hB')
        · have := of_decide_eq_true b1
          omega
        · have h2 := of_decide_eq_true b2
          have h3 := of_decide_eq_true b3
          omega
    · rw [decide_eq_false hc, if_neg (by simp)]
      simp only [numF, if_neg hc] at hn
      exact fin e hn.symm
def nmF : Nat → List Nat → Nat
  | 0, _ => 0
  | _, [] => 0
  | n + 1, c :: r => if 97 ≤ c ∧ c ≤ 122 then nmF n r + 1 else 0
theorem nmF_le : ∀ (n : Nat) (l : List Nat), nmF n l ≤ n ∧ nmF n l ≤ l.length
  | 0, l => ⟨Nat.le_refl _, Nat.zero_le _⟩
  | n + 1, [] => ⟨Nat.zero_le _, Nat.le_refl _⟩
  | n + 1, c :: r => by
    have := nmF_le n r
    simp only [nmF, List.length_cons]
    split <;> omega
theorem mem_let (c : Nat) : decide (c ∈ LET.cps.toList) = decide (97 ≤ c ∧ c ≤ 122) := by
  have : LET.cps.toList = List.range' 97 26 := by decide +kernel
  rw [this]
  refine decide_eq_decide.mpr ?_
  rw [List.mem_range'_1]
  omega
theorem in_let (c : Nat) : (!(Builtin.Str.occurrences LET ⟨#[c]⟩ 0 LET.length 1).isEmpty) = decide (97 ≤ c ∧ c ≤ 122) := by rw [PySem.StrLaws.found_one, mem_let]
def spEndX : USp := fun us M Q => ∃ (z : Str) (i : Nat), us = [.str z, .int (i : Int)] ∧ z.length ≤ 100000 ∧ Q (.int ((i + nmF 8 (z.cps.toList.drop i) : Nat) : Int)) M
theorem ok_endX {t1 t2 : Tok} (F : Fun K "end_of_name" "end_of_name" s_end_of_name f fd) (hm : mg "end_of_name" = some (.ref f)) (m_len : mg "len" = none) (g_LONGEST_NAME : mg "LONGEST_NAME" = some (.int 8 t1)) (g_LETTERS : mg "LETTERS" = some (.str LET t2)) : Callee P w K mg base 1 "end_of_name" spEndX [] := by
  refine callee2 F hm sc_end_of_name (ar2 fun _ _ _ _ _ _ _ _ => rfl) (uss_cons (us_set 2 sc_end_of_name.nd (uv 1))
  (uss_cons (us_while (PWU.pt (uw_and (ut_c k_ltX (uv 2) (ue_b b_len m_len (ua_cons (uv 0) ua_nil))) (uw_and (ut_c k_ltX (uv 2) (ue_add (own := false) (uv 1) (ug_int g_LONGEST_NAME))) (uw_and1 (ut_c k_inS (ue_ix (uv 0) (uv 2)) (ug_str g_LETTERS))))))
  (uss_one (us_set 2 sc_end_of_name.nd (ue_add (own := false) (uv 2) un_))))
  (uss_one (us_ret (uv 2))))) ?_
  rintro us M Q ⟨z, i, rfl, hz, q⟩
  refine ⟨rfl, ?_⟩
  have hL := lenL z
  refine seq_gen fun V1 hV1 => ?_
  simp! only [uAsg, hName]
  subst hV1
  refine seq_gen fun V2 hV2 => ?_
  refine while_by (fun τ M' => ∃ k : Nat, τ = [some (.str z), some (.int (i : Int)), some (.int ((i + k : Nat) : Int))] ∧ M' = M ∧ k ≤ 8 ∧ k + nmF (8 - k) (z.cps.toList.drop (i + k)) = nmF 8 (z.cps.toList.drop i)) (fun τ _ => match τ with | [_, _, some (.int e)] => i + 8 - e.toNat | _ => 0) ⟨0, rfl, rfl, by decide, by rw [Nat.zero_add, Nat.add_zero]⟩ ?_
  rintro τ M' ⟨k, rfl, rfl, hk, hn⟩
  have fin : nmF (8 - k) (z.cps.toList.drop (i + k)) = 0 → V2 [some (U.str z), some (U.int (i : Int)), some (U.int ((i + k : Nat) : Int))] M' := fun h0 => by
    rw [h0] at hn
    subst hV2
    simp! only [uRet]
    rw [← hn] at q
    exact rt_same q
  simp! only [true_and]
  refine ⟨small hz, ?_⟩
  cases hd : z.cps.toList.drop (i + k) with
  | nil =>
    have hlt : z.cps.toList.length ≤ i + k := List.drop_eq_nil_iff.mp hd
    rw [if_neg (fun e => by have := of_decide_eq_true e; omega)]
    refine fin ?_
    rw [hd]; cases (8 - k) <;> rfl
  | cons c r =>
    obtain ⟨a1, a2, a3⟩ := drop_at hd
    rw [if_pos (decide_eq_true (by omega))]
    by_cases h8 : k = 8
    · subst h8
      rw [if_neg (fun e => by have := of_decide_eq_true e; omega)]
      exact fin rfl
    · rw [if_pos (decide_eq_true (by omega))]
      refine ⟨small hz, c, atI_of a1, ?_⟩
      rw [in_let]
      obtain ⟨m, hm8⟩ : ∃ m, 8 - k = m + 1 := ⟨7 - k, by omega⟩
      by_cases hc : 97 ≤ c ∧ c ≤ 122
      · rw [decide_eq_true hc, if_pos rfl]
        simp! only [uAsg, hName]
        refine ⟨⟨k + 1, by rw [show (((i + k : Nat) : Int) + 1) = ((i + (k + 1) : Nat) : Int) by omega], by omega, ?_⟩, by omega⟩
        rw [hd, hm8] at hn
        simp only [nmF, if_pos hc] at hn
        rw [show i + (k + 1) = i + k + 1 by omega, a3, show 8 - (k + 1) = m by omega]
        omega
      · rw [decide_eq_false hc, if_neg (by simp)]
        refine fin ?_
        rw [hd, hm8]
        simp only [nmF, if_neg hc]
theorem numF_len : ∀ (l : List Nat) (v k : Nat), (numF v k l).2 ≤ k + l.length
  | [], v, k => Nat.le_refl _
  | c :: r, v, k => by
    simp only [numF]
    split
    · split
      · simp
      · have := numF_len r (v * 10 + (c - 48)) (k + 1)
        simp only [List.length_cons]; omega
    · simp
theorem rdNum_le {L : List Nat} {i v j : Nat} (h : rdNum L i = .ok (v, j)) : i < j ∧ j ≤ L.length := by
  unfold rdNum at h
  split at h
  · cases h
  · rename_i h0
    injection h with h
    injection h with h1 h2
    have := numF_len (L.drop i) 0 0
    rw [List.length_drop] at this
    omega
def rdLeaf (L : List Nat) (i : Nat) : Except Nat (Tr × Nat) := if 0 < nmF 8 (L.drop i) then .ok (.name (tx ((L.drop i).take (nmF 8 (L.drop i)))), i + nmF 8 (L.drop i)) else (match rdNum L i with
  | .error k => .error k
  | .ok (v, j) => .ok (.num (v : Int), j))
def spLeafX (N : Addr) : USpX := fun us M Q E => ∃ (z : Str) (i : Nat), us = [.str z, .int (i : Int)] ∧ z.length ≤ 100000 ∧ i ≤ 150000 ∧ (match rdLeaf z.cps.toList i with
  | .ok (p, j) => Q (.tup [p.toU, .int (j : Int)]) M
  | .error k => E N (eAt k) M)
theorem ok_leafX {N : Addr} (F : Fun K "read_leaf" "read_leaf" s_read_leaf f fd) (hm : mg "read_leaf" = some (.ref f)) (C_end_of_name : Callee P w K mg base 1 "end_of_name" spEndX []) (CX_read_number : CalleeX P w K mg base 3 "read_number" (spNumX N) []) : CalleeX P w K mg base 5 "read_leaf" (spLeafX N) [] := by
  refine calleeX_of F hm sc_read_leaf (ar2 fun _ _ _ _ _ _ _ _ => rfl) (fun us M Q E h => by obtain ⟨_, _, rfl, _⟩ := h; rfl) (ux_cons (ux_of (us_set 2 sc_read_leaf.nd (ue_call C_end_of_name (ua_cons (uv 0) (ua_cons (uv 1) ua_nil)))))
  (ux_cons (ux_of (us_if (ut_c k_gt (uv 2) (uv 1))
  (uss_one (us_ret (ue_tup (ua_cons (ue_tup (ua_cons us_ (ua_cons (ue_slX (own := false) (uv 0) (uo_some (uv 1)) (uo_some (uv 2))) ua_nil))) (ua_cons (uv 2) ua_nil)))))
  uss_nil))
  (ux_cons (ux_set 3 sc_read_leaf.nd (ex_call CX_read_number (ua_cons (uv 0) (ua_cons (uv 1) ua_nil))))
  (ux_one (ux_of (us_ret (ue_tup (ua_cons (ue_tup (ua_cons us_ (ua_cons (ue_ix (uv 3) un_) ua_nil))) (ua_cons (ue_ix (uv 3) un_) ua_nil))))))))) ?_
  rintro us M Q E ⟨z, i, rfl, hz, hi, q⟩
  have hL := lenL z
  unfold rdLeaf at q
  refine seqx_gen fun V1 hV1 => ?_
  simp! only [uAsg, hName]
  refine ⟨z, i, rfl, hz, ?_⟩
  subst hV1
  refine seqx_gen fun V2 hV2 => ?_
  simp only [ux0]
  refine if_gen fun A B hA hB => ?_
  simp! only [true_and]
  by_cases h1 : 0 < nmF 8 (z.cps.toList.drop i)
  · rw [if_pos h1] at q
    rw [if_pos (decide_eq_true (by omega))]
    subst hA
    have hs := slcG z (i := i) (j := i + nmF 8 (z.cps.toList.drop i)) (by omega)
    rw [Nat.add_sub_cancel_left] at hs
    simp! only [uRet, hs]
    exact ⟨small hz, rt_same q⟩
  rw [if_neg h1] at q
  rw [if_neg (fun z => by have := of_decide_eq_true z; omega)]
  subst hB
  simp only [uNext]
  subst hV2
  refine seqx_gen fun V3 hV3 => ?_
  simp! only [uxSet]
  refine ⟨z, i, rfl, hz, by omega, ?_⟩
  cases hr : rdNum z.cps.toList i with
  | error k =>
    rw [hr] at q
    exact ⟨M, Sub.refl M, q⟩
  | ok vj =>
    obtain ⟨v, j⟩ := vj
    rw [hr] at q
    dsimp only at q ⊢
    subst hV3
    simp! only [uRet]
    exact rt_same q
theorem rdLeaf_le {L : List Nat} {i j : Nat} {p : Tr} (h : rdLeaf L i = .ok (p, j)) : i < j ∧ j ≤ L.length := by
  unfold rdLeaf at h
  split at h
  · rename_i h1
    have := (nmF_le 8 (L.drop i)).2
    rw [List.length_drop] at this
    cases h; omega
  · split at h
    · cases h
    · rename_i v j1 h2
      have := rdNum_le h2
      cases h; omega
theorem slcAt (z : Str) {i j k : Nat} (hj : j = i + k) (n : Nat) (hn : n = j + 1) : Txt.slice z (some (j : Int)) (some (n : Int)) = tx ((z.cps.toList.drop j).take 1) := by
  subst hn
  have := slcG z (i := j) (j := j + 1) (by omega)
  rw [show j + 1 - j = 1 by omega] at this
  exact this
def opF : Option Nat → Option Op
  | some 43 => some .sum
  | some 45 => some .less
  | some 42 => some .by_
  | _ => none
def rdMid (L : List Nat) (i : Nat) : Except Nat Op := if L[i]? = some 32 then (match opF L[i + 1]? with
  | none => .error (i + 1)
  | some o => if L[i + 2]? = some 32 then .ok o else .error (i + 2)) else .error i
def MIDW : List (Str × Fl) := [("+", .str "sum"), ("-", .str "less"), ("*", .str "by")]
theorem midw_tab (x : Option Nat) : tabGet MIDW (tx x.toList) = (opF x).map fun o => Fl.str o.word := by
  cases x with
  | none => kernel_rfl
  | some c =>
    by_cases h1 : c = 43
    · subst h1; kernel_rfl
    by_cases h2 : c = 45
    · subst h2; kernel_rfl
    by_cases h3 : c = 42
    · subst h3; kernel_rfl
    have e0 : opF (some c) = none := by
      unfold opF
      split
      · rename_i h; cases h; exact (h1 rfl).elim
      · rename_i h; cases h; exact (h2 rfl).elim
      · rename_i h; cases h; exact (h3 rfl).elim
      · rfl
    rw [e0]
    have t1 : ("+" : Str) = tx [43] := by decide +kernel
    have t2 : ("-" : Str) = tx [45] := by decide +kernel
    have t3 : ("*" : Str) = tx [42] := by decide +kernel
    show tabGet MIDW (tx [c]) = none
    simp only [MIDW, tabGet]
    rw [t1, t2, t3, if_neg, if_neg, if_neg]
    · rw [tx_inj]; simp; omega
    · rw [tx_inj]; simp; omega
    · rw [tx_inj]; simp; omega
theorem sp_tx : Str.ofString " " = tx [32] := by decide +kernel
theorem lp_tx : Str.ofString "(" = tx [40] := by decide +kernel
theorem rp_tx : Str.ofString ")" = tx [41] := by decide +kernel
theorem mn_tx : Str.ofString "-" = tx [45] := by decide +kernel
def spMidX (N : Addr) : USpX := fun us M Q E => ∃ (z : Str) (i : Nat), us = [.str z, .int (i : Int)] ∧ z.length ≤ 100000 ∧ i ≤ 150000 ∧ (match rdMid z.cps.toList i with
  | .ok o => Q (.str o.word) M
  | .error k => E N (eAt k) M)
theorem ok_midX {N : Addr} (F : Fun K "read_middle" "read_middle" s_read_middle f fd) (hm : mg "read_middle" = some (.ref f)) (T_MIDDLE_WORDS : IsTab P w K d MIDW) (g_MIDDLE_WORDS : mg "MIDDLE_WORDS" = some (.ref d)) (X_NoText : ExcC P w K mg base 1 "NoText" N "at" condT) (CX_need_sign : CalleeX P w K mg base 3 "need_sign" (spNeedX N) []) : CalleeX P w K mg base 4 "read_middle" (spMidX N) [] := by
  refine calleeX_of F hm sc_read_middle (ar2 fun _ _ _ _ _ _ _ _ => rfl) (fun us M Q E h => by obtain ⟨_, _, rfl, _⟩ := h; rfl) (ux_cons (ux_expr (ex_call CX_need_sign (ua_cons (uv 0) (ua_cons (uv 1) (ua_cons us_ ua_nil)))))
  (ux_cons (ux_of (us_set 2 sc_read_middle.nd (ue_slX (own := false) (uv 0) (uo_some (ue_add (own := false) (uv 1) un_)) (uo_some (ue_add (own := false) (uv 1) un_)))))
  (ux_cons (ux_if (ut_c (k_notInTab T_MIDDLE_WORDS) (uv 2) (ug_ref g_MIDDLE_WORDS))
  (ux_one (ux_raise X_NoText (ue_add (own := false) (uv 1) un_)))
  (uxs_of uss_nil))
  (ux_cons (ux_expr (ex_call CX_need_sign (ua_cons (uv 0) (ua_cons (ue_add (own := false) (uv 1) un_) (ua_cons us_ ua_nil)))))
  (ux_one (ux_of (us_ret (ue_dix T_MIDDLE_WORDS (ug_ref g_MIDDLE_WORDS) (uv 2))))))))) ?_
  rintro us M Q E ⟨z, i, rfl, hz, hi, q⟩
  have e1 : (i : Int) + 1 = ((i + 1 : Nat) : Int) := by omega
  have e2 : (i : Int) + 2 = ((i + 2 : Nat) : Int) := by omega
  unfold rdMid at q
  refine seqx_gen fun V1 hV1 => ?_
  simp! only [uxDrop, sp_tx]
  refine ⟨z, i, 32, rfl, hz, by omega, ?_⟩
  by_cases h1 : z.cps.toList[i]? = some 32
  rotate_left
  · rw [if_neg h1] at q ⊢
    exact ⟨M, Sub.refl M, q⟩
  rw [if_pos h1] at q ⊢
  subst hV1
  refine seqx_gen fun V2 hV2 => ?_
  have hs : Txt.slice z (some ((i + 1 : Nat) : Int)) (some ((i + 2 : Nat) : Int)) = tx z.cps.toList[i + 1]?.toList := by rw [slcAt z (i := i) (k := 1) rfl (i + 2) rfl, take1]
  simp! only [uAsg, hName, e1, e2, hs]
  refine ⟨small hz, ?_⟩
  subst hV2
  refine seqx_gen fun V3 hV3 => ?_
  refine ifx_gen fun A B hA hB => ?_
  simp! only [inTab, midw_tab, Option.isSome_map]
  cases ho : opF z.cps.toList[i + 1]? with
  | none =>
    rw [ho] at q
    rw [if_pos (by rfl)]
    subst hA
    simp! only [uxRaise, e1]
    exact ⟨cT_ok (by omega), M, Sub.refl M, q⟩
  | some o =>
    rw [ho] at q
    dsimp only at q
    rw [if_neg (by simp)]
    subst hB
    simp! only [uNext]
    subst hV3
    refine seqx_gen fun V4 hV4 => ?_
    simp! only [uxDrop, e2, sp_tx]
    refine ⟨z, i + 2, 32, rfl, hz, by omega, ?_⟩
    by_cases h2 : z.cps.toList[i + 2]? = some 32
    · rw [if_pos h2] at q ⊢
      subst hV4
      simp! only [uRet, ixTab, midw_tab, ho, Option.map_some]
      exact rt_same q
    · rw [if_neg h2] at q ⊢
      exact ⟨M, Sub.refl M, q⟩
inductive Fr where
  | t | l | r (o : Op) (a : Tr)
def frU : Fr → U
  | .t => .lst [.str (Str.ofString "turn")]
  | .l => .lst [.str (Str.ofString "")]
  | .r o a => .lst [.str o.word, a.toU]
def stU (c : List Fr) : List U := (c.map frU).reverse
theorem stU_cons (f : Fr) (c : List Fr) : stU (f :: c) = stU c ++ [frU f] := by simp [stU]
theorem stU_len (c : List Fr) : (stU c).length = c.length := by simp [stU]
theorem get_lt {L : List Nat} {i c : Nat} (h : L[i]? = some c) : i < L.length := (List.getElem?_eq_some_iff.mp h).1
def opn (L : List Nat) (i : Nat) (c : List Fr) : Except Nat (Nat × List Fr) :=
  if h : L[i]? = some 40 then (if L[i + 1]? = some 45 then (if L[i + 2]? = some 32 then opn L (i + 3) (.t :: c) else .error (i + 2)) else opn L (i + 1) (.l :: c)) else .ok (i, c)
termination_by L.length - i
decreasing_by all_goals (have := get_lt h; omega)
def spOpnX (N : Addr) : USpX := fun us M Q E => ∃ (z : Str) (i : Nat) (p : Addr) (c : List Fr), us = [.str z, .int (i : Int), .ref p] ∧ z.length ≤ 100000 ∧ i ≤ 100000 ∧ c.length ≤ i ∧ M p = some (.lst (stU c)) ∧ (match opn z.cps.toList i c with
  | .ok (j, c') => Q (.int (j : Int)) (mup M p (.lst (stU c')))
  | .error k => ∀ c', E N (eAt k) (mup M p (.lst (stU c'))))
theorem mup_id {M : MHp} {a : Addr} {o : MO} (h : M a = some o) : mup M a o = M := by
  funext b
  unfold mup
  split
  · rename_i e; subst e; exact h.symm
  · rfl
theorem ok_opnX {N : Addr} (F : Fun K "read_openings" "read_openings" s_read_openings f fd) (hm : mg "read_openings" = some (.ref f)) (CX_need_sign : CalleeX P w K mg base 3 "need_sign" (spNeedX N) []) : CalleeX P w K mg base 4 "read_openings" (spOpnX N) [] := by
  refine calleeX_of F hm sc_read_openings (ar3 fun _ _ _ _ _ _ _ _ _ => rfl) (fun us M Q E h => by obtain ⟨_, _, _, _, rfl, _⟩ := h; rfl) (ux_cons (ux_of (us_set 3 sc_read_openings.nd (uv 1)))
  (ux_cons (ux_while (ut_c k_eqX (ue_slX (own := false) (uv 0) (uo_some (uv 3)) (uo_some (ue_add (own := false) (uv 3) un_))) us_)
  (ux_one (ux_if (ut_c k_eqX (ue_slX (own := false) (uv 0) (uo_some (ue_add (own := false) (uv 3) un_)) (uo_some (ue_add (own := false) (uv 3) un_))) us_)
  (ux_cons (ux_expr (ex_call CX_need_sign (ua_cons (uv 0) (ua_cons (ue_add (own := false) (uv 3) un_) (ua_cons us_ ua_nil)))))
  (ux_cons (ux_of (us_expr (ue_append (uv 2) (ua_cons (ue_lst (own := false) (ua_cons us_ ua_nil)) ua_nil))))
  (ux_one (ux_of (us_set 3 sc_read_openings.nd (ue_add (own := false) (uv 3) un_))))))
  (ux_cons (ux_of (us_expr (ue_append (uv 2) (ua_cons (ue_lst (own := false) (ua_cons us_ ua_nil)) ua_nil))))
  (ux_one (ux_of (us_set 3 sc_read_openings.nd (ue_add (own := false) (uv 3) un_))))))))
  (ux_one (ux_of (us_ret (uv 3)))))) ?_
  rintro us M Q E ⟨z, i0, p, c0, rfl, hz, hi0, hc0, hM, q⟩
  have hL := lenL z
  refine seqx_gen fun V1 hV1 => ?_
  simp! only [uAsg, hName]
  subst hV1
  refine seqx_gen fun V2 hV2 => ?_
  refine while_by (fun τ M' => ∃ (i : Nat) (c : List Fr), τ = [some (.str z), some (.int (i0 : Int)), some (.ref p), some (.int (i : Int))] ∧ M' = mup M p (.lst (stU c)) ∧ c.length ≤ i ∧ i ≤ 100000 ∧ opn z.cps.toList i c = opn z.cps.toList i0 c0) (fun τ _ => match τ with | [_, _, _, some (.int e)] => z.length - e.toNat | _ => 0) ⟨i0, c0, rfl, (mup_id hM).symm, hc0, hi0, rfl⟩ ?_
  rintro τ M' ⟨i, c, rfl, rfl, hc, hi, he⟩
  have e1 : (i : Int) + 1 = ((i + 1 : Nat) : Int) := by omega
  have e2 : (i : Int) + 2 = ((i + 2 : Nat) : Int) := by omega
  have e3 : (i : Int) + 3 = ((i + 3 : Nat) : Int) := by omega
  rw [opn] at he
  simp! only [slc1G, lp_tx, dec_one]
  refine ⟨small hz, ?_⟩
  by_cases h1 : z.cps.toList[i]? = some 40
  rotate_left
  · rw [dif_neg h1] at he
    rw [decide_eq_false h1, if_neg (by simp)]
    rw [← he] at q
    subst hV2
    simp! only [uRet]
    exact rt_own hM q
  have hlt := get_lt h1
  rw [dif_pos h1] at he
  rw [decide_eq_true h1, if_pos rfl]
  refine ifx_gen fun A B hA hB => ?_
  have hs : Txt.slice z (some ((i + 1 : Nat) : Int)) (some ((i + 2 : Nat) : Int)) = tx ((z.cps.toList.drop (i + 1)).take 1) := slcAt z (i := i) (k := 1) rfl (i + 2) rfl
  simp! only [e1, e2, hs, mn_tx, dec_one]
  refine ⟨small hz, ?_⟩
  by_cases h2 : z.cps.toList[i + 1]? = some 45
  · rw [if_pos h2] at he
    rw [decide_eq_true h2, if_pos rfl]
    subst hA
    refine seqx_gen fun V3 hV3 => ?_
    simp! only [uxDrop, e2, sp_tx]
    refine ⟨z, i + 2, 32, rfl, hz, by omega, ?_⟩
    by_cases h3 : z.cps.toList[i + 2]? = some 32
    · have hlt3 := get_lt h3
      rw [if_pos h3] at he ⊢
      subst hV3
      refine seqx_gen fun V4 hV4 => ?_
      simp! only [uDrop, stU_len]
      refine ⟨isL_own, big (by omega), ?_⟩
      subst hV4
      simp! only [uAsg, hName, e3]
      exact ⟨⟨i + 3, .t :: c, rfl, by rw [stU_cons]; rfl, by simp only [List.length_cons]; omega, by omega, he⟩, by omega⟩
    · rw [if_neg h3] at he ⊢
      rw [← he] at q
      exact ⟨_, Sub.refl _, q c⟩
  · rw [if_neg h2] at he
    rw [decide_eq_false h2, if_neg (by simp)]
    subst hB
    refine seqx_gen fun V3 hV3 => ?_
    simp! only [uDrop, stU_len]
    refine ⟨isL_own, big (by omega), ?_⟩
    subst hV3
    simp! only [uAsg, hName, e1]
    exact ⟨⟨i + 1, .l :: c, rfl, by rw [stU_cons]; rfl, by simp only [List.length_cons]; omega, by omega, he⟩, by omega⟩
def beh (L : List Nat) : Tr → Nat → List Fr → Except Nat (Option Tr × Nat × List Fr)
  | t, i, [] => .ok (some t, i, [])
  | t, i, .l :: c => match rdMid L i with
    | .error k => .error k
    | .ok o => .ok (none, i + 3, .r o t :: c)
  | t, i, .t :: c => if L[i]? = some 41 then beh L (.turn t) (i + 1) c else .error i
  | t, i, .r o a :: c => if L[i]? = some 41 then beh L (.two o a t) (i + 1) c else .error i
theorem rdMid_ok {L : List Nat} {i : Nat} {o : Op} (h : rdMid L i = .ok o) : L[i]? = some 32 ∧ opF L[i + 1]? = some o ∧ L[i + 2]? = some 32 := by
  unfold rdMid at h
  split at h
  · rename_i h1
    split at h
    · cases h
    · rename_i o' h2
      split at h
      · rename_i h3; cases h; exact ⟨h1, h2, h3⟩
      · cases h
  · cases h
theorem beh_le (L : List Nat) : ∀ (c : List Fr) (t : Tr) (i : Nat) (r : Option Tr) (k : Nat) (c' : List Fr), beh L t i c = .ok (r, k, c') → i ≤ k ∧ k ≤ i + c.length + 3 ∧ c'.length ≤ c.length ∧ (r = none → i + 3 ≤ k ∧ k ≤ L.length)
  | [], t, i, r, k, c', h => by cases h; exact ⟨Nat.le_refl _, by simp, Nat.le_refl _, fun z => by cases z⟩
  | .l :: c, t, i, r, k, c', h => by
    simp only [beh] at h
    split at h
    · cases h
    · rename_i o ho
      cases h
      obtain ⟨_, _, h3⟩ := rdMid_ok ho
      have := get_lt h3
      exact ⟨by omega, by simp only [List.length_cons]; omega, by simp, fun _ => ⟨by omega, by omega⟩⟩
  | .t :: c, t, i, r, k, c', h => by
    simp only [beh] at h
    split at h
    · obtain ⟨a1, a2, a3, a4⟩ := beh_le L c _ _ _ _ _ h
      exact ⟨by omega, by simp only [List.length_cons]; omega, by simp only [List.length_cons]; omega, fun z => by have := a4 z; omega⟩
    · cases h
  | .r o a :: c, t, i, r, k, c', h => by
    simp only [beh] at h
    split at h
    · obtain ⟨a1, a2, a3, a4⟩ := beh_le L c _ _ _ _ _ h
      exact ⟨by omega, by simp only [List.length_cons]; omega, by simp only [List.length_cons]; omega, fun z => by have := a4 z; omega⟩
    · cases h
theorem opn_le (L : List Nat) : ∀ (m i : Nat) (c : List Fr) (j : Nat) (c' : List Fr), L.length - i ≤ m → opn L i c = .ok (j, c') → i ≤ L.length → i ≤ j ∧ j ≤ L.length ∧ c'.length + i ≤ c.length + j := by
  intro m
  induction m with
  | zero =>
    intro i c j c' hm h hi
    rw [opn] at h
    split at h
    · rename_i h1; have := get_lt h1; omega
    · cases h; exact ⟨Nat.le_refl _, hi, Nat.le_refl _⟩
  | succ m ih =>
    intro i c j c' hm h hi
    rw [opn] at h
    split at h
    · rename_i h1
      have := get_lt h1
      split at h
      · split at h
        · rename_i h3
          have := get_lt h3
          have := ih _ _ _ _ (by omega) h (by omega)
          simp only [List.length_cons] at this
          omega
        · cases h
      · have := ih _ _ _ _ (by omega) h (by omega)
        simp only [List.length_cons] at this
        omega
    · cases h; exact ⟨Nat.le_refl _, hi, Nat.le_refl _⟩
def spBehX (N : Addr) : USpX := fun us M Q E => ∃ (z : Str) (t : Tr) (i : Nat) (p : Addr) (c : List Fr), us = [.str z, t.toU, .int (i : Int), .ref p] ∧ z.length ≤ 100000 ∧ i ≤ 100000 ∧ c.length ≤ 100000 ∧ M p = some (.lst (stU c)) ∧ (match beh z.cps.toList t i c with
  | .ok (some T, j, _) => Q (.tup [T.toU, .int (j : Int)]) (mup M p (.lst []))
  | .ok (none, j, c') => Q (.tup [.non, .int (j : Int)]) (mup M p (.lst (stU c')))
  | .error k => ∀ c', E N (eAt k) (mup M p (.lst (stU c'))))
theorem glast {α : Type} {l : List α} {a : α} : (l ++ [a]).getLast? = some a := by simp
theorem dlast {α : Type} {l : List α} {a : α} : (l ++ [a]).dropLast = l := by simp
theorem ok_behX {N : Addr} (F : Fun K "read_behind" "read_behind" s_read_behind f fd) (hm : mg "read_behind" = some (.ref f)) (m_tuple : mg "tuple" = none) (CX_need_sign : CalleeX P w K mg base 3 "need_sign" (spNeedX N) []) (CX_read_middle : CalleeX P w K mg base 4 "read_middle" (spMidX N) []) : CalleeX P w K mg base 5 "read_behind" (spBehX N) [] := by
  refine calleeX_of F hm sc_read_behind (ar4 fun _ _ _ _ _ _ _ _ _ _ => rfl) (fun us M Q E h => by obtain ⟨_, _, _, _, _, rfl, _⟩ := h; rfl) (ux_cons (ux_of (us_set 4 sc_read_behind.nd (uv 1)))
  (ux_cons (ux_of (us_set 5 sc_read_behind.nd (uv 2)))
  (ux_cons (ux_while (ut_val (uv 3))
  (ux_cons (ux_of (us_set 6 sc_read_behind.nd (ue_pop (uv 3))))
  (ux_cons (ux_if (ut_c k_eqX (ue_ix (uv 6) un_) us_)
  (ux_cons (ux_expr (ex_append (uv 3) (ax_cons (ex_lst (own := false) (ax_cons (ex_call CX_read_middle (ua_cons (uv 0) (ua_cons (uv 5) ua_nil))) (ax_of (ua_cons (uv 4) ua_nil)))) (ax_of ua_nil))))
  (ux_one (ux_of (us_ret (ue_tup (ua_cons uo_ (ua_cons (ue_add (own := false) (uv 5) un_) ua_nil)))))))
  (uxs_of uss_nil))
  (ux_cons (ux_expr (ex_call CX_need_sign (ua_cons (uv 0) (ua_cons (uv 5) (ua_cons us_ ua_nil)))))
  (ux_cons (ux_of (us_set 4 sc_read_behind.nd (ue_t b_tuple m_tuple (ua_cons (ue_add (own := false) (uv 6) (ue_lst (own := false) (ua_cons (uv 4) ua_nil))) ua_nil))))
  (ux_one (ux_of (us_set 5 sc_read_behind.nd (ue_add (own := false) (uv 5) un_)))))))))
  (ux_one (ux_of (us_ret (ue_tup (ua_cons (uv 4) (ua_cons (uv 5) ua_nil))))))))) ?_
  rintro us M Q E ⟨z, t0, i0, p, c0, rfl, hz, hi0, hc0, hM, q⟩
  have hL := lenL z
  refine seqx_gen fun V1 hV1 => ?_
  simp! only [uAsg, hName]
  subst hV1
  refine seqx_gen fun V2 hV2 => ?_
  simp! only [uAsg, hName]
  subst hV2
  refine seqx_gen fun V3 hV3 => ?_
  refine while_by (fun τ M' => ∃ (i : Nat) (t : Tr) (c : List Fr) (e : Option U), τ = [some (.str z), some t0.toU, some (.int (i0 : Int)), some (.ref p), some t.toU, some (.int (i : Int)), e] ∧ M' = mup M p (.lst (stU c)) ∧ i ≤ 100000 ∧ c.length ≤ 100000 ∧ beh z.cps.toList t i c = beh z.cps.toList t0 i0 c0) (fun _ M' => match M' p with | some (.lst l) => l.length | _ => 0) ⟨i0, t0, c0, none, rfl, (mup_id hM).symm, hi0, hc0, rfl⟩ ?_
  rintro τ M' ⟨i, t, c, e, rfl, rfl, hic, hc, he⟩
  have e1 : (i : Int) + 1 = ((i + 1 : Nat) : Int) := by omega
  have e3 : (i : Int) + 3 = ((i + 3 : Nat) : Int) := by omega
  cases c with
  | nil =>
    simp only [beh] at he
    rw [← he] at q
    simp! only [stU, List.reverse_nil, List.isEmpty_nil]
    subst hV3
    simp! only [uRet]
    exact rt_same q
  | cons fm c =>
    simp only [List.length_cons] at hc
    have hne : (stU (fm :: c)).isEmpty = false := by rw [stU_cons]; simp
    simp! only [hne]
    refine seqx_gen fun V4 hV4 => ?_
    simp! only [uAsg, hName, stU_cons, glast, dlast]
    refine ⟨isL_own, ?_⟩
    subst hV4
    refine seqx_gen fun V5 hV5 => ?_
    refine ifx_gen fun A B hA hB => ?_
    cases fm with
    | l =>
      simp! only [frU]
      subst hA
      simp only [beh] at he
      refine seqx_gen fun V6 hV6 => ?_
      simp! only [uxDrop, uxBM, uxCons, uxLst]
      refine ⟨isL_own, z, i, rfl, hz, by omega, ?_⟩
      cases ho : rdMid z.cps.toList i with
      | error k =>
        rw [ho] at he
        rw [← he] at q
        exact ⟨_, Sub.refl _, q c⟩
      | ok o =>
        rw [ho] at he
        rw [← he] at q
        dsimp only at q ⊢
        simp! only [stU_len]
        subst hV6
        rw [stU_cons] at q
        simp! only [uRet, e3]
        exact ⟨big (by omega), rt_same q⟩
    | t =>
      simp! only [frU, show decide (Str.ofString "turn" = Str.ofString "") = false by decide +kernel]
      subst hB
      simp only [uNext, ux0]
      subst hV5
      simp only [beh] at he
      refine seqx_gen fun V6 hV6 => ?_
      simp! only [uxDrop, rp_tx]
      refine ⟨z, i, 41, rfl, hz, by omega, ?_⟩
      by_cases h1 : z.cps.toList[i]? = some 41
      · have hlt := get_lt h1
        rw [if_pos h1] at he ⊢
        subst hV6
        refine seqx_gen fun V7 hV7 => ?_
        simp! only [uAsg, hName, frU]
        subst hV7
        simp! only [uAsg, hName, e1]
        exact ⟨⟨i + 1, .turn t, c, _, rfl, rfl, by omega, by omega, he⟩, by rw [stU_len, stU_len]; simp⟩
      · rw [if_neg h1] at he ⊢
        rw [← he] at q
        exact ⟨_, Sub.refl _, q c⟩
    | r o a =>
      have hw : decide (o.word = Str.ofString "") = false := by cases o <;> decide +kernel
      simp! only [frU, hw]
      subst hB
      simp only [uNext, ux0]
      subst hV5
      simp only [beh] at he
      refine seqx_gen fun V6 hV6 => ?_
      simp! only [uxDrop, rp_tx]
      refine ⟨z, i, 41, rfl, hz, by omega, ?_⟩
      by_cases h1 : z.cps.toList[i]? = some 41
      · have hlt := get_lt h1
        rw [if_pos h1] at he ⊢
        subst hV6
        refine seqx_gen fun V7 hV7 => ?_
        simp! only [uAsg, hName, frU]
        subst hV7
        simp! only [uAsg, hName, e1]
        exact ⟨⟨i + 1, .two o a t, c, _, rfl, rfl, by omega, by omega, he⟩, by rw [stU_len, stU_len]; simp⟩
      · rw [if_neg h1] at he ⊢
        rw [← he] at q
        exact ⟨_, Sub.refl _, q c⟩
def shp (L : List Nat) : Nat → Nat → List Fr → Except Nat Tr
  | 0, _, _ => .error 0
  | n + 1, i, c => match opn L i c with
    | .error k => .error k
    | .ok (i1, c1) => match rdLeaf L i1 with
      | .error k => .error k
      | .ok (t, j) => match beh L t j c1 with
        | .error k => .error k
        | .ok (some T, k, _) => if k < L.length then .error k else .ok T
        | .ok (none, k, c2) => shp L n k c2
def rdShape (L : List Nat) : Except Nat Tr := shp L (L.length + 2) 0 []
def spShpX (N fl : Addr) : USpX := fun us M Q E => ∃ z : Str, us = [.str z, .ref fl] ∧ z.length ≤ 100000 ∧ (match rdShape z.cps.toList with
  | .ok T => Q T.toU M
  | .error k => E N (eAt k) M)
theorem ok_shpX {N : Addr} (F : Fun K "read_shape" "read_shape" s_read_shape f fd) (hm : mg "read_shape" = some (.ref f)) (m_len : mg "len" = none) (X_NoText : ExcC P w K mg base 1 "NoText" N "at" condT) (AX_read_leaf : CalleeAtX P w K mg base 5 fl (spLeafX N)) (CX_read_openings : CalleeX P w K mg base 4 "read_openings" (spOpnX N) []) (CX_read_behind : CalleeX P w K mg base 5 "read_behind" (spBehX N) []) : CalleeX P w K mg base 6 "read_shape" (spShpX N fl) [] := by
  refine calleeX_of F hm sc_read_shape (ar2 fun _ _ _ _ _ _ _ _ => rfl) (fun us M Q E h => by obtain ⟨_, rfl, _⟩ := h; rfl) (ux_cons (ux_of (us_set 2 sc_read_shape.nd (ue_lst (own := true) ua_nil)))
  (ux_cons (ux_of (us_set 3 sc_read_shape.nd uo_))
  (ux_cons (ux_of (us_set 4 sc_read_shape.nd un_))
  (ux_cons (ux_while (ut_c k_isN (uv 3) uo_)
  (ux_cons (ux_set 4 sc_read_shape.nd (ex_call CX_read_openings (ua_cons (uv 0) (ua_cons (uv 4) (ua_cons (uv 2) ua_nil)))))
  (ux_cons (ux_set 5 sc_read_shape.nd (ex_callv 1 AX_read_leaf (ua_cons (uv 0) (ua_cons (uv 4) ua_nil))))
  (ux_cons (ux_set 5 sc_read_shape.nd (ex_call CX_read_behind (ua_cons (uv 0) (ua_cons (ue_ix (uv 5) un_) (ua_cons (ue_ix (uv 5) un_) (ua_cons (uv 2) ua_nil))))))
  (ux_cons (ux_of (us_set 3 sc_read_shape.nd (ue_ix (uv 5) un_)))
  (ux_one (ux_of (us_set 4 sc_read_shape.nd (ue_ix (uv 5) un_)))))))))
  (ux_cons (ux_if (ut_c k_ltX (uv 4) (ue_b b_len m_len (ua_cons (uv 0) ua_nil)))
  (ux_one (ux_raise X_NoText (uv 4)))
  (uxs_of uss_nil))
  (ux_one (ux_of (us_ret (uv 3))))))))) ?_
  rintro us M Q E ⟨z, rfl, hz, q⟩
  have hL := lenL z
  generalize hR : rdShape z.cps.toList = R at q
  refine seqx_gen fun V1 hV1 => ?_
  simp! only [uAsg, hName]
  intro p hp
  subst hV1
  refine seqx_gen fun V2 hV2 => ?_
  simp! only [uAsg, hName]
  subst hV2
  refine seqx_gen fun V3 hV3 => ?_
  simp! only [uAsg, hName]
  subst hV3
  refine seqx_gen fun V4 hV4 => ?_
  have no : ∀ k o, R = .error k → ∃ M', U2.Sub M' (mup M p o) ∧ E N (eAt k) M' := fun k o h => by
    subst h
    exact ⟨M, (Sub.refl M).mup hp, q⟩
  refine while_by (fun τ M' => ∃ (s : U) (i : Nat) (e : Option U) (c : List Fr), τ = [some (.str z), some (.ref fl), some (.ref p), some s, some (.int (i : Int)), e] ∧ M' = mup M p (.lst (stU c)) ∧ ((∃ T : Tr, s = T.toU ∧ i ≤ 300000 ∧ R = if i < z.cps.toList.length then .error i else .ok T) ∨ (s = .non ∧ ∃ n, i ≤ z.cps.toList.length ∧ z.cps.toList.length + 2 ≤ n + i ∧ c.length ≤ i ∧ shp z.cps.toList n i c = R))) (fun τ _ => match τ with | [_, _, _, _, some (.int i), _] => 400000 - i.toNat | _ => 0) ⟨.non, 0, none, [], rfl, rfl, .inr ⟨rfl, _, Nat.zero_le _, by omega, by simp, hR⟩⟩ ?_
  rintro τ M' ⟨s, i, e, c, rfl, rfl, (⟨T, rfl, hi, hT⟩ | ⟨rfl, n, hi, hn, hc, hs⟩)⟩
  · have hnn : isNon T.toU = false := by cases T <;> rfl
    have hnm := hnn
    unfold isNon at hnm
    simp_all! only [hnn, hnm, eqX_int, eqX_str, capt, uLtX, items, uEnum, uZip, mExtend, mClear, bMax, bSum, uAndV, vw_non, vw_bl, vw_int, vw_str, vw_tup, vw_lst, vw_own, mup_same, mup_mup, uSlX, uMul, bInt, mPopAt, uEnumL, szl, Nat.reduceLeDiff, Option.getD_some, ux0, uxCall, uxCallV]
    subst hV4
    refine seqx_gen fun V5 hV5 => ?_
    refine ifx_gen fun A B hA hB => ?_
    simp! only [true_and]
    refine ⟨small hz, ?_⟩
    by_cases hlt : i < z.cps.toList.length
    · rw [if_pos hlt] at hT
      rw [if_pos (decide_eq_true (by omega))]
      subst hA
      simp! only [uxRaise]
      exact ⟨cT_ok (by omega), no i _ hT⟩
    · rw [if_neg hlt] at hT
      rw [if_neg (fun z => by have := of_decide_eq_true z; omega)]
      subst hB
      simp! only [uNext]
      subst hV5
      simp! only [uRet]
      subst hT
      exact ⟨_, M, (Sub.refl M).mup hp, .inl rfl, q⟩
  · obtain ⟨m, rfl⟩ : ∃ m, n = m + 1 := ⟨n - 1, by omega⟩
    simp only [shp] at hs
    simp! only [true_and]
    refine seqx_gen fun V5 hV5 => ?_
    simp! only [uxSet]
    refine ⟨z, i, p, c, rfl, hz, by omega, hc, mup_same, ?_⟩
    cases ho : opn z.cps.toList i c with
    | error k =>
      rw [ho] at hs
      dsimp only at hs ⊢
      intro c'
      rw [mup_mup]
      exact no k _ hs.symm
    | ok jc =>
      obtain ⟨i1, c1⟩ := jc
      rw [ho] at hs
      have o1 := opn_le z.cps.toList _ i c i1 c1 (Nat.le_refl _) ho hi
      dsimp only at hs ⊢
      rw [mup_mup]
      subst hV5
      refine seqx_gen fun V6 hV6 => ?_
      simp! only [uxSet]
      refine ⟨z, i1, rfl, hz, by omega, ?_⟩
      cases hl : rdLeaf z.cps.toList i1 with
      | error k =>
        rw [hl] at hs
        dsimp only at hs ⊢
        exact no k _ hs.symm
      | ok tj =>
        obtain ⟨t, j⟩ := tj
        rw [hl] at hs
        have l1 := rdLeaf_le hl
        dsimp only at hs ⊢
        subst hV6
        refine seqx_gen fun V7 hV7 => ?_
        simp! only [uxSet]
        refine ⟨z, t, j, p, c1, rfl, hz, by omega, by omega, mup_same, ?_⟩
        cases hb : beh z.cps.toList t j c1 with
        | error k =>
          rw [hb] at hs
          dsimp only at hs ⊢
          intro c'
          rw [mup_mup]
          exact no k _ hs.symm
        | ok r =>
          obtain ⟨r, k, c2⟩ := r
          have b1 := beh_le z.cps.toList c1 t j r k c2 hb
          rw [hb] at hs
          cases r with
          | some T =>
            dsimp only at hs ⊢
            rw [mup_mup]
            subst hV7
            simp! only [uxSeq, uAsg, hName]
            exact ⟨⟨_, k, _, [], rfl, rfl, .inl ⟨T, rfl, by omega, hs.symm⟩⟩, by omega⟩
          | none =>
            have b2 := b1.2.2.2 rfl
            dsimp only at hs ⊢
            rw [mup_mup]
            subst hV7
            simp! only [uxSeq, uAsg, hName]
            exact ⟨⟨_, k, _, c2, rfl, rfl, .inr ⟨rfl, m, by omega, by omega, by omega, hs⟩⟩, by omega⟩
end
end K09
namespace K09
open PySem L2 U2
open Tr
section
variable {P : Program} {w : World} {K : PySem.W.Frag} {mg : Str → Option Value} {base : Heap} {f d d2 fl : Addr} {fd : FuncData}
theorem cut_map {α β : Type} (g : α → β) (l : List α) (a b : Option Int) : cutU (l.map g) a b = (cutU l a b).map g := by
  unfold cutU
  rw [List.length_map, List.map_take, List.map_drop]
def gT : Tr → G
  | .num k => .leaf (Tr.num k).toU true
  | .name x => .leaf (Tr.name x).toU true
  | .turn a => .turn (gT a)
  | .two o a b => .two o (gT a) (gT b)
theorem gT_U : ∀ t : Tr, (gT t).toU = t.toU
  | .num _ => rfl
  | .name _ => rfl
  | .turn a => by simp only [gT, G.toU, Tr.toU, gT_U a]
  | .two o a b => by simp only [gT, G.toU, Tr.toU, gT_U a, gT_U b]
theorem gT_size : ∀ t : Tr, (gT t).size = t.size
  | .num _ => rfl
  | .name _ => rfl
  | .turn a => by simp only [gT, G.size, Tr.size, gT_size a]
  | .two o a b => by simp only [gT, G.size, Tr.size, gT_size a, gT_size b]
theorem gT_dep : ∀ t : Tr, (gT t).dep = t.dep
  | .num _ => rfl
  | .name _ => rfl
  | .turn a => by simp only [gT, G.dep, Tr.dep, gT_dep a]
  | .two o a b => by simp only [gT, G.dep, Tr.dep, gT_dep a, gT_dep b]
theorem gT_fit : ∀ t : Tr, (gT t).fit = true
  | .num _ => rfl
  | .name _ => rfl
  | .turn a => gT_fit a
  | .two o a b => by simp only [gT, G.fit, gT_fit a, gT_fit b, Bool.and_self]
theorem name_is {x : Str} (h : x.length ≤ 8 ∧ 1 ≤ x.length ∧ ∀ c ∈ x.cps.toList, 97 ≤ c ∧ c ≤ 122) : isName (.str x) = true := by
  simp only [isName, Bool.and_eq_true, decide_eq_true_eq]
  refine ⟨⟨h.2.1, h.1⟩, List.all_eq_true.mpr fun c hc => ?_⟩
  unfold isLetter
  rw [in_let]
  exact decide_eq_true (h.2.2 c hc)
theorem gT_wf : ∀ t : Tr, t.ok → (gT t).wf LF
  | .num k, h => by
    have h2 : k ≤ 1000000000000000000 := h.2
    have e : numV (.int k) = true := by simp [numV, h.1, h2]
    have := LF.num (.int k) trivial
    rw [e] at this
    exact this
  | .name x, h => by
    have h' : isName (.str x) = true := name_is h
    have hl : x.length ≤ sizeLine := small (by have := h.1; omega)
    have := LF.name (.str x) hl
    rw [h'] at this
    exact this
  | .turn a, h => gT_wf a h
  | .two o a b, h => ⟨gT_wf a h.1, gT_wf b h.2⟩
end
end K09
namespace K09
open PySem L2 U2
inductive Md where
  | tree | brk | gap | sgn | num | nam | fin
deriving DecidableEq
inductive Sm where
  | turn | first | second
structure Mc where
  m : Md
  v : Nat
  s : List Sm
  n : Nat
  d : Nat
def begins (σ : Mc) (c : Nat) : Option Mc :=
  if c = 40 then some ⟨.brk, σ.v, σ.s, σ.n + 1, σ.d⟩
  else if 48 ≤ c ∧ c ≤ 57 then some ⟨.num, c - 48, σ.s, σ.n + 1, max σ.d (σ.s.length + 1)⟩
  else if 97 ≤ c ∧ c ≤ 122 then some ⟨.nam, 1, σ.s, σ.n + 1, max σ.d (σ.s.length + 1)⟩
  else none
def tail (σ : Mc) (c : Nat) : Option Mc := match σ.s with
  | [] => none
  | .first :: _ => if c = 32 then some ⟨.sgn, σ.v, σ.s, σ.n, σ.d⟩ else none
  | _ :: r => if c = 41 then some ⟨.fin, σ.v, r, σ.n, σ.d⟩ else none
def inside (σ : Mc) (c : Nat) : Option Mc :=
  if σ.m = .num ∧ 0 < σ.v ∧ (48 ≤ c ∧ c ≤ 57) then (if 10 * σ.v + (c - 48) ≤ GR then some ⟨.num, 10 * σ.v + (c - 48), σ.s, σ.n, σ.d⟩ else none)
  else if σ.m = .nam ∧ (97 ≤ c ∧ c ≤ 122) then (if σ.v + 1 ≤ 8 then some ⟨.nam, σ.v + 1, σ.s, σ.n, σ.d⟩ else none)
  else tail σ c
def step (σ : Mc) (c : Nat) : Option Mc := match σ.m with
  | .brk => if c = 45 then some ⟨.gap, σ.v, .turn :: σ.s, σ.n, σ.d⟩ else begins ⟨.tree, σ.v, .first :: σ.s, σ.n, σ.d⟩ c
  | .tree => begins σ c
  | .gap => if c = 32 then some ⟨.tree, σ.v, σ.s, σ.n, σ.d⟩ else none
  | .sgn => if c = 43 ∨ c = 45 ∨ c = 42 then some ⟨.gap, σ.v, .second :: σ.s.tail, σ.n, σ.d⟩ else none
  | _ => inside σ c
def Lf (m : Md) : Prop := m = .num ∨ m = .nam ∨ m = .fin
instance (m : Md) : Decidable (Lf m) := by unfold Lf; exact inferInstance
def okE (σ : Mc) : Prop := Lf σ.m ∧ σ.s.length = 0 ∧ σ.n ≤ 200 ∧ σ.d ≤ 40
instance (σ : Mc) : Decidable (okE σ) := by unfold okE; exact inferInstance
def Vd (len : Nat) : Mc → Nat → List Nat → Int
  | σ, _, [] => if okE σ then -1 else (len : Int)
  | σ, i, c :: r => match step σ c with
    | none => (i : Int)
    | some σ' => Vd len σ' (i + 1) r
def V (L : List Nat) (σ : Mc) (i : Nat) : Int := Vd L.length σ i (L.drop i)
def vdt (len : Nat) : Except Nat Tr → Int
  | .error k => (k : Int)
  | .ok T => if T.size ≤ 200 ∧ T.dep ≤ 40 then -1 else (len : Int)
def sm : Fr → Sm
  | .t => .turn
  | .l => .first
  | .r _ _ => .second
def szF : List Fr → Nat
  | [] => 0
  | .r _ a :: c => szF c + a.size + 1
  | _ :: c => szF c + 1
def mxF : List Fr → Nat
  | [] => 0
  | .r _ a :: c => max (mxF c) (c.length + 1 + a.dep)
  | _ :: c => mxF c
theorem drop_get {L : List Nat} {i c : Nat} (h : L[i]? = some c) : L.drop i = c :: L.drop (i + 1) := by
  obtain ⟨hi, e⟩ := List.getElem?_eq_some_iff.mp h
  rw [List.drop_eq_getElem_cons hi, e]
theorem V_cons {L : List Nat} {i c : Nat} (σ : Mc) (h : L[i]? = some c) : V L σ i = match step σ c with | none => (i : Int) | some σ' => V L σ' (i + 1) := by
  unfold V
  rw [drop_get h, Vd]
theorem V_nil {L : List Nat} {i : Nat} (σ : Mc) (h : L[i]? = none) : V L σ i = if okE σ then -1 else (L.length : Int) := by
  unfold V
  rw [List.drop_eq_nil_of_le (List.getElem?_eq_none_iff.mp h), Vd]
theorem V_some {L : List Nat} {i c : Nat} {σ σ' : Mc} (h : L[i]? = some c) (e : step σ c = some σ') : V L σ i = V L σ' (i + 1) := by rw [V_cons σ h, e]
theorem V_err {L : List Nat} {i : Nat} {σ : Mc} (hi : i ≤ L.length) (hf : ¬ okE σ) (hs : ∀ c, L[i]? = some c → step σ c = none) : V L σ i = (i : Int) := by
  cases h : L[i]? with
  | none =>
    rw [V_nil σ h, if_neg hf]
    have := List.getElem?_eq_none_iff.mp h
    omega
  | some c => rw [V_cons σ h, hs c h]
def tr0 (v : Nat) (c : List Fr) : Mc := ⟨.tree, v, c.map sm, szF c, mxF c⟩
theorem no_tree {v n d : Nat} {s : List Sm} {m : Md} (h : ¬ Lf m) : ¬ okE ⟨m, v, s, n, d⟩ := fun z => h z.1
theorem brk_tree {L : List Nat} {i v n d : Nat} {s : List Sm} (h : L[i]? ≠ some 45) : V L ⟨.brk, v, s, n, d⟩ i = V L ⟨.tree, v, .first :: s, n, d⟩ i := by
  cases e : L[i]? with
  | none => rw [V_nil _ e, V_nil _ e, if_neg (no_tree (by decide)), if_neg (no_tree (by decide))]
  | some c =>
    rw [V_cons _ e, V_cons _ e]
    have : c ≠ 45 := fun z => h (by rw [e, z])
    simp only [step, if_neg this]
theorem opn_V (L : List Nat) : ∀ (m i : Nat) (c : List Fr) (v : Nat), L.length - i ≤ m → i ≤ L.length → match opn L i c with
    | .error k => V L (tr0 v c) i = (k : Int)
    | .ok (j, c') => V L (tr0 v c) i = V L (tr0 v c') j ∧ L[j]? ≠ some 40 := by
  intro m
  induction m with
  | zero =>
    intro i c v hm hi
    rw [opn]
    have h0 : ¬ L[i]? = some 40 := fun h => by have := get_lt h; omega
    rw [dif_neg h0]
    exact ⟨rfl, h0⟩
  | succ m ih =>
    intro i c v hm hi
    rw [opn]
    by_cases h0 : L[i]? = some 40
    rotate_left
    · rw [dif_neg h0]; exact ⟨rfl, h0⟩
    have hlt := get_lt h0
    rw [dif_pos h0]
    have e0 : V L (tr0 v c) i = V L ⟨.brk, v, c.map sm, szF c + 1, mxF c⟩ (i + 1) := V_some h0 (by simp only [step, tr0, begins, if_true])
    by_cases h1 : L[i + 1]? = some 45
    · rw [if_pos h1]
      have hlt1 := get_lt h1
      have e1 : V L (tr0 v c) i = V L ⟨.gap, v, .turn :: c.map sm, szF c + 1, mxF c⟩ (i + 2) := by rw [e0]; exact V_some h1 (by simp only [step, if_true])
      by_cases h2 : L[i + 2]? = some 32
      · rw [if_pos h2]
        have hlt2 := get_lt h2
        have e2 : V L (tr0 v c) i = V L (tr0 v (.t :: c)) (i + 3) := by rw [e1]; exact V_some h2 (by simp only [step, if_true]; rfl)
        rw [e2]
        exact ih (i + 3) (.t :: c) v (by omega) (by omega)
      · rw [if_neg h2]
        show V L (tr0 v c) i = _
        rw [e1]
        exact V_err (by omega) (no_tree (by decide)) fun x hx => by
          have : x ≠ 32 := fun z => h2 (by rw [hx, z])
          simp only [step, if_neg this]
    · rw [if_neg h1]
      have e1 : V L (tr0 v c) i = V L (tr0 v (.l :: c)) (i + 1) := by rw [e0, brk_tree h1]; rfl
      rw [e1]
      exact ih (i + 1) (.l :: c) v (by omega) (by omega)
def Ended (L : List Nat) (σ : Mc) (i : Nat) : Prop := ∀ c, L[i]? = some c → step σ c = tail σ c
theorem tail_no {σ : Mc} {c : Nat} (h1 : c ≠ 32) (h2 : c ≠ 41) : tail σ c = none := by
  unfold tail
  split
  · rfl
  · rw [if_neg h1]
  · rw [if_neg h2]
theorem nam_V (L : List Nat) (s : List Sm) (n d : Nat) : ∀ (l : List Nat) (v i : Nat), L.drop i = l → v ≤ 8 → V L ⟨.nam, v, s, n, d⟩ i = V L ⟨.nam, v + nmF (8 - v) l, s, n, d⟩ (i + nmF (8 - v) l) ∧ Ended L ⟨.nam, v + nmF (8 - v) l, s, n, d⟩ (i + nmF (8 - v) l)
  | [], v, i, hl, hv => by
    have : nmF (8 - v) [] = 0 := by cases (8 - v) <;> rfl
    rw [this]
    refine ⟨rfl, fun c hc => ?_⟩
    have := drop_get hc
    rw [Nat.add_zero, hl] at this
    cases this
  | x :: r, v, i, hl, hv => by
    obtain ⟨a1, a2, a3⟩ := drop_at hl
    by_cases h8 : v = 8
    · subst h8
      rw [show nmF (8 - 8) (x :: r) = 0 by rfl]
      refine ⟨rfl, fun c hc => ?_⟩
      rw [Nat.add_zero, a1] at hc
      cases hc
      show inside _ _ = _
      unfold inside
      rw [if_neg (fun z => by cases z.1)]
      split
      · rename_i h
        dsimp only at h ⊢
        rw [if_neg (by omega), tail_no (by omega) (by omega)]
      · rfl
    · obtain ⟨m, hm⟩ : ∃ m, 8 - v = m + 1 := ⟨7 - v, by omega⟩
      by_cases hx : 97 ≤ x ∧ x ≤ 122
      · have ih := nam_V L s n d r (v + 1) (i + 1) a3 (by omega)
        rw [show 8 - (v + 1) = m by omega] at ih
        rw [hm]
        simp only [nmF, if_pos hx]
        rw [show v + (nmF m r + 1) = v + 1 + nmF m r by omega, show i + (nmF m r + 1) = i + 1 + nmF m r by omega]
        refine ⟨?_, ih.2⟩
        rw [← ih.1]
        refine V_some a1 ?_
        show inside _ _ = _
        unfold inside
        rw [if_neg (fun z => by cases z.1), if_pos ⟨rfl, hx⟩]
        dsimp only
        rw [if_pos (by omega)]
      · rw [hm]
        simp only [nmF, if_neg hx]
        refine ⟨rfl, fun c hc => ?_⟩
        rw [Nat.add_zero, a1] at hc
        cases hc
        show inside _ _ = _
        unfold inside
        rw [if_neg (fun z => by cases z.1), if_neg (fun z => hx z.2)]
theorem num_V (L : List Nat) (s : List Sm) (n d : Nat) : ∀ (l : List Nat) (v k i : Nat), L.drop i = l → 0 < k → ∃ j, (numF v k l).2 = k + j ∧ V L ⟨.num, v, s, n, d⟩ i = V L ⟨.num, (numF v k l).1, s, n, d⟩ (i + j) ∧ Ended L ⟨.num, (numF v k l).1, s, n, d⟩ (i + j)
  | [], v, k, i, hl, hk => by
    refine ⟨0, rfl, rfl, fun c hc => ?_⟩
    have := drop_get hc
    rw [Nat.add_zero, hl] at this
    cases this
  | x :: r, v, k, i, hl, hk => by
    obtain ⟨a1, a2, a3⟩ := drop_at hl
    by_cases hx : 48 ≤ x ∧ x ≤ 57
    · by_cases hs : v * 10 + (x - 48) > GR ∨ (v = 0 ∧ 0 < k)
      · simp only [numF, if_pos hx, if_pos hs]
        refine ⟨0, rfl, rfl, fun c hc => ?_⟩
        rw [Nat.add_zero, a1] at hc
        cases hc
        rw [tail_no (by omega) (by omega)]
        show inside _ _ = _
        unfold inside
        split
        · rename_i h
          dsimp only at h ⊢
          rw [if_neg (by omega)]
        · rw [if_neg (fun z => by cases z.1), tail_no (by omega) (by omega)]
      · simp only [numF, if_pos hx, if_neg hs]
        obtain ⟨j, j1, j2, j3⟩ := num_V L s n d r (v * 10 + (x - 48)) (k + 1) (i + 1) a3 (by omega)
        refine ⟨j + 1, by omega, ?_, ?_⟩
        · rw [show i + (j + 1) = i + 1 + j by omega, ← j2]
          refine V_some a1 ?_
          show inside _ _ = _
          unfold inside
          rw [if_pos ⟨rfl, by show 0 < v; omega, hx⟩]
          dsimp only
          rw [if_pos (by omega), show 10 * v = v * 10 by omega]
        · rw [show i + (j + 1) = i + 1 + j by omega]; exact j3
    · simp only [numF, if_neg hx]
      refine ⟨0, rfl, rfl, fun c hc => ?_⟩
      rw [Nat.add_zero, a1] at hc
      cases hc
      show inside _ _ = _
      unfold inside
      rw [if_neg (fun z => hx z.2.2), if_neg (fun z => by cases z.1)]
def Aft (L : List Nat) (c : List Fr) (t : Tr) (i : Nat) (σ : Mc) : Prop := Ended L σ i ∧ σ.s = c.map sm ∧ σ.n = szF c + t.size ∧ σ.d = max (mxF c) (c.length + t.dep) ∧ Lf σ.m
theorem leaf_V (L : List Nat) (c : List Fr) (v i : Nat) (hi : i ≤ L.length) (h40 : L[i]? ≠ some 40) : match rdLeaf L i with
    | .error k => V L (tr0 v c) i = (k : Int)
    | .ok (t, j) => ∃ σ, V L (tr0 v c) i = V L σ j ∧ Aft L c t j σ := by
  unfold rdLeaf
  cases hd : L.drop i with
  | nil =>
    have hn : L[i]? = none := List.getElem?_eq_none_iff.mpr (List.drop_eq_nil_iff.mp hd)
    rw [if_neg (by show ¬ 0 < nmF 8 []; decide)]
    have e0 : rdNum L i = .error i := by unfold rdNum; rw [hd]; rfl
    rw [e0]
    exact V_err hi (no_tree (by decide)) fun x hx => by rw [hn] at hx; cases hx
  | cons x r =>
    obtain ⟨a1, a2, a3⟩ := drop_at hd
    have hx40 : x ≠ 40 := fun z => h40 (by rw [a1, z])
    by_cases hl : 97 ≤ x ∧ x ≤ 122
    · have e8 : nmF 8 (x :: r) = nmF 7 r + 1 := by show (if _ then _ else _) = _; rw [if_pos hl]
      rw [e8, if_pos (by omega)]
      obtain ⟨n1, n2⟩ := nam_V L (c.map sm) (szF c + 1) (max (mxF c) ((c.map sm).length + 1)) r 1 (i + 1) a3 (by decide)
      rw [show 8 - 1 = 7 by rfl] at n1 n2
      refine ⟨⟨.nam, 1 + nmF 7 r, c.map sm, szF c + 1, max (mxF c) ((c.map sm).length + 1)⟩, ?_, ?_⟩
      · rw [show i + (nmF 7 r + 1) = i + 1 + nmF 7 r by omega, ← n1]
        refine V_some a1 ?_
        show begins _ _ = _
        unfold begins
        rw [if_neg hx40, if_neg (by omega), if_pos hl]
        rfl
      · rw [show i + (nmF 7 r + 1) = i + 1 + nmF 7 r by omega]
        exact ⟨n2, rfl, rfl, by simp [Tr.dep], .inr (.inl rfl)⟩
    · have e8 : nmF 8 (x :: r) = 0 := by show (if _ then _ else _) = _; rw [if_neg hl]
      rw [e8, if_neg (by omega)]
      unfold rdNum
      rw [hd]
      by_cases hx : 48 ≤ x ∧ x ≤ 57
      · have hG : GR = 1000000000000000000 := rfl
        have en : numF 0 0 (x :: r) = numF (x - 48) 1 r := by
          show (if _ then _ else _) = _
          rw [if_pos hx, if_neg (by omega), Nat.zero_mul, Nat.zero_add]
        obtain ⟨j, j1, j2, j3⟩ := num_V L (c.map sm) (szF c + 1) (max (mxF c) ((c.map sm).length + 1)) r (x - 48) 1 (i + 1) a3 (by decide)
        rw [en, j1, if_neg (by omega)]
        refine ⟨⟨.num, (numF (x - 48) 1 r).1, c.map sm, szF c + 1, max (mxF c) ((c.map sm).length + 1)⟩, ?_, ?_⟩
        · rw [show i + (1 + j) = i + 1 + j by omega, ← j2]
          refine V_some a1 ?_
          show begins _ _ = _
          unfold begins
          rw [if_neg hx40, if_pos hx]
          rfl
        · rw [show i + (1 + j) = i + 1 + j by omega]
          exact ⟨j3, rfl, rfl, by simp [Tr.dep], .inl rfl⟩
      · have en : numF 0 0 (x :: r) = (0, 0) := by
          show (if _ then _ else _) = _
          rw [if_neg hx]
        rw [en, if_pos rfl]
        exact V_err hi (no_tree (by decide)) fun y hy => by
          rw [a1] at hy; cases hy
          show begins _ _ = _
          unfold begins
          rw [if_neg hx40, if_neg hx, if_neg hl]
theorem opF_some {x : Option Nat} {o : Op} (h : opF x = some o) : x = some (oc o) := by
  unfold opF at h
  split at h <;> cases h <;> rfl
theorem opF_none {y : Nat} (h : opF (some y) = none) : ¬ (y = 43 ∨ y = 45 ∨ y = 42) := by
  rintro (rfl | rfl | rfl) <;> cases h
theorem beh_V (L : List Nat) : ∀ (c : List Fr) (t : Tr) (i : Nat) (σ : Mc), Aft L c t i σ → i ≤ L.length → match beh L t i c with
    | .error k => V L σ i = (k : Int)
    | .ok (some T, k, _) => V L σ i = vdt L.length (if k < L.length then .error k else .ok T)
    | .ok (none, k, c') => ∃ v, V L σ i = V L (tr0 v c') k
  | [], t, i, ⟨m, v, s, n, d⟩, ⟨he, hs, hn, hd, hm⟩, hi => by
    dsimp only at hs hn hd hm
    simp only [beh]
    subst hs
    by_cases hlt : i < L.length
    · rw [if_pos hlt]
      have hg : L[i]? = some L[i] := List.getElem?_eq_getElem hlt
      rw [V_cons _ hg, he _ hg]
      rfl
    · rw [if_neg hlt]
      rw [V_nil _ (List.getElem?_eq_none_iff.mpr (by omega))]
      simp only [vdt]
      simp only [szF, mxF, List.length_nil, Nat.zero_add, Nat.zero_max, Nat.zero_le, Nat.max_eq_right] at hn hd
      have : okE ⟨m, v, [].map sm, n, d⟩ ↔ t.size ≤ 200 ∧ t.dep ≤ 40 := by
        unfold okE
        dsimp only
        rw [hn, hd]
        exact ⟨fun z => ⟨z.2.2.1, z.2.2.2⟩, fun z => ⟨hm, rfl, z.1, z.2⟩⟩
      by_cases h : t.size ≤ 200 ∧ t.dep ≤ 40
      · rw [if_pos h, if_pos (this.mpr h)]
      · rw [if_neg h, if_neg (fun z => h (this.mp z))]
  | .l :: c, t, i, ⟨m, v, s, n, d⟩, ⟨he, hs, hn, hd, hm⟩, hi => by
    dsimp only at hs hn hd hm
    simp only [List.map_cons, sm] at hs
    subst hs
    have hno : ∀ m', ¬ okE ⟨m', v, .first :: c.map sm, n, d⟩ := fun m' z => by cases z.2.1
    simp only [beh, rdMid]
    by_cases h0 : L[i]? = some 32
    rotate_left
    · rw [if_neg h0]
      show V L _ i = _
      exact V_err hi (hno m) fun x hx => by
        rw [he x hx]
        simp only [tail]
        rw [if_neg (fun z => h0 (by rw [hx, z]))]
    · rw [if_pos h0]
      have hlt := get_lt h0
      have e1 : V L ⟨m, v, .first :: c.map sm, n, d⟩ i = V L ⟨.sgn, v, .first :: c.map sm, n, d⟩ (i + 1) := V_some h0 (by rw [he _ h0]; simp only [tail, if_true])
      rw [e1]
      cases ho : opF L[i + 1]? with
      | none =>
        show V L _ (i + 1) = _
        exact V_err (by omega) (hno _) fun x hx => by
          rw [hx] at ho
          simp only [step, if_neg (opF_none ho)]
      | some o =>
        have h1 := opF_some ho
        have hlt1 := get_lt h1
        have e2 : V L ⟨.sgn, v, .first :: c.map sm, n, d⟩ (i + 1) = V L ⟨.gap, v, .second :: c.map sm, n, d⟩ (i + 2) := V_some h1 (by simp only [step]; rw [if_pos (by cases o <;> decide)]; rfl)
        rw [e2]
        dsimp only
        by_cases h2 : L[i + 2]? = some 32
        · rw [if_pos h2]
          refine ⟨v, ?_⟩
          rw [V_some (σ' := ⟨.tree, v, .second :: c.map sm, n, d⟩) h2 (by simp only [step, if_true])]
          unfold tr0
          congr 2
          · simp only [szF] at hn ⊢; omega
        · rw [if_neg h2]
          show V L _ (i + 2) = _
          exact V_err (by omega) (fun z => by cases z.2.1) fun x hx => by
            simp only [step]
            rw [if_neg (fun z => h2 (by rw [hx, z]))]
  | .t :: c, t, i, ⟨m, v, s, n, d⟩, ⟨he, hs, hn, hd, hm⟩, hi => by
    dsimp only at hs hn hd hm
    simp only [List.map_cons, sm] at hs
    subst hs
    simp only [beh]
    by_cases h0 : L[i]? = some 41
    · rw [if_pos h0]
      have hlt := get_lt h0
      rw [V_some (σ' := ⟨.fin, v, c.map sm, n, d⟩) h0 (by rw [he _ h0]; simp only [tail, if_true])]
      refine beh_V L c (.turn t) (i + 1) _ ⟨fun x hx => ?_, rfl, ?_, ?_, .inr (.inr rfl)⟩ (by omega)
      · show inside _ _ = _
        unfold inside
        rw [if_neg (fun z => by cases z.1), if_neg (fun z => by cases z.1)]
      · simp only [szF, Tr.size] at hn ⊢; omega
      · simp only [mxF, List.length_cons, Tr.dep] at hd ⊢; omega
    · rw [if_neg h0]
      show V L _ i = _
      exact V_err hi (fun z => by cases z.2.1) fun x hx => by
        rw [he x hx]
        simp only [tail]
        rw [if_neg (fun z => h0 (by rw [hx, z]))]
  | .r o a :: c, t, i, ⟨m, v, s, n, d⟩, ⟨he, hs, hn, hd, hm⟩, hi => by
    dsimp only at hs hn hd hm
    simp only [List.map_cons, sm] at hs
    subst hs
    simp only [beh]
    by_cases h0 : L[i]? = some 41
    · rw [if_pos h0]
      have hlt := get_lt h0
      rw [V_some (σ' := ⟨.fin, v, c.map sm, n, d⟩) h0 (by rw [he _ h0]; simp only [tail, if_true])]
      refine beh_V L c (.two o a t) (i + 1) _ ⟨fun x hx => ?_, rfl, ?_, ?_, .inr (.inr rfl)⟩ (by omega)
      · show inside _ _ = _
        unfold inside
        rw [if_neg (fun z => by cases z.1), if_neg (fun z => by cases z.1)]
      · simp only [szF, Tr.size] at hn ⊢; omega
      · simp only [mxF, List.length_cons, Tr.dep] at hd ⊢; omega
    · rw [if_neg h0]
      show V L _ i = _
      exact V_err hi (fun z => by cases z.2.1) fun x hx => by
        rw [he x hx]
        simp only [tail]
        rw [if_neg (fun z => h0 (by rw [hx, z]))]
theorem shp_V (L : List Nat) : ∀ (n i : Nat) (c : List Fr) (v : Nat), i ≤ L.length → L.length + 2 ≤ n + i → V L (tr0 v c) i = vdt L.length (shp L n i c)
  | 0, i, c, v, hi, hn => by omega
  | n + 1, i, c, v, hi, hn => by
    have o1 := opn_V L (L.length - i) i c v (Nat.le_refl _) hi
    simp only [shp]
    cases ho : opn L i c with
    | error k => rw [ho] at o1; exact o1
    | ok jc =>
      obtain ⟨i1, c1⟩ := jc
      have o2 := opn_le L _ i c i1 c1 (Nat.le_refl _) ho hi
      rw [ho] at o1
      dsimp only at o1 ⊢
      rw [o1.1]
      have l1 := leaf_V L c1 v i1 o2.2.1 o1.2
      cases hl : rdLeaf L i1 with
      | error k => rw [hl] at l1; exact l1
      | ok tj =>
        obtain ⟨t, j⟩ := tj
        have l2 := rdLeaf_le hl
        rw [hl] at l1
        dsimp only at l1 ⊢
        obtain ⟨σ, s1, s2⟩ := l1
        rw [s1]
        have b1 := beh_V L c1 t j σ s2 l2.2
        cases hb : beh L t j c1 with
        | error k => rw [hb] at b1; exact b1
        | ok r =>
          obtain ⟨r, k, c2⟩ := r
          have b2 := beh_le L c1 t j r k c2 hb
          rw [hb] at b1
          cases r with
          | some T => exact b1
          | none =>
            dsimp only at b1 ⊢
            obtain ⟨v', b1⟩ := b1
            have := b2.2.2.2 rfl
            rw [b1]
            exact shp_V L n k c2 v' (by omega) (by omega)
def st0 : Mc := ⟨.tree, 0, [], 0, 0⟩
def dueF (L : List Nat) : Int := V L st0 0
theorem dueF_eq (L : List Nat) : dueF L = vdt L.length (rdShape L) := shp_V L (L.length + 2) 0 [] 0 (Nat.zero_le _) (by omega)
def txF : List Fr → List Nat
  | [] => []
  | .t :: c => txF c ++ [40, 45, 32]
  | .l :: c => txF c ++ [40]
  | .r o a :: c => txF c ++ 40 :: (cT a ++ [32, oc o, 32])
def okFr : List Fr → Prop
  | [] => True
  | .r _ a :: c => a.ok ∧ okFr c
  | _ :: c => okFr c
theorem take_get {L : List Nat} {i x : Nat} (h : L[i]? = some x) : L.take (i + 1) = L.take i ++ [x] := by
  rw [List.take_succ, h]; rfl
theorem opn_T (L : List Nat) : ∀ (m i : Nat) (c : List Fr) (j : Nat) (c' : List Fr), L.length - i ≤ m → opn L i c = .ok (j, c') → L.take i = txF c → okFr c → L.take j = txF c' ∧ okFr c' := by
  intro m
  induction m with
  | zero =>
    intro i c j c' hm h ht hk
    rw [opn] at h
    split at h
    · rename_i h1; have := get_lt h1; omega
    · cases h; exact ⟨ht, hk⟩
  | succ m ih =>
    intro i c j c' hm h ht hk
    rw [opn] at h
    split at h
    · rename_i h0
      have := get_lt h0
      split at h
      · rename_i h1
        split at h
        · rename_i h2
          refine ih _ _ _ _ (by omega) h ?_ hk
          rw [take_get h2, take_get h1, take_get h0, ht]
          simp [txF]
        · cases h
      · refine ih _ _ _ _ (by omega) h ?_ hk
        rw [take_get h0, ht]; rfl
    · cases h; exact ⟨ht, hk⟩
theorem nmF_let : ∀ (n : Nat) (l : List Nat), ∀ x ∈ l.take (nmF n l), 97 ≤ x ∧ x ≤ 122
  | 0, l, x, h => by simp [nmF] at h
  | n + 1, [], x, h => by simp [nmF] at h
  | n + 1, c :: r, x, h => by
    simp only [nmF] at h
    split at h
    · rename_i hc
      rw [List.take_succ_cons] at h
      rcases List.mem_cons.mp h with rfl | h
      · exact hc
      · exact nmF_let n r x h
    · simp at h
theorem dig_snoc {v x : Nat} (hv : 0 < v) (hx : x < 10) : dig (v * 10 + x) = dig v ++ [48 + x] := by
  rw [dig, dif_neg (by omega)]
  congr 2
  · congr 1; omega
  · omega
theorem numF_dig : ∀ (l : List Nat) (v k : Nat), 0 < k → v ≤ GR → ∃ j, (numF v k l).2 = k + j ∧ dig v ++ l.take j = dig (numF v k l).1 ∧ (numF v k l).1 ≤ GR
  | [], v, k, hk, hv => ⟨0, rfl, by simp [numF], hv⟩
  | x :: r, v, k, hk, hv => by
    by_cases hx : 48 ≤ x ∧ x ≤ 57
    · by_cases hs : v * 10 + (x - 48) > GR ∨ (v = 0 ∧ 0 < k)
      · simp only [numF, if_pos hx, if_pos hs]
        exact ⟨0, rfl, by simp, hv⟩
      · simp only [numF, if_pos hx, if_neg hs]
        obtain ⟨j, j1, j2, j3⟩ := numF_dig r (v * 10 + (x - 48)) (k + 1) (by omega) (by omega)
        refine ⟨j + 1, by omega, ?_, j3⟩
        rw [← j2, dig_snoc (by omega) (by omega), List.take_succ_cons, List.append_assoc, show 48 + (x - 48) = x by omega]
        rfl
    · simp only [numF, if_neg hx]
      exact ⟨0, rfl, by simp, hv⟩
theorem num_text {L : List Nat} {i v j : Nat} (h : rdNum L i = .ok (v, j)) : L.take j = L.take i ++ dig v ∧ v ≤ GR := by
  unfold rdNum at h
  split at h
  · cases h
  · rename_i h0
    injection h with h
    injection h with h1 h2
    cases hd : L.drop i with
    | nil => rw [hd] at h0; exact (h0 rfl).elim
    | cons x r =>
      rw [hd] at h0 h1 h2
      have hG : GR = 1000000000000000000 := rfl
      by_cases hx : 48 ≤ x ∧ x ≤ 57
      · have en : numF 0 0 (x :: r) = numF (x - 48) 1 r := by
          show (if _ then _ else _) = _
          rw [if_pos hx, if_neg (by omega), Nat.zero_mul, Nat.zero_add]
        obtain ⟨k, k1, k2, k3⟩ := numF_dig r (x - 48) 1 (by decide) (by omega)
        rw [en] at h1 h2
        rw [h1] at k2 k3
        rw [k1] at h2
        refine ⟨?_, k3⟩
        rw [← k2, ← h2]
        have e0 : dig (x - 48) = [x] := by rw [dig, dif_pos (by omega), show 48 + (x - 48) = x by omega]
        rw [e0, List.take_add, hd, show 1 + k = k + 1 by omega, List.take_succ_cons]
        rfl
      · have en : numF 0 0 (x :: r) = (0, 0) := by
          show (if _ then _ else _) = _
          rw [if_neg hx]
        rw [en] at h0
        exact (h0 rfl).elim
theorem leaf_T {L : List Nat} {i j : Nat} {t : Tr} (h : rdLeaf L i = .ok (t, j)) : L.take j = L.take i ++ cT t ∧ t.ok := by
  unfold rdLeaf at h
  split at h
  · rename_i h0
    injection h with h
    injection h with h1 h2
    subst h1 h2
    have hm := nmF_le 8 (L.drop i)
    refine ⟨?_, ?_, ?_, ?_⟩
    · rw [List.take_add]
      congr 1
    · show (tx _).length ≤ 8
      rw [← lenL, tx_ch, List.length_take]; omega
    · show 1 ≤ (tx _).length
      rw [← lenL, tx_ch, List.length_take]; omega
    · intro x hx
      rw [tx_ch] at hx
      exact nmF_let 8 (L.drop i) x hx
  · split at h
    · cases h
    · rename_i v j1 h2
      injection h with h
      injection h with h1 h3
      subst h1 h3
      obtain ⟨n1, n2⟩ := num_text h2
      have hG : GR = 1000000000000000000 := rfl
      refine ⟨?_, ?_, ?_⟩
      · rw [n1]
        congr 1
        show _ = (Str.ofString (toString (v : Int))).cps.toList
        rw [num_ch (by omega)]
        simp
      · show (0 : Int) ≤ v; omega
      · show (v : Int) ≤ 10 ^ 18; omega
theorem beh_T (L : List Nat) : ∀ (c : List Fr) (t : Tr) (i : Nat) (r : Option Tr) (k : Nat) (c' : List Fr), beh L t i c = .ok (r, k, c') → L.take i = txF c ++ cT t → t.ok → okFr c → (match r with
    | some T => L.take k = cT T ∧ T.ok
    | none => L.take k = txF c' ∧ okFr c')
  | [], t, i, r, k, c', h, ht, hk, hc => by cases h; exact ⟨ht, hk⟩
  | .l :: c, t, i, r, k, c', h, ht, hk, hc => by
    simp only [beh] at h
    split at h
    · cases h
    · rename_i o ho
      cases h
      obtain ⟨h1, h2, h3⟩ := rdMid_ok ho
      refine ⟨?_, hk, hc⟩
      rw [take_get h3, take_get (opF_some h2), take_get h1, ht]
      simp [txF]
  | .t :: c, t, i, r, k, c', h, ht, hk, hc => by
    simp only [beh] at h
    split at h
    · rename_i h0
      refine beh_T L c (.turn t) (i + 1) r k c' h ?_ hk hc
      rw [take_get h0, ht, cT_turn]
      simp [txF]
    · cases h
  | .r o a :: c, t, i, r, k, c', h, ht, hk, hc => by
    simp only [beh] at h
    split at h
    · rename_i h0
      refine beh_T L c (.two o a t) (i + 1) r k c' h ?_ ⟨hc.1, hk⟩ hc.2
      rw [take_get h0, ht, cT_two]
      simp [txF]
    · cases h
theorem shp_T (L : List Nat) : ∀ (n i : Nat) (c : List Fr) (T : Tr), shp L n i c = .ok T → L.take i = txF c → okFr c → L = cT T ∧ T.ok
  | 0, i, c, T, h, ht, hc => by cases h
  | n + 1, i, c, T, h, ht, hc => by
    simp only [shp] at h
    cases ho : opn L i c with
    | error k => rw [ho] at h; cases h
    | ok jc =>
      obtain ⟨i1, c1⟩ := jc
      rw [ho] at h
      obtain ⟨o1, o2⟩ := opn_T L _ i c i1 c1 (Nat.le_refl _) ho ht hc
      dsimp only at h
      cases hl : rdLeaf L i1 with
      | error k => rw [hl] at h; cases h
      | ok tj =>
        obtain ⟨t, j⟩ := tj
        rw [hl] at h
        obtain ⟨l1, l2⟩ := leaf_T hl
        rw [o1] at l1
        dsimp only at h
        cases hb : beh L t j c1 with
        | error k => rw [hb] at h; cases h
        | ok r =>
          obtain ⟨r, k, c2⟩ := r
          rw [hb] at h
          have b1 := beh_T L c1 t j r k c2 hb l1 l2 o2
          cases r with
          | some T' =>
            dsimp only at h b1
            split at h
            · cases h
            · rename_i hk
              cases h
              rw [List.take_of_length_le (by omega)] at b1
              exact b1
          | none =>
            dsimp only at h b1
            exact shp_T L n k c2 T h b1.1 b1.2
theorem rd_text {L : List Nat} {T : Tr} (h : rdShape L = .ok T) : L = cT T ∧ T.ok := shp_T L _ 0 [] T h rfl trivial
end K09
namespace K09
open PySem L2 U2
section
variable {P : Program} {w : World} {K : PySem.W.Frag} {mg : Str → Option Value} {base : Heap} {f d d2 fl : Addr} {fd : FuncData}
def mdw : Md → Str
  | .tree => "tree" | .brk => "bracket" | .gap => "gap" | .sgn => "sign" | .num => "number" | .nam => "name" | .fin => "done"
def smw : Sm → Str
  | .turn => "turn" | .first => "first" | .second => "second"
def now1 (q : Addr) (σ : Mc) : List U := [.int (σ.v : Int), .ref q, .int (σ.n : Int), .int (σ.d : Int)]
def nowU (q : Addr) (σ : Mc) : List U := .str (mdw σ.m) :: now1 q σ
def stkU (s : List Sm) : List U := (s.map fun x => U.str (smw x)).reverse
theorem stkU_cons (x : Sm) (s : List Sm) : stkU (x :: s) = stkU s ++ [.str (smw x)] := by simp [stkU]
theorem stkU_len (s : List Sm) : (stkU s).length = s.length := by simp [stkU]
def mm (M : MHp) (p q : Addr) (X Y : List U) : MHp := fun b => if b = p then some (.lst X) else if b = q then some (.lst Y) else M b
theorem mm_p {M : MHp} {p q : Addr} {X Y : List U} : mm M p q X Y p = some (.lst X) := by unfold mm; rw [if_pos rfl]
theorem mm_q {M : MHp} {p q : Addr} {X Y : List U} (h : q ≠ p) : mm M p q X Y q = some (.lst Y) := by unfold mm; rw [if_neg h, if_pos rfl]
theorem mm_sp {M : MHp} {p q : Addr} {X Y Z : List U} : mup (mm M p q X Y) p (.lst Z) = mm M p q Z Y := by
  funext b; unfold mup mm; split <;> rfl
theorem mm_sq {M : MHp} {p q : Addr} {X Y Z : List U} (h : q ≠ p) : mup (mm M p q X Y) q (.lst Z) = mm M p q X Z := by
  funext b; unfold mup mm
  split
  · rename_i e; subst e; rw [if_neg h]
  · rfl
theorem mm_vp {M : MHp} {p q : Addr} {X Y : List U} : view (mm M p q X Y) (.ref p) = .lst X := view_ref mm_p
theorem mm_vq {M : MHp} {p q : Addr} {X Y : List U} (h : q ≠ p) : view (mm M p q X Y) (.ref q) = .lst Y := view_ref (mm_q h)
theorem mm_lq {M : MHp} {p q : Addr} {X Y : List U} (h : q ≠ p) : isL (mm M p q X Y) (.ref q) := ⟨_, mm_vq h⟩
theorem one_tx (c k : Nat) : ((⟨#[c]⟩ : Str) = tx [k]) = (c = k) := by
  show (tx [c] = tx [k]) = _
  rw [tx_inj]; simp
theorem fig_s : Str.ofString "0123456789" = FIG := rfl
theorem let_s : Str.ofString "abcdefghijklmnopqrstuvwxyz" = LET := rfl
theorem occ_fig {c : Nat} (h : 48 ≤ c ∧ c ≤ 57) : ∃ r, Builtin.Str.occurrences FIG ⟨#[c]⟩ 0 FIG.length 1 = (c - 48) :: r := by
  have : ∀ k : Fin 10, Builtin.Str.occurrences FIG ⟨#[48 + k.val]⟩ 0 FIG.length 1 = [k.val] := by decide +kernel
  have := this ⟨c - 48, by omega⟩
  simp only at this
  rw [show 48 + (c - 48) = c by omega] at this
  exact ⟨_, this⟩
theorem at4 {α : Type} {a b c d e : α} {r : List α} : atI (a :: b :: c :: d :: e :: r) 4 = some e := atI_nat (j := 4) rfl
def spBeg : USp := fun us M Q => ∃ (M0 : MHp) (p q : Addr) (σ : Mc) (c : Nat) (z : Str), us = [.ref p, .str ⟨#[c]⟩] ∧ q ≠ p ∧ M = mm M0 p q (.str z :: now1 q σ) (stkU σ.s) ∧ (match begins σ c with
  | some σ' => Q (.bl true) (mm M0 p q (nowU q σ') (stkU σ'.s))
  | none => ∀ X Y, Q (.bl false) (mm M0 p q X Y))
local macro_rules | `(tactic| simp! only [$xs,*] $[$l]?) => `(tactic| simp only [$xs,*, Bool.false_eq_true, Bool.not_false, Bool.not_true, List.append_nil, List.cons_append, List.getElem?_cons_succ, List.getElem?_cons_zero, List.length_cons, List.length_nil, List.map_cons, List.map_nil, List.nil_append, List.replicate, List.set_cons_succ, List.set_cons_zero, Nat.add_sub_cancel, Nat.reduceAdd, Nat.reduceLeDiff, Nat.reduceSub, Nat.sub_self, Option.getD_some, Option.some.injEq, and_true, at0, at1, at2, at3, bAll, bInt, bInt1, bInt2, bIsi2, bLen, bList, bMax, bSum, bTuple, cGe, cGt, cLe, cLt, capt, decide_false, decide_true, eqX_int, eqX_str, exists_eq_left', if_false, if_true, inSt, isNon, isi_NoneType_bool, isi_NoneType_dict, isi_NoneType_int, isi_NoneType_list, isi_NoneType_str, isi_NoneType_tuple, isi_bool_bool, isi_bool_dict, isi_bool_int, isi_bool_list, isi_bool_str, isi_bool_tuple, isi_dict_bool, isi_dict_dict, isi_dict_int, isi_dict_list, isi_dict_str, isi_dict_tuple, isi_int_bool, isi_int_dict, isi_int_int, isi_int_list, isi_int_str, isi_int_tuple, isi_list_bool, isi_list_dict, isi_list_int, isi_list_list, isi_list_str, isi_list_tuple, isi_str_bool, isi_str_dict, isi_str_int, isi_str_list, isi_str_str, isi_str_tuple, isi_tuple_bool, isi_tuple_dict, isi_tuple_int, isi_tuple_list, isi_tuple_str, isi_tuple_tuple, items, mAppend, mClear, mExtend, mPop, mPopAt, mkL, mup_mup, mup_same, reduceCtorEq, startU, szl, true_and, typU, uAdd, uAddL, uAnd, uAndV, uBM, uBM0, uC, uCB, uCall, uCallV, uChain, uCons, uEnum, uEnumL, uEqS, uI, uI0, uIf, uIsN, uIter, uIx, uLst, uLtX, uMul, uNeS, uNil, uNoPart, uNot, uNotN, uNotV, uOp, uOr, uOrV, uPart, uRng1, uRng2, uSlX, uTest, uTru, uTup, uUn, uVar, uZip, ux0, uxCall, uxCallV, vw_bl, vw_int, vw_lst, vw_non, vw_own, vw_str, vw_tup] $[$l]?)
theorem ok_beg (F : Fun K "_law_begins" "_law_begins" s_law_begins f fd) (hm : mg "_law_begins" = some (.ref f)) (m_len : mg "len" = none) (m_max : mg "max" = none) : Callee P w K mg base 1 "_law_begins" spBeg [] := by
  refine callee2 F hm sc_law_begins (ar2 fun _ _ _ _ _ _ _ _ => rfl) (uss_cons (us_if (ut_c k_eqX (uv 1) us_)
  (uss_cons (us_asub us_ (uv 0) un_)
  (uss_cons (us_asub (ue_add (own := false) (ue_ix (uv 0) un_) un_) (uv 0) un_)
  (uss_one (us_ret ub_))))
  uss_nil)
  (uss_cons (us_asub us_ (uv 0) un_)
  (uss_cons (us_if (ut_c k_inS (uv 1) us_)
  (uss_cons (us_asub us_ (uv 0) un_)
  (uss_one (us_asub (ue_indexS us_ (ua_cons (uv 1) ua_nil)) (uv 0) un_)))
  uss_nil)
  (uss_cons (us_if (ut_c k_inS (uv 1) us_)
  (uss_cons (us_asub us_ (uv 0) un_)
  (uss_one (us_asub un_ (uv 0) un_)))
  uss_nil)
  (uss_cons (us_asub (ue_add (own := false) (ue_ix (uv 0) un_) un_) (uv 0) un_)
  (uss_cons (us_asub (ue_b b_maxX m_max (ua_cons (ue_ix (uv 0) un_) (ua_cons (ue_add (own := false) (ue_b b_len m_len (ua_cons (ue_ix (uv 0) un_) ua_nil)) un_) ua_nil))) (uv 0) un_)
  (uss_one (us_ret (ue_c k_neX (ue_ix (uv 0) un_) us_))))))))) ?_
  rintro us M Q ⟨M0, p, q, σ, c, z, rfl, hqp, rfl, k⟩
  refine ⟨rfl, ?_⟩
  have vq : ∀ X Y, view (mm M0 p q X Y) (.ref q) = .lst Y := fun X Y => mm_vq hqp
  unfold begins at k
  refine seq_gen fun V1 hV1 => ?_
  refine if_gen fun A B hA hB => ?_
  simp! only [lp_tx, one_tx]
  by_cases h40 : c = 40
  · rw [if_pos h40] at k
    rw [decide_eq_true h40, if_pos rfl]
    subst hA
    refine seq_gen fun V2 hV2 => ?_
    simp! only [uSetI, mm_vp, mm_p]
    refine ⟨0, rfl, ?_⟩
    subst hV2
    refine seq_gen fun V3 hV3 => ?_
    simp! only [mm_sp, now1, uSetI, mm_vp, mm_p]
    refine ⟨3, rfl, ?_⟩
    subst hV3
    simp! only [mm_sp, uRet]
    exact rt_same k
  rw [if_neg h40] at k
  rw [decide_eq_false h40, if_neg (by simp)]
  subst hB
  simp only [uNext]
  subst hV1
  refine seq_gen fun V2 hV2 => ?_
  simp! only [uSetI, mm_vp, mm_p]
  refine ⟨0, rfl, ?_⟩
  simp only [mm_sp, now1, List.set_cons_zero]
  subst hV2
  refine seq_gen fun V3 hV3 => ?_
  refine if_gen fun A B hA hB => ?_
  have f3 : ∀ (y : Str) (v : Nat), (∀ (y2 : Str) (v2 : Nat), (if 97 ≤ c ∧ c ≤ 122 then y2 = Str.ofString "name" ∧ v2 = 1 else y2 = y ∧ v2 = v) → (if y2 = Str.ofString "" then ∀ X Y, Q (.bl false) (mm M0 p q X Y) else Q (.bl true) (mm M0 p q [.str y2, .int (v2 : Int), .ref q, .int ((σ.n + 1 : Nat) : Int), .int ((max σ.d (σ.s.length + 1) : Nat) : Int)] (stkU σ.s)))) →
      V3 [some (.ref p), some (.str ⟨#[c]⟩)] (mm M0 p q [.str y, .int (v : Int), .ref q, .int (σ.n : Int), .int (σ.d : Int)] (stkU σ.s)) := by
    intro y v hk
    subst hV3
    refine seq_gen fun V4 hV4 => ?_
    refine if_gen fun A B hA hB => ?_
    have f4 : ∀ (y2 : Str) (v2 : Nat), (if y2 = Str.ofString "" then ∀ X Y, Q (.bl false) (mm M0 p q X Y) else Q (.bl true) (mm M0 p q [.str y2, .int (v2 : Int), .ref q, .int ((σ.n + 1 : Nat) : Int), .int ((max σ.d (σ.s.length + 1) : Nat) : Int)] (stkU σ.s))) →
        V4 [some (.ref p), some (.str ⟨#[c]⟩)] (mm M0 p q [.str y2, .int (v2 : Int), .ref q, .int (σ.n : Int), .int (σ.d : Int)] (stkU σ.s)) := by
      intro y2 v2 hk2
      subst hV4
      refine seq_gen fun V5 hV5 => ?_
      simp! only [uSetI, mm_vp, mm_p]
      refine ⟨3, rfl, ?_⟩
      simp only [mm_sp, List.set_cons_succ, List.set_cons_zero]
      subst hV5
      refine seq_gen fun V6 hV6 => ?_
      simp! only [uSetI, mm_vp, mm_p, vq, at4, stkU_len]
      refine ⟨4, rfl, ?_⟩
      simp only [mm_sp, List.set_cons_succ, List.set_cons_zero]
      subst hV6
      have e1 : (σ.n : Int) + 1 = ((σ.n + 1 : Nat) : Int) := by omega
      have e2 : (σ.s.length : Int) + 1 = ((σ.s.length + 1 : Nat) : Int) := by omega
      simp! only [uRet, mm_vp, e1, e2, max_cast]
      by_cases h : y2 = Str.ofString ""
      · rw [if_pos h] at hk2
        rw [decide_eq_true h]
        exact rt_same (hk2 _ _)
      · rw [if_neg h] at hk2
        rw [decide_eq_false h]
        exact rt_same hk2
    simp! only [let_s, in_let]
    by_cases hl : 97 ≤ c ∧ c ≤ 122
    · rw [decide_eq_true hl, if_pos rfl]
      simp only [if_pos hl] at hk
      subst hA
      refine seq_gen fun V5 hV5 => ?_
      simp! only [uSetI, mm_vp, mm_p]
      refine ⟨0, rfl, ?_⟩
      simp only [mm_sp, List.set_cons_zero]
      subst hV5
      simp! only [uSetI, mm_vp, mm_p]
      refine ⟨1, rfl, ?_⟩
      simp only [mm_sp, List.set_cons_succ, List.set_cons_zero]
      exact f4 _ 1 (hk _ _ ⟨rfl, rfl⟩)
    · rw [decide_eq_false hl, if_neg (by simp)]
      simp only [if_neg hl] at hk
      subst hB
      simp only [uNext]
      exact f4 y v (hk _ _ ⟨rfl, rfl⟩)
  simp! only [fig_s, in_fig]
  by_cases hf : 48 ≤ c ∧ c ≤ 57
  · rw [if_pos hf] at k
    rw [decide_eq_true hf, if_pos rfl]
    subst hA
    refine seq_gen fun V4 hV4 => ?_
    simp! only [uSetI, mm_vp, mm_p]
    refine ⟨0, rfl, ?_⟩
    simp only [mm_sp, List.set_cons_zero]
    subst hV4
    obtain ⟨r, ho⟩ := occ_fig hf
    simp! only [uSetI, mm_vp, mm_p, uBMF, isTx, mIndexS, fig_s]
    refine ⟨⟨_, rfl⟩, _, _, ho, 1, rfl, ?_⟩
    simp only [mm_sp, List.set_cons_succ, List.set_cons_zero]
    refine f3 (Str.ofString "number") (c - 48) fun y2 v2 hy => ?_
    rw [if_neg (by omega)] at hy
    obtain ⟨rfl, rfl⟩ := hy
    rw [if_neg (by decide +kernel)]
    exact k
  · rw [if_neg hf] at k
    rw [decide_eq_false hf, if_neg (by simp)]
    subst hB
    simp only [uNext]
    refine f3 (Str.ofString "") σ.v fun y2 v2 hy => ?_
    by_cases hl : 97 ≤ c ∧ c ≤ 122
    · rw [if_pos hl] at hy k
      obtain ⟨rfl, rfl⟩ := hy
      rw [if_neg (by decide +kernel)]
      exact k
    · rw [if_neg hl] at hy k
      obtain ⟨rfl, rfl⟩ := hy
      rw [if_pos rfl]
      exact k
theorem mdw_num (m : Md) : decide (mdw m = Str.ofString "number") = decide (m = .num) := by cases m <;> decide +kernel
theorem mdw_nam (m : Md) : decide (mdw m = Str.ofString "name") = decide (m = .nam) := by cases m <;> decide +kernel
theorem mdw_brk (m : Md) : decide (mdw m = Str.ofString "bracket") = decide (m = .brk) := by cases m <;> decide +kernel
theorem mdw_tree (m : Md) : decide (mdw m = Str.ofString "tree") = decide (m = .tree) := by cases m <;> decide +kernel
theorem mdw_gap (m : Md) : decide (mdw m = Str.ofString "gap") = decide (m = .gap) := by cases m <;> decide +kernel
theorem mdw_sgn (m : Md) : decide (mdw m = Str.ofString "sign") = decide (m = .sgn) := by cases m <;> decide +kernel
theorem smw_first (x : Sm) : decide (smw x = Str.ofString "first") = (match x with | .first => true | _ => false) := by cases x <;> decide +kernel
theorem p18 : (10 : Int) ^ (18 : Int).toNat = 1000000000000000000 := by decide
theorem atL {α : Type} {l : List α} {a : α} : atI (l ++ [a]) (-1) = some a := by
  unfold atI ixN
  simp only [List.length_append, List.length_cons, List.length_nil]
  rw [if_neg (by omega), if_pos (by omega)]
  have : ((-1 : Int) + ((l.length + (0 + 1) : Nat) : Int)).toNat = l.length := by omega
  simp only [Option.bind_some, this]
  simp
def spIns : USp := fun us M Q => ∃ (M0 : MHp) (p q : Addr) (σ : Mc) (c : Nat), us = [.ref p, .str ⟨#[c]⟩] ∧ q ≠ p ∧ M = mm M0 p q (nowU q σ) (stkU σ.s) ∧ σ.v ≤ GR ∧ (match inside σ c with
  | some σ' => Q (.bl true) (mm M0 p q (nowU q σ') (stkU σ'.s))
  | none => ∀ X Y, Q (.bl false) (mm M0 p q X Y))
theorem ok_ins (F : Fun K "_law_inside" "_law_inside" s_law_inside f fd) (hm : mg "_law_inside" = some (.ref f)) (m_len : mg "len" = none) : Callee P w K mg base 1 "_law_inside" spIns [] := by
  refine callee2 F hm sc_law_inside (ar2 fun _ _ _ _ _ _ _ _ => rfl) (uss_cons (us_if (PWU.pt (uw_and (ut_c k_eqX (ue_ix (uv 0) un_) us_) (uw_and (ut_c k_gt (ue_ix (uv 0) un_) un_) (uw_and1 (ut_c k_inS (uv 1) us_)))))
  (uss_cons (us_asub (ue_add (own := false) (ue_mulX (own := false) un_ (ue_ix (uv 0) un_)) (ue_indexS us_ (ua_cons (uv 1) ua_nil))) (uv 0) un_)
  (uss_one (us_ret (ue_c k_le (ue_ix (uv 0) un_) (ue_pow un_ un_)))))
  uss_nil)
  (uss_cons (us_if (PWU.pt (uw_and (ut_c k_eqX (ue_ix (uv 0) un_) us_) (uw_and1 (ut_c k_inS (uv 1) us_))))
  (uss_cons (us_asub (ue_add (own := false) (ue_ix (uv 0) un_) un_) (uv 0) un_)
  (uss_one (us_ret (ue_c k_le (ue_ix (uv 0) un_) un_))))
  uss_nil)
  (uss_cons (us_if (ut_c k_eqX (ue_b b_len m_len (ua_cons (ue_ix (uv 0) un_) ua_nil)) un_)
  (uss_one (us_ret ub_))
  uss_nil)
  (uss_cons (us_if (ut_c k_eqX (ue_ix (ue_ix (uv 0) un_) (ue_neg un_)) us_)
  (uss_cons (us_asub us_ (uv 0) un_)
  (uss_one (us_ret (ue_c k_eqX (uv 1) us_))))
  uss_nil)
  (uss_cons (us_expr (ue_pop (ue_ix (uv 0) un_)))
  (uss_cons (us_asub us_ (uv 0) un_)
  (uss_one (us_ret (ue_c k_eqX (uv 1) us_))))))))) ?_
  rintro us M Q ⟨M0, p, q, ⟨m, v, s, n, d⟩, c, rfl, hqp, rfl, hv, k⟩
  refine ⟨rfl, ?_⟩
  have vq : ∀ X Y, view (mm M0 p q X Y) (.ref q) = .lst Y := fun X Y => mm_vq hqp
  have gq : ∀ X Y, mm M0 p q X Y q = some (.lst Y) := fun X Y => mm_q hqp
  have sq : ∀ X Y Z, mup (mm M0 p q X Y) q (.lst Z) = mm M0 p q X Z := fun X Y Z => mm_sq hqp
  have hG : (GR : Nat) = 1000000000000000000 := rfl
  have pw : CPow 10 18 := ⟨by decide, by decide, by decide⟩
  unfold inside at k
  dsimp only at k hv
  refine seq_gen fun V1 hV1 => ?_
  refine if_gen fun A B hA hB => ?_
  simp! only [nowU, now1, mm_vp, mdw_num, fig_s, in_fig]
  have hA' : (m = .num ∧ 0 < v ∧ (48 ≤ c ∧ c ≤ 57)) → A (mm M0 p q [.str (mdw m), .int (v : Int), .ref q, .int (n : Int), .int (d : Int)] (stkU s)) := fun h => by
    rw [if_pos h] at k
    obtain ⟨r, ho⟩ := occ_fig h.2.2
    subst hA
    refine seq_gen fun V2 hV2 => ?_
    simp! only [uSetI, mm_vp, mm_p, uBMF, isTx, mIndexS, fig_s]
    refine ⟨mulB (by decide) (by decide) (by omega) (by omega), ⟨_, rfl⟩, _, _, ho, 1, rfl, ?_⟩
    have ev : (10 * (v : Int) + ((c - 48 : Nat) : Int)) = ((10 * v + (c - 48) : Nat) : Int) := by omega
    simp only [mm_sp, List.set_cons_succ, List.set_cons_zero, ev]
    subst hV2
    simp! only [uRet, mm_vp, p18]
    refine ⟨pw, ?_⟩
    rw [h.1]
    by_cases hg : 10 * v + (c - 48) ≤ GR
    · rw [if_pos hg] at k
      rw [decide_eq_true (by omega)]
      exact rt_same k
    · rw [if_neg hg] at k
      rw [decide_eq_false (by omega)]
      exact rt_same (k _ _)
  have hB' : ¬ (m = .num ∧ 0 < v ∧ (48 ≤ c ∧ c ≤ 57)) → B (mm M0 p q [.str (mdw m), .int (v : Int), .ref q, .int (n : Int), .int (d : Int)] (stkU s)) := fun h => by
    rw [if_neg h] at k
    subst hB
    simp only [uNext]
    subst hV1
    refine seq_gen fun V2 hV2 => ?_
    refine if_gen fun A2 B2 hA2 hB2 => ?_
    simp! only [mm_vp, mdw_nam, let_s, in_let]
    have hA3 : (m = .nam ∧ (97 ≤ c ∧ c ≤ 122)) → A2 (mm M0 p q [.str (mdw m), .int (v : Int), .ref q, .int (n : Int), .int (d : Int)] (stkU s)) := fun h => by
      rw [if_pos h] at k
      subst hA2
      refine seq_gen fun V3 hV3 => ?_
      simp! only [uSetI, mm_vp, mm_p]
      refine ⟨1, rfl, ?_⟩
      have ev : ((v : Int) + 1) = ((v + 1 : Nat) : Int) := by omega
      simp only [mm_sp, List.set_cons_succ, List.set_cons_zero, ev]
      subst hV3
      simp! only [uRet, mm_vp]
      rw [h.1]
      by_cases hg : v + 1 ≤ 8
      · rw [if_pos hg] at k
        rw [decide_eq_true (by omega)]
        exact rt_same k
      · rw [if_neg hg] at k
        rw [decide_eq_false (by omega)]
        exact rt_same (k _ _)
    have hB3 : ¬ (m = .nam ∧ (97 ≤ c ∧ c ≤ 122)) → B2 (mm M0 p q [.str (mdw m), .int (v : Int), .ref q, .int (n : Int), .int (d : Int)] (stkU s)) := fun h => by
      rw [if_neg h] at k
      unfold tail at k
      dsimp only at k
      subst hB2
      simp only [uNext]
      subst hV2
      refine seq_gen fun V3 hV3 => ?_
      refine if_gen fun A4 B4 hA4 hB4 => ?_
      simp! only [mm_vp, vq, stkU_len]
      cases s with
      | nil =>
        rw [if_pos (decide_eq_true (by simp))]
        subst hA4
        simp! only [uRet]
        exact rt_same (k _ _)
      | cons x s =>
        rw [if_neg (fun z => by have := of_decide_eq_true z; simp only [List.length_cons] at this; omega)]
        subst hB4
        simp only [uNext]
        subst hV3
        refine seq_gen fun V4 hV4 => ?_
        refine if_gen fun A5 B5 hA5 hB5 => ?_
        simp! only [mm_vp, vq, stkU_cons, atL, smw_first]
        have other : (∀ y, x = y → y ≠ Sm.first) → (if c = 41 then Q (.bl true) (mm M0 p q (nowU q ⟨.fin, v, s, n, d⟩) (stkU s)) else ∀ X Y, Q (.bl false) (mm M0 p q X Y)) → B5 (mm M0 p q [.str (mdw m), .int (v : Int), .ref q, .int (n : Int), .int (d : Int)] (stkU s ++ [.str (smw x)])) := fun hx k => by
          subst hB5
          simp only [uNext]
          subst hV4
          refine seq_gen fun V5 hV5 => ?_
          simp! only [uDrop, mm_vp, gq, glast, dlast]
          refine ⟨mm_lq hqp, ?_⟩
          rw [sq]
          subst hV5
          refine seq_gen fun V6 hV6 => ?_
          simp! only [uSetI, mm_vp, mm_p]
          refine ⟨0, rfl, ?_⟩
          simp only [mm_sp, List.set_cons_zero]
          subst hV6
          simp! only [uRet, rp_tx, one_tx]
          by_cases h41 : c = 41
          · rw [if_pos h41] at k
            rw [decide_eq_true h41]
            exact rt_same k
          · rw [if_neg h41] at k
            rw [decide_eq_false h41]
            exact rt_same (k _ _)
        cases x with
        | first =>
          dsimp only at k ⊢
          rw [if_pos rfl]
          subst hA5
          refine seq_gen fun V5 hV5 => ?_
          simp! only [uSetI, mm_vp, mm_p]
          refine ⟨0, rfl, ?_⟩
          simp only [mm_sp, List.set_cons_zero]
          subst hV5
          simp! only [uRet, sp_tx, one_tx]
          by_cases h32 : c = 32
          · rw [if_pos h32] at k
            rw [decide_eq_true h32]
            rw [← stkU_cons]
            exact rt_same k
          · rw [if_neg h32] at k
            rw [decide_eq_false h32]
            exact rt_same (k _ _)
        | turn =>
          dsimp only at k ⊢
          rw [if_neg (by simp)]
          exact other (fun y e z => by rw [z] at e; cases e) (by split at k <;> rename_i z <;> split at z <;> rename_i h41 <;> (first | (cases z; done) | skip) <;> first | (rw [if_pos h41]; cases z; exact k) | (rw [if_neg h41]; exact k))
        | second =>
          dsimp only at k ⊢
          rw [if_neg (by simp)]
          exact other (fun y e z => by rw [z] at e; cases e) (by split at k <;> rename_i z <;> split at z <;> rename_i h41 <;> (first | (cases z; done) | skip) <;> first | (rw [if_pos h41]; cases z; exact k) | (rw [if_neg h41]; exact k))
    exact ite2 (fun b1 => ite2 (fun b2 => hA3 ⟨of_decide_eq_true b1, of_decide_eq_true b2⟩) fun b2 => hB3 fun h => b2 (decide_eq_true h.2)) fun b1 => hB3 fun h => b1 (decide_eq_true h.1)
  refine ite2 (fun b1 => ite2 (fun b2 => ite2 (fun b3 => hA' ⟨of_decide_eq_true b1, by have := of_decide_eq_true b2; omega, of_decide_eq_true b3⟩) fun b3 => hB' fun h => b3 (decide_eq_true h.2.2)) fun b2 => hB' fun h => b2 (decide_eq_true (by have := h.2.1; omega))) fun b1 => hB' fun h => b1 (decide_eq_true h.1)
theorem step_in {σ : Mc} {c : Nat} (h1 : σ.m ≠ .brk) (h2 : σ.m ≠ .tree) (h3 : σ.m ≠ .gap) (h4 : σ.m ≠ .sgn) : step σ c = inside σ c := by
  obtain ⟨m, v, s, n, d⟩ := σ
  cases m <;> first | rfl | exact (h1 rfl).elim | exact (h2 rfl).elim | exact (h3 rfl).elim | exact (h4 rfl).elim
def MID : Str := "+-*"
theorem mid_s : Str.ofString "+-*" = MID := rfl
theorem in_mid (c : Nat) : (!(Builtin.Str.occurrences MID ⟨#[c]⟩ 0 MID.length 1).isEmpty) = decide (c = 43 ∨ c = 45 ∨ c = 42) := by
  rw [PySem.StrLaws.found_one]
  have : MID.cps.toList = [43, 45, 42] := by decide +kernel
  rw [this]
  refine decide_eq_decide.mpr ?_
  simp
def spGo : USp := fun us M Q => ∃ (M0 : MHp) (p q : Addr) (σ : Mc) (c : Nat), us = [.ref p, .str ⟨#[c]⟩] ∧ q ≠ p ∧ M = mm M0 p q (nowU q σ) (stkU σ.s) ∧ σ.v ≤ GR ∧ σ.s.length ≤ 90000 ∧ (σ.m = .sgn → σ.s ≠ []) ∧ (match step σ c with
  | some σ' => Q (.bl true) (mm M0 p q (nowU q σ') (stkU σ'.s))
  | none => ∀ X Y, Q (.bl false) (mm M0 p q X Y))
theorem ok_go (F : Fun K "_law_goes_on" "_law_goes_on" s_law_goes_on f fd) (hm : mg "_law_goes_on" = some (.ref f)) (C_law_begins : Callee P w K mg base 1 "_law_begins" spBeg []) (C_law_inside : Callee P w K mg base 1 "_law_inside" spIns []) : Callee P w K mg base 2 "_law_goes_on" spGo [] := by
  refine callee2 F hm sc_law_goes_on (ar2 fun _ _ _ _ _ _ _ _ => rfl) (uss_cons (us_if (PWU.pt (uw_and (ut_c k_eqX (ue_ix (uv 0) un_) us_) (uw_and1 (ut_c k_eqX (uv 1) us_))))
  (uss_cons (us_expr (ue_append (ue_ix (uv 0) un_) (ua_cons us_ ua_nil)))
  (uss_cons (us_asub us_ (uv 0) un_)
  (uss_one (us_ret ub_))))
  uss_nil)
  (uss_cons (us_if (ut_c k_eqX (ue_ix (uv 0) un_) us_)
  (uss_cons (us_expr (ue_append (ue_ix (uv 0) un_) (ua_cons us_ ua_nil)))
  (uss_one (us_ret (ue_call C_law_begins (ua_cons (uv 0) (ua_cons (uv 1) ua_nil))))))
  uss_nil)
  (uss_cons (us_if (ut_c k_eqX (ue_ix (uv 0) un_) us_)
  (uss_one (us_ret (ue_call C_law_begins (ua_cons (uv 0) (ua_cons (uv 1) ua_nil)))))
  uss_nil)
  (uss_cons (us_if (ut_c k_eqX (ue_ix (uv 0) un_) us_)
  (uss_cons (us_asub us_ (uv 0) un_)
  (uss_one (us_ret (ue_c k_eqX (uv 1) us_))))
  uss_nil)
  (uss_cons (us_if (ut_c k_eqX (ue_ix (uv 0) un_) us_)
  (uss_cons (us_expr (ue_pop (ue_ix (uv 0) un_)))
  (uss_cons (us_expr (ue_append (ue_ix (uv 0) un_) (ua_cons us_ ua_nil)))
  (uss_cons (us_asub us_ (uv 0) un_)
  (uss_one (us_ret (ue_c k_inS (uv 1) us_))))))
  uss_nil)
  (uss_one (us_ret (ue_call C_law_inside (ua_cons (uv 0) (ua_cons (uv 1) ua_nil)))))))))) ?_
  rintro us M Q ⟨M0, p, q, ⟨m, v, s, n, d⟩, c, rfl, hqp, rfl, hv, hsl, hsg, k⟩
  refine ⟨rfl, ?_⟩
  dsimp only at hv hsl hsg
  have gq : ∀ X Y, mm M0 p q X Y q = some (.lst Y) := fun X Y => mm_q hqp
  have sq : ∀ X Y Z, mup (mm M0 p q X Y) q (.lst Z) = mm M0 p q X Z := fun X Y Z => mm_sq hqp
  refine seq_gen fun V1 hV1 => ?_
  refine if_gen fun A B hA hB => ?_
  simp! only [nowU, now1, mm_vp, mdw_brk, mn_tx, one_tx]
  have hA' : m = .brk → c = 45 → A (mm M0 p q [.str (mdw m), .int (v : Int), .ref q, .int (n : Int), .int (d : Int)] (stkU s)) := fun h1 h2 => by
    subst h1 h2
    simp only [step, if_true] at k
    subst hA
    refine seq_gen fun V2 hV2 => ?_
    simp! only [uDrop, mm_vp, gq, stkU_len]
    refine ⟨mm_lq hqp, big (by omega), ?_⟩
    rw [sq]
    subst hV2
    refine seq_gen fun V3 hV3 => ?_
    simp! only [uSetI, mm_vp, mm_p]
    refine ⟨0, rfl, ?_⟩
    simp only [mm_sp, List.set_cons_zero]
    subst hV3
    simp! only [uRet]
    rw [stkU_cons] at k
    exact rt_same k
  have hB' : ¬ (m = .brk ∧ c = 45) → B (mm M0 p q [.str (mdw m), .int (v : Int), .ref q, .int (n : Int), .int (d : Int)] (stkU s)) := fun h => by
    subst hB
    simp only [uNext]
    subst hV1
    refine seq_gen fun V2 hV2 => ?_
    refine if_gen fun A2 B2 hA2 hB2 => ?_
    simp! only [mm_vp, mdw_brk]
    by_cases m1 : m = .brk
    · rw [decide_eq_true m1, if_pos rfl]
      subst m1
      have hc : ¬ c = 45 := fun z => h ⟨rfl, z⟩
      simp only [step, if_neg hc] at k
      subst hA2
      refine seq_gen fun V3 hV3 => ?_
      simp! only [uDrop, mm_vp, gq, stkU_len]
      refine ⟨mm_lq hqp, big (by omega), ?_⟩
      rw [sq]
      subst hV3
      simp! only [uRet]
      refine ⟨M0, p, q, ⟨.tree, v, .first :: s, n, d⟩, c, _, rfl, hqp, by rw [stkU_cons]; rfl, ?_⟩
      cases hb : begins ⟨.tree, v, .first :: s, n, d⟩ c with
      | none => rw [hb] at k; exact fun X Y => rt_same (k X Y)
      | some σ' => rw [hb] at k; exact rt_same k
    rw [decide_eq_false m1, if_neg (by simp)]
    subst hB2
    simp only [uNext]
    subst hV2
    refine seq_gen fun V3 hV3 => ?_
    refine if_gen fun A3 B3 hA3 hB3 => ?_
    simp! only [mm_vp, mdw_tree]
    by_cases m2 : m = .tree
    · rw [decide_eq_true m2, if_pos rfl]
      subst m2
      simp only [step] at k
      subst hA3
      simp! only [uRet]
      refine ⟨M0, p, q, ⟨.tree, v, s, n, d⟩, c, _, rfl, hqp, rfl, ?_⟩
      cases hb : begins ⟨.tree, v, s, n, d⟩ c with
      | none => rw [hb] at k; exact fun X Y => rt_same (k X Y)
      | some σ' => rw [hb] at k; exact rt_same k
    rw [decide_eq_false m2, if_neg (by simp)]
    subst hB3
    simp only [uNext]
    subst hV3
    refine seq_gen fun V4 hV4 => ?_
    refine if_gen fun A4 B4 hA4 hB4 => ?_
    simp! only [mm_vp, mdw_gap]
    by_cases m3 : m = .gap
    · rw [decide_eq_true m3, if_pos rfl]
      subst m3
      simp only [step] at k
      subst hA4
      refine seq_gen fun V5 hV5 => ?_
      simp! only [uSetI, mm_vp, mm_p]
      refine ⟨0, rfl, ?_⟩
      simp only [mm_sp, List.set_cons_zero]
      subst hV5
      simp! only [uRet, sp_tx, one_tx]
      by_cases h32 : c = 32
      · rw [if_pos h32] at k
        rw [decide_eq_true h32]
        exact rt_same k
      · rw [if_neg h32] at k
        rw [decide_eq_false h32]
        exact rt_same (k _ _)
    rw [decide_eq_false m3, if_neg (by simp)]
    subst hB4
    simp only [uNext]
    subst hV4
    refine seq_gen fun V5 hV5 => ?_
    refine if_gen fun A5 B5 hA5 hB5 => ?_
    simp! only [mm_vp, mdw_sgn]
    by_cases m4 : m = .sgn
    · rw [decide_eq_true m4, if_pos rfl]
      subst m4
      cases s with
      | nil => exact (hsg rfl rfl).elim
      | cons x s =>
        simp only [List.length_cons] at hsl
        simp only [step, List.tail_cons] at k
        subst hA5
        refine seq_gen fun V6 hV6 => ?_
        simp! only [uDrop, mm_vp, gq, stkU_cons, glast, dlast]
        refine ⟨mm_lq hqp, ?_⟩
        rw [sq]
        subst hV6
        refine seq_gen fun V7 hV7 => ?_
        simp! only [uDrop, mm_vp, gq, stkU_len]
        refine ⟨mm_lq hqp, big (by omega), ?_⟩
        rw [sq]
        subst hV7
        refine seq_gen fun V8 hV8 => ?_
        simp! only [uSetI, mm_vp, mm_p]
        refine ⟨0, rfl, ?_⟩
        simp only [mm_sp, List.set_cons_zero]
        subst hV8
        simp! only [uRet, mid_s, in_mid]
        by_cases hc : c = 43 ∨ c = 45 ∨ c = 42
        · rw [if_pos hc] at k
          rw [decide_eq_true hc]
          dsimp only at k
          rw [stkU_cons] at k
          exact rt_same k
        · rw [if_neg hc] at k
          rw [decide_eq_false hc]
          exact rt_same (k _ _)
    rw [decide_eq_false m4, if_neg (by simp)]
    subst hB5
    simp only [uNext]
    subst hV5
    rw [step_in m1 m2 m3 m4] at k
    simp! only [uRet]
    refine ⟨M0, p, q, ⟨m, v, s, n, d⟩, c, rfl, hqp, rfl, hv, ?_⟩
    cases hb : inside ⟨m, v, s, n, d⟩ c with
    | none => rw [hb] at k; exact fun X Y => rt_same (k X Y)
    | some σ' => rw [hb] at k; exact rt_same k
  exact ite2 (fun b1 => ite2 (fun b2 => hA' (of_decide_eq_true b1) (of_decide_eq_true b2)) fun b2 => hB' fun h => b2 (decide_eq_true h.2)) fun b1 => hB' fun h => b1 (decide_eq_true h.1)
def okS (i : Nat) (σ : Mc) : Prop := σ.v ≤ GR ∧ σ.s.length ≤ i ∧ (σ.m = .sgn → σ.s ≠ [])
theorem beg_ok {σ σ' : Mc} {c i : Nat} (h : begins σ c = some σ') (hv : σ.v ≤ GR) (hs : σ.s.length ≤ i) : okS i σ' := by
  have hG : (GR : Nat) = 1000000000000000000 := rfl
  unfold begins at h
  split at h
  · cases h; exact ⟨hv, hs, fun z => by cases z⟩
  · split at h
    · cases h; exact ⟨by show _ - _ ≤ _; omega, hs, fun z => by cases z⟩
    · split at h
      · cases h; exact ⟨by show 1 ≤ GR; decide, hs, fun z => by cases z⟩
      · cases h
theorem tail_ok {σ σ' : Mc} {c i : Nat} (h : tail σ c = some σ') (hv : σ.v ≤ GR) (hs : σ.s.length ≤ i) : okS i σ' := by
  unfold tail at h
  split at h
  · cases h
  · rename_i r e
    split at h
    · cases h; exact ⟨hv, hs, fun _ z => by dsimp only at z; rw [z] at e; cases e⟩
    · cases h
  · rename_i x r hx e
    split at h
    · cases h
      refine ⟨hv, ?_, fun z => by cases z⟩
      rw [e] at hs
      simp only [List.length_cons] at hs
      show r.length ≤ i
      omega
    · cases h
theorem ins_ok {σ σ' : Mc} {c i : Nat} (h : inside σ c = some σ') (hv : σ.v ≤ GR) (hs : σ.s.length ≤ i) : okS i σ' := by
  have hG : (GR : Nat) = 1000000000000000000 := rfl
  unfold inside at h
  split at h
  · split at h
    · rename_i hg; cases h; exact ⟨hg, hs, fun z => by cases z⟩
    · cases h
  · split at h
    · split at h
      · rename_i hg; cases h; exact ⟨by show _ + _ ≤ _; omega, hs, fun z => by cases z⟩
      · cases h
    · exact tail_ok h hv hs
theorem okS.up {σ : Mc} {i : Nat} (h : okS i σ) : okS (i + 1) σ := ⟨h.1, by have := h.2.1; omega, h.2.2⟩
theorem step_ok {σ σ' : Mc} {c i : Nat} (h : step σ c = some σ') (k : okS i σ) : okS (i + 1) σ' := by
  obtain ⟨m, v, s, n, d⟩ := σ
  obtain ⟨hv, hs, hg⟩ := k
  dsimp only at hv hs hg
  cases m with
  | brk =>
    simp only [step] at h
    split at h
    · cases h; exact ⟨hv, by simp only [List.length_cons]; omega, fun z => by cases z⟩
    · exact beg_ok h hv (by simp only [List.length_cons]; omega)
  | tree => exact (beg_ok (i := i) h hv hs).up
  | gap =>
    simp only [step] at h
    split at h
    · cases h; exact ⟨hv, by show s.length ≤ _; omega, fun z => by cases z⟩
    · cases h
  | sgn =>
    simp only [step] at h
    split at h
    · cases h; exact ⟨hv, by simp only [List.length_cons, List.length_tail]; omega, fun z => by cases z⟩
    · cases h
  | num => exact (ins_ok (i := i) h hv hs).up
  | nam => exact (ins_ok (i := i) h hv hs).up
  | fin => exact (ins_ok (i := i) h hv hs).up
def spDue : USp := fun us M Q => ∃ z : Str, us = [.str z] ∧ z.length ≤ 90000 ∧ Q (.int (dueF z.cps.toList)) M
theorem mdw_any (m : Md) : ([U.str (Str.ofString "number"), U.str (Str.ofString "name"), U.str (Str.ofString "done")].any fun u => eqF u (U.str (mdw m))) = decide (Lf m) := by cases m <;> kernel_rfl
theorem mm_eq {M : MHp} {p q : Addr} {X Y : List U} (h : q ≠ p) : mup (mup M q (.lst Y)) p (.lst X) = mm M p q X Y := by
  funext b; unfold mup mm; rfl
theorem ok_due (F : Fun K "_law_due" "_law_due" s_law_due f fd) (hm : mg "_law_due" = some (.ref f)) (m_len : mg "len" = none) (m_enumerate : mg "enumerate" = none) (C_law_goes_on : Callee P w K mg base 2 "_law_goes_on" spGo []) : Callee P w K mg base 3 "_law_due" spDue [] := by
  refine callee2 F hm sc_law_due (ar1 fun _ _ _ _ _ _ _ => rfl) (uss_cons (us_set 1 sc_law_due.nd (ue_lst (own := true) (ua_cons us_ (ua_cons un_ (ua_cons (ue_lst (own := true) ua_nil) (ua_cons un_ (ua_cons un_ ua_nil)))))))
  (uss_cons (us_for (ui_enumT m_enumerate (ua_cons (uv 0) ua_nil)) (ug_tup (n := 2) (ugs_cons (ug_name (k := 1000) 2 sc_law_due.nd) (ugs_cons (ug_name (k := 1000) 3 sc_law_due.nd) ugs_nil)))
  (uss_one (us_if (ut_not (ut_val (ue_call C_law_goes_on (ua_cons (uv 1) (ua_cons (uv 3) ua_nil)))))
  (uss_one (us_ret (uv 2)))
  uss_nil)))
  (uss_cons (us_if (PWU.pt (uw_and (ut_c k_in (ue_ix (uv 1) un_) (ue_tup (ua_cons us_ (ua_cons us_ (ua_cons us_ ua_nil))))) (uw_and (ut_c k_eqX (ue_b b_len m_len (ua_cons (ue_ix (uv 1) un_) ua_nil)) un_) (uw_and (ut_c k_le (ue_ix (uv 1) un_) un_) (uw_and1 (ut_c k_le (ue_ix (uv 1) un_) un_))))))
  (uss_one (us_ret (ue_neg un_)))
  uss_nil)
  (uss_one (us_ret (ue_b b_len m_len (ua_cons (uv 0) ua_nil))))))) ?_
  rintro us M Q ⟨z, rfl, hz, k⟩
  refine ⟨rfl, ?_⟩
  have hL := lenL z
  refine seq_gen fun V1 hV1 => ?_
  simp! only [uAsg, hName]
  intro q hq p hp
  have hqp : q ≠ p := fun e => by rw [e, mup_same] at hp; cases hp
  have hp0 : M p = none := by rw [mup_ne (fun e => hqp e.symm)] at hp; exact hp
  have vq : ∀ X Y, view (mm M p q X Y) (.ref q) = .lst Y := fun X Y => mm_vq hqp
  rw [mm_eq hqp]
  have rt : ∀ (u : Int) X Y, Q (.int u) M → rtU Q (.int u) (mm M p q X Y) := fun u X Y k => by
    rw [← mm_eq hqp]
    exact ⟨_, M, subN ((Sub.refl M).mup hq) (by rw [mup_ne (fun e => hqp e.symm)]; exact hp0), .inl rfl, k⟩
  subst hV1
  refine seq_gen fun V2 hV2 => ?_
  refine for_by (S := ⟨none, numbered (chars z)⟩) (M1 := mm M p q (nowU q st0) (stkU [])) (fun R r => by simp! only [uEnumT]; exact r)
    (fun i τ M' => ∃ (σ : Mc) (a b : Option U), τ = [some (.str z), some (.ref p), a, b] ∧ M' = mm M p q (nowU q σ) (stkU σ.s) ∧ okS i σ ∧ V z.cps.toList σ i = dueF z.cps.toList) ⟨st0, none, none, rfl, rfl, ⟨by decide, Nat.le_refl _, fun z => by cases z⟩, rfl⟩ (fun _ _ _ _ _ e => by cases e) ?_ ?_
  · rintro i x τ M' hx ⟨σ, a, b, rfl, rfl, ho, hV⟩
    obtain ⟨u, hu, rfl⟩ := numbered_get hx
    have hlt := (List.getElem?_eq_some_iff.mp hu).1
    simp only [chars, List.getElem?_map] at hu
    cases hc : z.cps.toList[i]? with
    | none => rw [hc] at hu; cases hu
    | some c =>
      rw [hc] at hu
      cases hu
      have hlt := get_lt hc
      simp! only [hTup, hCons, hName, hNil]
      refine if_gen fun A B hA hB => ?_
      simp! only [true_and]
      refine ⟨M, p, q, σ, c, rfl, hqp, rfl, ho.1, by have := ho.2.1; omega, ho.2.2, ?_⟩
      rw [V_cons σ hc] at hV
      cases hs : step σ c with
      | none =>
        rw [hs] at hV
        intro X Y
        simp! only [true_and]
        subst hA
        simp! only [uRet]
        exact rt _ _ _ (by rw [← hV] at k; exact k)
      | some σ' =>
        rw [hs] at hV
        simp! only [true_and]
        subst hB
        simp only [uNext]
        exact ⟨σ', _, _, rfl, rfl, step_ok hs ho, hV⟩
  · rintro τ M' ⟨σ, a, b, rfl, rfl, ho, hV⟩
    have hl : (numbered (chars z)).length = z.cps.toList.length := by rw [numbered_len]; simp [chars]
    have hn : z.cps.toList[(numbered (chars z)).length]? = none := List.getElem?_eq_none_iff.mpr (by omega)
    rw [V_nil σ hn] at hV
    show V2 _ _
    subst hV2
    refine seq_gen fun V3 hV3 => ?_
    refine if_gen fun A B hA hB => ?_
    simp! only [nowU, now1, mm_vp, vq, uIn, at4, stkU_len]
    have hA' : okE σ → A (mm M p q [U.str (mdw σ.m), U.int (σ.v : Int), U.ref q, U.int (σ.n : Int), U.int (σ.d : Int)] (stkU σ.s)) := fun h => by
      rw [if_pos h] at hV
      rw [← hV] at k
      subst hA
      simp! only [uRet]
      exact rt _ _ _ k
    have hB' : ¬ okE σ → B (mm M p q [U.str (mdw σ.m), U.int (σ.v : Int), U.ref q, U.int (σ.n : Int), U.int (σ.d : Int)] (stkU σ.s)) := fun h => by
      rw [if_neg h] at hV
      rw [← hV, hL] at k
      subst hB
      simp only [uNext]
      subst hV3
      simp! only [uRet]
      exact ⟨small (by omega), rt _ _ _ k⟩
    refine ⟨rfl, rfl, ?_⟩
    rw [mdw_any]
    exact ite2 (fun b1 => ite2 (fun b2 => ite2 (fun b3 => ite2 (fun b4 => hA' ⟨of_decide_eq_true b1, by have := of_decide_eq_true b2; omega, by have := of_decide_eq_true b3; omega, by have := of_decide_eq_true b4; omega⟩)
      fun b4 => hB' fun h => b4 (decide_eq_true (by have := h.2.2.2; omega))) fun b3 => hB' fun h => b3 (decide_eq_true (by have := h.2.2.1; omega))) fun b2 => hB' fun h => b2 (decide_eq_true (by have := h.2.1; omega))) fun b1 => hB' fun h => b1 (decide_eq_true h.1)
def spSgn : USp := fun us M Q => ∃ a b : Int, us = [.int a, .int b] ∧ ∀ c, Q (.str ⟨#[c]⟩) M
theorem ok_sgn (F : Fun K "_law_sign" "_law_sign" s_law_sign f fd) (hm : mg "_law_sign" = some (.ref f)) (m_len : mg "len" = none) : Callee P w K mg base 1 "_law_sign" spSgn [] := by
  refine callee2 F hm sc_law_sign (ar2 fun _ _ _ _ _ _ _ _ => rfl) (uss_cons (us_set 2 sc_law_sign.nd us_)
  (uss_cons (us_if (ut_c k_eqX (uv 1) un_)
  (uss_cons (us_set 2 sc_law_sign.nd us_)
  (uss_one (us_set 2 sc_law_sign.nd (ue_add (own := false) (uv 2) us_))))
  uss_nil)
  (uss_one (us_ret (ue_ix (uv 2) (ue_mod (uv 0) (ue_b b_len m_len (ua_cons (uv 2) ua_nil)))))))) ?_
  rintro us M Q ⟨a, b, rfl, k⟩
  refine ⟨rfl, ?_⟩
  refine seq_gen fun V1 hV1 => ?_
  simp! only [uAsg, hName]
  subst hV1
  refine seq_gen fun V2 hV2 => ?_
  refine if_gen fun A B hA hB => ?_
  have fin : ∀ y : Str, 0 < y.length → y.length ≤ 1000 → V2 [some (.int a), some (.int b), some (.str y)] M := fun y y0 y1 => by
    have hL := lenL y
    subst hV2
    simp! only [uRet]
    obtain ⟨c, hc⟩ := atI_ex y.cps.toList (a % (y.length : Int)) (Int.emod_nonneg _ (by omega)) (by rw [hL]; exact Int.emod_lt_of_pos _ (by omega))
    exact ⟨small (by omega), by omega, small (by omega), c, hc, rt_same (k c)⟩
  simp! only [true_and]
  refine ite2 (fun _ => ?_) fun _ => ?_
  · subst hA
    refine seq_gen fun V3 hV3 => ?_
    simp! only [uAsg, hName]
    subst hV3
    simp! only [uAsg, hName]
    refine ⟨by decide +kernel, fin _ (by decide +kernel) (by decide +kernel)⟩
  · subst hB
    simp only [uNext]
    exact fin _ (by decide +kernel) (by decide +kernel)
def spDig : USp := fun us M Q => ∃ a : Int, us = [.int a] ∧ ∀ z : Str, z.length ≤ 60 → Q (.str z) M
theorem ok_dig (F : Fun K "_law_digits" "_law_digits" s_law_digits f fd) (hm : mg "_law_digits" = some (.ref f)) (m_len : mg "len" = none) (m_abs : mg "abs" = none) (C_law_sign : Callee P w K mg base 1 "_law_sign" spSgn []) : Callee P w K mg base 2 "_law_digits" spDig [] := by
  refine callee2 F hm sc_law_digits (ar1 fun _ _ _ _ _ _ _ => rfl) (uss_cons (us_set 1 sc_law_digits.nd (ue_divX (ue_b b_abs m_abs (ua_cons (uv 0) ua_nil)) un_))
  (uss_cons (us_set 2 sc_law_digits.nd (ue_ix (ue_lst (own := false) (ua_cons un_ (ua_cons un_ ua_nil))) (ue_mod (uv 0) un_)))
  (uss_cons (us_set 3 sc_law_digits.nd us_)
  (uss_cons (us_while (PWU.pt (uw_and (ut_c k_gt (uv 1) un_) (uw_and1 (ut_c k_ltX (ue_b b_len m_len (ua_cons (uv 3) ua_nil)) un_))))
  (uss_cons (us_set 3 sc_law_digits.nd (ue_add (own := false) (uv 3) (ue_call C_law_sign (ua_cons (ue_sub (uv 1) un_) (ua_cons (ue_mod (uv 0) un_) ua_nil)))))
  (uss_one (us_set 1 sc_law_digits.nd (ue_divX (ue_sub (uv 1) un_) (uv 2))))))
  (uss_one (us_ret (uv 3))))))) ?_
  rintro us M Q ⟨a, rfl, k⟩
  refine ⟨rfl, ?_⟩
  refine seq_gen fun V1 hV1 => ?_
  simp! only [uAsg, hName]
  refine ⟨⟨by decide, by decide⟩, ?_⟩
  subst hV1
  refine seq_gen fun V2 hV2 => ?_
  simp! only [uAsg, hName]
  refine ⟨by decide, ?_⟩
  have hd : ∃ d : Int, atI [U.int 95, U.int 18] (a % 2) = some (.int d) ∧ 0 < d ∧ d < 2 ^ 64 := by
    have : a % 2 = 0 ∨ a % 2 = 1 := by omega
    rcases this with e | e <;> rw [e]
    · exact ⟨95, at0, by decide, by decide⟩
    · exact ⟨18, at1, by decide, by decide⟩
  obtain ⟨d, hd, d0, d1⟩ := hd
  refine ⟨_, hd, ?_⟩
  subst hV2
  refine seq_gen fun V3 hV3 => ?_
  simp! only [uAsg, hName]
  subst hV3
  refine seq_gen fun V4 hV4 => ?_
  refine while_by (fun τ M' => ∃ (n : Int) (y : Str), τ = [some (.int a), some (.int n), some (.int d), some (.str y)] ∧ M' = M ∧ y.length ≤ 60) (fun τ _ => match τ with | [_, _, _, some (.str y)] => 60 - y.length | _ => 0) ⟨_, _, rfl, rfl, by decide +kernel⟩ ?_
  rintro τ M' ⟨n, y, rfl, rfl, hy⟩
  have fin : V4 [some (.int a), some (.int n), some (.int d), some (.str y)] M' := by
    subst hV4
    simp! only [uRet]
    exact rt_same (k y hy)
  simp! only [true_and]
  refine ite2 (fun _ => ⟨small (by omega), ite2 (fun b2 => ?_) fun _ => fin⟩) fun _ => fin
  have b2 := of_decide_eq_true b2
  refine seq_gen fun V5 hV5 => ?_
  simp! only [uAsg, hName]
  refine ⟨by decide, _, _, rfl, fun c => ⟨small (by show y.length + 1 ≤ _; omega), ?_⟩⟩
  subst hV5
  simp! only [uAsg, hName]
  have hl : (y ++ (⟨#[c]⟩ : Str)).length = y.length + 1 := by rw [len_app]; rfl
  exact ⟨⟨d0, d1⟩, ⟨_, _, rfl, by omega⟩, by omega⟩
def wtS (l : List Str) : Nat := (l.map Str.length).sum
theorem wtS_app (l r : List Str) : wtS (l ++ r) = wtS l + wtS r := by simp [wtS]
theorem wtS_one (s : Str) : wtS [s] = s.length := by simp [wtS]
def spBase : USp := fun us M Q => ∃ ns : List Int, us = [.lst (ns.map .int)] ∧ ns.length ≤ 61 ∧ ∀ z : Str, z.length ≤ 2000 → Q (.str z) M
theorem strs_map (l : List Str) : strsU (l.map U.str) = some l := by
  induction l with
  | nil => rfl
  | cons a l ih => simp only [List.map_cons, strsU, ih]; rfl
theorem ok_base (F : Fun K "_law_base" "_law_base" s_law_base f fd) (hm : mg "_law_base" = some (.ref f)) (m_len : mg "len" = none) (m_str : mg "str" = none) (C_law_name_of : Callee P w K mg base 1 "_law_name_of" spNameOf []) : Callee P w K mg base 2 "_law_base" spBase [] := by
  refine callee2 F hm sc_law_base (ar1 fun _ _ _ _ _ _ _ => rfl) (uss_cons (us_set 1 sc_law_base.nd (ue_lst (own := true) ua_nil))
  (uss_cons (us_for (ui_seq (uv 0)) (ug_name (k := 1000) 2 sc_law_base.nd)
  (uss_cons (us_set 3 sc_law_base.nd (ue_mod (uv 2) un_))
  (uss_one (us_if (PWU.pt (uw_and (ut_c k_eqX (uv 3) un_) (uw_and1 (ut_c k_gt (ue_b b_len m_len (ua_cons (uv 1) ua_nil)) un_))))
  (uss_one (us_expr (ue_append (uv 1) (ua_cons (ue_add (own := false) (ue_add (own := false) us_ (ue_pop (uv 1))) us_) ua_nil))))
  (uss_one (us_if (PWU.pt (uw_and (ut_ch k_le k_le un_ (uv 3) un_) (uw_and1 (ut_c k_gt (ue_b b_len m_len (ua_cons (uv 1) ua_nil)) un_))))
  (uss_cons (us_set 4 sc_law_base.nd (ue_pop (uv 1)))
  (uss_one (us_expr (ue_append (uv 1) (ua_cons (ue_add (own := false) (ue_add (own := false) (ue_add (own := false) (ue_add (own := false) us_ (ue_pop (uv 1))) (ue_ix (ue_lst (own := false) (ua_cons us_ (ua_cons us_ (ua_cons us_ ua_nil)))) (ue_sub (uv 3) un_))) (uv 4)) us_) ua_nil)))))
  (uss_one (us_if (ut_c k_eqX (ue_mod (uv 3) un_) un_)
  (uss_one (us_expr (ue_append (uv 1) (ua_cons (ue_t b_str m_str (ua_cons (ue_mod (ue_divX (uv 2) un_) (ue_add (own := false) (ue_pow un_ un_) un_)) ua_nil)) ua_nil))))
  (uss_one (us_expr (ue_append (uv 1) (ua_cons (ue_call C_law_name_of (ua_cons (ue_mod (ue_divX (uv 2) un_) (ue_pow un_ un_)) ua_nil)) ua_nil))))))))))))
  (uss_cons (us_while (ut_c k_gt (ue_b b_len m_len (ua_cons (uv 1) ua_nil)) un_)
  (uss_cons (us_set 4 sc_law_base.nd (ue_pop (uv 1)))
  (uss_one (us_expr (ue_append (uv 1) (ua_cons (ue_add (own := false) (ue_add (own := false) (ue_add (own := false) (ue_add (own := false) us_ (ue_pop (uv 1))) us_) (uv 4)) us_) ua_nil))))))
  (uss_one (us_ret (ue_join us_ (ua_cons (uv 1) ua_nil))))))) ?_
  rintro us M Q ⟨ns, rfl, hns, k⟩
  refine ⟨rfl, ?_⟩
  have pw : CPow 10 18 := ⟨by decide, by decide, by decide⟩
  have pw12 : CPow 10 12 := ⟨by decide, by decide, by decide⟩
  refine seq_gen fun V1 hV1 => ?_
  simp! only [uAsg, hName]
  intro p hp
  subst hV1
  refine seq_gen fun V2 hV2 => ?_
  refine for_by (S := ⟨none, ns.map .int⟩) (M1 := mup M p (.lst [])) (fun R r => by simp! only [true_and]; exact r)
    (fun i τ M' => ∃ (l : List Str) (a b c : Option U), τ = [some (.lst (ns.map .int)), some (.ref p), a, b, c] ∧ M' = mup M p (.lst (l.map .str)) ∧ l.length ≤ i ∧ wtS l ≤ 25 * i) ⟨[], _, _, _, rfl, rfl, by decide, by decide⟩ (fun _ _ _ _ _ e => by cases e) ?_ ?_
  · rintro i x τ M' hx ⟨l, a, b, c, rfl, rfl, hl, hw⟩
    have hi := (List.getElem?_eq_some_iff.mp hx).1
    simp only [List.length_map] at hi
    simp only [List.getElem?_map] at hx
    obtain ⟨n, hn, rfl⟩ := Option.map_eq_some_iff.mp hx
    simp! only [hName]
    refine seq_gen fun V3 hV3 => ?_
    simp! only [uAsg, hName]
    refine ⟨by decide, ?_⟩
    subst hV3
    have done : ∀ (y : Str) (c' : Option U), y.length ≤ 25 → (∃ (l2 : List Str) (a b c : Option U), [some (U.lst (ns.map .int)), some (.ref p), some (.int n), some (.int (n % 8)), c'] = [some (.lst (ns.map .int)), some (.ref p), a, b, c] ∧ mup M p (.lst (l.map U.str ++ [.str y])) = mup M p (.lst (l2.map .str)) ∧ l2.length ≤ i + 1 ∧ wtS l2 ≤ 25 * (i + 1)) := fun y c' hy => ⟨l ++ [y], _, _, _, rfl, by simp, by simp only [List.length_append, List.length_cons, List.length_nil]; omega, by rw [wtS_app, wtS_one]; omega⟩
    refine if_gen fun A B hA hB => ?_
    have hB' : B (mup M p (.lst (l.map .str))) := by
      subst hB
      refine if_gen fun A2 B2 hA2 hB2 => ?_
      have hB3 : B2 (mup M p (.lst (l.map .str))) := by
        subst hB2
        refine if_gen fun A3 B3 hA3 hB3 => ?_
        simp! only [true_and]
        refine ⟨by decide, ite2 (fun _ => ?_) fun _ => ?_⟩
        · subst hA3
          simp! only [uDrop, p18]
          have h0 : 0 ≤ n / 8 % (1000000000000000000 + 1) ∧ n / 8 % (1000000000000000000 + 1) ≤ 10 ^ 18 := by omega
          have h1 := num_len h0.1 h0.2
          exact ⟨isL_own, ⟨by decide, by decide⟩, pw, by decide, log_ok h0.1 h0.2, big (by rw [List.length_map]; omega), done _ c (by omega)⟩
        · subst hB3
          simp! only [uDrop]
          refine ⟨isL_own, ⟨by decide, by decide⟩, pw12, by decide, _, rfl, ?_⟩
          have h1 := (nameF_ok (n / 8 % 10 ^ Int.toNat 12)).1
          simp only [mup_same, mup_mup]
          exact ⟨big (by rw [List.length_map]; omega), done _ c (by omega)⟩
      simp! only [true_and]
      refine ite2 (fun b1 => ite2 (fun b2 => ite2 (fun b3 => ?_) fun _ => hB3) fun _ => hB3) fun _ => hB3
      have b1 := of_decide_eq_true b1
      have b2 := of_decide_eq_true b2
      have b3 := of_decide_eq_true b3
      rw [List.length_map] at b3
      subst hA2
      rcases last_of l with rfl | ⟨r, s, rfl⟩
      · simp at b3
      rcases last_of r with rfl | ⟨r, s2, rfl⟩
      · simp at b3
      simp only [wtS_app, wtS_one, List.length_append, List.length_cons, List.length_nil] at hl hw
      refine seq_gen fun V4 hV4 => ?_
      simp! only [uAsg, hName, List.map_append, glast, dlast]
      refine ⟨isL_own, ?_⟩
      subst hV4
      simp! only [uDrop, glast, dlast]
      have q1 : (Str.ofString "(").length = 1 := by decide +kernel
      have q2 : (Str.ofString ")").length = 1 := by decide +kernel
      have hu : ∃ j : Str, atI [U.str (Str.ofString " + "), U.str (Str.ofString " - "), U.str (Str.ofString " * ")] (n % 8 - 3) = some (.str j) ∧ j.length = 3 := by
        have : n % 8 - 3 = 0 ∨ n % 8 - 3 = 1 ∨ n % 8 - 3 = 2 := by omega
        rcases this with e | e | e <;> rw [e]
        · exact ⟨_, at0, by decide +kernel⟩
        · exact ⟨_, at1, by decide +kernel⟩
        · exact ⟨_, at2, by decide +kernel⟩
      obtain ⟨j, hj, j3⟩ := hu
      refine ⟨isL_own, isL_own, small (by omega), _, hj, ?_⟩
      dsimp only
      refine ⟨small (by rw [len_app]; omega), small (by rw [len_app, len_app]; omega), small (by rw [len_app, len_app, len_app]; omega), big (by rw [List.length_map]; omega), r ++ [_], _, _, _, rfl, by rw [List.map_append]; rfl, by simp only [List.length_append, List.length_cons, List.length_nil]; omega, ?_⟩
      rw [wtS_app, wtS_one, len_app, len_app, len_app, len_app]; omega
    simp! only [true_and]
    refine ite2 (fun b1 => ite2 (fun b2 => ?_) fun _ => hB') fun _ => hB'
    have b2 := of_decide_eq_true b2
    rw [List.length_map] at b2
    subst hA
    rcases last_of l with rfl | ⟨r, s, rfl⟩
    · simp at b2
    simp only [wtS_app, wtS_one, List.length_append, List.length_cons, List.length_nil] at hl hw
    simp! only [uDrop, List.map_append, glast, dlast]
    have q1 : (Str.ofString "(- ").length = 3 := by decide +kernel
    have q2 : (Str.ofString ")").length = 1 := by decide +kernel
    refine ⟨isL_own, isL_own, small (by omega), small (by rw [len_app]; omega), big (by rw [List.length_map]; omega), r ++ [_], _, _, _, rfl, by rw [List.map_append]; rfl, by simp only [List.length_append, List.length_cons, List.length_nil]; omega, ?_⟩
    rw [wtS_app, wtS_one, len_app, len_app]; omega
  · rintro τ M' ⟨l, a, b, c, rfl, rfl, hl, hw⟩
    show V2 _ _
    subst hV2
    have hnl : (ns.map U.int).length = ns.length := by simp
    dsimp only at hl hw
    rw [hnl] at hl hw
    refine seq_gen fun V3 hV3 => ?_
    refine while_by (fun τ M' => ∃ (l : List Str) (a b c : Option U), τ = [some (.lst (ns.map .int)), some (.ref p), a, b, c] ∧ M' = mup M p (.lst (l.map .str)) ∧ l.length ≤ 61 ∧ wtS l + 5 * l.length ≤ 1900) (fun _ M' => match M' p with | some (.lst l) => l.length | _ => 0) ⟨l, _, _, _, rfl, rfl, by omega, by omega⟩ ?_
    rintro τ M' ⟨l, a, b, c, rfl, rfl, hl, hw⟩
    simp! only [true_and]
    refine ite2 (fun b3 => ?_) fun b3 => ?_
    · have b3 := of_decide_eq_true b3
      rw [List.length_map] at b3
      rcases last_of l with rfl | ⟨r, s, rfl⟩
      · simp at b3
      rcases last_of r with rfl | ⟨r, s2, rfl⟩
      · simp at b3
      simp only [wtS_app, wtS_one, List.length_append, List.length_cons, List.length_nil] at hl hw
      refine seq_gen fun V4 hV4 => ?_
      simp! only [uAsg, hName, List.map_append, glast, dlast]
      refine ⟨isL_own, ?_⟩
      subst hV4
      simp! only [uDrop, glast, dlast]
      have q1 : (Str.ofString "(").length = 1 := by decide +kernel
      have q2 : (Str.ofString ")").length = 1 := by decide +kernel
      have q3 : (Str.ofString " * ").length = 3 := by decide +kernel
      refine ⟨isL_own, isL_own, small (by omega), small (by rw [len_app]; omega), small (by rw [len_app, len_app]; omega), small (by rw [len_app, len_app, len_app]; omega), big (by rw [List.length_map]; omega), ⟨r ++ [_], _, _, _, rfl, by rw [List.map_append]; rfl, by simp only [List.length_append, List.length_cons, List.length_nil]; omega, ?_⟩, by simp⟩
      rw [wtS_app, wtS_one, len_app, len_app, len_app, len_app]
      simp only [List.length_append, List.length_cons, List.length_nil]
      omega
    · subst hV3
      simp! only [uRet, uBMS, mJoin, isTx, strs_map]
      have q1 : (Str.ofString "").length = 0 := by decide +kernel
      have hj : (Txt.join (Str.ofString "") l).length ≤ wtS l := by
        show (Builtin.Str.glued (Str.ofString "") l).length ≤ _
        rw [PySem.StrLaws.glued_eq_join]
        have := PySem.StrLaws.join_length_le (Str.ofString "") l
        rw [q1, Nat.mul_zero] at this
        exact this
      have hs : (List.map (fun x : Str => x.length) l).sum = wtS l := rfl
      refine ⟨⟨_, rfl⟩, by rw [hs, q1]; omega, ?_⟩
      exact ⟨_, M, (Sub.refl M).mup hp, .inl rfl, k _ (by omega)⟩
def spTxt : USp := fun us M Q => ∃ (z : Str) (a b : Int), us = [.str z, .int a, .int b] ∧ z.length ≤ 2000 ∧ ∀ z : Str, z.length ≤ 90000 → Q (.str z) M
theorem rep_len (z : Str) (n : Int) : (repS z n).length ≤ z.length * n.toNat := by
  unfold repS
  split
  · exact Nat.zero_le _
  · rename_i h1
    split
    · rename_i h
      have hn : 1 ≤ n.toNat := by omega
      exact Nat.le_mul_of_pos_right _ hn
    · have hsz : ∀ (k : Nat) (acc : Array Nat), ((List.replicate k z.cps).foldl (· ++ ·) acc).size = acc.size + k * z.cps.size := by
        intro k
        induction k with
        | zero => intro acc; simp
        | succ k ih => intro acc; rw [List.replicate_succ, List.foldl_cons, ih, Array.size_append, Nat.succ_mul]; omega
      show ((List.replicate n.toNat z.cps).foldl (· ++ ·) #[]).size ≤ _
      rw [hsz]
      simp only [Array.size_empty, Nat.zero_add]
      rw [Nat.mul_comm]; exact Nat.le_refl _
theorem ok_txt (F : Fun K "_law_text" "_law_text" s_law_text f fd) (hm : mg "_law_text" = some (.ref f)) (m_len : mg "len" = none) (C_law_sign : Callee P w K mg base 1 "_law_sign" spSgn []) (C_law_digits : Callee P w K mg base 2 "_law_digits" spDig []) : Callee P w K mg base 3 "_law_text" spTxt [] := by
  refine callee2 F hm sc_law_text (ar3 fun _ _ _ _ _ _ _ _ _ => rfl) (uss_cons (us_set 3 sc_law_text.nd (ue_mod (uv 1) un_))
  (uss_cons (us_set 4 sc_law_text.nd (ue_mod (ue_divX (uv 1) un_) (ue_add (own := false) (ue_b b_len m_len (ua_cons (uv 0) ua_nil)) un_)))
  (uss_cons (us_set 5 sc_law_text.nd (ue_call C_law_sign (ua_cons (ue_divX (uv 2) un_) (ua_cons (ue_mod (uv 2) un_) ua_nil))))
  (uss_cons (us_set 6 sc_law_text.nd (ue_add (own := false) (uv 4) (ue_mod (ue_divX (uv 2) un_) un_)))
  (uss_cons (us_if (ut_c k_eqX (uv 3) un_)
  (uss_one (us_ret (ue_add (own := false) (ue_add (own := false) (ue_slX (own := false) (uv 0) uo_none (uo_some (uv 4))) (uv 5)) (ue_slX (own := false) (uv 0) (uo_some (uv 4)) uo_none))))
  uss_nil)
  (uss_cons (us_if (ut_c k_eqX (uv 3) un_)
  (uss_one (us_ret (ue_add (own := false) (ue_slX (own := false) (uv 0) uo_none (uo_some (uv 4))) (ue_slX (own := false) (uv 0) (uo_some (ue_add (own := false) (uv 4) un_)) uo_none))))
  uss_nil)
  (uss_cons (us_if (ut_c k_eqX (uv 3) un_)
  (uss_one (us_ret (ue_add (own := false) (ue_add (own := false) (ue_slX (own := false) (uv 0) uo_none (uo_some (uv 4))) (uv 5)) (ue_slX (own := false) (uv 0) (uo_some (ue_add (own := false) (uv 4) un_)) uo_none))))
  uss_nil)
  (uss_cons (us_if (ut_c k_eqX (uv 3) un_)
  (uss_one (us_ret (ue_slX (own := false) (uv 0) uo_none (uo_some (uv 4)))))
  uss_nil)
  (uss_cons (us_if (ut_c k_eqX (uv 3) un_)
  (uss_one (us_ret (ue_add (own := false) (ue_slX (own := false) (uv 0) uo_none (uo_some (uv 4))) (ue_slX (own := false) (uv 0) (uo_some (uv 6)) uo_none))))
  uss_nil)
  (uss_cons (us_if (ut_c k_eqX (uv 3) un_)
  (uss_one (us_ret (ue_add (own := false) (ue_slX (own := false) (uv 0) uo_none (uo_some (uv 6))) (ue_slX (own := false) (uv 0) (uo_some (uv 4)) uo_none))))
  uss_nil)
  (uss_cons (us_if (ut_c k_eqX (uv 3) un_)
  (uss_one (us_ret (ue_call C_law_digits (ua_cons (uv 2) ua_nil))))
  uss_nil)
  (uss_cons (us_if (ut_c k_eqX (uv 3) un_)
  (uss_cons (us_set 7 sc_law_text.nd (ue_mod (ue_divX (uv 1) un_) un_))
  (uss_one (us_ret (ue_add (own := false) (ue_add (own := false) (ue_mulX (own := false) us_ (uv 7)) (uv 0)) (ue_mulX (own := false) us_ (ue_sub (ue_add (own := false) (uv 7) (ue_mod (uv 2) un_)) (ue_mod (ue_divX (uv 2) un_) un_)))))))
  uss_nil)
  (uss_one (us_ret (uv 0))))))))))))))) ?_
  rintro us M Q ⟨z, a, b, rfl, hz, k⟩
  refine ⟨rfl, ?_⟩
  have sl : ∀ l h, (Txt.slice z l h).length ≤ z.length := fun l h => PyProof.Txt.length_slice_le z l h
  have q1 : (Str.ofString "(- ").length = 3 := by decide +kernel
  have q2 : (Str.ofString ")").length = 1 := by decide +kernel
  refine seq_gen fun V1 hV1 => ?_
  simp! only [uAsg, hName]
  refine ⟨by decide, ?_⟩
  subst hV1
  refine seq_gen fun V2 hV2 => ?_
  simp! only [uAsg, hName]
  refine ⟨⟨by decide, by decide⟩, small (by omega), by omega, ?_⟩
  generalize a / 9 % ((z.length : Int) + 1) = j
  subst hV2
  refine seq_gen fun V3 hV3 => ?_
  simp! only [uAsg, hName]
  refine ⟨⟨by decide, by decide⟩, by decide, _, _, rfl, fun c => ?_⟩
  have c1 : (⟨#[c]⟩ : Str).length = 1 := rfl
  subst hV3
  refine seq_gen fun V4 hV4 => ?_
  simp! only [uAsg, hName]
  refine ⟨⟨by decide, by decide⟩, by decide, ?_⟩
  generalize j + b / 36 % 9 = e
  subst hV4
  have h1 := sl none (some j)
  have h2 := sl (some j) none
  have h3 := sl (some (j + 1)) none
  have h4 := sl (some e) none
  have h5 := sl none (some e)
  refine seq_gen fun V hV => ?_
  refine if_gen fun A B hA hB => ?_
  simp! only [true_and]
  refine ite2 (fun _ => ?_) fun _ => ?_
  · subst hA
    simp! only [uRet]
    repeat' refine And.intro ?_ ?_
    all_goals first | exact small (by first | omega | (simp only [len_app]; omega)) | exact rt_same (k _ (by first | omega | (simp only [len_app]; omega)))
  subst hB
  simp only [uNext]
  subst hV
  refine seq_gen fun V hV => ?_
  refine if_gen fun A B hA hB => ?_
  simp! only [true_and]
  refine ite2 (fun _ => ?_) fun _ => ?_
  · subst hA
    simp! only [uRet]
    repeat' refine And.intro ?_ ?_
    all_goals first | exact small (by first | omega | (simp only [len_app]; omega)) | exact rt_same (k _ (by first | omega | (simp only [len_app]; omega)))
  subst hB
  simp only [uNext]
  subst hV
  refine seq_gen fun V hV => ?_
  refine if_gen fun A B hA hB => ?_
  simp! only [true_and]
  refine ite2 (fun _ => ?_) fun _ => ?_
  · subst hA
    simp! only [uRet]
    repeat' refine And.intro ?_ ?_
    all_goals first | exact small (by first | omega | (simp only [len_app]; omega)) | exact rt_same (k _ (by first | omega | (simp only [len_app]; omega)))
  subst hB
  simp only [uNext]
  subst hV
  refine seq_gen fun V hV => ?_
  refine if_gen fun A B hA hB => ?_
  simp! only [true_and]
  refine ite2 (fun _ => ?_) fun _ => ?_
  · subst hA
    simp! only [uRet]
    repeat' refine And.intro ?_ ?_
    all_goals first | exact small (by first | omega | (simp only [len_app]; omega)) | exact rt_same (k _ (by first | omega | (simp only [len_app]; omega)))
  subst hB
  simp only [uNext]
  subst hV
  refine seq_gen fun V hV => ?_
  refine if_gen fun A B hA hB => ?_
  simp! only [true_and]
  refine ite2 (fun _ => ?_) fun _ => ?_
  · subst hA
    simp! only [uRet]
    repeat' refine And.intro ?_ ?_
    all_goals first | exact small (by first | omega | (simp only [len_app]; omega)) | exact rt_same (k _ (by first | omega | (simp only [len_app]; omega)))
  subst hB
  simp only [uNext]
  subst hV
  refine seq_gen fun V hV => ?_
  refine if_gen fun A B hA hB => ?_
  simp! only [true_and]
  refine ite2 (fun _ => ?_) fun _ => ?_
  · subst hA
    simp! only [uRet]
    repeat' refine And.intro ?_ ?_
    all_goals first | exact small (by first | omega | (simp only [len_app]; omega)) | exact rt_same (k _ (by first | omega | (simp only [len_app]; omega)))
  subst hB
  simp only [uNext]
  subst hV
  refine seq_gen fun V hV => ?_
  refine if_gen fun A B hA hB => ?_
  simp! only [true_and]
  refine ite2 (fun _ => ?_) fun _ => ?_
  · subst hA
    simp! only [uRet]
    exact ⟨_, rfl, fun y hy => rt_same (k y (by omega))⟩
  subst hB
  simp only [uNext]
  subst hV
  refine seq_gen fun V hV => ?_
  refine if_gen fun A B hA hB => ?_
  simp! only [true_and]
  refine ite2 (fun _ => ?_) fun _ => ?_
  · subst hA
    refine seq_gen fun V8 hV8 => ?_
    simp! only [uAsg, hName]
    refine ⟨⟨by decide, by decide⟩, by decide, ?_⟩
    have m0 : 0 ≤ a / 9 % 71 ∧ a / 9 % 71 ≤ 70 := by omega
    generalize a / 9 % 71 = m at m0
    subst hV8
    simp! only [uRet]
    have m1 : 0 ≤ b % 3 ∧ b % 3 ≤ 2 := by omega
    have m2 : 0 ≤ b / 3 % 2 ∧ b / 3 % 2 ≤ 1 := by omega
    have r1 := rep_len (Str.ofString "(- ") m
    have r2 := rep_len (Str.ofString ")") (m + b % 3 - b / 3 % 2)
    rw [q1] at r1
    rw [q2] at r2
    refine ⟨by omega, by omega, by rw [q1]; decide, by rw [q1]; omega, small (by omega), by decide, ⟨by decide, by decide⟩, by decide, by omega, by omega, by rw [q2]; decide, by rw [q2]; omega, small (by rw [len_app]; omega), rt_same (k _ (by rw [len_app, len_app]; omega))⟩
  subst hB
  simp only [uNext]
  subst hV
  simp! only [uRet]
  exact rt_same (k z (by omega))
theorem verd_T (t : Tr) : verd (gT t) = decide (t.size ≤ 200 ∧ t.dep ≤ 40) := by
  unfold verd
  rw [gT_size, gT_dep, gT_fit, Bool.and_true]
  by_cases h1 : t.size ≤ 200 <;> by_cases h2 : t.dep ≤ 40 <;> simp [h1, h2]
def spReadX (N : Addr) : USpX := fun us M Q E => ∃ z : Str, us = [.str z] ∧ z.length ≤ 90000 ∧ (match rdShape z.cps.toList with
  | .ok t => if t.size ≤ 200 ∧ t.dep ≤ 40 then Q t.toU M else E N (eAt z.length) M
  | .error k => E N (eAt k) M)
theorem ok_readX {N : Addr} (F : Fun K "read" "read" s_read f fd) (hm : mg "read" = some (.ref f)) (m_len : mg "len" = none) (v_read_leaf : mg "read_leaf" = some (.ref fl)) (X_NoText : ExcC P w K mg base 1 "NoText" N "at" condT) (CX_read_shape : CalleeX P w K mg base 6 "read_shape" (spShpX N fl) []) (C_is_tree : Callee P w K mg base 5 "is_tree" spIsTree []) : CalleeX P w K mg base 7 "read" (spReadX N) [] := by
  refine calleeX_of F hm sc_read (ar1 fun _ _ _ _ _ _ _ => rfl) (fun us M Q E h => by obtain ⟨_, rfl, _⟩ := h; rfl) (ux_cons (ux_set 1 sc_read.nd (ex_call CX_read_shape (ua_cons (uv 0) (ua_cons (ug_ref v_read_leaf) ua_nil))))
  (ux_cons (ux_if (ut_not (ut_val (ue_call C_is_tree (ua_cons (uv 1) ua_nil))))
  (ux_one (ux_raise X_NoText (ue_b b_len m_len (ua_cons (uv 0) ua_nil))))
  (uxs_of uss_nil))
  (ux_one (ux_of (us_ret (uv 1)))))) ?_
  rintro us M Q E ⟨z, rfl, hz, q⟩
  refine seqx_gen fun V1 hV1 => ?_
  simp! only [uxSet]
  refine ⟨z, rfl, by omega, ?_⟩
  cases hr : rdShape z.cps.toList with
  | error k =>
    rw [hr] at q
    exact ⟨M, Sub.refl M, q⟩
  | ok t =>
    rw [hr] at q
    dsimp only at q ⊢
    have hok := (rd_text hr).2
    subst hV1
    refine seqx_gen fun V2 hV2 => ?_
    refine ifx_gen fun A B hA hB => ?_
    simp! only [true_and]
    refine ⟨gT t, by rw [gT_U], gT_wf t hok, ?_⟩
    rw [verd_T]
    by_cases h : t.size ≤ 200 ∧ t.dep ≤ 40
    · rw [if_pos h] at q
      rw [decide_eq_true h]
      subst hB
      simp! only [uNext]
      subst hV2
      simp! only [uRet]
      exact rt_same q
    · rw [if_neg h] at q
      rw [decide_eq_false h]
      subst hA
      simp! only [uxRaise]
      exact ⟨small (by omega), cT_ok (by omega), M, Sub.refl M, q⟩
def spWholeI : USp := fun us M Q => ∃ i : Int, us = [.int i] ∧ Q (.bl true) M
theorem ok_wholeI (F : Fun K "_law_whole" "_law_whole" s_law_whole f fd) (hm : mg "_law_whole" = some (.ref f)) (m_isinstance : mg "isinstance" = none) (m_int : mg "int" = none) (m_bool : mg "bool" = none) : Callee P w K mg base 1 "_law_whole" spWholeI [] := by
  refine callee2 F hm sc_law_whole (ar1 fun _ _ _ _ _ _ _ => rfl) (uss_one (us_ret (ue_and (ue_b b_isi m_isinstance (ua_cons (uv 0) (ua_cons (ug_ty (n := "int") m_int) ua_nil))) (ue_one (ue_not (ue_b b_isi m_isinstance (ua_cons (uv 0) (ua_cons (ug_ty (n := "bool") m_bool) ua_nil)))))))) ?_
  rintro us M Q ⟨i, rfl, q⟩
  refine ⟨rfl, ?_⟩
  simp! only [uRet]
  exact rt_same q
theorem p20 : (10 : Int) ^ (20 : Int).toNat = 100000000000000000000 := by decide
def spWr (n : Nat) : USp := fun us M Q => ∃ (t : Tr) (d : Nat), us = [t.toU, .int (d : Int)] ∧ t.ok ∧ t.dep ≤ n ∧ d + t.dep ≤ 41 ∧ t.size ≤ 1000 ∧ Q (.str t.sh) M
theorem ok_wr {n : Nat} (F : Fun K "_law_written" "_law_written" s_law_written f fd) (hm : mg "_law_written" = some (.ref f)) (m_isinstance : mg "isinstance" = none) (m_tuple : mg "tuple" = none) (m_len : mg "len" = none) (m_str : mg "str" = none) (C_law_whole : Callee P w K mg base 1 "_law_whole" spWholeI []) (C_law_written : Callee P w K mg base (n + 2) "_law_written" (spWr n) []) : Callee P w K mg base (n + 3) "_law_written" (spWr (n + 1)) [] := by
  refine callee2 F hm sc_law_written (ar2 fun _ _ _ _ _ _ _ _ => rfl) (uss_cons (us_if (PWU.pt (uw_or (ut_not (ut_val (ue_b b_isi m_isinstance (ua_cons (uv 0) (ua_cons (ug_ty (n := "tuple") m_tuple) ua_nil))))) (uw_or (ut_c k_notIn (ue_b b_len m_len (ua_cons (uv 0) ua_nil)) (ue_tup (ua_cons un_ (ua_cons un_ ua_nil)))) (uw_or1 (ut_c k_gt (uv 1) un_)))))
  (uss_one (us_ret us_))
  uss_nil)
  (uss_cons (us_if (PWU.pt (uw_and (ut_c k_eqX (ue_b b_len m_len (ua_cons (uv 0) ua_nil)) un_) (uw_and (ut_c k_eqX (ue_ix (uv 0) un_) us_) (uw_and1 (ut_val (ue_call C_law_whole (ua_cons (ue_ix (uv 0) un_) ua_nil)))))))
  (uss_one (us_ret (ue_t b_str m_str (ua_cons (ue_mod (ue_ix (uv 0) un_) (ue_pow un_ un_)) ua_nil))))
  uss_nil)
  (uss_cons (us_if (PWU.pt (uw_and (ut_c k_eqX (ue_b b_len m_len (ua_cons (uv 0) ua_nil)) un_) (uw_and (ut_c k_eqX (ue_ix (uv 0) un_) us_) (uw_and1 (ut_val (ue_b b_isi m_isinstance (ua_cons (ue_ix (uv 0) un_) (ua_cons (ug_ty (n := "str") m_str) ua_nil))))))))
  (uss_one (us_if (PWU.pt (uw_and (ut_c k_notInS us_ (ue_ix (uv 0) un_)) (uw_and (ut_c k_notInS us_ (ue_ix (uv 0) un_)) (uw_and1 (ut_c k_notInS (ue_slX (own := false) (ue_ix (uv 0) un_) uo_none (uo_some un_)) us_)))))
  (uss_one (us_ret (ue_ix (uv 0) un_)))
  uss_nil))
  uss_nil)
  (uss_cons (us_if (PWU.pt (uw_and (ut_c k_eqX (ue_b b_len m_len (ua_cons (uv 0) ua_nil)) un_) (uw_and1 (ut_c k_eqX (ue_ix (uv 0) un_) us_))))
  (uss_one (us_ret (ue_add (own := false) (ue_add (own := false) us_ (ue_call C_law_written (ua_cons (ue_ix (uv 0) un_) (ua_cons (ue_add (own := false) (uv 1) un_) ua_nil)))) us_)))
  uss_nil)
  (uss_cons (us_if (PWU.pt (uw_and (ut_c k_eqX (ue_b b_len m_len (ua_cons (uv 0) ua_nil)) un_) (uw_and1 (ut_c k_in (ue_ix (uv 0) un_) (ue_tup (ua_cons us_ (ua_cons us_ (ua_cons us_ ua_nil))))))))
  (uss_cons (us_set 2 sc_law_written.nd (ue_ix (ue_lst (own := false) (ua_cons us_ (ua_cons us_ (ua_cons us_ ua_nil)))) (ue_index (ue_lst (own := false) (ua_cons us_ (ua_cons us_ (ua_cons us_ ua_nil)))) (ua_cons (ue_ix (uv 0) un_) ua_nil))))
  (uss_one (us_ret (ue_add (own := false) (ue_add (own := false) (ue_add (own := false) (ue_add (own := false) us_ (ue_call C_law_written (ua_cons (ue_ix (uv 0) un_) (ua_cons (ue_add (own := false) (uv 1) un_) ua_nil)))) (uv 2)) (ue_call C_law_written (ua_cons (ue_ix (uv 0) un_) (ua_cons (ue_add (own := false) (uv 1) un_) ua_nil)))) us_))))
  uss_nil)
  (uss_one (us_ret us_))))))) ?_
  rintro us M Q ⟨t, d, rfl, hok, hn, hd, hs, q⟩
  refine ⟨rfl, ?_⟩
  have hp := dep_pos t
  refine seq_gen fun V1 hV1 => ?_
  refine if_gen fun A B hA hB => ?_
  have hB' : B M := by
    subst hB
    simp only [uNext]
    subst hV1
    cases t with
    | num i =>
      refine seq_gen fun V2 hV2 => ?_
      refine if_gen fun A2 B2 hA2 hB2 => ?_
      simp! only [Tr.toU]
      rw [if_pos (by decide)]
      refine ⟨i, rfl, ?_⟩
      simp! only [true_and]
      subst hA2
      simp! only [uRet, Tr.toU, p20]
      have e : i % 100000000000000000000 = i := Int.emod_eq_of_lt hok.1 (by have := hok.2; omega)
      rw [e]
      exact ⟨⟨by decide, by decide, by decide⟩, by decide, log_ok hok.1 hok.2, rt_same q⟩
    | name x =>
      refine seq_gen fun V2 hV2 => ?_
      refine if_gen fun A2 B2 hA2 hB2 => ?_
      simp! only [Tr.toU]
      rw [if_pos (by decide), if_neg (by decide +kernel)]
      subst hB2
      simp only [uNext]
      subst hV2
      refine seq_gen fun V3 hV3 => ?_
      refine if_gen fun A3 B3 hA3 hB3 => ?_
      simp! only [Tr.toU, uIn]
      rw [if_pos (by decide)]
      subst hA3
      refine if_gen fun A4 B4 hA4 hB4 => ?_
      have hx := lenL x
      obtain ⟨c, r, hcr⟩ : ∃ c r, x.cps.toList = c :: r := by
        cases h : x.cps.toList with
        | nil => rw [h] at hx; have := hok.2.1; simp at hx; omega
        | cons c r => exact ⟨c, r, rfl⟩
      have hc := hok.2.2 c (by rw [hcr]; exact List.mem_cons_self)
      have no : ∀ k : Nat, ¬ (97 ≤ k ∧ k ≤ 122) → (!!(Builtin.Str.occurrences x (tx [k]) 0 x.length 1).isEmpty) = true := fun k hk => by
        show (! !(Builtin.Str.occurrences x ⟨#[k]⟩ 0 x.length 1).isEmpty) = true
        rw [PySem.StrLaws.found_one]
        simp only [Bool.not_eq_true', decide_eq_false_iff_not]
        exact fun h => hk (hok.2.2 k h)
      have e1 : Txt.slice x none (some 1) = ⟨#[c]⟩ := by
        have := slcG x (i := 0) (j := 1) (by omega)
        rw [hcr] at this
        exact this
      simp! only [Tr.toU, lp_tx, sp_tx, fig_s, no 40 (by decide), no 32 (by decide), e1, in_fig]
      refine ⟨small (by have := hok.1; omega), ?_⟩
      rw [decide_eq_false (by omega), if_pos (by rfl)]
      subst hA4
      simp! only [uRet, Tr.toU]
      exact rt_same q
    | turn a =>
      refine seq_gen fun V2 hV2 => ?_
      refine if_gen fun A2 B2 hA2 hB2 => ?_
      simp! only [Tr.toU]
      rw [if_pos (by decide), if_neg (by decide +kernel)]
      subst hB2
      simp only [uNext]
      subst hV2
      refine seq_gen fun V3 hV3 => ?_
      refine if_gen fun A3 B3 hA3 hB3 => ?_
      simp! only [Tr.toU, uIn]
      rw [if_pos (by decide), if_neg (by decide +kernel)]
      subst hB3
      simp only [uNext]
      subst hV3
      refine seq_gen fun V4 hV4 => ?_
      refine if_gen fun A4 B4 hA4 hB4 => ?_
      simp! only [Tr.toU, uIn]
      rw [if_pos (by decide)]
      subst hA4
      simp! only [uRet, Tr.toU]
      simp only [Tr.dep, Tr.size] at hn hd hs
      have hl := sh_len (t := a) hok
      have q1 : (Str.ofString "(- ").length = 3 := by decide +kernel
      have q2 : (Str.ofString ")").length = 1 := by decide +kernel
      refine ⟨a, d + 1, rfl, hok, by omega, by omega, by omega, ?_⟩
      exact ⟨small (by omega), small (by rw [len_app]; omega), rt_same q⟩
    | two o a b =>
      refine seq_gen fun V2 hV2 => ?_
      refine if_gen fun A2 B2 hA2 hB2 => ?_
      simp! only [Tr.toU]
      rw [if_neg (by decide)]
      subst hB2
      simp only [uNext]
      subst hV2
      refine seq_gen fun V3 hV3 => ?_
      refine if_gen fun A3 B3 hA3 hB3 => ?_
      simp! only [Tr.toU, uIn]
      rw [if_neg (by decide)]
      subst hB3
      simp only [uNext]
      subst hV3
      refine seq_gen fun V4 hV4 => ?_
      refine if_gen fun A4 B4 hA4 hB4 => ?_
      simp! only [Tr.toU, uIn]
      rw [if_neg (by decide)]
      subst hB4
      simp only [uNext]
      subst hV4
      refine seq_gen fun V5 hV5 => ?_
      refine if_gen fun A5 B5 hA5 hB5 => ?_
      simp! only [Tr.toU, uIn]
      rw [if_pos (by decide)]
      refine ⟨rfl, rfl, ?_⟩
      rw [if_pos (by cases o <;> kernel_rfl)]
      subst hA5
      simp only [Tr.dep, Tr.size] at hn hd hs
      have hl1 := sh_len (t := a) hok.1
      have hl2 := sh_len (t := b) hok.2
      refine seq_gen fun V6 hV6 => ?_
      simp! only [uAsg, hName, Tr.toU, mIndex]
      have key : ∃ j : Nat, [Str.ofString "sum", Str.ofString "less", Str.ofString "by"][j]? = some o.word ∧ (∀ (m : Nat) (z : Str), m < j → [Str.ofString "sum", Str.ofString "less", Str.ofString "by"][m]? = some z → z ≠ o.word) ∧ atI [U.str (Str.ofString " + "), U.str (Str.ofString " - "), U.str (Str.ofString " * ")] (j : Int) = some (.str o.mid) := by
        cases o with
        | sum => exact ⟨0, rfl, fun m z h => by omega, at0⟩
        | less => exact ⟨1, rfl, fun m z h e => by
            have : m = 0 := by omega
            subst this
            cases e
            decide +kernel, at1⟩
        | by_ => exact ⟨2, rfl, fun m z h e => by
            have : m = 0 ∨ m = 1 := by omega
            rcases this with rfl | rfl <;> cases e <;> decide +kernel, at2⟩
      obtain ⟨j, j1, j2, j3⟩ := key
      refine ⟨⟨_, rfl⟩, _, j, rfl, j1, j2, _, j3, ?_⟩
      subst hV6
      simp! only [uRet, Tr.toU]
      have q1 : (Str.ofString "(").length = 1 := by decide +kernel
      have q2 : (Str.ofString ")").length = 1 := by decide +kernel
      have q3 : o.mid.length = 3 := by cases o <;> decide +kernel
      refine ⟨a, d + 1, rfl, hok.1, by omega, by omega, by omega, ?_⟩
      refine ⟨small (by omega), small (by rw [len_app]; omega), b, d + 1, rfl, hok.2, by omega, by omega, by omega, ?_⟩
      exact ⟨small (by rw [len_app, len_app]; omega), small (by rw [len_app, len_app, len_app]; omega), rt_same q⟩
  have hdd : ¬ (decide ((40 : Int) < (d : Int)) = true) := fun z => by have := of_decide_eq_true z; omega
  cases t with
  | num i =>
    simp! only [Tr.toU, uIn]
    refine ⟨rfl, rfl, ?_⟩
    rw [if_neg (by decide +kernel), if_neg hdd]
    exact hB'
  | name x =>
    simp! only [Tr.toU, uIn]
    refine ⟨rfl, rfl, ?_⟩
    rw [if_neg (by decide +kernel), if_neg hdd]
    exact hB'
  | turn a =>
    simp! only [Tr.toU, uIn]
    refine ⟨rfl, rfl, ?_⟩
    rw [if_neg (by decide +kernel), if_neg hdd]
    exact hB'
  | two o a b =>
    simp! only [Tr.toU, uIn]
    refine ⟨rfl, rfl, ?_⟩
    rw [if_neg (by decide +kernel), if_neg hdd]
    exact hB'
theorem wr_all (F : Fun K "_law_written" "_law_written" s_law_written f fd) (hm : mg "_law_written" = some (.ref f)) (m_isinstance : mg "isinstance" = none) (m_tuple : mg "tuple" = none) (m_len : mg "len" = none) (m_str : mg "str" = none) (C_law_whole : Callee P w K mg base 1 "_law_whole" spWholeI []) : ∀ n : Nat, Callee P w K mg base (n + 2) "_law_written" (spWr n) []
  | 0 => by
    have no : ∀ us M Q, ¬ spWr 0 us M Q := fun us M Q h => by
      obtain ⟨t, _, _, _, h, _⟩ := h
      have := dep_pos t
      omega
    refine ⟨f, fd, ["found", "deep"], [], [], ⟨fun vs H Q E h => ?_, fun A outer s H args us vs Q E _ _ _ _ h => ?_⟩, hm, F.kp, F.binds (ar2 fun _ _ _ _ _ _ _ _ => rfl), .nil, fun H M => .nil⟩
    · obtain ⟨us, M, Q', _, _, h, _⟩ := h; exact absurd h (no us M Q')
    · obtain ⟨us, M, Q', _, _, h, _⟩ := h; exact absurd h (no us M Q')
  | n + 1 => ok_wr F hm m_isinstance m_tuple m_len m_str C_law_whole (wr_all F hm m_isinstance m_tuple m_len m_str C_law_whole n)
def Fails (z : Str) : Prop := match rdShape z.cps.toList with
  | .ok t => ¬ (t.size ≤ 200 ∧ t.dep ≤ 40)
  | .error _ => True
theorem eq_self {d : PyData} {u : U} {M : MHp} {Q : UK} (h1 : eqS u u = none) (h2 : topD M u = some d) (h3 : d.canLay0 = true) (h4 : d.depth ≤ 60) (q : Q (.bl true) M) : uEqX false u u M Q := by
  unfold uEqX
  rw [h1]
  refine ⟨_, _, h2, h2, h3, h3, by omega, ?_⟩
  rw [SeqAt.eqv_refl _ h3]
  exact q
theorem read_no {N : Addr} {z : Str} {M : MHp} {Q : UK} {E : UXF} (hz : z.length ≤ 90000) (hf : Fails z) (q : ∀ k : Nat, (k : Int) = dueF z.cps.toList → E N (eAt k) M) : spReadX N [.str z] M Q E := by
  refine ⟨z, rfl, hz, ?_⟩
  unfold Fails at hf
  have hL := lenL z
  rw [dueF_eq] at q
  cases hr : rdShape z.cps.toList with
  | error k => rw [hr] at q; exact q k rfl
  | ok t =>
    rw [hr] at hf q
    dsimp only at hf ⊢
    rw [if_neg hf]
    simp only [vdt, if_neg hf] at q
    exact q _ (by rw [hL])
theorem sc_toldE : FnScope ["text", "some", "e"] ["text"] (defScope s_law_base_told) := fsc
def spTold : USp := fun us M Q => ∃ z : Str, us = [.str z] ∧ z.length ≤ 90000 ∧ Fails z ∧ Q (.bl true) M
theorem ok_told {N R aN aR aG aM aE aL : Addr} (F : Fun K "_law_base_told" "_law_base_told" s_law_base_told f fd) (hm : mg "_law_base_told" = some (.ref f)) (m_isinstance : mg "isinstance" = none) (m_VE : mg "ValueError" = none) (CX_read : CalleeX P w K mg base 7 "read" (spReadX N) [])
    (g_RE : mg "RowsmithError" = some (.ref R)) (g_NT : mg "NoText" = some (.ref N)) (g_NoName : mg "NoName" = some (.ref aN)) (g_NoRow : mg "NoRow" = some (.ref aR)) (g_NotRight : mg "NotRight" = some (.ref aG)) (g_TooMany : mg "TooMany" = some (.ref aM)) (g_NoExchange : mg "NoExchange" = some (.ref aE)) (g_NoLine : mg "NoLine" = some (.ref aL))
    (hR : HCls K R) (cg0 : ∃ R fI, XGet K N R fI) (hs : PySem.W.subIn K (.ref N) (.ref R) = some true) (k1 : PySem.W.kitOne K (.ref N) (.type "ValueError") = some true) (k2 : PySem.W.kitOne K (.ref N) (.ref N) = some true) (k3 : PySem.W.kitAny K (.ref N) [.ref aN, .ref aR, .ref aG] = some false) (k4 : PySem.W.kitAny K (.ref N) [.ref aM, .ref aE, .ref aL] = some false) : Callee P w K mg base 8 "_law_base_told" spTold [] := by
  refine callee2 F hm sc_toldE (ar1 fun _ _ _ _ _ _ _ => rfl) (uss_cons (us_set 1 sc_toldE.nd uo_)
    (uss_cons (us_try 2 sc_toldE.nd g_RE hR (ux_one (ux_expr (ex_call CX_read (ua_cons (uv 0) ua_nil))))
      (fun a C fs => hs_cons (h_set 1 sc_toldE.nd (h_lst (own := false) (h_cons (h_isi rfl m_isinstance (h_cons (h_var 2) (h_cons (h_ty (n := "ValueError") m_VE) h_nil))) (h_cons (h_isi rfl m_isinstance (h_cons (h_var 2) (h_cons (h_ref g_NT) h_nil))) (h_cons (h_isi rfl m_isinstance (h_cons (h_var 2) (h_cons (h_tup (h_cons (h_ref g_NoName) (h_cons (h_ref g_NoRow) (h_cons (h_ref g_NotRight) h_nil)))) h_nil))) h_nil)))))
        (hs_one (h_set 1 sc_toldE.nd (h_add (own := false) (h_var 1) (h_lst (own := false) (h_cons (h_isi rfl m_isinstance (h_cons (h_var 2) (h_cons (h_tup (h_cons (h_ref g_TooMany) (h_cons (h_ref g_NoExchange) (h_cons (h_ref g_NoLine) h_nil)))) h_nil))) h_nil)))))))
    (uss_one (us_ret (ue_c k_eqX (uv 1) (ue_lst (own := false) (ua_cons ub_ (ua_cons ub_ (ua_cons ub_ (ua_cons ub_ ua_nil)))))))))) ?_
  rintro us M Q ⟨z, rfl, hz, hf, q⟩
  refine ⟨rfl, ?_⟩
  refine seq_gen fun V1 hV1 => ?_
  simp! only [uAsg, hName]
  subst hV1
  refine seq_gen fun V4 hV4 => ?_
  simp! only [uTry, uxDrop]
  refine read_no hz hf fun k hk => ?_
  refine ⟨hs, fun a2 => ?_⟩
  refine seq_gen fun V5 hV5 => ?_
  simp! only [uAsg, hName, bIsiX, uRef]
  refine ⟨cg0, (fun z => nomatch z), true, k1, cg0, (fun z => nomatch z), true, k2, cg0, fun v hv => ?_, false, k3, ?_⟩
  · simp only [List.mem_cons, List.not_mem_nil, or_false] at hv
    rcases hv with rfl | rfl | rfl <;> exact fun z => nomatch z
  subst hV5
  simp! only [uAsg, hName, bIsiX, uRef]
  refine ⟨cg0, fun v hv => ?_, false, k4, ?_⟩
  · simp only [List.mem_cons, List.not_mem_nil, or_false] at hv
    rcases hv with rfl | rfl | rfl <;> exact fun z => nomatch z
  subst hV4
  simp! only [uRet]
  exact eq_self (d := .list [.bool true, .bool true, .bool false, .bool false]) rfl rfl (by decide +kernel) (by decide +kernel) (rt_same q)
theorem sc_lawE : FnScope ["script", "base", "text", "due", "found", "at", "e"] ["script"] (defScope s_law) := fsc
def spLaw : USp := fun us M Q => ∃ ns : List Int, us = [.lst (ns.map .int)] ∧ ns.length ≤ 63 ∧ Q (.bl true) M
theorem ok_law {N : Addr} (F : Fun K "law" "law" s_law f fd) (g_NT : mg "NoText" = some (.ref N)) (H_NT : HCls K N) (hs0 : PySem.W.subIn K (.ref N) (.ref N) = some true) (cg : ∃ R fI, XGet K N R fI ∧ PySem.W.findIn K (.ref N) "at" = some none) (C_law_base : Callee P w K mg base 2 "_law_base" spBase []) (C_law_cell_at : Callee P w K mg base 1 "_law_cell_at" spCell []) (C_law_text : Callee P w K mg base 3 "_law_text" spTxt []) (C_law_due : Callee P w K mg base 3 "_law_due" spDue []) (CX_read : CalleeX P w K mg base 7 "read" (spReadX N) []) (C_law_written : Callee P w K mg base 52 "_law_written" (spWr 50) []) (C_law_whole : Callee P w K mg base 1 "_law_whole" spWholeI []) (C_law_base_told : Callee P w K mg base 8 "_law_base_told" spTold []) : FnOk P w K mg base CX0 53 f fd ["script"] (liftSp K spLaw) := by
  refine fnok_of F sc_lawE (fun us M Q h => by obtain ⟨_, rfl, _⟩ := h; rfl) (uss_cons (us_set 1 sc_lawE.nd (ue_call C_law_base (ua_cons (ue_slX (own := false) (uv 0) (uo_some un_) (uo_some un_)) ua_nil)))
  (uss_cons (us_set 2 sc_lawE.nd (ue_call C_law_text (ua_cons (uv 1) (ua_cons (ue_call C_law_cell_at (ua_cons (uv 0) (ua_cons un_ ua_nil))) (ua_cons (ue_call C_law_cell_at (ua_cons (uv 0) (ua_cons un_ ua_nil))) ua_nil)))))
  (uss_cons (us_set 3 sc_lawE.nd (ue_call C_law_due (ua_cons (uv 2) ua_nil)))
  (uss_cons (us_set 4 sc_lawE.nd uo_)
  (uss_cons (us_set 5 sc_lawE.nd uo_)
  (uss_cons (us_try 6 sc_lawE.nd g_NT H_NT (ux_one (ux_set 4 sc_lawE.nd (ex_call CX_read (ua_cons (uv 2) ua_nil)))) (fun a C fs => hs_one (h_set 5 sc_lawE.nd (h_attr (h_var 6)))))
  (uss_cons (us_if (ut_c k_ltX (uv 3) un_)
  (uss_one (us_ret (ue_and (ue_c k_isN (uv 5) uo_) (ue_one (ue_c k_eqX (ue_call C_law_written (ua_cons (uv 4) (ua_cons un_ ua_nil))) (uv 2))))))
  uss_nil)
  (uss_one (us_ret (ue_and (ue_call C_law_whole (ua_cons (uv 5) ua_nil)) (ue_and (ue_c k_eqX (uv 5) (uv 3)) (ue_one (ue_call C_law_base_told (ua_cons (uv 2) ua_nil)))))))))))))) ?_
  rintro us M Q ⟨ns, rfl, hns, q⟩
  have hc : (cutU ns (some 2) (some 63)).length ≤ 61 := by
    unfold cutU
    rw [List.length_take, List.length_drop, show (some (2 : Int)) = some ((2 : Nat) : Int) by rfl, HT.sIx_nat, show (some (63 : Int)) = some ((63 : Nat) : Int) by rfl, HT.sIx_nat]
    omega
  refine seq_gen fun V1 hV1 => ?_
  simp! only [uAsg, hName, cut_map]
  refine ⟨_, rfl, hc, fun z0 hz0 => ?_⟩
  subst hV1
  refine seq_gen fun V2 hV2 => ?_
  simp! only [uAsg, hName]
  refine ⟨ns, 0, rfl, by decide, fun c1 => ⟨ns, 1, rfl, by decide, fun c2 => ⟨z0, c1, c2, rfl, hz0, fun z hz => ?_⟩⟩⟩
  subst hV2
  refine seq_gen fun V3 hV3 => ?_
  simp! only [uAsg, hName]
  refine ⟨z, rfl, hz, ?_⟩
  subst hV3
  refine seq_gen fun V4 hV4 => ?_
  simp! only [uAsg, hName]
  subst hV4
  refine seq_gen fun V5 hV5 => ?_
  simp! only [uAsg, hName]
  subst hV5
  refine seq_gen fun V6 hV6 => ?_
  simp! only [uTry, uxSet]
  by_cases hf : Fails z
  · refine read_no hz hf fun k hk => ?_
    refine ⟨hs0, fun a => ?_⟩
    simp! only [uAsg, hName, uAttr]
    refine ⟨cg, _, _, rfl, rfl, ?_⟩
    subst hV6
    refine seq_gen fun V7 hV7 => ?_
    refine if_gen fun A B hA hB => ?_
    rw [← hk]
    simp! only [true_and]
    rw [if_neg (fun z => by have := of_decide_eq_true z; omega)]
    subst hB
    simp only [uNext]
    subst hV7
    simp! only [uRet]
    refine ⟨_, rfl, ?_⟩
    simp! only [hk]
    exact ⟨z, rfl, hz, hf, rt_same q⟩
  · unfold Fails at hf
    refine ⟨z, rfl, hz, ?_⟩
    have hL := lenL z
    rw [dueF_eq]
    cases hr : rdShape z.cps.toList with
    | error k => rw [hr] at hf; exact (hf trivial).elim
    | ok t =>
      rw [hr] at hf
      have ht : t.size ≤ 200 ∧ t.dep ≤ 40 := Classical.not_not.mp hf
      obtain ⟨t1, t2⟩ := rd_text hr
      simp only [vdt, if_pos ht]
      subst hV6
      refine seq_gen fun V7 hV7 => ?_
      refine if_gen fun A B hA hB => ?_
      simp! only [true_and]
      rw [if_pos (by decide)]
      subst hA
      simp! only [uRet]
      refine ⟨t, 1, rfl, t2, by omega, by omega, by omega, ?_⟩
      have ez : t.sh = z := by rw [← tx_of z, t1, ← tx_of t.sh]; rfl
      simp! only [ez]
      exact rt_same q
end
end K09
namespace K09
open PySem L2 U2
theorem str_small {n : Int} (h0 : 0 ≤ n) (h1 : n ≤ 10 ^ 18) : (Str.ofString (toString n)).length ≤ 20 := num_len h0 h1
theorem log_small {n : Int} (h0 : 0 ≤ n) (h1 : n ≤ 10 ^ 18) : n.natAbs.log2 < 1920 := log_ok h0 h1
def clsDef (s : Stmt) (i : Nat) : Stmt := match s with
  | .ClassDef _ _ _ b _ _ _ _ _ _ _ => b.getD i (.Pass ⟨0, 0, 0, 0⟩)
  | _ => .Pass ⟨0, 0, 0, 0⟩
def findCl (n : Str) : List Stmt → Stmt
  | [] => .Pass ⟨0, 0, 0, 0⟩
  | s :: r => match s with
    | .ClassDef m _ _ _ _ _ _ _ _ _ _ => if m = n then s else findCl n r
    | _ => findCl n r
def s_iNT : Stmt := clsDef (findCl "NoText" PySem.Challenge.pw_rowsmith_k09_whole_texts_judged.main.body) 0
theorem sc_iNT : FnScope ["self", "at"] ["self", "at"] (defScope s_iNT) := fsc
section
variable {P : Program} {w : World} {K : PySem.W.Frag} {mg : Str → Option Value} {base : Heap}
theorem iNT_init {R C fI : Addr} {fd : FuncData} (F : Fun K "__init__" "NoText.__init__" s_iNT fI fd) (hm : mg "RowsmithError" = some (.ref R)) (B : XBase K R) (c : XCls K C R fI) (n : NoAttr K C "at") : FnOkH P w K mg base CX0 1 fI fd ["self", "at"] (spInit C "at" condT) :=
  init_ok (k := 0) (t2 := tF2 "no tree is written: wrong at sign " (tVar 1)) F hm B c n rfl sc_iNT rfl (fun X h1 h2 h3 => pe_f2 (pe_var (by rw [h1]; rfl) (by rw [h2]; exact .inl rfl)) (by decide +kernel)) (fun a y H Q hy q => by
    obtain ⟨i, rfl, hi⟩ := hy
    have r1 := str_small (n := (i : Int)) (by omega) (by omega)
    have r2 : (Str.ofString "no tree is written: wrong at sign ").length ≤ 100 := by decide +kernel
    refine ⟨_, rfl, _, if_pos (log_small (by omega) (by omega)), by omega, ?_, q _⟩
    rw [L2.len_app]; omega)
theorem iNT_exc {R C fI : Addr} {fd : FuncData} (F : Fun K "__init__" "NoText.__init__" s_iNT fI fd) (hm : mg "RowsmithError" = some (.ref R)) (hc : mg "NoText" = some (.ref C)) (B : XBase K R) (c : XGet K C R fI) (n : NoAttr K C "at") : ExcC P w K mg base 1 "NoText" C "at" condT :=
  ⟨R, fI, fd, "at", c, hc, iNT_init F hm B c.cl n, F.binds fun _ _ _ _ _ _ us hl => match us, hl with | [_, _], _ => rfl⟩
end
theorem ints_rel {K : PySem.W.Frag} {H : Hp} {M : MHp} : ∀ ns : List Int, RelUs K H M (ns.map U.int) (ns.map V.int)
  | [] => .nil
  | _ :: r => .cons relU_int (ints_rel r)
theorem law_entry {K : PySem.W.Frag} {H : Hp} {a : Addr} {ns : List Int} {E : XK} (hl : ns.length ≤ 63) (hS : SqL K H a (ns.map V.int)) : liftSp K spLaw [.ref a] H (fun v _ => v = .bl true) E := by
  refine ⟨[.lst (ns.map .int)], fun _ => none, fun u _ => u = .bl true, (fun a mo e => by cases e), .cons ?_ .nil, ⟨ns, rfl, hl, rfl⟩, fun u v M1 H1 _ _ ru q => by subst q; exact ru.bl⟩
  simp only [RelU]
  refine ⟨a, _, rfl, ?_, ints_rel ns⟩
  rcases hS with h | h
  · exact .inl ⟨trivial, h⟩
  · exact .inr h
open PyProof.Rows in
theorem all_mk {cRE : Addr} {cxt fxt xtN : Addr} {xtnm xtqq : Str} {xtbs xtsub : List Value} {xtsn : List Str} {xtab : Bool} {xtcol : Option Bool} {xtdd xtod xtan : Option Addr} {xtk0 xtk1 xtk2 xtk3 xtk5 : Option Value} {xtosl : Array (Option Value)} {xtoc xtkV xtdoc xtpm xtcdv xtct : Value} {aN aR aG aM aE aL : Addr} {l : PySem.W.OpenLaw} {w : World} {K : PySem.W.Frag} {h : Heap} {mg : Str → Option Value} {fa f0 f1 f2 f3 f4 f5 f6 f7 f8 f9 f10 f11 f12 f13 f14 f15 f16 f17 f18 f19 f20 f21 f22 f23 f24 f25 f26 f27 f28 f29 : Addr} (X : K.In h) (G : h.Ns mainGlobals mg) (hfa : mg "law" = some (.ref fa))
    {od0 an0 : Option Addr} {sl0 : Array (Option Value)} {oc0 kV0 dc0 pm0 cd0 ct0 : Value}
    {od1 an1 : Option Addr} {sl1 : Array (Option Value)} {oc1 kV1 dc1 pm1 cd1 ct1 : Value}
    {od2 an2 : Option Addr} {sl2 : Array (Option Value)} {oc2 kV2 dc2 pm2 cd2 ct2 : Value}
    {od3 an3 : Option Addr} {sl3 : Array (Option Value)} {oc3 kV3 dc3 pm3 cd3 ct3 : Value}
    {od4 an4 : Option Addr} {sl4 : Array (Option Value)} {oc4 kV4 dc4 pm4 cd4 ct4 : Value}
    {od5 an5 : Option Addr} {sl5 : Array (Option Value)} {oc5 kV5 dc5 pm5 cd5 ct5 : Value}
    {od6 an6 : Option Addr} {sl6 : Array (Option Value)} {oc6 kV6 dc6 pm6 cd6 ct6 : Value}
    {od7 an7 : Option Addr} {sl7 : Array (Option Value)} {oc7 kV7 dc7 pm7 cd7 ct7 : Value}
    {od8 an8 : Option Addr} {sl8 : Array (Option Value)} {oc8 kV8 dc8 pm8 cd8 ct8 : Value}
    {od9 an9 : Option Addr} {sl9 : Array (Option Value)} {oc9 kV9 dc9 pm9 cd9 ct9 : Value}
    {od10 an10 : Option Addr} {sl10 : Array (Option Value)} {oc10 kV10 dc10 pm10 cd10 ct10 : Value}
    {od11 an11 : Option Addr} {sl11 : Array (Option Value)} {oc11 kV11 dc11 pm11 cd11 ct11 : Value}
    {od12 an12 : Option Addr} {sl12 : Array (Option Value)} {oc12 kV12 dc12 pm12 cd12 ct12 : Value}
    {od13 an13 : Option Addr} {sl13 : Array (Option Value)} {oc13 kV13 dc13 pm13 cd13 ct13 : Value}
    {od14 an14 : Option Addr} {sl14 : Array (Option Value)} {oc14 kV14 dc14 pm14 cd14 ct14 : Value}
    {od15 an15 : Option Addr} {sl15 : Array (Option Value)} {oc15 kV15 dc15 pm15 cd15 ct15 : Value}
    {od16 an16 : Option Addr} {sl16 : Array (Option Value)} {oc16 kV16 dc16 pm16 cd16 ct16 : Value}
    {od17 an17 : Option Addr} {sl17 : Array (Option Value)} {oc17 kV17 dc17 pm17 cd17 ct17 : Value}
    {od18 an18 : Option Addr} {sl18 : Array (Option Value)} {oc18 kV18 dc18 pm18 cd18 ct18 : Value}
    {od19 an19 : Option Addr} {sl19 : Array (Option Value)} {oc19 kV19 dc19 pm19 cd19 ct19 : Value}
    {od20 an20 : Option Addr} {sl20 : Array (Option Value)} {oc20 kV20 dc20 pm20 cd20 ct20 : Value}
    {od21 an21 : Option Addr} {sl21 : Array (Option Value)} {oc21 kV21 dc21 pm21 cd21 ct21 : Value}
    {od22 an22 : Option Addr} {sl22 : Array (Option Value)} {oc22 kV22 dc22 pm22 cd22 ct22 : Value}
    {od23 an23 : Option Addr} {sl23 : Array (Option Value)} {oc23 kV23 dc23 pm23 cd23 ct23 : Value}
    {od24 an24 : Option Addr} {sl24 : Array (Option Value)} {oc24 kV24 dc24 pm24 cd24 ct24 : Value}
    {od25 an25 : Option Addr} {sl25 : Array (Option Value)} {oc25 kV25 dc25 pm25 cd25 ct25 : Value}
    {od26 an26 : Option Addr} {sl26 : Array (Option Value)} {oc26 kV26 dc26 pm26 cd26 ct26 : Value}
    {od27 an27 : Option Addr} {sl27 : Array (Option Value)} {oc27 kV27 dc27 pm27 cd27 ct27 : Value}
    {od28 an28 : Option Addr} {sl28 : Array (Option Value)} {oc28 kV28 dc28 pm28 cd28 ct28 : Value}
    {od29 an29 : Option Addr} {sl29 : Array (Option Value)} {oc29 kV29 dc29 pm29 cd29 ct29 : Value}
    {tk0 : Tok}
    {tk1 : Tok}
    {tk2 : Tok}
    {tk3 : Tok}
    {tk4 : Tok}
    {tk5 : Tok}
    (a0 : PySem.W.nsIn K mainGlobals "is_whole" = some (some (.ref f0))) (l0 : K.lookup f0 = some ⟨oc0, od0, .func (PySem.W.fnOf "is_whole" "is_whole" (defArgs s_is_whole) (defBody s_is_whole) (defScope s_is_whole) .none kV0 dc0 pm0 an0 cd0 ct0), sl0⟩) (c0 : PySem.W.codeIn K cd0 "is_whole" = true) (k0 : PySem.W.keepIn K (.ref f0) = true)
    (a1 : PySem.W.nsIn K mainGlobals "is_number" = some (some (.ref f1))) (l1 : K.lookup f1 = some ⟨oc1, od1, .func (PySem.W.fnOf "is_number" "is_number" (defArgs s_is_number) (defBody s_is_number) (defScope s_is_number) .none kV1 dc1 pm1 an1 cd1 ct1), sl1⟩) (c1 : PySem.W.codeIn K cd1 "is_number" = true) (k1 : PySem.W.keepIn K (.ref f1) = true)
    (a2 : PySem.W.nsIn K mainGlobals "is_sign" = some (some (.ref f2))) (l2 : K.lookup f2 = some ⟨oc2, od2, .func (PySem.W.fnOf "is_sign" "is_sign" (defArgs s_is_sign) (defBody s_is_sign) (defScope s_is_sign) .none kV2 dc2 pm2 an2 cd2 ct2), sl2⟩) (c2 : PySem.W.codeIn K cd2 "is_sign" = true) (k2 : PySem.W.keepIn K (.ref f2) = true)
    (a3 : PySem.W.nsIn K mainGlobals "is_shape" = some (some (.ref f3))) (l3 : K.lookup f3 = some ⟨oc3, od3, .func (PySem.W.fnOf "is_shape" "is_shape" (defArgs s_is_shape) (defBody s_is_shape) (defScope s_is_shape) .none kV3 dc3 pm3 an3 cd3 ct3), sl3⟩) (c3 : PySem.W.codeIn K cd3 "is_shape" = true) (k3 : PySem.W.keepIn K (.ref f3) = true)
    (a4 : PySem.W.nsIn K mainGlobals "end_of_name" = some (some (.ref f4))) (l4 : K.lookup f4 = some ⟨oc4, od4, .func (PySem.W.fnOf "end_of_name" "end_of_name" (defArgs s_end_of_name) (defBody s_end_of_name) (defScope s_end_of_name) .none kV4 dc4 pm4 an4 cd4 ct4), sl4⟩) (c4 : PySem.W.codeIn K cd4 "end_of_name" = true) (k4 : PySem.W.keepIn K (.ref f4) = true)
    (a5 : PySem.W.nsIn K mainGlobals "read_number" = some (some (.ref f5))) (l5 : K.lookup f5 = some ⟨oc5, od5, .func (PySem.W.fnOf "read_number" "read_number" (defArgs s_read_number) (defBody s_read_number) (defScope s_read_number) .none kV5 dc5 pm5 an5 cd5 ct5), sl5⟩) (c5 : PySem.W.codeIn K cd5 "read_number" = true) (k5 : PySem.W.keepIn K (.ref f5) = true)
    (a6 : PySem.W.nsIn K mainGlobals "read_shape" = some (some (.ref f6))) (l6 : K.lookup f6 = some ⟨oc6, od6, .func (PySem.W.fnOf "read_shape" "read_shape" (defArgs s_read_shape) (defBody s_read_shape) (defScope s_read_shape) .none kV6 dc6 pm6 an6 cd6 ct6), sl6⟩) (c6 : PySem.W.codeIn K cd6 "read_shape" = true) (k6 : PySem.W.keepIn K (.ref f6) = true)
    (a7 : PySem.W.nsIn K mainGlobals "read_openings" = some (some (.ref f7))) (l7 : K.lookup f7 = some ⟨oc7, od7, .func (PySem.W.fnOf "read_openings" "read_openings" (defArgs s_read_openings) (defBody s_read_openings) (defScope s_read_openings) .none kV7 dc7 pm7 an7 cd7 ct7), sl7⟩) (c7 : PySem.W.codeIn K cd7 "read_openings" = true) (k7 : PySem.W.keepIn K (.ref f7) = true)
    (a8 : PySem.W.nsIn K mainGlobals "read_behind" = some (some (.ref f8))) (l8 : K.lookup f8 = some ⟨oc8, od8, .func (PySem.W.fnOf "read_behind" "read_behind" (defArgs s_read_behind) (defBody s_read_behind) (defScope s_read_behind) .none kV8 dc8 pm8 an8 cd8 ct8), sl8⟩) (c8 : PySem.W.codeIn K cd8 "read_behind" = true) (k8 : PySem.W.keepIn K (.ref f8) = true)
    (a9 : PySem.W.nsIn K mainGlobals "read_middle" = some (some (.ref f9))) (l9 : K.lookup f9 = some ⟨oc9, od9, .func (PySem.W.fnOf "read_middle" "read_middle" (defArgs s_read_middle) (defBody s_read_middle) (defScope s_read_middle) .none kV9 dc9 pm9 an9 cd9 ct9), sl9⟩) (c9 : PySem.W.codeIn K cd9 "read_middle" = true) (k9 : PySem.W.keepIn K (.ref f9) = true)
    (a10 : PySem.W.nsIn K mainGlobals "need_sign" = some (some (.ref f10))) (l10 : K.lookup f10 = some ⟨oc10, od10, .func (PySem.W.fnOf "need_sign" "need_sign" (defArgs s_need_sign) (defBody s_need_sign) (defScope s_need_sign) .none kV10 dc10 pm10 an10 cd10 ct10), sl10⟩) (c10 : PySem.W.codeIn K cd10 "need_sign" = true) (k10 : PySem.W.keepIn K (.ref f10) = true)
    (a11 : PySem.W.nsIn K mainGlobals "is_name" = some (some (.ref f11))) (l11 : K.lookup f11 = some ⟨oc11, od11, .func (PySem.W.fnOf "is_name" "is_name" (defArgs s_is_name) (defBody s_is_name) (defScope s_is_name) .none kV11 dc11 pm11 an11 cd11 ct11), sl11⟩) (c11 : PySem.W.codeIn K cd11 "is_name" = true) (k11 : PySem.W.keepIn K (.ref f11) = true)
    (a12 : PySem.W.nsIn K mainGlobals "is_tree_leaf" = some (some (.ref f12))) (l12 : K.lookup f12 = some ⟨oc12, od12, .func (PySem.W.fnOf "is_tree_leaf" "is_tree_leaf" (defArgs s_is_tree_leaf) (defBody s_is_tree_leaf) (defScope s_is_tree_leaf) .none kV12 dc12 pm12 an12 cd12 ct12), sl12⟩) (c12 : PySem.W.codeIn K cd12 "is_tree_leaf" = true) (k12 : PySem.W.keepIn K (.ref f12) = true)
    (a13 : PySem.W.nsIn K mainGlobals "is_tree" = some (some (.ref f13))) (l13 : K.lookup f13 = some ⟨oc13, od13, .func (PySem.W.fnOf "is_tree" "is_tree" (defArgs s_is_tree) (defBody s_is_tree) (defScope s_is_tree) .none kV13 dc13 pm13 an13 cd13 ct13), sl13⟩) (c13 : PySem.W.codeIn K cd13 "is_tree" = true) (k13 : PySem.W.keepIn K (.ref f13) = true)
    (a14 : PySem.W.nsIn K mainGlobals "read_leaf" = some (some (.ref f14))) (l14 : K.lookup f14 = some ⟨oc14, od14, .func (PySem.W.fnOf "read_leaf" "read_leaf" (defArgs s_read_leaf) (defBody s_read_leaf) (defScope s_read_leaf) .none kV14 dc14 pm14 an14 cd14 ct14), sl14⟩) (c14 : PySem.W.codeIn K cd14 "read_leaf" = true) (k14 : PySem.W.keepIn K (.ref f14) = true)
    (a15 : PySem.W.nsIn K mainGlobals "read" = some (some (.ref f15))) (l15 : K.lookup f15 = some ⟨oc15, od15, .func (PySem.W.fnOf "read" "read" (defArgs s_read) (defBody s_read) (defScope s_read) .none kV15 dc15 pm15 an15 cd15 ct15), sl15⟩) (c15 : PySem.W.codeIn K cd15 "read" = true) (k15 : PySem.W.keepIn K (.ref f15) = true)
    (a16 : PySem.W.nsIn K mainGlobals "_law_whole" = some (some (.ref f16))) (l16 : K.lookup f16 = some ⟨oc16, od16, .func (PySem.W.fnOf "_law_whole" "_law_whole" (defArgs s_law_whole) (defBody s_law_whole) (defScope s_law_whole) .none kV16 dc16 pm16 an16 cd16 ct16), sl16⟩) (c16 : PySem.W.codeIn K cd16 "_law_whole" = true) (k16 : PySem.W.keepIn K (.ref f16) = true)
    (a17 : PySem.W.nsIn K mainGlobals "_law_cell_at" = some (some (.ref f17))) (l17 : K.lookup f17 = some ⟨oc17, od17, .func (PySem.W.fnOf "_law_cell_at" "_law_cell_at" (defArgs s_law_cell_at) (defBody s_law_cell_at) (defScope s_law_cell_at) .none kV17 dc17 pm17 an17 cd17 ct17), sl17⟩) (c17 : PySem.W.codeIn K cd17 "_law_cell_at" = true) (k17 : PySem.W.keepIn K (.ref f17) = true)
    (a18 : PySem.W.nsIn K mainGlobals "_law_name_of" = some (some (.ref f18))) (l18 : K.lookup f18 = some ⟨oc18, od18, .func (PySem.W.fnOf "_law_name_of" "_law_name_of" (defArgs s_law_name_of) (defBody s_law_name_of) (defScope s_law_name_of) .none kV18 dc18 pm18 an18 cd18 ct18), sl18⟩) (c18 : PySem.W.codeIn K cd18 "_law_name_of" = true) (k18 : PySem.W.keepIn K (.ref f18) = true)
    (a19 : PySem.W.nsIn K mainGlobals "_law_base" = some (some (.ref f19))) (l19 : K.lookup f19 = some ⟨oc19, od19, .func (PySem.W.fnOf "_law_base" "_law_base" (defArgs s_law_base) (defBody s_law_base) (defScope s_law_base) .none kV19 dc19 pm19 an19 cd19 ct19), sl19⟩) (c19 : PySem.W.codeIn K cd19 "_law_base" = true) (k19 : PySem.W.keepIn K (.ref f19) = true)
    (a20 : PySem.W.nsIn K mainGlobals "_law_sign" = some (some (.ref f20))) (l20 : K.lookup f20 = some ⟨oc20, od20, .func (PySem.W.fnOf "_law_sign" "_law_sign" (defArgs s_law_sign) (defBody s_law_sign) (defScope s_law_sign) .none kV20 dc20 pm20 an20 cd20 ct20), sl20⟩) (c20 : PySem.W.codeIn K cd20 "_law_sign" = true) (k20 : PySem.W.keepIn K (.ref f20) = true)
    (a21 : PySem.W.nsIn K mainGlobals "_law_digits" = some (some (.ref f21))) (l21 : K.lookup f21 = some ⟨oc21, od21, .func (PySem.W.fnOf "_law_digits" "_law_digits" (defArgs s_law_digits) (defBody s_law_digits) (defScope s_law_digits) .none kV21 dc21 pm21 an21 cd21 ct21), sl21⟩) (c21 : PySem.W.codeIn K cd21 "_law_digits" = true) (k21 : PySem.W.keepIn K (.ref f21) = true)
    (a22 : PySem.W.nsIn K mainGlobals "_law_text" = some (some (.ref f22))) (l22 : K.lookup f22 = some ⟨oc22, od22, .func (PySem.W.fnOf "_law_text" "_law_text" (defArgs s_law_text) (defBody s_law_text) (defScope s_law_text) .none kV22 dc22 pm22 an22 cd22 ct22), sl22⟩) (c22 : PySem.W.codeIn K cd22 "_law_text" = true) (k22 : PySem.W.keepIn K (.ref f22) = true)
    (a23 : PySem.W.nsIn K mainGlobals "_law_begins" = some (some (.ref f23))) (l23 : K.lookup f23 = some ⟨oc23, od23, .func (PySem.W.fnOf "_law_begins" "_law_begins" (defArgs s_law_begins) (defBody s_law_begins) (defScope s_law_begins) .none kV23 dc23 pm23 an23 cd23 ct23), sl23⟩) (c23 : PySem.W.codeIn K cd23 "_law_begins" = true) (k23 : PySem.W.keepIn K (.ref f23) = true)
    (a24 : PySem.W.nsIn K mainGlobals "_law_inside" = some (some (.ref f24))) (l24 : K.lookup f24 = some ⟨oc24, od24, .func (PySem.W.fnOf "_law_inside" "_law_inside" (defArgs s_law_inside) (defBody s_law_inside) (defScope s_law_inside) .none kV24 dc24 pm24 an24 cd24 ct24), sl24⟩) (c24 : PySem.W.codeIn K cd24 "_law_inside" = true) (k24 : PySem.W.keepIn K (.ref f24) = true)
    (a25 : PySem.W.nsIn K mainGlobals "_law_goes_on" = some (some (.ref f25))) (l25 : K.lookup f25 = some ⟨oc25, od25, .func (PySem.W.fnOf "_law_goes_on" "_law_goes_on" (defArgs s_law_goes_on) (defBody s_law_goes_on) (defScope s_law_goes_on) .none kV25 dc25 pm25 an25 cd25 ct25), sl25⟩) (c25 : PySem.W.codeIn K cd25 "_law_goes_on" = true) (k25 : PySem.W.keepIn K (.ref f25) = true)
    (a26 : PySem.W.nsIn K mainGlobals "_law_due" = some (some (.ref f26))) (l26 : K.lookup f26 = some ⟨oc26, od26, .func (PySem.W.fnOf "_law_due" "_law_due" (defArgs s_law_due) (defBody s_law_due) (defScope s_law_due) .none kV26 dc26 pm26 an26 cd26 ct26), sl26⟩) (c26 : PySem.W.codeIn K cd26 "_law_due" = true) (k26 : PySem.W.keepIn K (.ref f26) = true)
    (a27 : PySem.W.nsIn K mainGlobals "_law_written" = some (some (.ref f27))) (l27 : K.lookup f27 = some ⟨oc27, od27, .func (PySem.W.fnOf "_law_written" "_law_written" (defArgs s_law_written) (defBody s_law_written) (defScope s_law_written) .none kV27 dc27 pm27 an27 cd27 ct27), sl27⟩) (c27 : PySem.W.codeIn K cd27 "_law_written" = true) (k27 : PySem.W.keepIn K (.ref f27) = true)
    (a28 : PySem.W.nsIn K mainGlobals "_law_base_told" = some (some (.ref f28))) (l28 : K.lookup f28 = some ⟨oc28, od28, .func (PySem.W.fnOf "_law_base_told" "_law_base_told" (defArgs s_law_base_told) (defBody s_law_base_told) (defScope s_law_base_told) .none kV28 dc28 pm28 an28 cd28 ct28), sl28⟩) (c28 : PySem.W.codeIn K cd28 "_law_base_told" = true) (k28 : PySem.W.keepIn K (.ref f28) = true)
    (a29 : PySem.W.nsIn K mainGlobals "law" = some (some (.ref f29))) (l29 : K.lookup f29 = some ⟨oc29, od29, .func (PySem.W.fnOf "law" "law" (defArgs s_law) (defBody s_law) (defScope s_law) .none kV29 dc29 pm29 an29 cd29 ct29), sl29⟩) (c29 : PySem.W.codeIn K cd29 "law" = true) (k29 : PySem.W.keepIn K (.ref f29) = true)
    (e0 : PySem.W.nsIn K mainGlobals "LETTERS" = some (some (.str (LET) tk0)))
    (e1 : PySem.W.nsIn K mainGlobals "FIGURES" = some (some (.str (FIG) tk1)))
    (e2 : PySem.W.nsIn K mainGlobals "LONGEST_NAME" = some (some (.int (8) tk2)))
    (e3 : PySem.W.nsIn K mainGlobals "GREATEST" = some (some (.int (1000000000000000000) tk3)))
    (e4 : PySem.W.nsIn K mainGlobals "TREE_PIECES" = some (some (.int (200) tk4)))
    (e5 : PySem.W.nsIn K mainGlobals "TREE_WITHIN" = some (some (.int (40) tk5)))
    {dt0 : Addr} (ta0 : PySem.W.nsIn K mainGlobals "SIGNS" = some (some (.ref dt0))) (tb0 : KTD.tabLook KTD.flatLooks (fun b => K.lookup b) dt0 (tabP SIGNS) = true) (tc0 : KTD.hashesOf (fun b => K.lookup b) dt0 = (tabP SIGNS).map fun p => (PySem.strKind l.prog w).hash p.1)
    {dt1 : Addr} (ta1 : PySem.W.nsIn K mainGlobals "MIDDLE_WORDS" = some (some (.ref dt1))) (tb1 : KTD.tabLook KTD.flatLooks (fun b => K.lookup b) dt1 (tabP MIDW) = true) (tc1 : KTD.hashesOf (fun b => K.lookup b) dt1 = (tabP MIDW).map fun p => (PySem.strKind l.prog w).hash p.1)
    (z0 : PySem.W.nsIn K mainGlobals "len" = some none)
    (z1 : PySem.W.nsIn K mainGlobals "isinstance" = some none)
    (z2 : PySem.W.nsIn K mainGlobals "str" = some none)
    (z3 : PySem.W.nsIn K mainGlobals "max" = some none)
    (z4 : PySem.W.nsIn K mainGlobals "abs" = some none)
    (z5 : PySem.W.nsIn K mainGlobals "enumerate" = some none)
    (z6 : PySem.W.nsIn K mainGlobals "tuple" = some none)
    (z7 : PySem.W.nsIn K mainGlobals "int" = some none)
    (z8 : PySem.W.nsIn K mainGlobals "bool" = some none)
    (z9 : PySem.W.nsIn K mainGlobals "all" = some none)
    (z10 : PySem.W.nsIn K mainGlobals "ValueError" = some none)
    (x2 : PySem.W.nsIn K mainGlobals "RowsmithError" = some (some (.ref cRE)))
    (x18 : PySem.W.readsIn K cRE (.type "type") = true)
    (x19 : PySem.W.findCls K (.ref cRE) (.type "type") "__init__" = some (.val (.builtin "ValueError.__init__")))
    (x20 : PySem.W.specialIn K (.ref cRE) "__getattribute__" = some (some (.builtin "type.__getattribute__")))
    (xt1 : PySem.W.nsIn K mainGlobals "NoText" = some (some (.ref cxt)))
    (xt9 : K.lookup cxt = some (excClassObj xtnm xtqq cxt xtN xtbs (bmR cRE) true xtsn xtsub xtab xtcol xtdd xtk0 xtk1 xtk2 xtk3 xtk5 "ValueError.__new__"))
    (xt10 : PySem.W.findIn K (.ref cxt) "__init__" = some (some (.ref fxt)))
    (xt11 : PySem.W.isFn K (.ref fxt) = true)
    (xt12 : PySem.W.keepIn K (.ref cxt) = true)
    (xt13 : PySem.W.findIn K (.ref cxt) "__setattr__" = some (some (.builtin "object.__setattr__")))
    (xt14 : PySem.W.findIn K (.ref cxt) "__getattribute__" = some (some (.builtin "BaseException.__getattribute__")))
    (xt15 : PySem.W.findIn K (.ref cxt) "__getattr__" = some none)
    (xt16 : PySem.W.findIn K (.ref cxt) "__class__" = some (some (.builtin "object.__class__")))
    (xt17 : PySem.W.findIn K (.ref cxt) "at" = some none)
    (xt21 : K.lookup fxt = some ⟨xtoc, xtod, .func (PySem.W.fnOf "__init__" "NoText.__init__" (defArgs s_iNT) (defBody s_iNT) (defScope s_iNT) .none xtkV xtdoc xtpm xtan xtcdv xtct), xtosl⟩)
    (xt22 : PySem.W.codeIn K xtcdv "NoText.__init__" = true)
    (xt23 : PySem.W.keepIn K (.ref fxt) = true)
    (xt31 : PySem.W.typeIn K (.ref cxt) = some (.type "type"))
    (xt32 : (PySem.W.clsIn K cxt).isSome = true)
    (xt33 : PySem.W.subIn K (.ref cxt) (.type "BaseException") = some true)
    (xt34 : PySem.W.subIn K (.ref cxt) (.ref cxt) = some true)
    (y1 : PySem.W.nsIn K mainGlobals "NoName" = some (some (.ref aN)))
    (y2 : PySem.W.nsIn K mainGlobals "NoRow" = some (some (.ref aR)))
    (y3 : PySem.W.nsIn K mainGlobals "NotRight" = some (some (.ref aG)))
    (y4 : PySem.W.nsIn K mainGlobals "TooMany" = some (some (.ref aM)))
    (y5 : PySem.W.nsIn K mainGlobals "NoExchange" = some (some (.ref aE)))
    (y6 : PySem.W.nsIn K mainGlobals "NoLine" = some (some (.ref aL)))
    (y24 : PySem.W.typeIn K (.ref cRE) = some (.type "type"))
    (y25 : (PySem.W.clsIn K cRE).isSome = true)
    (y26 : PySem.W.subIn K (.ref cRE) (.type "BaseException") = some true)
    (y27 : PySem.W.subIn K (.ref cxt) (.ref cRE) = some true)
    (y28 : PySem.W.kitOne K (.ref cxt) (.ref cxt) = some true)
    (y29 : PySem.W.kitOne K (.ref cxt) (.type "ValueError") = some true)
    (y30 : PySem.W.kitAny K (.ref cxt) [.ref aN, .ref aR, .ref aG] = some false)
    (y35 : PySem.W.kitAny K (.ref cxt) [.ref aM, .ref aE, .ref aL] = some false)
    : ∃ fd : FuncData, (∀ (s : Shared) (v : Value), BindsTo s fd ⟨[v], []⟩ [("script", v)]) ∧ ∀ base : Heap, K.In base → base.Ns mainGlobals mg → FnOk l.prog w K mg base CX0 53 fa fd ["script"] (liftSp K spLaw) := by
  have e := hfa.symm.trans (PySem.W.mg_of X G a29)
  cases e
  have F_is_whole := fun_mk (st := s_is_whole) l0 c0 k0
  have v_is_whole := PySem.W.mg_of X G a0
  have F_is_number := fun_mk (st := s_is_number) l1 c1 k1
  have v_is_number := PySem.W.mg_of X G a1
  have F_is_sign := fun_mk (st := s_is_sign) l2 c2 k2
  have v_is_sign := PySem.W.mg_of X G a2
  have F_is_shape := fun_mk (st := s_is_shape) l3 c3 k3
  have v_is_shape := PySem.W.mg_of X G a3
  have F_end_of_name := fun_mk (st := s_end_of_name) l4 c4 k4
  have v_end_of_name := PySem.W.mg_of X G a4
  have F_read_number := fun_mk (st := s_read_number) l5 c5 k5
  have v_read_number := PySem.W.mg_of X G a5
  have F_read_shape := fun_mk (st := s_read_shape) l6 c6 k6
  have v_read_shape := PySem.W.mg_of X G a6
  have F_read_openings := fun_mk (st := s_read_openings) l7 c7 k7
  have v_read_openings := PySem.W.mg_of X G a7
  have F_read_behind := fun_mk (st := s_read_behind) l8 c8 k8
  have v_read_behind := PySem.W.mg_of X G a8
  have F_read_middle := fun_mk (st := s_read_middle) l9 c9 k9
  have v_read_middle := PySem.W.mg_of X G a9
  have F_need_sign := fun_mk (st := s_need_sign) l10 c10 k10
  have v_need_sign := PySem.W.mg_of X G a10
  have F_is_name := fun_mk (st := s_is_name) l11 c11 k11
  have v_is_name := PySem.W.mg_of X G a11
  have F_is_tree_leaf := fun_mk (st := s_is_tree_leaf) l12 c12 k12
  have v_is_tree_leaf := PySem.W.mg_of X G a12
  have F_is_tree := fun_mk (st := s_is_tree) l13 c13 k13
  have v_is_tree := PySem.W.mg_of X G a13
  have F_read_leaf := fun_mk (st := s_read_leaf) l14 c14 k14
  have v_read_leaf := PySem.W.mg_of X G a14
  have F_read := fun_mk (st := s_read) l15 c15 k15
  have v_read := PySem.W.mg_of X G a15
  have F_law_whole := fun_mk (st := s_law_whole) l16 c16 k16
  have v_law_whole := PySem.W.mg_of X G a16
  have F_law_cell_at := fun_mk (st := s_law_cell_at) l17 c17 k17
  have v_law_cell_at := PySem.W.mg_of X G a17
  have F_law_name_of := fun_mk (st := s_law_name_of) l18 c18 k18
  have v_law_name_of := PySem.W.mg_of X G a18
  have F_law_base := fun_mk (st := s_law_base) l19 c19 k19
  have v_law_base := PySem.W.mg_of X G a19
  have F_law_sign := fun_mk (st := s_law_sign) l20 c20 k20
  have v_law_sign := PySem.W.mg_of X G a20
  have F_law_digits := fun_mk (st := s_law_digits) l21 c21 k21
  have v_law_digits := PySem.W.mg_of X G a21
  have F_law_text := fun_mk (st := s_law_text) l22 c22 k22
  have v_law_text := PySem.W.mg_of X G a22
  have F_law_begins := fun_mk (st := s_law_begins) l23 c23 k23
  have v_law_begins := PySem.W.mg_of X G a23
  have F_law_inside := fun_mk (st := s_law_inside) l24 c24 k24
  have v_law_inside := PySem.W.mg_of X G a24
  have F_law_goes_on := fun_mk (st := s_law_goes_on) l25 c25 k25
  have v_law_goes_on := PySem.W.mg_of X G a25
  have F_law_due := fun_mk (st := s_law_due) l26 c26 k26
  have v_law_due := PySem.W.mg_of X G a26
  have F_law_written := fun_mk (st := s_law_written) l27 c27 k27
  have v_law_written := PySem.W.mg_of X G a27
  have F_law_base_told := fun_mk (st := s_law_base_told) l28 c28 k28
  have v_law_base_told := PySem.W.mg_of X G a28
  have F_law := fun_mk (st := s_law) l29 c29 k29
  have v_law := PySem.W.mg_of X G a29
  have g_LETTERS := PySem.W.mg_of X G e0
  have g_FIGURES := PySem.W.mg_of X G e1
  have g_LONGEST_NAME := PySem.W.mg_of X G e2
  have g_GREATEST := PySem.W.mg_of X G e3
  have g_TREE_PIECES := PySem.W.mg_of X G e4
  have g_TREE_WITHIN := PySem.W.mg_of X G e5
  have g_SIGNS := PySem.W.mg_of X G ta0
  have T_SIGNS : IsTab l.prog w K dt0 SIGNS := tab_of (by decide +kernel) tb0 tc0
  have g_MIDDLE_WORDS := PySem.W.mg_of X G ta1
  have T_MIDDLE_WORDS : IsTab l.prog w K dt1 MIDW := tab_of (by decide +kernel) tb1 tc1
  have m_len := PySem.W.mg_none_of X G z0
  have m_isinstance := PySem.W.mg_none_of X G z1
  have m_str := PySem.W.mg_none_of X G z2
  have m_max := PySem.W.mg_none_of X G z3
  have m_abs := PySem.W.mg_none_of X G z4
  have m_enumerate := PySem.W.mg_none_of X G z5
  have m_tuple := PySem.W.mg_none_of X G z6
  have m_int := PySem.W.mg_none_of X G z7
  have m_bool := PySem.W.mg_none_of X G z8
  have m_all := PySem.W.mg_none_of X G z9
  have m_ValueError := PySem.W.mg_none_of X G z10
  refine ⟨PySem.W.fnOf "law" "law" (defArgs s_law) (defBody s_law) (defScope s_law) .none kV29 dc29 pm29 an29 cd29 ct29, fun s v => .of_eq rfl, fun base _ _ => ?_⟩
  have vRE := PySem.W.mg_of X G x2
  have vxt := PySem.W.mg_of X G xt1
  have ccxt : XCls K cxt cRE fxt := ⟨⟨_, _, _, _, _, _, _, _, _, _, _, _, _, _, xt9⟩, xt10, xt11, xt12, xt13⟩
  have cgxt : XGet K cxt cRE fxt := ⟨ccxt, xt14, xt15, xt16⟩
  have exxt := iNT_exc (P := l.prog) (w := w) (base := base) (fun_mk (st := s_iNT) xt21 xt22 xt23) vRE vxt ⟨x18, x19, x20⟩ cgxt xt17
  have i0 := ok_is_whole (P := l.prog) (w := w) (base := base) F_is_whole v_is_whole m_isinstance m_int m_bool
  have i1 := ok_is_number F_is_number v_is_number g_GREATEST i0
  have i2 := ok_is_sign (P := l.prog) (w := w) (base := base) F_is_sign v_is_sign m_isinstance m_tuple m_len m_str T_SIGNS g_SIGNS
  have i3 := ok_is_name (P := l.prog) (w := w) (base := base) F_is_name v_is_name m_len m_isinstance m_str m_all g_LETTERS g_LONGEST_NAME
  have i4 := (ok_is_tree_leaf F_is_tree_leaf m_isinstance m_tuple m_len i1 i3).f
  have i5 := ok_is_shape (ka := 2) F_is_shape v_is_shape i2 i4
  have i6 := ok_is_tree F_is_tree v_is_tree v_is_tree_leaf g_TREE_PIECES g_TREE_WITHIN i5
  have g0 := ok_numX (P := l.prog) (w := w) (base := base) F_read_number v_read_number m_len g_GREATEST g_FIGURES exxt
  have g1 := ok_endX (P := l.prog) (w := w) (base := base) F_end_of_name v_end_of_name m_len g_LONGEST_NAME g_LETTERS
  have g2 := ok_needX (P := l.prog) (w := w) (base := base) F_need_sign v_need_sign exxt
  have g3 := ok_midX F_read_middle v_read_middle T_MIDDLE_WORDS g_MIDDLE_WORDS exxt g2
  have g4 := ok_opnX F_read_openings v_read_openings g2
  have g5 := ok_behX F_read_behind v_read_behind m_tuple g2 g3
  have g7 := (ok_leafX F_read_leaf v_read_leaf g1 g0).at v_read_leaf
  have g9 := ok_shpX F_read_shape v_read_shape m_len exxt g7 g4 g5
  have r0 := ok_readX F_read v_read m_len v_read_leaf exxt g9 i6
  have b0 := ok_sgn (P := l.prog) (w := w) (base := base) F_law_sign v_law_sign m_len
  have b1 := ok_dig F_law_digits v_law_digits m_len m_abs b0
  have b2 := ok_base F_law_base v_law_base m_len m_str (ok_name_of (P := l.prog) (w := w) (base := base) F_law_name_of v_law_name_of m_len)
  have b3 := ok_txt F_law_text v_law_text m_len b0 b1
  have j0 := ok_beg (P := l.prog) (w := w) (base := base) F_law_begins v_law_begins m_len m_max
  have j1 := ok_ins (P := l.prog) (w := w) (base := base) F_law_inside v_law_inside m_len
  have j2 := ok_go F_law_goes_on v_law_goes_on j0 j1
  have j3 := ok_due F_law_due v_law_due m_len m_enumerate j2
  have l0 := ok_wholeI (P := l.prog) (w := w) (base := base) F_law_whole v_law_whole m_isinstance m_int m_bool
  have l1 := wr_all F_law_written v_law_written m_isinstance m_tuple m_len m_str l0 50
  have l2 := ok_told F_law_base_told v_law_base_told m_isinstance m_ValueError r0 vRE vxt (PySem.W.mg_of X G y1) (PySem.W.mg_of X G y2) (PySem.W.mg_of X G y3) (PySem.W.mg_of X G y4) (PySem.W.mg_of X G y5) (PySem.W.mg_of X G y6) ⟨y24, y25, y26⟩ ⟨_, _, cgxt⟩ y27 y29 y28 y30 y35
  exact ok_law F_law vxt ⟨xt31, xt32, xt33⟩ xt34 ⟨_, _, cgxt, xt17⟩ b2 (ok_cell_at F_law_cell_at v_law_cell_at m_len) b3 j3 r0 l1 l0 l2
theorem walk {l : PySem.W.OpenLaw} {q : Program} {loose : List Str} {XP : (Str → Option Value) → Heap → Prop} {YP : World → Heap → Prop} {d : DefRec} {K : Params → PySem.W.Frag} (hn : l.most = some 63) (hdf : d.params.defaults = [])
    (hY : ∀ (w : World) (h : Heap), YP w h → (K w.params).In h)
    (F : ∀ (w : World) (mg : Str → Option Value) (fa : Addr) (h : Heap), (K w.params).In h → h.Ns mainGlobals mg → mg d.name = some (.ref fa) →
      ∃ fd : FuncData, (∀ (s : Shared) (u : Value), BindsTo s fd ⟨[u], []⟩ [("script", u)]) ∧ ∀ base : Heap, (K w.params).In base → base.Ns mainGlobals mg → FnOk l.prog w (K w.params) mg base CX0 53 fa fd ["script"] (liftSp (K w.params) spLaw)) :
    PySem.W.WalkO q loose XP YP l.row.toRowW d [] (fun f vs => PySem.call f vs) :=
  L2.walk_of (n := 63) (k := 53) (x := "script") (CX := fun _ => CX0) (sp := fun w => liftSp (K w.params) spLaw) hn (by decide) hdf ⟨rfl, by decide, by decide⟩ hY F (fun _ _ a ns hl _ hS => law_entry hl hS) fun _ _ _ _ _ z => z
end K09
namespace PySem.W.Fast
def tw10034839698584520445:=0
def tw10035273689495117189:=0
def tw10038454864572874352:=0
def tw100466075450834992:=0
def tw10078462003595934019:=0
def tw10132210984201974762:=0
def tw10275530582309513750:=0
def tw10412671316798994700:=0
def tw10740644318990976242:=0
def tw1075017576155496203:=0
def tw10754151994318463517:=0
def tw10776644201151269213:=0
def tw10777434234767878168:=0
def tw10843382048000195332:=0
def tw10914743439479157934:=0
def tw10931797007846176668:=0
def tw10943004414032353597:=0
def tw10957545393139611043:=0
def tw10999173205208532888:=0
def tw11050656259185500781:=0
def tw1106355245249865504:=0
def tw11090258587778180381:=0
def tw11124834937820848786:=0
def tw11152110910801144701:=0
def tw111871813252461273:=0
def tw11253689901626562433:=0
def tw11314121751838145875:=0
def tw11328913848762385985:=0
def tw11458719276738193205:=0
def tw11491144191738319652:=0
def tw11505879026774619863:=0
def tw11539334948701377203:=0
def tw11603652722538454064:=0
def tw11621611752865295943:=0
def tw11777024431337278452:=0
def tw11791883468785705676:=0
def tw11898566624347028619:=0
def tw11940789267355399961:=0
def tw1194146560845551652:=0
def tw11967329131510756490:=0
def tw11967796798195980831:=0
def tw12001609985347288399:=0
def tw12079218943421220265:=0
def tw12090390540913376058:=0
def tw12143516810094748896:=0
def tw12174559922891208683:=0
def tw12219493589009097101:=0
def tw12236973879616234702:=0
def tw12276522300365102389:=0
def tw12289676661437486405:=0
def tw1229430915414426800:=0
def tw12295442528458273837:=0
def tw12480736135389069572:=0
def tw12482587112910833669:=0
def tw12495132961198628276:=0
def tw12509909193729210275:=0
def tw12522401904563950032:=0
def tw12640601984664436807:=0
def tw12719858523495567463:=0
def tw12768085277514809817:=0
def tw12786571308227085411:=0
def tw1282132318513586173:=0
def tw12834997078140496866:=0
def tw1287691468471189360:=0
def tw12893060080315253001:=0
def tw12910086773218999341:=0
def tw12936204127550891031:=0
def tw12938169809750503528:=0
def tw12949083011304823388:=0
def tw12956501498187928679:=0
def tw12990855064497721943:=0
def tw13008931297799379261:=0
def tw13033309094024537593:=0
def tw13141012497842015806:=0
def tw13179214804544631439:=0
def tw13199721811766349783:=0
def tw13354898260475057236:=0
def tw13408113940588430813:=0
def tw13507825902734670403:=0
def tw13609756730365512834:=0
def tw13619713409146366702:=0
def tw13639372297958034407:=0
def tw13659171642947601106:=0
def tw13755397033521478352:=0
def tw13795528633577872433:=0
def tw1384335471012732880:=0
def tw13896732238096589174:=0
def tw13949248814294927027:=0
def tw13955819272304917966:=0
def tw14025126185839361522:=0
def tw14057431234359640638:=0
def tw14073066542630119489:=0
def tw14101242028301426222:=0
def tw141139391885740139:=0
def tw14132409455046548463:=0
def tw14160818776725054737:=0
def tw14167873153457819271:=0
def tw14194969288254711256:=0
def tw14199902265863382537:=0
def tw14248575016573040625:=0
def tw14249816188817718535:=0
def tw14295526941085245305:=0
def tw14370668958462284920:=0
def tw14379023651839264343:=0
def tw14428088734241053728:=0
def tw14462506504909646097:=0
def tw14478082631778362814:=0
def tw14500188507448068697:=0
def tw14562153221345286410:=0
def tw14704685462243508399:=0
def tw14718763787325943909:=0
def tw14751330340761291100:=0
def tw14861233924148421214:=0
def tw14875780150422851929:=0
def tw1492026044097651473:=0
def tw1494589504302642236:=0
def tw1495650302953887729:=0
def tw1498157597040350684:=0
def tw1502408654519794330:=0
def tw15032029891530276870:=0
def tw15052348198720819753:=0
def tw15110352572637629923:=0
def tw15151000966427238494:=0
def tw15168142710327536344:=0
def tw15170492664544896554:=0
def tw1526765754011725362:=0
def tw15309591665787212818:=0
def tw15329555799151699257:=0
def tw15330590680854440610:=0
def tw15368751028868016474:=0
def tw15385330596611408072:=0
def tw15411445467340800714:=0
def tw15435889989991232593:=0
def tw1545719296066003176:=0
def tw1548422909739655039:=0
def tw15576397439964899020:=0
def tw15655476029238336485:=0
def tw15672405381605439151:=0
def tw15681985433761563767:=0
def tw1568869793086282710:=0
def tw15799083771017586766:=0
def tw15889858050294240960:=0
def tw15964688654043825484:=0
def tw15975334686953431466:=0
def tw15990476296377010343:=0
def tw16039940138774012474:=0
def tw16092510827744853277:=0
def tw1611156281779098403:=0
def tw16111913774680049056:=0
def tw16151120401242045073:=0
def tw16171611630047354327:=0
def tw16191216698031647042:=0
def tw16241340185888448028:=0
def tw1627009442896823835:=0
def tw16289912816667784552:=0
def tw16326890662983956330:=0
def tw16391430497614350170:=0
def tw1641205496027828504:=0
def tw16469567161044609166:=0
def tw16486500495136710415:=0
def tw16491204454555309350:=0
def tw16524579309722362424:=0
def tw16537442668669462714:=0
def tw16659261728367200563:=0
def tw16754944405095191350:=0
def tw16756434208057316958:=0
def tw16764721665300928702:=0
def tw16777005102157216444:=0
def tw1682235737199483684:=0
def tw16824760387859176745:=0
def tw16886435619551163948:=0
def tw1690051661117235312:=0
def tw16910176667516547698:=0
def tw16925819377991183749:=0
def tw16948220514850493118:=0
def tw16999311997481043636:=0
def tw17009074075402980381:=0
def tw17087646606824651055:=0
def tw17115442105314690975:=0
def tw17283757452331002262:=0
def tw17383453310340903572:=0
def tw17384103579402458664:=0
def tw17391801192811056428:=0
def tw17433891608105148731:=0
def tw17449794128928617710:=0
def tw1755860025832572077:=0
def tw17603666853203259385:=0
def tw17607386204803819805:=0
def tw17642426669402677512:=0
def tw17683030262074214788:=0
def tw17773608724296701541:=0
def tw17803470791052359471:=0
def tw17840240261968876896:=0
def tw1788590180065555657:=0
def tw18074021038282009068:=0
def tw18165858872957012332:=0
def tw18211362933259508746:=0
def tw18242936952007801809:=0
def tw18254235199378977891:=0
def tw18265241316484304579:=0
def tw18402697801450505751:=0
def tw1843701854505096930:=0
def tw18440348771982091960:=0
def tw191389790979201131:=0
def tw1969698919287948466:=0
def tw1997459072204197372:=0
def tw2047111584578241028:=0
def tw2058592144583885191:=0
def tw206621303663979290:=0
def tw2144804215931624376:=0
def tw2171997077026897536:=0
def tw2191716210579360468:=0
def tw2212833411574488989:=0
def tw2230884839131340056:=0
def tw232471501357423090:=0
def tw2400456526361496787:=0
def tw2453045749830864347:=0
def tw2539827917668218240:=0
def tw2610622356954491911:=0
def tw2757311665498509340:=0
def tw2895396877071181898:=0
def tw2929725650949834261:=0
def tw2951455997512936295:=0
def tw3014781207512060809:=0
def tw3154552525237231812:=0
def tw3162502596582636110:=0
def tw3240096657656678611:=0
def tw3240160153615065696:=0
def tw32690091572425417:=0
def tw3326979149015478953:=0
def tw3679366511226892750:=0
def tw3715510898629778636:=0
def tw3751546705326397603:=0
def tw3763513437960982411:=0
def tw3822863328959249918:=0
def tw3838252725539978536:=0
def tw3849603666027428765:=0
def tw3922113061960125935:=0
def tw3946248949637413526:=0
def tw4063469617505660033:=0
def tw4066431259480217083:=0
def tw426579570800210878:=0
def tw4297683173822472534:=0
def tw4379432030462484352:=0
def tw438676151597594103:=0
def tw4425102112875213777:=0
def tw4473979127054555793:=0
def tw4510288449402571248:=0
def tw4532655498231795381:=0
def tw453408426610547124:=0
def tw4576937474282893463:=0
def tw4613344325916217059:=0
def tw4637152676436180475:=0
def tw465787547640811092:=0
def tw4713560470767256512:=0
def tw4735884560146665773:=0
def tw4819199985901444597:=0
def tw4829568892402322379:=0
def tw4873562596657050708:=0
def tw4925633717091350908:=0
def tw4947506325779492635:=0
def tw4974512045044741405:=0
def tw4992587276903528528:=0
def tw4994194771551070185:=0
def tw5115962251598966321:=0
def tw5232328129489767877:=0
def tw5245567735895383553:=0
def tw5382371912827928223:=0
def tw5387713036586276291:=0
def tw5387848400393134385:=0
def tw5398934036366504609:=0
def tw5417215981155249943:=0
def tw5420082634989826465:=0
def tw5444499523445576476:=0
def tw5450379271920942458:=0
def tw5472340663125620818:=0
def tw5480537884199991185:=0
def tw5528633260420607579:=0
def tw5587095160426828288:=0
def tw559215834880623758:=0
def tw5636808550950297746:=0
def tw5705998233698581554:=0
def tw5792229996758671668:=0
def tw5804042153047354577:=0
def tw5825170051998439767:=0
def tw584441337335347695:=0
def tw5879205104400088541:=0
def tw5940773319997113623:=0
def tw6100451697041003112:=0
def tw6160896840691276422:=0
def tw622252410571740413:=0
def tw6261350427698405811:=0
def tw6269355538293547090:=0
def tw6319323930089185120:=0
def tw6403164586240373064:=0
def tw6429486494578674589:=0
def tw6477699694567299484:=0
def tw6490760001508879362:=0
def tw6597517127481859692:=0
def tw6617265262474809519:=0
def tw6747940416842535886:=0
def tw6768095536381332797:=0
def tw6830185311927277537:=0
def tw6861277579968513458:=0
def tw6949929974904398676:=0
def tw6966310741541192509:=0
def tw6985073449226137208:=0
def tw7019147856118417153:=0
def tw7386284204641185298:=0
def tw7395670129353692176:=0
def tw7399367503872901542:=0
def tw7474142925935270760:=0
def tw7476007186878435239:=0
def tw7499448519133995251:=0
def tw7543272361828271892:=0
def tw7547116234071110617:=0
def tw7626651363420301833:=0
def tw7660905781152216683:=0
def tw7695039216693917553:=0
def tw7762598409901640079:=0
def tw7926937677849636494:=0
def tw7946170054555285618:=0
def tw7976032736511447473:=0
def tw7991759623526462689:=0
def tw799323189453248968:=0
def tw8056752476854514682:=0
def tw8104126749824586536:=0
def tw8106487868425388684:=0
def tw8108536176170145355:=0
def tw8133994773459702150:=0
def tw8158911120709712118:=0
def tw8194608271721932896:=0
def tw8385033491471847323:=0
def tw8404425332900100835:=0
def tw8434461320102970794:=0
def tw8494473884909790193:=0
def tw8620187571646560343:=0
def tw8647875511270347415:=0
def tw8728594632385015624:=0
def tw874945059120883164:=0
def tw8836651435747784601:=0
def tw8850773073092461991:=0
def tw8872551170377686218:=0
def tw8876513672714238483:=0
def tw8914814548278284990:=0
def tw8923820060800312195:=0
def tw8930874660951645951:=0
def tw9000077680011052082:=0
def tw9030908090447751619:=0
def tw9068564458850915612:=0
def tw926894216232167416:=0
def tw9332628146019665382:=0
def tw9389216058954635489:=0
def tw9420422628208534879:=0
def tw9499401310905194825:=0
def tw9511385970239899216:=0
def tw9674648280311341820:=0
def tw9785236764600104139:=0
def tw9818288001521991831:=0
def tw9992996776879352383:=0
end PySem.W.Fast
open PySem PySem.W PyProof.Rows
set_option maxRecDepth 100000 in
set_option maxHeartbeats 0 in
theorem PySem.Challenge.cw_rowsmith_k09_whole_texts_judged_holds : PySem.Challenge.rw_rowsmith_k09_whole_texts_judged.Holds := by
  w_on; o_law; k_head; (case hw => w_witness2)
  k_fill
  refine K09.walk (l := PySem.Challenge.rw_rowsmith_k09_whole_texts_judged) rfl rfl (fun w h Y => PySem.W.kIn_of Y) ?F
  case F =>
    intro w mg fa h KX G hmg
    refine' K09.all_mk KX G hmg ?a0 ?l0 ?c0 ?k0 ?a1 ?l1 ?c1 ?k1 ?a2 ?l2 ?c2 ?k2 ?a3 ?l3 ?c3 ?k3 ?a4 ?l4 ?c4 ?k4 ?a5 ?l5 ?c5 ?k5 ?a6 ?l6 ?c6 ?k6 ?a7 ?l7 ?c7 ?k7 ?a8 ?l8 ?c8 ?k8 ?a9 ?l9 ?c9 ?k9 ?a10 ?l10 ?c10 ?k10 ?a11 ?l11 ?c11 ?k11 ?a12 ?l12 ?c12 ?k12 ?a13 ?l13 ?c13 ?k13 ?a14 ?l14 ?c14 ?k14 ?a15 ?l15 ?c15 ?k15 ?a16 ?l16 ?c16 ?k16 ?a17 ?l17 ?c17 ?k17 ?a18 ?l18 ?c18 ?k18 ?a19 ?l19 ?c19 ?k19 ?a20 ?l20 ?c20 ?k20 ?a21 ?l21 ?c21 ?k21 ?a22 ?l22 ?c22 ?k22 ?a23 ?l23 ?c23 ?k23 ?a24 ?l24 ?c24 ?k24 ?a25 ?l25 ?c25 ?k25 ?a26 ?l26 ?c26 ?k26 ?a27 ?l27 ?c27 ?k27 ?a28 ?l28 ?c28 ?k28 ?a29 ?l29 ?c29 ?k29 ?e0 ?e1 ?e2 ?e3 ?e4 ?e5 ?ta0 ?tb0 ?tc0 ?ta1 ?tb1 ?tc1 ?z0 ?z1 ?z2 ?z3 ?z4 ?z5 ?z6 ?z7 ?z8 ?z9 ?z10 ?x2 ?x18 ?x19 ?x20 ?xt1 ?xt9 ?xt10 ?xt11 ?xt12 ?xt13 ?xt14 ?xt15 ?xt16 ?xt17 ?xt21 ?xt22 ?xt23 ?xt31 ?xt32 ?xt33 ?xt34 ?y1 ?y2 ?y3 ?y4 ?y5 ?y6 ?y24 ?y25 ?y26 ?y27 ?y28 ?y29 ?y30 ?y35
    (case a0 => k_is)
    (case l0 => k_is)
    (case c0 => k_is)
    (case k0 => k_is)
    (case a1 => k_is)
    (case l1 => k_is)
    (case c1 => k_is)
    (case k1 => k_is)
    (case a2 => k_is)
    (case l2 => k_is)
    (case c2 => k_is)
    (case k2 => k_is)
    (case a3 => k_is)
    (case l3 => k_is)
    (case c3 => k_is)
    (case k3 => k_is)
    (case a4 => k_is)
    (case l4 => k_is)
    (case c4 => k_is)
    (case k4 => k_is)
    (case a5 => k_is)
    (case l5 => k_is)
    (case c5 => k_is)
    (case k5 => k_is)
    (case a6 => k_is)
    (case l6 => k_is)
    (case c6 => k_is)
    (case k6 => k_is)
    (case a7 => k_is)
    (case l7 => k_is)
    (case c7 => k_is)
    (case k7 => k_is)
    (case a8 => k_is)
    (case l8 => k_is)
    (case c8 => k_is)
    (case k8 => k_is)
    (case a9 => k_is)
    (case l9 => k_is)
    (case c9 => k_is)
    (case k9 => k_is)
    (case a10 => k_is)
    (case l10 => k_is)
    (case c10 => k_is)
    (case k10 => k_is)
    (case a11 => k_is)
    (case l11 => k_is)
    (case c11 => k_is)
    (case k11 => k_is)
    (case a12 => k_is)
    (case l12 => k_is)
    (case c12 => k_is)
    (case k12 => k_is)
    (case a13 => k_is)
    (case l13 => k_is)
    (case c13 => k_is)
    (case k13 => k_is)
    (case a14 => k_is)
    (case l14 => k_is)
    (case c14 => k_is)
    (case k14 => k_is)
    (case a15 => k_is)
    (case l15 => k_is)
    (case c15 => k_is)
    (case k15 => k_is)
    (case a16 => k_is)
    (case l16 => k_is)
    (case c16 => k_is)
    (case k16 => k_is)
    (case a17 => k_is)
    (case l17 => k_is)
    (case c17 => k_is)
    (case k17 => k_is)
    (case a18 => k_is)
    (case l18 => k_is)
    (case c18 => k_is)
    (case k18 => k_is)
    (case a19 => k_is)
    (case l19 => k_is)
    (case c19 => k_is)
    (case k19 => k_is)
    (case a20 => k_is)
    (case l20 => k_is)
    (case c20 => k_is)
    (case k20 => k_is)
    (case a21 => k_is)
    (case l21 => k_is)
    (case c21 => k_is)
    (case k21 => k_is)
    (case a22 => k_is)
    (case l22 => k_is)
    (case c22 => k_is)
    (case k22 => k_is)
    (case a23 => k_is)
    (case l23 => k_is)
    (case c23 => k_is)
    (case k23 => k_is)
    (case a24 => k_is)
    (case l24 => k_is)
    (case c24 => k_is)
    (case k24 => k_is)
    (case a25 => k_is)
    (case l25 => k_is)
    (case c25 => k_is)
    (case k25 => k_is)
    (case a26 => k_is)
    (case l26 => k_is)
    (case c26 => k_is)
    (case k26 => k_is)
    (case a27 => k_is)
    (case l27 => k_is)
    (case c27 => k_is)
    (case k27 => k_is)
    (case a28 => k_is)
    (case l28 => k_is)
    (case c28 => k_is)
    (case k28 => k_is)
    (case a29 => k_is)
    (case l29 => k_is)
    (case c29 => k_is)
    (case k29 => k_is)
    (case e0 => k_is)
    (case e1 => k_is)
    (case e2 => k_is)
    (case e3 => k_is)
    (case e4 => k_is)
    (case e5 => k_is)
    (case ta0 => k_is)
    (case tb0 => kernel_rfl)
    (case tc0 => kernel_rfl)
    (case ta1 => k_is)
    (case tb1 => kernel_rfl)
    (case tc1 => kernel_rfl)
    (case z0 => k_is)
    (case z1 => k_is)
    (case z2 => k_is)
    (case z3 => k_is)
    (case z4 => k_is)
    (case z5 => k_is)
    (case z6 => k_is)
    (case z7 => k_is)
    (case z8 => k_is)
    (case z9 => k_is)
    (case z10 => k_is)
    (case x2 => k_is)
    (case x18 => k_is)
    (case x19 => kernel_rfl)
    (case x20 => k_is)
    (case xt1 => k_is)
    (case xt9 => k_is)
    (case xt10 => k_is)
    (case xt11 => k_is)
    (case xt12 => k_is)
    (case xt13 => k_is)
    (case xt14 => k_is)
    (case xt15 => k_is)
    (case xt16 => k_is)
    (case xt17 => k_is)
    (case xt21 => k_is)
    (case xt22 => k_is)
    (case xt23 => k_is)
    (case xt31 => k_is)
    (case xt32 => kernel_rfl)
    (case xt33 => k_is)
    (case xt34 => k_is)
    (case y1 => k_is)
    (case y2 => k_is)
    (case y3 => k_is)
    (case y4 => k_is)
    (case y5 => k_is)
    (case y6 => k_is)
    (case y24 => k_is)
    (case y25 => kernel_rfl)
    (case y26 => k_is)
    (case y27 => k_is)
    (case y28 => kernel_rfl)
    (case y29 => kernel_rfl)
    (case y30 => kernel_rfl)
    (case y35 => kernel_rfl)
#print axioms PySem.Challenge.cw_rowsmith_k09_whole_texts_judged_holds