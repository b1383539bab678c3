import PyProof.Rows.All
import Wide.All
import OpenK.AllK
import Wide.FinOn
import Lean
import PyProof.EqAt
import PyProof.EqKinds
import PyProof.TupleCall
import PySem.Challenge.RW_rowsmith_k15_bounds_of_tables
import PyProof.TupleKey
import KE.KRevIter
import PyProof.ListRange
import PyProof.CollectIter
import PyProof.Rows.SortWalk
import PyProof.ListMulRoad
import PyProof.AutoListH
import PyProof.Rows.SortStr
import PyProof.FactsAll.tuple_2
import KE.KLam
import KE.KNestM
import PyProof.ExcInit
import PyProof.InstStoreFacts
import PyProof.RulesAs
import PyProof.NsDelKeeps
import PyProof.ExcBaseAll.ValueError
import PyProof.ExcArgsOwn
import KE.KIsAll
import PyProof.Rows.FStr
import PyProof.CollectWalk
import PyProof.Rows.SumAny
import PyProof.Rows.SetFrom
import PyProof.TupleOfGen
import PyProof.EnumMake
import PyProof.Rows.StrSplitMax
import PyProof.StrLawsTight
set_option linter.all false
set_option maxRecDepth 100000
set_option maxHeartbeats 4000000
namespace PySem
open Sem (wp)
section
variable {prog:Program} {w:World} {K:Type} [DecidableEq K] (knd:KeyKind prog w K)
def cV (h:Heap) (x:List K × K) (a:Addr):Prop:=∃ o n b v,h.get? a=some o/\o.cls=.type "tuple"/\o.data=.seq #[.ref b,v] n/\IsTupleKey knd h x.1 b/\knd.is x.2 v=true
variable {knd}
theorem cV.typeIs {s:Shared} {x:List K × K} {a:Addr} (p:cV knd s.heap x a):s.TypeIs (.ref a) "tuple":=let ⟨o,_,_,_,ho,hc,_⟩:=p;⟨o,ho,hc⟩
theorem cV.inj {h:Heap} {a:Addr} {x y:List K × K} (hx:cV knd h x a) (hy:cV knd h y a):x=y:=by
 obtain ⟨o,n,b,v,ho,_,hd,h1,h2⟩:=hx
 obtain ⟨o',n',b',v',ho',_,hd',h1',h2'⟩:=hy
 obtain rfl:o=o':=Option.some.inj (ho.symm.trans ho')
 rw [hd] at hd'
 injection hd' with e _
 have e1:(.ref b:Value)=.ref b'/\v=v':=by simpa using e
 obtain ⟨e2,rfl⟩:=e1
 cases e2
 exact Prod.ext (h1.inj h1') (knd.inj _ _ _ h2 h2')
theorem cV.keeps {h h':Heap} {x:List K × K} {a d:Addr} {o:Obj} {es ep} (p:cV knd h x a) (ho:h.get? d=some o) (hd:o.data=.dict es ep) (hs:Heap.SameBut d h h'):cV knd h' x a:=by
 obtain ⟨o',n,b,v,ho',hc,hd',h1,h2⟩:=p
 have hne:a≠d:=by
  rintro rfl
  obtain rfl:o'=o:=Option.some.inj (ho'.symm.trans ho)
  rw [hd] at hd';exact nomatch hd'
 exact ⟨o',n,b,v,(hs.2 a hne).trans ho',hc,hd',h1.keeps ho hd hs,h2⟩
def tN (knd:KeyKind prog w K) (x:List K × K):Int:=reduceHash (Builtin.Tuple.tupleHashOf [tupleKeyHash knd x.1,knd.hash x.2])
variable {A:Around} {E:Value->Shared->Prop} {s:Shared}
theorem Ac {x:List K × K} {a:Addr} {Q:Int->Shared->Prop} (hu:A.units + 1 < cLine) (hk:cV knd s.heap x a) (h:Q (tN knd x) { s with toks:=s.toks + (x.1.length + 3) }) :
  wpAny (model prog w) A (pyHash (.ref a)) Q E s:=by
 have hT:=hk.typeIs
 obtain ⟨o,n,b,v,ho,_,hd,h1,h2⟩:=hk
 unfold pyHash
 first | unfold pyHashByItsType | skip
 first | refine wpAny_bind (wpAny_cRoomFor_or (.inr (by omega)) ?_) | skip
 refine wpAny_bind (wpAny_specialOf hT F.slot_tuple_hash.lookup ?_)
 show wpAny _ _ (if (some (Value.builtin "tuple.__hash__") == some Value.none)=true then _ else _) Q E s
 rw [if_neg (by rw [beq_builtin_none];exact Bool.false_ne_true)]
 refine wpAny_bind (wpAny_specialOf hT F.slot_tuple_hash.lookup ?_)
 show wpAny _ _ (callSpecialIfBoundUnlessNone? (.ref a) "__hash__" _ >>= _) Q E s
 refine wpAny_bind (wpAny_callSpecialIfBoundUnlessNone?_slot hT F.slot_tuple_hash (wpAny_call_entry F.slot_tuple_hash hT F.entry_tuple_hash ?_ (F.args_tuple_hash_1 _)))
 show wpAny _ _ (Builtin.Tuple.tupleItemsOf (.ref a) >>= _) _ _ s
 refine wpAny_bind (wpAny_tupleItemsOf ho hd ?_)
 refine wpAny_bind ?_
 rw [<- Array.forIn_toList]
 refine wpAny_forIn_list _
  (fun rest (r:Array Int) s'=>(rest=[.ref b,v]/\r.toList=[]/\s'=s)\/(rest=[v]/\r.toList=[tupleKeyHash knd x.1]/\s'={ s with toks:=s.toks + (x.1.length + 1) })\/(rest=[]/\r.toList=[tupleKeyHash knd x.1,knd.hash x.2]/\s'={ s with toks:=s.toks + (x.1.length + 1) + 1 }))
  _ ?_ ?_ _ _ (.inl ⟨rfl,rfl,rfl⟩)
 ·rintro y rest r s' (⟨hr,hb,rfl⟩ | ⟨hr,hb,rfl⟩ | ⟨hr,_⟩)
  ·cases hr
   refine wpAny_bind (wpAny_pyHash_tuple (by first | exact hu | (show A.units + 1 < cLine;exact hu)) h1 ?_)
   first
    | exact wpAny_pure (.inr (.inl ⟨rfl,by simp [hb],rfl⟩))
    | exact wpAny_bind (wpAny_pure (wpAny_pure (.inr (.inl ⟨rfl,by simp [hb],rfl⟩))))
  ·cases hr
   refine wpAny_bind (knd.pyHash h2 ?_)
   first
    | exact wpAny_pure (.inr (.inr ⟨rfl,by simp [hb],rfl⟩))
    | exact wpAny_bind (wpAny_pure (wpAny_pure (.inr (.inr ⟨rfl,by simp [hb],rfl⟩))))
  ·cases hr
 ·rintro r s' (⟨hr,_⟩ | ⟨hr,_⟩ | ⟨_,hb,rfl⟩)
  ·cases hr
  ·cases hr
  ·show wpAny _ _ (retInt (Builtin.Tuple.tupleHashOf r.toList)) _ _ _
   rw [hb]
   refine wpAny_ret_mkInt ?_
   show wpAny _ _ (if (decide (-(2:Int) ^ 63<=Builtin.Tuple.tupleHashOf [tupleKeyHash knd x.1,knd.hash x.2]) && decide (Builtin.Tuple.tupleHashOf [tupleKeyHash knd x.1,knd.hash x.2] < 2 ^ 63))=true then _ else _) Q E _
   unfold tN reduceHash at h
   by_cases hr:(decide (-(2:Int) ^ 63<=Builtin.Tuple.tupleHashOf [tupleKeyHash knd x.1,knd.hash x.2]) && decide (Builtin.Tuple.tupleHashOf [tupleKeyHash knd x.1,knd.hash x.2] < 2 ^ 63))=true
   ·rw [if_pos hr]
    rw [if_pos hr] at h
    exact wpAny_pure (by simpa [Nat.add_assoc] using h)
   ·rw [if_neg hr]
    rw [if_neg hr] at h
    exact wpAny_bind (wpAny_rule (wpAny_pure (by simpa [Nat.add_assoc] using h)))
theorem D5 {x y:List K × K} {a b:Addr} {P:Fin->Shared->Prop} (hu:A.units < cLine) (hx:cV knd s.heap x a) (hy:cV knd s.heap y b) (h:P (.done (.ret (.bool (decide (x=y))))) s) :
  wpAny (model prog w) A (Builtin.«tuple.__eq__» ⟨[.ref a,.ref b],[]⟩) P E s:=by
 have hTb:=hy.typeIs
 obtain ⟨oa,na,a1,v1,hoa,_,hda,p1,q1⟩:=hx
 obtain ⟨ob,nb,a2,v2,hob,_,hdb,p2,q2⟩:=hy
 show wpAny _ _ (isInstance (.ref b) (.type "tuple") >>= _) _ _ s
 refine wpAny_bind (wpAny_isInstance hTb isSubtype_tuple_tuple ?_)
 simp only [Bool.not_true,Bool.false_eq_true,if_false]
 refine wpAny_bind (wpAny_tupleItemsOf hoa hda ?_)
 refine wpAny_bind (wpAny_tupleItemsOf hob hdb ?_)
 refine wpAny_bind ?_
 refine wpAny_forIn_list _
  (fun rest r s'=>r.1=none/\s'=s/\((rest=[(.ref a1,.ref a2),(v1,v2)])\/(rest=[(v1,v2)]/\x.1=y.1)\/(rest=[]/\x=y)))
  _ ?_ ?_ _ _ ⟨rfl,rfl,.inl rfl⟩
 ·rintro ⟨u,v⟩ rest r s' ⟨hr,rfl,hz | ⟨hz,e⟩ | ⟨hz,_⟩⟩
  ·cases hz
   refine wpAny_bind (wpAny_eqBool_tuple hu p1 p2 ?_)
   by_cases hk:x.1=y.1
   ·rw [decide_eq_true hk]
    simp only [Bool.not_true,Bool.false_eq_true,if_false]
    exact wpAny_pure ⟨rfl,rfl,by simp [hk]⟩
   ·rw [decide_eq_false hk]
    simp only [Bool.not_false,if_true]
    have hf:decide (x=y)=false:=decide_eq_false fun z=>hk (by rw [z])
    rw [hf] at h
    exact wpAny_bind (wpAny_pure (wpAny_pure (wpAny_pure h)))
  ·cases hz
   refine wpAny_bind (knd.eqBool (a:=x.2) (b:=y.2) q1 q2 ?_)
   by_cases hk:x.2=y.2
   ·rw [decide_eq_true hk]
    simp only [Bool.not_true,Bool.false_eq_true,if_false]
    exact wpAny_pure ⟨rfl,rfl,.inr (.inr ⟨trivial,Prod.ext e hk⟩)⟩
   ·rw [decide_eq_false hk]
    simp only [Bool.not_false,if_true]
    have hf:decide (x=y)=false:=decide_eq_false fun z=>hk (by rw [z])
    rw [hf] at h
    exact wpAny_bind (wpAny_pure (wpAny_pure (wpAny_pure h)))
  ·cases hz
 ·rintro ⟨r1,r2⟩ s' ⟨hr,rfl,hz | ⟨hz,_⟩ | ⟨_,e⟩⟩
  ·cases hz
  ·cases hz
  ·simp only at hr
   subst hr
   refine wpAny_pure ?_
   rw [decide_eq_true e] at h
   exact h
theorem Af {x y:List K × K} {a b:Addr} {Q:Bool->Shared->Prop} (hu:A.units + 1 < cLine) (hx:cV knd s.heap x a) (hy:cV knd s.heap y b) (h:Q (decide (x=y)) s) :
  wpAny (model prog w) A (eqBool (.ref a) (.ref b)) Q E s:=by
 unfold eqBool
 try with_reducible refine wpAny_holding ?_
 show wpAny _ _ (if (Value.ref a == Value.ref b)=true then _ else _) Q E s
 by_cases hab:(Value.ref a == Value.ref b)=true
 ·rw [if_pos hab]
  have e:a=b:=by have:=eq_of_beq hab;injection this
  subst e
  obtain rfl:=hx.inj hy
  exact wpAny_bind (wpAny_rule (wpAny_pure (by simpa using h)))
 ·rw [if_neg hab]
  exact wpAny_bind (wpAny_richCompare_same_room (op:=.Eq) hx.typeIs hy.typeIs F.slot_tuple_eq
   (wpAny_call_entry F.slot_tuple_eq hx.typeIs F.entry_tuple_eq (D5 (by first | exact hu | (show A.units + 1 < cLine;exact hu)) hx hy ⟨_,rfl,(fun e=>nomatch e),wpAny_truthy_bool h⟩) (F.args_tuple_eq_2 _ _)) (by omega))
theorem u0 {x:List K × K} {a:Addr} {Q:Bool->Shared->Prop} (hk:cV knd s.heap x a) (h:Q true s):wpAny (model prog w) A (eqIsQuiet 8 (.ref a)) Q E s:=by
 have hT:=hk.typeIs
 obtain ⟨o,n,b,v,ho,_,hd,h1,h2⟩:=hk
 have inner:∀ {Q:Bool->Shared->Prop},Q true s->wpAny (model prog w) A (eqIsQuiet 7 (.ref b)) Q E s:=by
  intro Q h
  have hT:=h1.typeIs
  obtain ⟨o,items,n,ho,_,hd,hi⟩:=h1
  unfold eqIsQuiet
  refine wpAny_bind (wpAny_specialOf hT F.slot_tuple_eq.lookup ?_)
  show wpAny _ _ (isInstance (.ref b) (.type "tuple") >>= _) _ _ s
  refine wpAny_bind (wpAny_isInstance hT isSubtype_tuple_tuple ?_)
  simp only [Bool.not_true,Bool.false_eq_true,if_false]
  refine wpAny_bind (wpAny_seqItems ho hd ?_)
  refine wpAny_bind ?_
  show wpAny _ _ (forIn items _ _) _ _ s
  rw [<- Array.forIn_toList]
  refine wpAny_forIn_list _ (fun rest r s'=>r.1=none/\s'=s/\∀ v∈rest,carriedByValue v=true) _ ?_ ?_ _ _ ⟨rfl,rfl,hi.byValue⟩
  ·rintro v rest r s' ⟨hr,rfl,hall⟩
   rw [eqIsQuiet_byValue _ (hall v List.mem_cons_self)]
   refine wpAny_bind (wpAny_pure ?_)
   simp only [Bool.not_true,Bool.false_eq_true,if_false]
   exact wpAny_pure ⟨rfl,rfl,fun u hu'=>hall u (List.mem_cons_of_mem _ hu')⟩
  ·rintro ⟨r1,r2⟩ s' ⟨hr,rfl,_⟩
   simp only at hr
   subst hr
   exact wpAny_pure h
 unfold eqIsQuiet
 refine wpAny_bind (wpAny_specialOf hT F.slot_tuple_eq.lookup ?_)
 show wpAny _ _ (isInstance (.ref a) (.type "tuple") >>= _) _ _ s
 refine wpAny_bind (wpAny_isInstance hT isSubtype_tuple_tuple ?_)
 simp only [Bool.not_true,Bool.false_eq_true,if_false]
 refine wpAny_bind (wpAny_seqItems ho hd ?_)
 refine wpAny_bind ?_
 show wpAny _ _ (forIn #[Value.ref b,v] _ _) _ _ s
 rw [<- Array.forIn_toList]
 refine wpAny_forIn_list _ (fun rest r s'=>r.1=none/\s'=s/\(rest=[.ref b,v]\/rest=[v]\/rest=[])) _ ?_ ?_ _ _ ⟨rfl,rfl,.inl rfl⟩
 ·rintro u rest r s' ⟨hr,rfl,hz | hz | hz⟩
  ·cases hz
   refine wpAny_bind (inner ?_)
   simp only [Bool.not_true,Bool.false_eq_true,if_false]
   exact wpAny_pure ⟨rfl,rfl,by simp⟩
  ·cases hz
   rw [eqIsQuiet_byValue _ (knd.byValue _ _ h2)]
   refine wpAny_bind (wpAny_pure ?_)
   simp only [Bool.not_true,Bool.false_eq_true,if_false]
   exact wpAny_pure ⟨rfl,rfl,by simp⟩
  ·cases hz
 ·rintro ⟨r1,r2⟩ s' ⟨hr,rfl,_⟩
  simp only at hr
  subst hr
  exact wpAny_pure h
end
def OF {prog:Program} {w:World} {K:Type} [DecidableEq K] (knd:KeyKind prog w K):HeapKind prog w (List K × K) where
 is:=cV knd
 hash:=tN knd
 draws:=fun x=>x.1.length + 3
 room:=fun A=>A.units + 1 < cLine
 inj:=fun hx hy=>hx.inj hy
 keeps:=fun x ho hd hs=>x.keeps ho hd hs
 pyHash:=fun hu hk h=>Ac hu hk h
 eqBool:=fun hu hx hy h=>Af hu hx hy h
 quiet:=fun hk h=>u0 hk h
end PySem
set_option Elab.async false
namespace L2
open PySem PySem.Spec PyProof.Rows
abbrev Key:=Sum Int Str
def O6:Key->Value->Bool
 | .inl k,v=>Value.isInt k v
 | .inr x,v=>Value.isStrOf x v
def WX (w:World):Key->Int
 | .inl k=>hashInt k
 | .inr x=>hashStr w x
theorem fF:∀ {k:Key} {v:Value},O6 k v=true->(∃ i t,k=Sum.inl i/\v=Value.int i t)\/(∃ x t,k=Sum.inr x/\v=Value.str x t)
 | .inl i,v,h=>by
  obtain ⟨t,e⟩:=Value.isInt_shape (k:=i) (v:=v) h
  exact .inl ⟨i,t,rfl,e⟩
 | .inr x,v,h=>by
  obtain ⟨t,e⟩:=Value.isStrOf_shape (x:=x) (v:=v) h
  exact .inr ⟨x,t,rfl,e⟩
theorem SS (a b:Int):decide ((Sum.inl a:Key)=Sum.inl b)=(a == b):=by
 by_cases e:a=b
 ·subst e;simp
 ·have h:¬ (Sum.inl a:Key)=Sum.inl b:=fun q=>e (Sum.inl.inj q)
  rw [decide_eq_false h]
  exact (beq_eq_false_iff_ne.mpr e).symm
theorem Te (a b:Str):decide ((Sum.inr a:Key)=Sum.inr b)=decide (a=b):=by
 by_cases e:a=b
 ·subst e;simp
 ·have h:¬ (Sum.inr a:Key)=Sum.inr b:=fun q=>e (Sum.inr.inj q)
  rw [decide_eq_false h,decide_eq_false e]
theorem TY (a:Int) (b:Str):decide ((Sum.inl a:Key)=Sum.inr b)=false:=decide_eq_false (fun q=>nomatch q)
theorem Td (a:Str) (b:Int):decide ((Sum.inr a:Key)=Sum.inl b)=false:=decide_eq_false (fun q=>nomatch q)
def y0 (prog:Program) (w:World):PySem.KeyKind prog w Key where
 is:=O6
 hash:=WX w
 inj:=fun v a b ha hb=>by
  rcases fF ha with ⟨i,t,rfl,rfl⟩ | ⟨x,t,rfl,rfl⟩
  ·rcases fF hb with ⟨j,u,rfl,e⟩ | ⟨y,u,rfl,e⟩
   ·injection e with e1 _;rw [e1]
   ·exact nomatch e
  ·rcases fF hb with ⟨j,u,rfl,e⟩ | ⟨y,u,rfl,e⟩
   ·exact nomatch e
   ·injection e with e1 _;rw [e1]
 byValue:=fun k v h=>by
  rcases fF h with ⟨i,t,rfl,rfl⟩ | ⟨x,t,rfl,rfl⟩ <;> rfl
 pyHash:=fun hv h=>by
  rcases fF hv with ⟨i,t,rfl,rfl⟩ | ⟨x,t,rfl,rfl⟩
  ·exact wpAny_pyHash_int h
  ·exact wpAny_pyHash_str h
 eqBool:=fun hu hv h=>by
  rcases fF hu with ⟨i,t,rfl,rfl⟩ | ⟨x,t,rfl,rfl⟩
  ·rcases fF hv with ⟨j,u,rfl,rfl⟩ | ⟨y,u,rfl,rfl⟩
   ·rw [SS] at h;exact wpAny_eqBool_int h
   ·rw [TY] at h;exact SeqAt.EqAt.int_str i t y u _ _ _ _ h
  ·rcases fF hv with ⟨j,u,rfl,rfl⟩ | ⟨y,u,rfl,rfl⟩
   ·rw [Td] at h;exact SeqAt.EqAt.str_int x t j u _ _ _ _ h
   ·rw [Te] at h;exact wpAny_eqBool_str h
 «strs»:=fun k x t v h=>by
  rcases fF h with ⟨i,u,rfl,e⟩ | ⟨y,u,rfl,e⟩
  ·exact nomatch e
  ·injection e with e1 _
   subst e1
   cases v <;> rfl
inductive V where
 | non | bl (b:Bool) | int (i:Int) | str (x:Str) | byt (b:Array UInt8) | flt (b:UInt64) | ref (a:Addr) | ty (n:String)
 deriving DecidableEq
def RelV:V->Value->Prop
 | .non,u=>u=Value.none
 | .bl b,u=>u=Value.bool b
 | .int i,u=>∃ t,u=Value.int i t
 | .str x,u=>∃ t,u=Value.str x t
 | .byt b,u=>∃ t,u=Value.bytes b t
 | .flt b,u=>∃ t,u=Value.float b t
 | .ref a,u=>u=Value.ref a
 | .ty n,u=>u=Value.type n
abbrev Vals:List V->List Value->Prop:=Paired RelV
theorem Vals.length {xs:List V} {us:List Value} (r:Vals xs us):xs.length=us.length:=Paired.length r
theorem Vals.get:∀ {xs:List V} {us:List Value} {i:Nat} {x:V},Vals xs us->xs[i]?=some x->∃ u,us[i]?=some u/\RelV x u
 | _,_,_,_,.nil,e=>by simp at e
 | _,_,0,_,.cons r _,e=>by simp at e;subst e;exact ⟨_,rfl,r⟩
 | _,_,i + 1,x,.cons _ t,e=>by
  obtain ⟨u,h1,h2⟩:=Vals.get (i:=i) (x:=x) t (by simpa using e)
  exact ⟨u,by simpa using h1,h2⟩
theorem Vals.set {x:V} {u:Value} (r:RelV x u):∀ {xs:List V} {us:List Value} (i:Nat),Vals xs us->Vals (xs.set i x) (us.set i u)
 | _,_,_,.nil=>.nil
 | _,_,0,.cons _ t=>.cons r t
 | _,_,i + 1,.cons q t=>.cons q (Vals.set r i t)
theorem Vals.append:∀ {xs ys:List V} {us ws:List Value},Vals xs us->Vals ys ws->Vals (xs++ys) (us++ws)
 | _,_,_,_,.nil,s=>s
 | _,_,_,_,.cons r t,s=>.cons r (Vals.append t s)
theorem Vals.take:∀ {xs:List V} {us:List Value} (n:Nat),Vals xs us->Vals (xs.take n) (us.take n)
 | _,_,0,_=>.nil
 | _,_,_ + 1,.nil=>.nil
 | _,_,n + 1,.cons r t=>.cons r (Vals.take n t)
theorem Vals.drop:∀ {xs:List V} {us:List Value} (n:Nat),Vals xs us->Vals (xs.drop n) (us.drop n)
 | _,_,0,r=>r
 | _,_,_ + 1,.nil=>.nil
 | _,_,n + 1,.cons _ t=>Vals.drop n t
def E8:Option V->Option Value->Prop
 | some v,some u=>RelV v u
 | none,none=>True
 | _,_=>False
def KV {κ:Type}:List (κ × V)->List (κ × Value)->Prop:=Paired fun (p:κ × V) (q:κ × Value)=>p.1=q.1/\RelV p.2 q.2
def kV:Key->V
 | .inl i=>.int i
 | .inr x=>.str x
inductive HO where
  | lst (xs:List V)
  | tup (xs:List V)
  | dK (kvs:List (Key × V)) | dT (kvs:List (List Key × V)) | dN (kvs:List ((List Key × Key) × V))
  | set (S:Int->Bool) (n:Nat)
  | ins (C dx:Addr) (fs:List (Str × V))
  | own (x:Addr)
  | xd (fs:List (Str × V))
  | met (f x:Addr)
  | rng (lo hi:Int)
  | frz (o:Obj) (u:HO)
  | tbl (ps:Array Value)
  | ext (φ:Heap->Prop)
abbrev Hp:=Addr->Option HO
def upd (H:Hp) (a:Addr) (o:HO):Hp:=fun b=>if b=a then some o else H b
theorem bT {H:Hp} {a:Addr} {o:HO}:upd H a o a=some o:=by unfold upd;rw [if_pos rfl]
theorem bE {H:Hp} {a b:Addr} {o:HO} (h:b≠a):upd H a o b=H b:=by unfold upd;rw [if_neg h]
theorem Xm {H:Hp} {a b:Addr} {o u:HO} (h:H a=some o) (h':H b=some u) (d:o≠u):a≠b:=by
 intro e;subst e;rw [h] at h';exact d (Option.some.inj h')
theorem bR {H:Hp} {a b:Addr} {o:HO} (h:H a=some o) (h':H b=none):a≠b:=by
 intro e;subst e;rw [h] at h';cases h'
def iC (h:Heap) (a:Addr) (items:Array Value):Prop:=∃ o,h.get? a=some o/\o.cls=.type "tuple"/\o.dict=none/\∃ n,o.data=.seq items n
theorem iC.tup {h:Heap} {a:Addr} {items:Array Value} (x:iC h a items):IsTup h a items:=let ⟨o,h1,h2,_,h3⟩:=x;⟨o,h1,h2,h3⟩
theorem iC.new (h:Heap) (items:Array Value):iC (h.push { cls:=.type "tuple",data:=.seq items }) h.objs.size items:=⟨_,Heap.get?_push_size _ rfl,rfl,rfl,_,rfl⟩
section
variable (P:Program) (w:World)
def dI (H:Hp) (h:Heap) (a:Addr):HO->Prop
 | .lst xs=>xs.length<=sizeLine/\∃ (its:List Value) (n:Nat),Vals xs its/\h.get? a=some { cls:=.type "list",data:=.seq its.toArray n }
 | .tup xs=>xs.length<=sizeLine/\∃ its:List Value,Vals xs its/\iC h a its.toArray
 | .dK kvs=>kvs.length<=sizeLine/\(a == sysModules)=false/\∃ vs,KV kvs vs/\h.DictOf (y0 P w) a vs
 | .dT kvs=>kvs.length<=sizeLine/\(a == sysModules)=false/\∃ xs:List (List Key × Addr × Value),
   Paired (fun (p:List Key × V) (q:List Key × Addr × Value)=>p.1=q.1/\H q.2.1=some (.tup (p.1.map kV))/\RelV p.2 q.2.2) kvs xs /\
   ∃ o es ep,h.get? a=some o/\o.ExactDict/\o.data=.dict es ep/\es.toList=xs.map (entryOfKey (tupleKind (y0 P w)))/\(xs.map (·.1)).Nodup
 | .dN kvs=>kvs.length<=sizeLine/\(a == sysModules)=false/\∃ xs:List ((List Key × Key) × Addr × Value),
   Paired (fun (p:(List Key × Key) × V) (q:(List Key × Key) × Addr × Value)=>p.1=q.1/\(∃ c,H q.2.1=some (.tup [.ref c,kV p.1.2])/\H c=some (.tup (p.1.1.map kV)))/\RelV p.2 q.2.2) kvs xs /\
   ∃ o es ep,h.get? a=some o/\o.ExactDict/\o.data=.dict es ep/\es.toList=xs.map (entryOfKey (OF (y0 P w)))/\(xs.map (·.1)).Nodup
 | .set S n=>h.SetOf (intKind P w) a S n
 | .ins C dx fs=>H dx=some (.own a)/\fs.length<=1000/\dx≠a/\h.get? a=some (PySem.W.instObj C dx) /\
   ∃ mA,h.Ns1 dx mA/\(∀ f,E8 (fs.lookup f) (mA f))/\PySem.Within mA (fs.map (·.1))
 | .own _=>∃ o,h.get? a=some o
 | .xd fs=>∃ mA,h.Ns1 a mA/\∀ f,E8 (fs.lookup f) (mA f)
 | .rng lo hi=>∃ t u v,h.get? a=some { cls:=.type "range",data:=.fields #[.int lo t,.int hi u,.int 1 v] }
 | .frz o u=>h.get? a=some o/\dI H h a u
 | .tbl ps=>h.get? a=some { cls:=.none,data:=.fields ps }
 | .met f x=>h.get? a=some (PySem.W.methodObj (.ref f) (.ref x))
 | .ext φ=>φ h/\(∃ o,h.get? a=some o)/\∀ h1 h2:Heap,φ h1->(∀ o,h1.get? a=some o->h2.get? a=some o)->φ h2
def eG (H:Hp) (h:Heap):Prop:=∀ a o,H a=some o->dI P w H h a o
end
section
variable {P:Program} {w:World} {H H':Hp} {h h':Heap} {a:Addr} {o:HO}
theorem dI.lt (x:dI P w H h a o):a < h.objs.size:=by
 cases o with
 | lst xs=>obtain ⟨_,_,_,_,e⟩:=x;exact Heap.lt_size e
 | tup xs=>obtain ⟨_,_,_,p⟩:=x;exact IsTup.lt (iC.tup p)
 | dK kvs=>obtain ⟨_,_,_,_,o,_,_,e,_⟩:=x;exact Heap.lt_size e
 | dT kvs=>obtain ⟨_,_,_,_,o,_,_,e,_⟩:=x;exact Heap.lt_size e
 | dN kvs=>obtain ⟨_,_,_,_,o,_,_,e,_⟩:=x;exact Heap.lt_size e
 | set S n=>obtain ⟨o,_,_,_,e,_⟩:=x;exact Heap.lt_size e
 | ins C dx fs=>obtain ⟨_,_,_,e,_⟩:=x;exact Heap.lt_size e
 | own y=>obtain ⟨_,e⟩:=x;exact Heap.lt_size e
 | xd fs=>obtain ⟨_,⟨_,_,_,e,_⟩,_⟩:=x;exact Heap.lt_size e
 | rng lo hi=>obtain ⟨_,_,_,e⟩:=x;exact Heap.lt_size e
 | frz ob u=>obtain ⟨e,_⟩:=x;exact Heap.lt_size e
 | tbl ps=>exact Heap.lt_size (show h.get? a=some _ from x)
 | met f y=>exact Heap.lt_size (show h.get? a=some _ from x)
 | ext φ=>obtain ⟨_,⟨_,e⟩,_⟩:=x;exact Heap.lt_size e
theorem Paired.mapP {α β:Type} {F G:α->β->Prop}:∀ {l₁:List α} {l₂:List β},Paired F l₁ l₂->(∀ a b,F a b->G a b)->Paired G l₁ l₂
 | _,_,.nil,_=>.nil
 | _,_,.cons r t,f=>.cons (f _ _ r) (Paired.mapP t f)
theorem dI.stay (x:dI P w H h a o) (k:∀ b u,(b=a\/H b=some (.own a))->h.get? b=some u->h'.get? b=some u)
  (ho:∀ b,H b=some (.own a)->H' b=some (.own a)) (ht:∀ b xs,H b=some (.tup xs)->H' b=some (.tup xs)):dI P w H' h' a o:=by
 induction o with
 | lst xs=>obtain ⟨z,its,n,r,e⟩:=x;exact ⟨z,its,n,r,k _ _ (.inl rfl) e⟩
 | tup xs=>obtain ⟨z,its,r,ob,e,c⟩:=x;exact ⟨z,its,r,ob,k _ _ (.inl rfl) e,c⟩
 | dK kvs=>obtain ⟨z,y,vs,r,ob,es,ep,e,c⟩:=x;exact ⟨z,y,vs,r,ob,es,ep,k _ _ (.inl rfl) e,c⟩
 | dT kvs =>
  obtain ⟨z,y,xs,r,ob,es,ep,e,c⟩:=x
  exact ⟨z,y,xs,Paired.mapP r fun p q z=>⟨z.1,ht _ _ z.2.1,z.2.2⟩,ob,es,ep,k _ _ (.inl rfl) e,c⟩
 | dN kvs =>
  obtain ⟨z,y,xs,r,ob,es,ep,e,c⟩:=x
  exact ⟨z,y,xs,Paired.mapP r fun p q z=>⟨z.1,let ⟨c,h1,h2⟩:=z.2.1;⟨c,ht _ _ h1,ht _ _ h2⟩,z.2.2⟩,ob,es,ep,k _ _ (.inl rfl) e,c⟩
 | set S n=>obtain ⟨ob,es,ep,t,e,c⟩:=x;exact ⟨ob,es,ep,t,k _ _ (.inl rfl) e,c⟩
 | ins C dx fs =>
  obtain ⟨d,z,ne,e,mA,⟨od,es,ep,e2,c⟩,r⟩:=x
  exact ⟨ho _ d,z,ne,k _ _ (.inl rfl) e,mA,⟨od,es,ep,k _ _ (.inr d) e2,c⟩,r⟩
 | own y=>obtain ⟨ob,e⟩:=x;exact ⟨ob,k _ _ (.inl rfl) e⟩
 | xd fs=>obtain ⟨mA,⟨od,es,ep,e,c⟩,r⟩:=x;exact ⟨mA,⟨od,es,ep,k _ _ (.inl rfl) e,c⟩,r⟩
 | rng lo hi=>obtain ⟨t,u,v,e⟩:=x;exact ⟨t,u,v,k _ _ (.inl rfl) e⟩
 | frz ob u ih=>obtain ⟨e,q⟩:=x;exact ⟨k _ _ (.inl rfl) e,ih q⟩
 | tbl ps =>
  have e:h.get? a=some { cls:=.none,data:=.fields ps }:=x
  show h'.get? a=some { cls:=.none,data:=.fields ps }
  exact k a _ (.inl rfl) e
 | met f y =>
  have e:h.get? a=some (PySem.W.methodObj (.ref f) (.ref y)):=x
  show h'.get? a=some (PySem.W.methodObj (.ref f) (.ref y))
  exact k a _ (.inl rfl) e
 | ext φ=>obtain ⟨p,⟨o,e⟩,st⟩:=x;exact ⟨st _ _ p fun o q=>k _ _ (.inl rfl) q,⟨o,k _ _ (.inl rfl) e⟩,st⟩
theorem eG.lt (x:eG P w H h) (e:H a=some o):a < h.objs.size:=(x a o e).lt
theorem eG.fresh (x:eG P w H h) (e:h.objs.size<=a):H a=none:=by
 cases q:H a with
 | none=>rfl
 | some u=>exact absurd (Nat.lt_of_lt_of_le (x.lt q) e) (Nat.lt_irrefl _)
theorem eG.kept (x:eG P w H h) (k:∀ b u,h.get? b=some u->h'.get? b=some u):eG P w H h':=fun a o e =>
 (x a o e).stay (fun b u _ q=>k b u q) (fun _ q=>q) fun _ _ q=>q
theorem eG.laid (x:eG P w H h) (k:∀ b u,h.get? b=some u->h'.get? b=some u) (hp:h.objs.size<=a) (new:dI P w (upd H a o) h' a o):eG P w (upd H a o) h':=fun b u e=>by
 have hn:=x.fresh hp
 by_cases hb:b=a
 ·subst hb;rw [bT] at e;cases e;exact new
 ·rw [bE hb] at e
  exact (x b u e).stay (fun c v _ q=>k c v q) (fun c q=>by rw [bE (bR q hn)];exact q) fun c xs q=>by rw [bE (bR q hn)];exact q
end
def Rd (H:Hp) (a:Addr) (u:HO):Prop:=H a=some u\/∃ o,H a=some (.frz o u)
theorem Rd.ok {P:Program} {w:World} {H:Hp} {h:Heap} {a:Addr} {u:HO} (r:Rd H a u) (x:eG P w H h):dI P w H h a u:=by
 rcases r with r | ⟨o,r⟩
 ·exact x a u r
 ·obtain ⟨_,q⟩:=x a _ r
  exact q
def Ki:Option HO->Prop
 | some (.lst _)=>True
 | some (.dK _)=>True
 | some (.dT _)=>True
 | some (.dN _)=>True
 | some (.set _ _)=>True
 | some (.ins _ _ _)=>True
 | some (.ext _)=>True
 | _=>False
section
variable {P:Program} {w:World} {H:Hp} {h h':Heap} {x e:Addr} {o':HO}
theorem eG.write (ok:eG P w H h) (mu:Ki (H x)) (he:e=x\/H e=some (.own x)) (k:∀ b u,b≠e->h.get? b=some u->h'.get? b=some u) (heo:∃ u,h'.get? e=some u)
  (new:dI P w (upd H x o') h' x o'):eG P w (upd H x o') h':=fun b u q=>by
 have nown:∀ c y,H c=some (.own y)->c≠x:=fun c y r z=>by subst z;rw [r] at mu;exact mu
 have ntup:∀ c xs,H c=some (.tup xs)->c≠x:=fun c xs r z=>by subst z;rw [r] at mu;exact mu
 by_cases hb:b=x
 ·subst hb;rw [bT] at q;cases q;exact new
 ·rw [bE hb] at q
  by_cases hbe:b=e
  ·have q':H b=some (.own x):=by
    rcases he with z | z
    ·exact absurd (hbe.trans z) hb
    ·rw [hbe];exact z
   rw [q] at q';cases q'
   obtain ⟨v,hv⟩:=heo
   exact ⟨v,by rw [hbe];exact hv⟩
  ·refine (ok b u q).stay (fun c v hc r=>k c v ?_ r) (fun c r=>by rw [bE (nown c b r)];exact r) fun c xs r=>by rw [bE (ntup c xs r)];exact r
   rcases hc with rfl | hc
   ·exact hbe
   ·rintro rfl
    rcases he with z | z
    ·exact nown c b hc z
    ·rw [hc] at z;cases z;exact hb rfl
end
structure Un (fs ex:List Addr) (H H':Hp) (h h':Heap):Prop where
 keep:∀ b o,h.get? b=some o->H b=none->b ∉ fs->b ∉ ex->h'.get? b=some o
 slot:∀ b o,h.get? b=some o->H b=none->b∈fs->b ∉ ex->∃ sl,h'.get? b=some { o with slots:=sl }
 free:∀ b o,h.get? b=some o->H b=none->b ∉ ex->H' b=none
 there:∀ b o,h.get? b=some o->b ∉ ex->∃ o',h'.get? b=some o'
 tups:∀ b xs,H b=some (.tup xs)->H' b=some (.tup xs)
 frzs:∀ b o u,H b=some (.frz o u)->H' b=some (.frz o u)
 tbls:∀ b ps,H b=some (.tbl ps)->∃ more,H' b=some (.tbl (ps++more))
section
variable {fs fs' ex ex':List Addr} {H H1 H2:Hp} {h h1 h2 h':Heap} {a x e:Addr} {o:HO}
theorem Un.any (u:Un fs ex H H1 h h1) {b:Addr} {ob:Obj} (q:h.get? b=some ob) (n:H b=none) (hx:b ∉ ex):∃ sl,h1.get? b=some { ob with slots:=sl }:=by
 by_cases hb:b∈fs
 ·exact u.slot b ob q n hb hx
 ·exact ⟨ob.slots,u.keep b ob q n hb hx⟩
theorem Un.kept (k:∀ b u,h.get? b=some u->h'.get? b=some u):Un fs ex H H h h' :=
 ⟨fun b ob q _ _ _=>k b ob q,fun b ob q _ _ _=>⟨ob.slots,k b ob q⟩,fun _ _ _ n _=>n,fun b ob q _=>⟨ob,k b ob q⟩,fun _ _ q=>q,fun _ _ _ q=>q,fun _ ps q=>⟨#[],by rw [q];simp⟩⟩
theorem Un.refl:Un fs ex H H h h:=Un.kept fun _ _ q=>q
theorem Un.laid (k:∀ b u,h.get? b=some u->h'.get? b=some u) (hp:h.objs.size<=a) (hn:H a=none):Un fs ex H (upd H a o) h h' where
 keep:=fun b u q _ _ _=>k b u q
 slot:=fun b u q _ _ _=>⟨u.slots,k b u q⟩
 free:=fun b u q n _=>by rw [bE (Nat.ne_of_lt (Nat.lt_of_lt_of_le (Heap.lt_size q) hp))];exact n
 there:=fun b u q _=>⟨u,k b u q⟩
 tups:=fun b xs q=>by rw [bE (bR q hn)];exact q
 frzs:=fun b u xs q=>by rw [bE (bR q hn)];exact q
 tbls:=fun b ps q=>⟨#[],by rw [bE (bR q hn),q];simp⟩
theorem Un.write (mu:Ki (H x)) (he:e=x\/H e=some (.own x)) (k:∀ b u,b≠e->h.get? b=some u->h'.get? b=some u) (heo:∃ u,h'.get? e=some u):Un fs ex H (upd H x o) h h':=by
 have hx:∀ b,H b=none->b≠x:=fun b n z=>by subst z;rw [n] at mu;exact mu
 have hb:∀ b,H b=none->b≠e:=fun b n z=>by
  subst z
  rcases he with r | r
  ·exact hx b n r
  ·rw [n] at r;cases r
 have hm:∀ b u,H b=some u->¬ Ki (some u)->b≠x:=fun b u q nm z=>by subst z;rw [q] at mu;exact nm mu
 refine ⟨fun b u q n _ _=>k b u (hb b n) q,fun b u q n _ _=>⟨u.slots,k b u (hb b n) q⟩,fun b u q n _=>by rw [bE (hx b n)];exact n,fun b u q _=>?_,
  fun b xs q=>by rw [bE (hm b _ q fun z=>z)];exact q,fun b u xs q=>by rw [bE (hm b _ q fun z=>z)];exact q,fun b ps q=>⟨#[],by rw [bE (hm b _ q fun z=>z),q];simp⟩⟩
 by_cases hbe:b=e
 ·subst hbe;exact heo
 ·exact ⟨u,k b u hbe q⟩
end
def PY (h:Heap) (H:Hp):List Addr:=(List.range h.objs.size).filter fun a=>(H a).isSome
def gL (h:Heap) (H:Hp):Heap:=PySem.W.hideAll h (PY h H)
theorem Ce (h:Heap) (H:Hp):(gL h H).objs.size=h.objs.size:=PySem.W.hideAll_size _ _
theorem q8 {h:Heap} {H:Hp} {b:Addr} {o:Obj} (e:h.get? b=some o) (n:H b=none):(gL h H).get? b=some o :=
 PySem.W.hideAll_get _ e fun hm=>by
  have q:(H b).isSome=true:=(List.mem_filter.mp hm).2
  rw [n] at q;simp at q
theorem BZ {h:Heap} {H:Hp} {b:Addr} {o:Obj} (e:(gL h H).get? b=some o):h.get? b=some o/\H b=none:=by
 have e':h.get? b=some o:=PySem.W.of_hideAll (PY h H) e
 refine ⟨e',?_⟩
 cases q:H b with
 | none=>rfl
 | some x =>
  have hm:b∈PY h H:=List.mem_filter.mpr ⟨List.mem_range.mpr (Heap.lt_size e'),by simp [q]⟩
  have z:(gL h H).get? b=none:=PySem.W.hideAll_none (PY h H) hm
  rw [z] at e;cases e
structure Mod (K:PySem.W.Frag) (mg:Str->Option Value) (base:Heap):Prop where
 kin:K.In base
 glob:base.Ns mainGlobals mg
 blt:∃ mb,base.Ns builtinsNs mb/\∀ x:Str,x≠"__name__"->mb x=bootBuiltins x
 nolimit:base.NoLimit
structure Cx where
 prog:Program
 w:World
 K:PySem.W.Frag
 mg:Str->Option Value
 base:Heap
 A:Around
 N:List Str
 s₀:Shared
 H₀:Hp
 env:Env
 outer:List Env
 stack:List Env
 ex:List Addr
 fn:Str->Bool
 calm:Bool
 pn:List (Addr × Obj)
 xe:Value->Shared->Prop
def gG (l:List Env):List Addr:=l.filterMap (·.frame)
abbrev Cx.fs (X:Cx):List Addr:=gG X.outer
def A7 (sc:Scope) (x:Str):Prop:=sc.names.lookup x=some .local\/sc.names.lookup x=some .cell\/sc.names.lookup x=some .free
def Loc (sc:Scope) (x:Str):Prop:=sc.names.lookup x=some .local\/sc.names.lookup x=some .cell
def Look (env:Env) (h:Heap) (m:Str->Option Value) (x:Str) (u:Value):Prop :=
 (env.kindOf x=some .local/\m x=some u)\/((env.kindOf x=some .cell\/env.kindOf x=some .free)/\∃ c,env.cells.lookup x=some c/\h.IsCell c (some u))
structure Cx.Ok (X:Cx):Prop where
 mod:Mod X.K X.mg X.base
 kind:X.env.scope.kind=.function
 glob:X.env.globals=mainGlobals
 blt:X.env.builtins=builtinsNs
 above:X.s₀.heap.objs.size<=X.env.locals
 inj:∀ x y c,X.env.cells.lookup x=some c->X.env.cells.lookup y=some c->x=y
 has:∀ x,(X.env.kindOf x=some .cell\/X.env.kindOf x=some .free)->∃ c,X.env.cells.lookup x=some c
 cab:∀ x c,X.fn x=true->X.env.cells.lookup x=some c->X.s₀.heap.objs.size<=c
 hd:X.calm=true->X.A.handled=none
 frames:X.A.frames=some X.stack
 stk:X.stack=X.outer\/(X.stack=X.env :: X.outer/\X.env.frame=some X.env.locals)
 exf:∀ b∈X.ex,b≠X.env.locals/\∀ x c,X.env.cells.lookup x=some c->c≠b
 bs:∀ b o,X.base.get? b=some o->X.s₀.heap.get? b=some o/\X.H₀ b=none
 bsz:X.base.objs.size<=X.s₀.heap.objs.size
 noex:∀ b o,X.base.get? b=some o->b ∉ X.ex
 exfs:∀ b∈X.ex,b ∉ X.fs
 funs:X.s₀.heap.FunFrames X.base X.outer
 frf:∀ b∈X.fs,X.H₀ b=none
structure Inv (X:Cx) (pins:List (Addr × Obj)) (σ:List (Option V)) (H:Hp) (s:Shared):Prop where
 ok:X.Ok
 os:s.os=X.s₀.os
 bare:AllBare s.gens
 base:Un X.fs X.ex X.H₀ H X.s₀.heap s.heap
 loc:∃ m,s.heap.Ns X.env.locals m/\∀ (i:Nat) (x:Str) (v:V),X.N[i]?=some x->σ[i]?=some (some v)->A7 X.env.scope x->∃ u,RelV v u/\Look X.env s.heap m x u
 cell:∀ x c,X.env.cells.lookup x=some c->∃ v,s.heap.IsCell c v
 free:H X.env.locals=none
 freeC:∀ x c,X.env.cells.lookup x=some c->H c=none
 pin:∀ p∈X.pn++pins,s.heap.get? p.1=some p.2/\H p.1=none/\p.1≠X.env.locals/\p.1 ∉ X.fs/\∀ v,p.2.data≠.cell v
 hok:eG X.prog X.w H s.heap
 len:σ.length=X.N.length
section
variable {X:Cx} {pins:List (Addr × Obj)} {σ:List (Option V)} {H H':Hp} {s:Shared} {h':Heap}
theorem Cx.Ok.nofr (ok:X.Ok) {b:Addr} {o:Obj} (e:X.base.get? b=some o):b ∉ X.fs:=fun hb=>by
 have:=(ok.funs.mem hb).1
 rw [e] at this;cases this
theorem Inv.bs (I:Inv X pins σ H s):∀ b o,X.base.get? b=some o->s.heap.get? b=some o/\H b=none:=fun b o e =>
 ⟨I.base.keep b o (I.ok.bs b o e).1 (I.ok.bs b o e).2 (I.ok.nofr e) (I.ok.noex b o e),I.base.free b o (I.ok.bs b o e).1 (I.ok.bs b o e).2 (I.ok.noex b o e)⟩
theorem Inv.bk (I:Inv X pins σ H s):∀ b o,X.base.get? b=some o->s.heap.get? b=some o:=fun b o e=>(I.bs b o e).1
theorem Inv.mod (I:Inv X pins σ H s):Mod X.K X.mg X.base:=I.ok.mod
theorem Inv.kIn (I:Inv X pins σ H s):X.K.In s.heap:=I.ok.mod.kin.keeps I.bk
theorem Inv.fr (I:Inv X pins σ H s):∃ m,Fr X.base X.env.locals s.heap m :=
 let ⟨m,hn,_⟩:=I.loc
 ⟨m,hn,I.bk,Nat.le_trans I.ok.bsz I.ok.above⟩
theorem Inv.lt (I:Inv X pins σ H s):X.env.locals < s.heap.objs.size:=let ⟨_,hn,_⟩:=I.loc;hn.lt
theorem Inv.sz (I:Inv X pins σ H s):X.s₀.heap.objs.size<=s.heap.objs.size:=Nat.le_trans I.ok.above (Nat.le_of_lt I.lt)
theorem Inv.nofs (I:Inv X pins σ H s) {a:Addr} (h:s.heap.objs.size<=a):a ∉ X.fs:=fun hb=>by
 obtain ⟨_,o,ho,_⟩:=I.ok.funs.mem hb
 exact absurd (Nat.lt_of_lt_of_le (Heap.lt_size ho) (Nat.le_trans I.sz h)) (Nat.lt_irrefl _)
theorem Inv.cne (I:Inv X pins σ H s):∀ x c,X.env.cells.lookup x=some c->c≠X.env.locals:=fun x c e z=>by
 obtain ⟨v,o,ho,hd⟩:=I.cell x c e
 obtain ⟨m,⟨o',es,ep,ho',hd',_⟩,_⟩:=I.loc
 rw [z,ho'] at ho;cases ho;rw [hd'] at hd;cases hd
theorem Inv.funs (I:Inv X pins σ H s):s.heap.FunFrames X.base X.outer:=by
 have all:∀ (l:List Env),(∀ b∈gG l,b∈X.fs)->X.s₀.heap.FunFrames X.base l->s.heap.FunFrames X.base l:=by
  intro l
  induction l with
  | nil=>intro _ _;trivial
  | cons env r ih =>
   intro hs hl
   obtain ⟨hk,⟨L,o,hf,hn,ho,hd⟩,hr⟩:=hl
   have hL:L∈X.fs:=hs L (by unfold gG;rw [List.filterMap_cons,hf];exact List.mem_cons_self)
   obtain ⟨sl,e⟩:=I.base.slot L o ho (I.ok.frf L hL) hL fun z=>I.ok.exfs L z hL
   exact ⟨hk,⟨L,_,hf,hn,e,hd⟩,ih (fun b hb=>hs b (by unfold gG;rw [List.filterMap_cons,hf];exact List.mem_cons_of_mem _ hb)) hr⟩
 exact all X.outer (fun _ hb=>hb) I.ok.funs
theorem Inv.stack (I:Inv X pins σ H s):s.heap.FunFrames X.base X.stack:=by
 rcases I.ok.stk with e | ⟨e,hf⟩
 ·rw [e];exact I.funs
 ·rw [e]
  obtain ⟨m,hn,_⟩:=I.loc
  refine .cons (by rw [I.ok.kind];decide) hf hn ?_ I.funs
  exact Heap.get?_none_of_le (Nat.le_trans I.ok.bsz I.ok.above)
theorem Inv.stkSub (I:Inv X pins σ H s):∀ b∈gG X.stack,b∈X.env.locals :: X.fs:=fun b hb=>by
 rcases I.ok.stk with e | ⟨e,hf⟩
 ·rw [e] at hb;exact List.mem_cons_of_mem _ hb
 ·rw [e] at hb
  unfold gG at hb
  rw [List.filterMap_cons,hf] at hb
  exact hb
theorem Inv.stkFree (I:Inv X pins σ H s):∀ b∈gG X.stack,H b=none:=fun b hb=>by
 rcases List.mem_cons.mp (I.stkSub b hb) with e | hb
 ·rw [e];exact I.free
 ·obtain ⟨_,o,ho,_⟩:=I.ok.funs.mem hb
  exact I.base.free b o ho (I.ok.frf b hb) fun z=>I.ok.exfs b z hb
theorem Inv.step {g':Array GenState} {t':Nat} {d':Drawn} {ch:List Addr} (I:Inv X pins σ H s)
  (hch:∀ b∈ch,(b∈X.ex\/X.s₀.heap.objs.size<=b)/\b≠X.env.locals/\(∀ x c,X.env.cells.lookup x=some c->c≠b)/\∀ p∈X.pn++pins,p.1≠b)
  (keep:∀ b o,b≠X.env.locals->b ∉ X.fs->b ∉ ch->s.heap.get? b=some o->H b=none->h'.get? b=some o)
  (slot:∀ b o,b≠X.env.locals->b∈X.fs->b ∉ ch->s.heap.get? b=some o->H b=none->∃ sl,h'.get? b=some { o with slots:=sl }) (free:∀ b o,b ∉ ch->s.heap.get? b=some o->H b=none->H' b=none)
  (there:∀ b o,b ∉ ch->s.heap.get? b=some o->∃ o',h'.get? b=some o')
  (tups:∀ b xs,H b=some (.tup xs)->H' b=some (.tup xs)) (frzs:∀ b o u,H b=some (.frz o u)->H' b=some (.frz o u)) (tbls:∀ b ps,H b=some (.tbl ps)->∃ more,H' b=some (.tbl (ps++more)))
  (ns:∀ m,s.heap.Ns X.env.locals m->h'.Ns X.env.locals m) (hok:eG X.prog X.w H' h') (hg:AllBare g') :
  Inv X pins σ H' { s with heap:=h',gens:=g',drawn:=d',toks:=t' }:=by
 have neL:∀ b o,X.s₀.heap.get? b=some o->b≠X.env.locals:=fun b o e=>Nat.ne_of_lt (Nat.lt_of_lt_of_le (Heap.lt_size e) I.ok.above)
 have neC:∀ b o,X.s₀.heap.get? b=some o->b ∉ X.ex->b ∉ ch:=fun b o e hx hb=>by
  rcases (hch b hb).1 with z | z
  ·exact hx z
  ·exact absurd (Nat.lt_of_lt_of_le (Heap.lt_size e) z) (Nat.lt_irrefl _)
 have cellK:∀ x c,X.env.cells.lookup x=some c->∀ v,s.heap.IsCell c v->h'.IsCell c v:=fun x c e v ⟨o,ho,hd⟩=>by
  have nch:c ∉ ch:=fun z=>(hch c z).2.2.1 x c e rfl
  by_cases hc:c∈X.fs
  ·obtain ⟨sl,q⟩:=slot c o (I.cne x c e) hc nch ho (I.freeC x c e)
   exact ⟨_,q,hd⟩
  ·exact ⟨o,keep c o (I.cne x c e) hc nch ho (I.freeC x c e),hd⟩
 refine ⟨I.ok,I.os,hg,⟨fun b o e n hb hx=>?_,fun b o e n hb hx=>?_,fun b o e n hx=>?_,fun b o e hx=>?_,fun b xs e=>tups b xs (I.base.tups b xs e),fun b o xs e=>frzs b o xs (I.base.frzs b o xs e),fun b ps e=>?_⟩,?_,fun x c e=>?_,?_,fun x c e=>?_,fun p hp=>?_,hok,I.len⟩
 ·exact keep b o (neL b o e) hb (neC b o e hx) (I.base.keep b o e n hb hx) (I.base.free b o e n hx)
 ·obtain ⟨sl,e1⟩:=I.base.slot b o e n hb hx
  obtain ⟨sl',e2⟩:=slot b _ (neL b o e) hb (neC b o e hx) e1 (I.base.free b o e n hx)
  exact ⟨sl',e2⟩
 ·obtain ⟨o',e1⟩:=I.base.there b o e hx
  exact free b o' (neC b o e hx) e1 (I.base.free b o e n hx)
 ·obtain ⟨o',e1⟩:=I.base.there b o e hx
  exact there b o' (neC b o e hx) e1
 ·obtain ⟨m1,e1⟩:=I.base.tbls b ps e
  obtain ⟨m2,e2⟩:=tbls b _ e1
  exact ⟨m1++m2,by rw [e2,Array.append_assoc]⟩
 ·obtain ⟨m,hn,hl⟩:=I.loc
  refine ⟨m,ns m hn,fun i x v e1 e2 e3=>?_⟩
  obtain ⟨u,r,l⟩:=hl i x v e1 e2 e3
  refine ⟨u,r,?_⟩
  rcases l with l | ⟨k,c,e,z⟩
  ·exact .inl l
  ·exact .inr ⟨k,c,e,cellK x c e _ z⟩
 ·obtain ⟨v,z⟩:=I.cell x c e
  exact ⟨v,cellK x c e v z⟩
 ·obtain ⟨m,⟨o,_,_,ho,_⟩,_⟩:=I.loc
  exact free _ o (fun z=>(hch _ z).2.1 rfl) ho I.free
 ·obtain ⟨v,o,ho,hd⟩:=I.cell x c e
  exact free c o (fun z=>(hch c z).2.2.1 x c e rfl) ho (I.freeC x c e)
 ·obtain ⟨e,n,ne,nf,d⟩:=I.pin p hp
  have nch:p.1 ∉ ch:=fun z=>(hch p.1 z).2.2.2 p hp rfl
  exact ⟨keep p.1 p.2 ne nf nch e n,free p.1 p.2 nch e n,ne,nf,d⟩
theorem Inv.un {t':Nat} (I:Inv X pins σ H s) (u:Un X.fs [] H H' s.heap h') (hok:eG X.prog X.w H' h'):Inv X pins σ H' { s with heap:=h',toks:=t' }:=by
 obtain ⟨m,⟨o,es,ep,ho,r⟩,_⟩:=id I.loc
 obtain ⟨sl,hL⟩:=u.any ho I.free (by simp)
 exact I.step (g':=s.gens) (d':=s.drawn) (ch:=[]) (fun _ z=>nomatch z) (fun b o _ hb _ e n=>u.keep b o e n hb (by simp)) (fun b o _ hb _ e n=>u.slot b o e n hb (by simp)) (fun b o _ e n=>u.free b o e n (by simp)) (fun b o _ e=>u.there b o e (by simp)) u.tups u.frzs u.tbls (fun m' hm=>by
  obtain ⟨o',es',ep',ho',r'⟩:=hm
  rw [ho] at ho';cases ho'
  exact ⟨_,es',ep',hL,r'⟩) hok I.bare
theorem Inv.call {g':Array GenState} {t':Nat} {d':Drawn} {ch:List Addr} (I:Inv X pins σ H s) (u:Un (gG X.stack) ch H H' s.heap h') (hok:eG X.prog X.w H' h') (hg:AllBare g')
  (hch:∀ b∈ch,(b∈X.ex\/X.s₀.heap.objs.size<=b)/\b≠X.env.locals/\(∀ x c,X.env.cells.lookup x=some c->c≠b)/\∀ p∈X.pn++pins,p.1≠b) :
  Inv X pins σ H' { s with heap:=h',gens:=g',drawn:=d',toks:=t' }:=by
 obtain ⟨m,⟨o,es,ep,ho,r⟩,_⟩:=id I.loc
 obtain ⟨sl,hL⟩:=u.any ho I.free fun z=>(hch _ z).2.1 rfl
 exact I.step (ch:=ch) hch (fun b o hL hb hc e n=>u.keep b o e n (fun z=>(List.mem_cons.mp (I.stkSub b z)).elim hL hb) hc) (fun b o _ _ hc e n=>u.any e n hc) (fun b o hc e n=>u.free b o e n hc) (fun b o hc e=>u.there b o e hc) u.tups u.frzs u.tbls (fun m' hm=>by
  obtain ⟨o',es',ep',ho',r'⟩:=hm
  rw [ho] at ho';cases ho'
  exact ⟨_,es',ep',hL,r'⟩) hok hg
theorem Inv.turned {t':Nat} {it:Addr} (I:Inv X pins σ H s) (k:∀ b o,b≠it->s.heap.get? b=some o->h'.get? b=some o) (hn:H it=none) (hL:it≠X.env.locals)
  (h1:it∈X.ex\/X.s₀.heap.objs.size<=it) (h2:∀ x c,X.env.cells.lookup x=some c->c≠it) (h3:∀ p∈X.pn++pins,p.1≠it):Inv X pins σ H { s with heap:=h',toks:=t' }:=by
 have nit:∀ b u,H b=some u->b≠it:=fun b u e z=>by rw [z,hn] at e;cases e
 refine I.step (g':=s.gens) (d':=s.drawn) (ch:=[it]) (fun b hb=>?_) (fun b o _ _ hc e _=>k b o (fun z=>hc (by simp [z])) e) (fun b o _ _ hc e _=>⟨o.slots,k b o (fun z=>hc (by simp [z])) e⟩) (fun _ _ _ _ n=>n)
  (fun b o hc e=>⟨o,k b o (fun z=>hc (by simp [z])) e⟩) (fun _ _ e=>e) (fun _ _ _ e=>e) (fun b ps e=>⟨#[],by rw [e];simp⟩) (fun m hm=>?_) (fun b u e=>?_) I.bare
 ·have e:b=it:=by simpa using hb
  subst e
  exact ⟨h1,hL,h2,h3⟩
 ·obtain ⟨o,es,ep,ho,r⟩:=hm
  exact ⟨o,es,ep,k _ o (Ne.symm hL) ho,r⟩
 ·refine (I.hok b u e).stay (fun c v hc q=>k c v ?_ q) (fun _ q=>q) fun _ _ q=>q
  rcases hc with z | z
  ·rw [z];exact nit b u e
  ·exact nit c _ z
theorem Inv.tok (I:Inv X pins σ H s) (t:Nat):Inv X pins σ H { s with toks:=t }:=I.un (h':=s.heap) (t':=t) Un.refl I.hok
theorem Inv.kept {t':Nat} (I:Inv X pins σ H s) (k:∀ b u,s.heap.get? b=some u->h'.get? b=some u):Inv X pins σ H { s with heap:=h',toks:=t' }:=I.un (Un.kept k) (I.hok.kept k)
theorem Inv.laid {a:Addr} {o:HO} {t':Nat} (I:Inv X pins σ H s) (k:∀ b u,s.heap.get? b=some u->h'.get? b=some u) (hp:s.heap.objs.size<=a) (new:dI X.prog X.w (upd H a o) h' a o) :
  Inv X pins σ (upd H a o) { s with heap:=h',toks:=t' }:=I.un (Un.laid k hp (I.hok.fresh hp)) (I.hok.laid k hp new)
theorem Inv.write {x e:Addr} {o:HO} {t':Nat} (I:Inv X pins σ H s) (mu:Ki (H x)) (he:e=x\/H e=some (.own x)) (k:∀ b u,b≠e->s.heap.get? b=some u->h'.get? b=some u) (heo:∃ u,h'.get? e=some u)
  (new:dI X.prog X.w (upd H x o) h' x o):Inv X pins σ (upd H x o) { s with heap:=h',toks:=t' }:=I.un (Un.write mu he k heo) (I.hok.write mu he k heo new)
theorem Inv.weak {σ':List (Option V)} (I:Inv X pins σ H s) (hl:σ'.length=σ.length) (w:∀ (i:Nat) v,σ'[i]?=some (some v)->σ[i]?=some (some v)):Inv X pins σ' H s :=
 ⟨I.ok,I.os,I.bare,I.base,let ⟨m,hn,hl'⟩:=I.loc;⟨m,hn,fun i x v e1 e2 e3=>hl' i x v e1 (w i v e2) e3⟩,I.cell,I.free,I.freeC,I.pin,I.hok,hl.trans I.len⟩
theorem Inv.pins_of {pins':List (Addr × Obj)} (I:Inv X pins σ H s) (h:∀ p∈pins',s.heap.get? p.1=some p.2/\H p.1=none/\p.1≠X.env.locals/\p.1 ∉ X.fs/\∀ v,p.2.data≠.cell v):Inv X pins' σ H s :=
 ⟨I.ok,I.os,I.bare,I.base,I.loc,I.cell,I.free,I.freeC,fun p hp=>(List.mem_append.mp hp).elim (fun z=>I.pin p (List.mem_append_left _ z)) (h p),I.hok,I.len⟩
theorem Az {N:List Str} (hN:N.Nodup) {i j:Nat} {x:Str} (a:N[i]?=some x) (b:N[j]?=some x):i=j:=by
 obtain ⟨h1,e1⟩:=List.getElem?_eq_some_iff.mp a
 obtain ⟨h2,e2⟩:=List.getElem?_eq_some_iff.mp b
 exact (List.getElem_inj hN).mp (e1.trans e2.symm)
theorem CQ {M:Model} {A:Around} {E:Value->Shared->Prop} {i:Nat} {x:Str} {v:V} {u:Value} {Q:Unit->Shared->Prop} (I:Inv X pins σ H s) (hN:X.N.Nodup) (hi:X.N[i]?=some x) (hx:Loc X.env.scope x) (r:RelV v u)
  (h:∀ s',Inv X pins (σ.set i (some v)) H s'->(∃ a,Heap.SameBut a s.heap s'.heap/\(a=X.env.locals\/X.env.cells.lookup x=some a))->Q () s') (hf:X.fn x=true\/X.env.scope.names.lookup x=some .local:=by first | exact .inl rfl | exact .inr rfl | assumption):wpAny M A (storeName X.env x u) Q E s:=by
 obtain ⟨m,hn,hl⟩:=id I.loc
 have hcls:(X.env.scope.kind == .class || (X.env.scope.kind == .module && X.env.locals != X.env.globals))=false:=by rw [I.ok.kind];rfl
 have hiσ:i < σ.length:=by rw [I.len];exact (List.getElem?_eq_some_iff.mp hi).1
 have cne:=I.cne
 have tracked:∀ {a:Addr} {h':Heap},(∃ o,s.heap.get? a=some o/\H a=none)->Heap.SameBut a s.heap h'->eG X.prog X.w H h':=fun {a h'} ha hs b ob e=>by
  obtain ⟨_,_,hfree⟩:=ha
  refine (I.hok b ob e).stay (fun c w' hc q=>(hs.2 c ?_).trans q) (fun _ q=>q) fun _ _ q=>q
  rintro rfl
  rcases hc with rfl | hc
  ·rw [hfree] at e;cases e
  ·rw [hfree] at hc;cases hc
 rcases hx with hk | hk
 ·refine wpAny_storeName_local hk hn (fun h' hn' hs=>?_) hcls
  obtain ⟨oL,_,_,hoL,_⟩:=id hn
  refine h _ ⟨I.ok,I.os,I.bare,⟨fun b o e n hb hx=>?_,fun b o e n hb hx=>?_,I.base.free,fun b o e hx=>?_,I.base.tups,I.base.frzs,I.base.tbls⟩,⟨_,hn',fun j y v' e1 e2 e3=>?_⟩,fun y c e=>?_,I.free,I.freeC,fun p hp=>?_,tracked ⟨oL,hoL,I.free⟩ hs,by simpa using I.len⟩ ⟨_,hs,.inl rfl⟩
  ·exact (hs.2 b (Nat.ne_of_lt (Nat.lt_of_lt_of_le (Heap.lt_size e) I.ok.above))).trans (I.base.keep b o e n hb hx)
  ·obtain ⟨sl,e1⟩:=I.base.slot b o e n hb hx
   exact ⟨sl,(hs.2 b (Nat.ne_of_lt (Nat.lt_of_lt_of_le (Heap.lt_size e) I.ok.above))).trans e1⟩
  ·obtain ⟨o',e1⟩:=I.base.there b o e hx
   exact ⟨o',(hs.2 b (Nat.ne_of_lt (Nat.lt_of_lt_of_le (Heap.lt_size e) I.ok.above))).trans e1⟩
  ·by_cases hj:j=i
   ·subst hj
    rw [hi] at e1;cases e1
    rw [List.getElem?_set_self hiσ] at e2
    cases e2
    exact ⟨u,r,.inl ⟨hk,by simp⟩⟩
   ·rw [List.getElem?_set_ne (Ne.symm hj)] at e2
    obtain ⟨u',r',q⟩:=hl j y v' e1 e2 e3
    refine ⟨u',r',?_⟩
    rcases q with ⟨k,e⟩ | ⟨k,c,e,z⟩
    ·refine .inl ⟨k,?_⟩
     have:y≠x:=fun e=>hj (Az hN e1 (e ▸ hi))
     simp [this,e]
    ·exact .inr ⟨k,c,e,z.sameBut hs (cne y c e)⟩
  ·obtain ⟨w',z⟩:=I.cell y c e
   exact ⟨w',z.sameBut hs (cne y c e)⟩
  ·obtain ⟨e,n,ne,nf,d⟩:=I.pin p hp
   exact ⟨(hs.2 p.1 ne).trans e,n,ne,nf,d⟩
 ·have hfn:X.fn x=true:=by
   rcases hf with z | z
   ·exact z
   ·rw [z] at hk;cases hk
  obtain ⟨c,hc⟩:=I.ok.has x (.inl hk)
  obtain ⟨w',z⟩:=I.cell x c hc
  refine wpAny_storeName_cell I.ok.kind hk hc z (fun h' hc' hs=>?_)
  obtain ⟨oc,hoc,hocd⟩:=id z
  refine h { s with heap:=h' } ⟨I.ok,I.os,I.bare,⟨fun b o e n hb hx=>?_,fun b o e n hb hx=>?_,I.base.free,fun b o e hx=>?_,I.base.tups,I.base.frzs,I.base.tbls⟩,⟨m,hn.sameBut hs (Ne.symm (cne x c hc)),fun j y v' e1 e2 e3=>?_⟩,fun y c' e=>?_,I.free,I.freeC,fun p hp=>?_,tracked ⟨oc,hoc,I.freeC x c hc⟩ hs,by simpa using I.len⟩ ⟨c,hs,.inr hc⟩
  ·exact (hs.2 b (Nat.ne_of_lt (Nat.lt_of_lt_of_le (Heap.lt_size e) (I.ok.cab x c hfn hc)))).trans (I.base.keep b o e n hb hx)
  ·obtain ⟨sl,e1⟩:=I.base.slot b o e n hb hx
   exact ⟨sl,(hs.2 b (Nat.ne_of_lt (Nat.lt_of_lt_of_le (Heap.lt_size e) (I.ok.cab x c hfn hc)))).trans e1⟩
  ·obtain ⟨o',e1⟩:=I.base.there b o e hx
   exact ⟨o',(hs.2 b (Nat.ne_of_lt (Nat.lt_of_lt_of_le (Heap.lt_size e) (I.ok.cab x c hfn hc)))).trans e1⟩
  ·by_cases hj:j=i
   ·subst hj
    rw [hi] at e1;cases e1
    rw [List.getElem?_set_self hiσ] at e2
    cases e2
    exact ⟨u,r,.inr ⟨.inl hk,c,hc,hc'⟩⟩
   ·rw [List.getElem?_set_ne (Ne.symm hj)] at e2
    obtain ⟨u',r',q⟩:=hl j y v' e1 e2 e3
    refine ⟨u',r',?_⟩
    rcases q with q | ⟨k,c',e,z'⟩
    ·exact .inl q
    ·refine .inr ⟨k,c',e,z'.sameBut hs ?_⟩
     rintro rfl
     exact hj (Az hN e1 (I.ok.inj _ _ _ e hc ▸ hi))
  ·by_cases hcc:c'=c
   ·subst hcc;exact ⟨_,hc'⟩
   ·obtain ⟨w2,z2⟩:=I.cell y c' e
    exact ⟨w2,z2.sameBut hs hcc⟩
  ·obtain ⟨e,n,ne,nf,d⟩:=I.pin p hp
   refine ⟨(hs.2 p.1 ?_).trans e,n,ne,nf,d⟩
   intro q
   rw [q,hoc] at e
   have q':oc=p.2:=Option.some.inj e
   exact d w' (by rw [<- q'];exact hocd)
theorem vD {M:Model} {A:Around} {E:Value->Shared->Prop} {i:Nat} {x:Str} {v:V} {u:Value} {Q:Unit->Shared->Prop} (I:Inv X pins σ H s) (hN:X.N.Nodup) (hi:X.N[i]?=some x) (hx:Loc X.env.scope x) (r:RelV v u)
  (h:∀ s',Inv X pins (σ.set i (some v)) H s'->Q () s') (hf:X.fn x=true\/X.env.scope.names.lookup x=some .local:=by first | exact .inl rfl | exact .inr rfl | assumption):wpAny M A (storeName X.env x u) Q E s :=
 CQ I hN hi hx r (fun s' I' _=>h s' I') hf
theorem Inv.call' {s':Shared} {ch:List Addr} (I:Inv X pins σ H s) (ho:s'.os=s.os) (u:Un (gG X.stack) ch H H' s.heap s'.heap) (hok:eG X.prog X.w H' s'.heap) (hg:AllBare s'.gens)
  (hch:∀ b∈ch,(b∈X.ex\/X.s₀.heap.objs.size<=b)/\b≠X.env.locals/\(∀ x c,X.env.cells.lookup x=some c->c≠b)/\∀ p∈X.pn++pins,p.1≠b):Inv X pins σ H' s':=by
 obtain ⟨h',g',d',t',o'⟩:=s'
 have e:o'=s.os:=ho
 subst e
 exact I.call (g':=g') (t':=t') (d':=d') u hok hg hch
end
abbrev XK:=Value->Option Addr->Hp->Prop
abbrev St:=List (Option V)
abbrev VK:=V->Hp->Prop
abbrev TE:=St->Hp->VK->Prop
abbrev TT:=St->Hp->(Bool->Hp->Prop)->Prop
abbrev TA:=St->Hp->(List V->Hp->Prop)->Prop
structure Ends where
 nx:St->Hp->Prop
 rt:VK
 bk:St->Hp->Prop:=fun _ _=>False
 ct:St->Hp->Prop:=fun _ _=>False
abbrev TS:=Ends->St->Hp->Prop
def EP (X:Cx) (pins:List (Addr × Obj)) (σ:St) (Q:VK) (u:Value) (s':Shared):Prop:=∃ v H',Inv X pins σ H' s'/\RelV v u/\Q v H'
def TP (X:Cx) (pins:List (Addr × Obj)) (σ:St) (Q:Bool->Hp->Prop) (b:Bool) (s':Shared):Prop:=∃ H',Inv X pins σ H' s'/\Q b H'
def AP (X:Cx) (pins:List (Addr × Obj)) (σ:St) (Q:List V->Hp->Prop) (us:List Value) (s':Shared):Prop:=∃ vs H',Inv X pins σ H' s'/\Vals vs us/\Q vs H'
def SP (X:Cx) (pins:List (Addr × Obj)) (D:Ends) (f:Flow) (s':Shared):Prop :=
 match f with
 | .next=>∃ σ' H',Inv X pins σ' H' s'/\D.nx σ' H'
 | .brk=>∃ σ' H',Inv X pins σ' H' s'/\D.bk σ' H'
 | .cont=>∃ σ' H',Inv X pins σ' H' s'/\D.ct σ' H'
 | .ret u=>∃ v σ' H',Inv X pins σ' H' s'/\RelV v u/\D.rt v H'
def PE (X:Cx) (e:Expr) (t:TE):Prop :=
 ∀ (pins:List (Addr × Obj)) (s:Shared) (σ:St) (H:Hp) (Q:VK),Inv X pins σ H s->t σ H Q->wpAny (model X.prog X.w) X.A (eval e X.env) (EP X pins σ Q) X.xe s
def PT (X:Cx) (e:Expr) (t:TT):Prop :=
 ∀ (pins:List (Addr × Obj)) (s:Shared) (σ:St) (H:Hp) (Q:Bool->Hp->Prop),Inv X pins σ H s->t σ H Q->wpAny (model X.prog X.w) X.A (isTrue e X.env (eval e X.env)) (TP X pins σ Q) X.xe s
def PW (X:Cx) (e:Expr) (t:TT):Prop :=
 ∀ (whole:Sem Value) (pins:List (Addr × Obj)) (s:Shared) (σ:St) (H:Hp) (Q:Bool->Hp->Prop),Inv X pins σ H s->t σ H Q->wpAny (model X.prog X.w) X.A (isTrue e X.env whole) (TP X pins σ Q) X.xe s
theorem PW.pt {X:Cx} {e:Expr} {t:TT} (h:PW X e t):PT X e t:=h _
def PA (X:Cx) (es:List Expr) (t:TA):Prop :=
 ∀ (pos:Pos) (pins:List (Addr × Obj)) (s:Shared) (σ:St) (H:Hp) (Q:List V->Hp->Prop),Inv X pins σ H s->t σ H Q->wpAny (model X.prog X.w) X.A (spliced (backTo pos (starEach es X.env))) (AP X pins σ Q) X.xe s
def PS (X:Cx) (st:Stmt) (t:TS):Prop :=
 ∀ (pins:List (Addr × Obj)) (s:Shared) (σ:St) (H:Hp) (D:Ends),Inv X pins σ H s->t D σ H->wpAny (model X.prog X.w) X.A (exec st X.env) (SP X pins D) X.xe s
def mZ (X:Cx) (st:List Stmt) (t:TS):Prop :=
 ∀ (pins:List (Addr × Obj)) (s:Shared) (σ:St) (H:Hp) (D:Ends),Inv X pins σ H s->t D σ H->wpAny (model X.prog X.w) X.A (execs st X.env) (SP X pins D) X.xe s
theorem bB {α:Type} {t:Sem α} {Q Q':α->Shared->Prop} {M:Model} {A:Around} {E:Value->Shared->Prop} {s:Shared} (h:wpAny M A t Q E s) (hQ:∀ a s,Q a s->Q' a s):wpAny M A t Q' E s:=wpAny_mono h hQ fun _ _ x=>x
section
variable {X:Cx}
theorem bin {a b:Expr} {ta tb:TE} (ha:PE X a ta) (hb:PE X b tb) {pins:List (Addr × Obj)} {s:Shared} {σ:St} {H:Hp} {R:V->V->Hp->Prop} (I:Inv X pins σ H s) (h:ta σ H fun x H1=>tb σ H1 fun y H2=>R x y H2)
  {α:Type} {Q:α->Shared->Prop} {f:Value->Value->Sem α}
  (hf:∀ v u s2 x y H2,Inv X pins σ H2 s2->RelV x v->RelV y u->R x y H2->wpAny (model X.prog X.w) X.A (f v u) Q X.xe s2) :
  wpAny (model X.prog X.w) X.A (eval a X.env) (fun v s₁=>wpAny (model X.prog X.w) X.A (eval b X.env) (fun u s₂=>wpAny (model X.prog X.w) X.A (f v u) Q X.xe s₂) X.xe s₁) X.xe s:=by
 refine bB (ha pins s σ H _ I h) fun v s1 ⟨x,H1,I1,r1,q1⟩=>?_
 refine bB (hb pins s1 σ H1 _ I1 q1) fun u s2 ⟨y,H2,I2,r2,q2⟩=>?_
 exact hf v u s2 x y H2 I2 r1 r2 q2
def tL (i:Nat):TE:=fun σ H Q=>∃ v,σ[i]?=some (some v)/\Q v H
def tC (v:V):TE:=fun _ H Q=>Q v H
theorem nH {i:Nat} {x:Str} {pos:Pos} (hN:X.N[i]?=some x) (hv:A7 X.env.scope x) (hd:(x == ("__debug__":Str))=false:=by decide) (hcd:(x == ("__classdict__":Str))=false:=by decide):PE X (.Name x pos) (tL i):=by
 intro pins s σ H Q I h
 obtain ⟨v,e,h⟩:=h
 obtain ⟨m,hn,hl⟩:=I.loc
 obtain ⟨u,r,l⟩:=hl i x v hN e hv
 have fin:EP X pins σ Q u s:=⟨v,H,I,r,h⟩
 rcases l with ⟨hk,hm⟩ | ⟨hk,c,hc,hcell⟩
 ·exact wpAny_Name (wpAny_loadName_local I.ok.kind hk hn hm fin) hd
 ·rcases hk with hk | hk
  ·exact wpAny_Name (wpAny_loadName_cell I.ok.kind hk hc hcell fin) hd
  ·exact wpAny_Name (wpAny_loadName_free I.ok.kind hk hc hcell fin hcd) hd
theorem T7 {i j pos}:PE X (.Constant (.int i) j pos) (tC (.int i)):=fun _ _ _ H _ I h=>wpAny_Constant_int ⟨.int i,H,I.tok _,⟨_,rfl⟩,h⟩
theorem VG {b j pos}:PE X (.Constant (.bool b) j pos) (tC (.bl b)):=fun _ _ _ H _ I h=>Constant_bool ⟨.bl b,H,I,rfl,h⟩
theorem SN {j pos}:PE X (.Constant .none j pos) (tC .non):=fun _ _ _ H _ I h=>Constant_none ⟨.non,H,I,rfl,h⟩
theorem KU {x j pos}:PE X (.Constant (.str x) j pos) (tC (.str x)):=fun _ _ _ H _ I h=>Calls.Constant_str ⟨.str x,H,I.tok _,⟨_,rfl⟩,h⟩
def Gl (X:Cx) (x:Str):Prop:=X.env.kindOf x=some .globalImplicit
theorem lK {E:Value->Shared->Prop} {pins:List (Addr × Obj)} {s:Shared} {σ:St} {H:Hp} {x:Str} {u:Value} {pos:Pos} {Q:Value->Shared->Prop} (I:Inv X pins σ H s) (hg:Gl X x) (hm:X.mg x=some u) (h:Q u s)
  (hd:(x == ("__debug__":Str))=false:=by decide):wpAny (model X.prog X.w) X.A (eval (.Name x pos) X.env) Q E s :=
 Calls.Name_function_global I.ok.kind hg (Calls.loadGlobal_global (by rw [I.ok.glob];exact I.mod.glob.keeps I.bk) hm h) hd
theorem nI {E:Value->Shared->Prop} {pins:List (Addr × Obj)} {s:Shared} {σ:St} {H:Hp} {x:Str} {u:Value} {pos:Pos} {Q:Value->Shared->Prop} (I:Inv X pins σ H s) (hg:Gl X x) (hm:X.mg x=none) (hv:bootBuiltins x=some u) (h:Q u s)
  (hn:x≠"__name__":=by decide) (hd:(x == ("__debug__":Str))=false:=by decide):wpAny (model X.prog X.w) X.A (eval (.Name x pos) X.env) Q E s:=by
 obtain ⟨mb,h1,h2⟩:=I.mod.blt
 exact Calls.Name_function_global I.ok.kind hg (Calls.loadGlobal_builtin (by rw [I.ok.glob];exact I.mod.glob.keeps I.bk) hm (by rw [I.ok.blt];exact h1.keeps I.bk) ((h2 x hn).trans hv) h) hd
theorem Cb {x:Str} {v:V} {u:Value} {pos:Pos} (hg:Gl X x) (hm:X.mg x=some u) (r:RelV v u) (hd:(x == ("__debug__":Str))=false:=by decide):PE X (.Name x pos) (tC v) :=
 fun _ _ _ H _ I h=>lK I hg hm ⟨v,H,I,r,h⟩ hd
theorem RN {x:Str} {v:V} {u:Value} {pos:Pos} (hg:Gl X x) (hm:X.mg x=none) (hv:bootBuiltins x=some u) (r:RelV v u) (hn:x≠"__name__":=by decide) (hd:(x == ("__debug__":Str))=false:=by decide):PE X (.Name x pos) (tC v) :=
 fun _ _ _ H _ I h=>nI I hg hm hv ⟨v,H,I,r,h⟩ hn hd
def Xc (ta tb:TE) (k:Int->Int->Hp->Prop):St->Hp->Prop:=fun σ H=>ta σ H fun x H1=>tb σ H1 fun y H2=>∃ i j,x=.int i/\y=.int j/\k i j H2
variable {a b:Expr} {ta tb:TE} {pos:Pos}
def BL (p:Int->Int->Bool) (ta tb:TE):TE:=fun σ H Q=>Xc ta tb (fun i j H2=>Q (.bl (p i j)) H2) σ H
abbrev Xy:TE->TE->TE:=BL fun i j=>decide (i < j)
abbrev XD:TE->TE->TE:=BL fun i j=>decide (i<=j)
abbrev XB:TE->TE->TE:=BL fun i j=>decide (j < i)
abbrev Xz:TE->TE->TE:=BL fun i j=>decide (j<=i)
abbrev Xr:TE->TE->TE:=BL fun i j=>decide (i=j)
abbrev Xu:TE->TE->TE:=BL fun i j=>!decide (i=j)
variable {tA tB':TT} {rest:List Expr}
def Tw (t u:TT):TT:=fun σ H Q=>t σ H fun c H1=>if c=true then u σ H1 Q else Q false H1
def Wx (t u:TT):TT:=fun σ H Q=>t σ H fun c H1=>if c=true then Q true H1 else u σ H1 Q
def UM (t:TT):TT:=fun σ H Q=>t σ H fun c H1=>Q (!c) H1
theorem Rz (ha:PT X a tA):PW X (.BoolOp .And [a] pos) tA:=by
 intro wh pins s σ H Q I h
 refine isTrue_and (bB (ha pins s σ H Q I h) fun c s1 e=>?_)
 cases c with
 | true=>exact isTrue_and_nil e
 | false=>exact e
theorem Tf (ha:PT X a tA):PW X (.BoolOp .Or [a] pos) tA:=by
 intro wh pins s σ H Q I h
 refine isTrue_or (bB (ha pins s σ H Q I h) fun c s1 e=>?_)
 cases c with
 | false=>exact isTrue_or_nil e
 | true=>exact e
theorem Tc (ha:PT X a tA) (hb:PW X (.BoolOp .And (b :: rest) pos) tB'):PW X (.BoolOp .And (a :: b :: rest) pos) (Tw tA tB'):=by
 intro wh pins s σ H Q I h
 refine isTrue_and (bB (ha pins s σ H _ I h) fun c s1 ⟨H1,I1,q1⟩=>?_)
 cases c with
 | true=>exact hb wh pins s1 σ H1 Q I1 q1
 | false=>exact ⟨H1,I1,q1⟩
theorem VF (ha:PT X a tA) (hb:PW X (.BoolOp .Or (b :: rest) pos) tB'):PW X (.BoolOp .Or (a :: b :: rest) pos) (Wx tA tB'):=by
 intro wh pins s σ H Q I h
 refine isTrue_or (bB (ha pins s σ H _ I h) fun c s1 ⟨H1,I1,q1⟩=>?_)
 cases c with
 | true=>exact ⟨H1,I1,q1⟩
 | false=>exact hb wh pins s1 σ H1 Q I1 q1
theorem UX (ha:PT X a tA):PT X (.UnaryOp .Not a pos) (UM tA):=by
 intro pins s σ H Q I h
 exact isTrue_not (ha pins s σ H (fun c H1=>Q (!c) H1) I h)
def Px (ta tb:TE):TE:=fun σ H Q=>ta σ H fun x H1=>∃ c,x=.bl c/\if c=true then tb σ H1 Q else Q (.bl false) H1
def Uv (ta tb:TE):TE:=fun σ H Q=>ta σ H fun x H1=>∃ c,x=.bl c/\if c=true then Q (.bl true) H1 else tb σ H1 Q
def Pa (ta:TE):TE:=fun σ H Q=>ta σ H fun x H1=>∃ c,x=.bl c/\Q (.bl (!c)) H1
theorem Vs {op} {t:TE} (h:PE X a t):PE X (.BoolOp op [a] pos) t:=fun pins s σ H Q I hw=>BoolOp_one (h pins s σ H Q I hw)
theorem Va (ha:PE X a ta) (hb:PE X (.BoolOp .And (b :: rest) pos) tb):PE X (.BoolOp .And (a :: b :: rest) pos) (Px ta tb):=by
 intro pins s σ H Q I h
 refine BoolOp_and (bB (ha pins s σ H _ I h) fun v s1 ⟨x,H1,I1,r1,q1⟩=>?_)
 obtain ⟨c,rfl,q1⟩:=q1
 cases r1
 refine wpAny_truthy_bool ?_
 cases c with
 | true=>exact hb pins s1 σ H1 Q I1 q1
 | false=>exact ⟨.bl false,H1,I1,rfl,q1⟩
theorem VS (ha:PE X a ta) (hb:PE X (.BoolOp .Or (b :: rest) pos) tb):PE X (.BoolOp .Or (a :: b :: rest) pos) (Uv ta tb):=by
 intro pins s σ H Q I h
 refine BoolOp_or (bB (ha pins s σ H _ I h) fun v s1 ⟨x,H1,I1,r1,q1⟩=>?_)
 obtain ⟨c,rfl,q1⟩:=q1
 cases r1
 refine wpAny_truthy_bool ?_
 cases c with
 | false=>exact hb pins s1 σ H1 Q I1 q1
 | true=>exact ⟨.bl true,H1,I1,rfl,q1⟩
theorem S3 (ha:PE X a ta):PE X (.UnaryOp .Not a pos) (Pa ta):=by
 intro pins s σ H Q I h
 refine UnaryOp_ (bB (ha pins s σ H _ I h) fun v s1 ⟨x,H1,I1,r1,q1⟩=>?_)
 obtain ⟨c,rfl,q1⟩:=q1
 cases r1
 exact not_of (wpAny_truthy_bool ⟨.bl (!c),H1,I1,rfl,q1⟩)
def WG (t:TT) (ta tb:TE):TE:=fun σ H Q=>t σ H fun c H1=>if c=true then ta σ H1 Q else tb σ H1 Q
theorem Og {c:Expr} (hc:PT X c tA) (ha:PE X a ta) (hb:PE X b tb):PE X (.IfExp c a b pos) (WG tA ta tb):=by
 intro pins s σ H Q I h
 refine wpAny_IfExp (bB (hc pins s σ H _ I h) fun d s1 ⟨H1,I1,q1⟩=>?_)
 cases d with
 | true=>exact ha pins s1 σ H1 Q I1 q1
 | false=>exact hb pins s1 σ H1 Q I1 q1
end
def fB (K:PySem.W.Frag) (H:Hp) (a:Addr) (xs:List V):Prop :=
 Rd H a (.lst xs) \/
  ∃ (o:Obj) (its:Array Value) (n:Nat),K.lookup a=some o/\o.cls=.type "list"/\o.dict=none/\o.data=.seq its n/\its.size<=sizeLine/\Vals xs its.toList
def gI (K:PySem.W.Frag) (H:Hp) (a:Addr) (xs:List V):Prop :=
 Rd H a (.tup xs) \/
  ∃ (o:Obj) (its:Array Value) (n:Nat),K.lookup a=some o/\o.cls=.type "tuple"/\o.dict=none/\o.data=.seq its n/\its.size<=sizeLine/\Vals xs its.toList
def W6:Value->Option V
 | .none=>some .non
 | .bool b=>some (.bl b)
 | .int i _=>some (.int i)
 | .str x _=>some (.str x)
 | .bytes b _=>some (.byt b)
 | .float b _=>some (.flt b)
 | .ref a=>some (.ref a)
 | .type n=>some (.ty n)
 | _=>none
theorem RelV.abs {x:V} {u:Value} (r:RelV x u):W6 u=some x:=by
 cases x with
 | non=>cases r;rfl
 | bl _=>cases r;rfl
 | int _=>obtain ⟨t,rfl⟩:=r;rfl
 | str _=>obtain ⟨t,rfl⟩:=r;rfl
 | byt _=>obtain ⟨t,rfl⟩:=r;rfl
 | flt _=>obtain ⟨t,rfl⟩:=r;rfl
 | ref _=>cases r;rfl
 | ty _=>cases r;rfl
theorem RelV.inj {x y:V} {u:Value} (r:RelV x u) (q:RelV y u):x=y:=Option.some.inj (r.abs.symm.trans q.abs)
theorem Vals.inj:∀ {xs ys:List V} {us:List Value},Vals xs us->Vals ys us->xs=ys
 | _,_,_,.nil,.nil=>rfl
 | _,_,_,.cons r t,.cons r' t'=>by rw [r.inj r',Vals.inj t t']
section
variable {X:Cx} {pins:List (Addr × Obj)} {σ:St} {H:Hp} {s:Shared} {a:Addr} {xs ys:List V}
theorem Inv.list (I:Inv X pins σ H s) (h:fB X.K H a xs):∃ its:List Value,Vals xs its/\PlainL s.heap a its.toArray/\xs.length<=sizeLine:=by
 rcases h with h | ⟨o,its,n,hk,hc,hd,hs,hz,r⟩
 ·obtain ⟨z,its,n,r,e⟩:=h.ok I.hok
  exact ⟨its,r,⟨_,n,e,rfl,rfl,rfl⟩,z⟩
 ·refine ⟨its.toList,r,⟨o,n,I.kIn a o hk,hc,hd,by simpa using hs⟩,?_⟩
  have e:=r.length
  simp only [Array.length_toList] at e
  omega
theorem Inv.tupleP (I:Inv X pins σ H s) (h:gI X.K H a xs):∃ its:List Value,Vals xs its/\iC s.heap a its.toArray/\xs.length<=sizeLine:=by
 rcases h with h | ⟨o,its,n,hk,hc,hd,hs,hz,r⟩
 ·obtain ⟨z,its,r,p⟩:=h.ok I.hok
  exact ⟨its,r,p,z⟩
 ·refine ⟨its.toList,r,⟨o,I.kIn a o hk,hc,hd,n,by simpa using hs⟩,?_⟩
  have e:=r.length
  simp only [Array.length_toList] at e
  omega
theorem Inv.tuple (I:Inv X pins σ H s) (h:gI X.K H a xs):∃ its:List Value,Vals xs its/\IsTup s.heap a its.toArray/\xs.length<=sizeLine:=by
 obtain ⟨its,r,p,z⟩:=I.tupleP h
 exact ⟨its,r,p.tup,z⟩
theorem Inv.list_inj (I:Inv X pins σ H s) (h:fB X.K H a xs) (h':fB X.K H a ys):xs=ys:=by
 obtain ⟨its,r,⟨o,n,e,_,_,d⟩,_⟩:=I.list h
 obtain ⟨its',r',⟨o',n',e',_,_,d'⟩,_⟩:=I.list h'
 rw [e] at e';cases e'
 rw [d] at d'
 injection d' with d1 _
 have:its=its':=by simpa using congrArg Array.toList d1
 subst this
 exact r.inj r'
theorem Inv.tuple_inj (I:Inv X pins σ H s) (h:gI X.K H a xs) (h':gI X.K H a ys):xs=ys:=by
 obtain ⟨its,r,⟨o,e,_,n,d⟩,_⟩:=I.tuple h
 obtain ⟨its',r',⟨o',e',_,n',d'⟩,_⟩:=I.tuple h'
 rw [e] at e';cases e'
 rw [d] at d'
 injection d' with d1 _
 have:its=its':=by simpa using congrArg Array.toList d1
 subst this
 exact r.inj r'
end
abbrev Cx.wish (X:Cx) (E:Value->Shared->Prop):Cx:={ X with xe:=E }
abbrev Cx.nox (X:Cx):Cx:=X.wish fun _ _=>False
theorem Cx.Ok.wish {X:Cx} (ok:X.Ok) (E:Value->Shared->Prop):(X.wish E).Ok :=
 ⟨ok.mod,ok.kind,ok.glob,ok.blt,ok.above,ok.inj,ok.has,ok.cab,ok.hd,ok.frames,ok.stk,ok.exf,ok.bs,ok.bsz,ok.noex,ok.exfs,ok.funs,ok.frf⟩
theorem Cx.Ok.unwish {X:Cx} {E:Value->Shared->Prop} (ok:(X.wish E).Ok):X.Ok :=
 ⟨ok.mod,ok.kind,ok.glob,ok.blt,ok.above,ok.inj,ok.has,ok.cab,ok.hd,ok.frames,ok.stk,ok.exf,ok.bs,ok.bsz,ok.noex,ok.exfs,ok.funs,ok.frf⟩
section
variable {X:Cx} {pins:List (Addr × Obj)} {σ:St} {H:Hp} {s:Shared} {E:Value->Shared->Prop}
theorem Inv.wish (I:Inv X pins σ H s) (E:Value->Shared->Prop):Inv (X.wish E) pins σ H s:=⟨I.ok.wish E,I.os,I.bare,I.base,I.loc,I.cell,I.free,I.freeC,I.pin,I.hok,I.len⟩
theorem Inv.unwish (I:Inv (X.wish E) pins σ H s):Inv X pins σ H s:=⟨I.ok.unwish,I.os,I.bare,I.base,I.loc,I.cell,I.free,I.freeC,I.pin,I.hok,I.len⟩
theorem SP.unwish {D:Ends} {f:Flow} {s':Shared} (h:SP (X.wish E) pins D f s'):SP X pins D f s':=by
 cases f with
 | next=>obtain ⟨σ',H',I,q⟩:=h;exact ⟨σ',H',I.unwish,q⟩
 | brk=>obtain ⟨σ',H',I,q⟩:=h;exact ⟨σ',H',I.unwish,q⟩
 | cont=>obtain ⟨σ',H',I,q⟩:=h;exact ⟨σ',H',I.unwish,q⟩
 | ret u=>obtain ⟨v,σ',H',I,r,q⟩:=h;exact ⟨v,σ',H',I.unwish,r,q⟩
theorem mZ.nox {st:List Stmt} {t:TS} (h:mZ X.nox st t):mZ X st t:=fun pins s σ H D I hw =>
 wpAny_mono (h pins s σ H D (I.wish _) hw) (fun _ _ q=>q.unwish) fun _ _ z=>False.elim z
end
section
variable {X:Cx} {st:Stmt} {rest:List Stmt} {t u:TS} {e:Expr} {te:TE} {pos:Pos}
def O8:TS:=fun D σ H=>D.nx σ H
def Uy (t u:TS):TS:=fun D σ H=>t { D with nx:=u D } σ H
theorem QJ:mZ X [] O8:=fun _ _ σ H _ I h=>wpAny_execs_nil ⟨σ,H,I,h⟩
theorem Fg (h1:PS X st t) (h2:mZ X rest u):mZ X (st :: rest) (Uy t u):=by
 intro pins s σ H D I h
 refine wpAny_execs_cons (bB (h1 pins s σ H { D with nx:=u D } I h) fun f s1 q=>?_)
 cases f with
 | next =>
  obtain ⟨σ',H',I',q⟩:=q
  exact h2 pins s1 σ' H' D I' q
 | ret v=>exact q
 | brk=>exact q
 | cont=>exact q
theorem B2 (h1:PS X st t):mZ X [st] t:=by
 intro pins s σ H D I h
 refine wpAny_execs_cons (bB (h1 pins s σ H D I h) fun f s1 q=>?_)
 cases f with
 | next=>exact wpAny_execs_nil q
 | ret v=>exact q
 | brk=>exact q
 | cont=>exact q
def Kj:TS:=fun D σ H=>D.bk σ H
theorem NJ:PS X (.Break pos) Kj:=fun _ _ σ H _ I h=>wpAny_Break ⟨σ,H,I,h⟩
theorem Inv.quiet {pins:List (Addr × Obj)} {σ:St} {H:Hp} {s:Shared} (I:Inv X pins σ H s):interactive X.env=false:=by simp [interactive,I.ok.kind]
def O2 (te:TE):TS:=fun D σ H=>te σ H fun _ H1=>D.nx σ H1
theorem Ha (he:PE X e te) (hs:swapsWith e none pos.line X.env=pure false:=by rfl):PS X (.Expr e pos) (O2 te):=by
 intro pins s σ H D I h
 exact wpAny_Expr_any (bB (he pins s σ H _ I h) fun v s1 ⟨x,H1,I1,r1,q1⟩=>⟨σ,H1,I1,q1⟩) I.quiet hs
def Vk (te:TE):TS:=fun D σ H=>te σ H D.rt
theorem TV (he:PE X e te):PS X (.Return (some e) pos) (Vk te):=by
 intro pins s σ H D I h
 exact wpAny_Return_some (bB (he pins s σ H _ I h) fun v s1 ⟨x,H1,I1,r1,q1⟩=>⟨x,σ,H1,I1,r1,q1⟩)
def UJ (c:TT) (t u:TS):TS:=fun D σ H=>c σ H fun b H1=>if b=true then t D σ H1 else u D σ H1
theorem VH {c:Expr} {a b:List Stmt} {tc:TT} (hc:PT X c tc) (ha:mZ X a t) (hb:mZ X b u):PS X (.If c a b pos) (UJ tc t u):=by
 intro pins s σ H D I h
 refine wpAny_If (bB (hc pins s σ H _ I h) fun d s1 ⟨H1,I1,q1⟩=>?_)
 cases d with
 | true=>exact ha pins s1 σ H1 D I1 q1
 | false=>exact hb pins s1 σ H1 D I1 q1
end
abbrev TG:=V->St->Hp->(St->Hp->Prop)->Prop
abbrev rF:=List V->St->Hp->(St->Hp->Prop)->Prop
def PG (X:Cx) (target:Expr) (t:TG):Prop :=
 ∀ (pins:List (Addr × Obj)) (s:Shared) (σ:St) (H:Hp) (v:V) (u:Value) (Q:St->Hp->Prop),Inv X pins σ H s->RelV v u->t v σ H Q ->
  wpAny (model X.prog X.w) X.A (assign target X.env u) (fun _ s'=>∃ σ' H',Inv X pins σ' H' s'/\Q σ' H') X.xe s
def LS (X:Cx) (ts:List Expr) (t:rF):Prop :=
 ∀ (pins:List (Addr × Obj)) (s:Shared) (σ:St) (H:Hp) (vs:List V) (us:List Value) (Q:St->Hp->Prop),Inv X pins σ H s->Vals vs us->t vs σ H Q ->
  wpAny (model X.prog X.w) X.A (assignInOrder ((assignEach ts X.env).map (·.2)) us) (fun _ s'=>∃ σ' H',Inv X pins σ' H' s'/\Q σ' H') X.xe s
abbrev NO:=V->V->V->Hp->(Hp->Prop)->Prop
def TK (X:Cx) (t:NO):Prop :=
 ∀ (pins:List (Addr × Obj)) (s:Shared) (σ:St) (H:Hp) (o i v:V) (ov iv u:Value) (Q:Hp->Prop),Inv X pins σ H s->RelV o ov->RelV i iv->RelV v u->t o i v H Q ->
  wpAny (model X.prog X.w) X.A (setItem ov iv u) (fun _ s'=>∃ H',Inv X pins σ H' s'/\Q H') X.xe s
abbrev XA:=V->V->Hp->VK->Prop
section
variable {X:Cx} {pos:Pos}
def u7 (i:Nat):TG:=fun v σ H Q=>Q (σ.set i (some v)) H
theorem RM {i:Nat} {x:Str} (hN:X.N.Nodup) (hi:X.N[i]?=some x) (hx:Loc X.env.scope x) (hf:X.fn x=true\/X.env.scope.names.lookup x=some .local:=by first | exact .inl rfl | exact .inr rfl | assumption):PG X (.Name x pos) (u7 i):=by
 intro pins s σ H v u Q I r h
 exact wpAny_assign_Name (vD I hN hi hx r (fun s' I'=>⟨_,H,I',h⟩) hf)
def DL:rF:=fun vs σ H Q=>vs=[]/\Q σ H
def BH (t:TG) (u:rF):rF:=fun vs σ H Q=>∃ v r,vs=v :: r/\t v σ H fun σ' H'=>u r σ' H' Q
theorem RW:LS X [] DL:=by
 intro pins s σ H vs us Q I r h
 obtain ⟨e,h⟩:=h
 subst e
 cases r
 exact assignInOrder_nil ⟨σ,H,I,h⟩
theorem Nx {e:Expr} {es:List Expr} {t:TG} {u:rF} (h1:PG X e t) (h2:LS X es u)
  (hs:(assignEach (e :: es) X.env).map (·.2)=assign e X.env :: (assignEach es X.env).map (·.2):=by rfl):LS X (e :: es) (BH t u):=by
 intro pins s σ H vs us Q I r h
 obtain ⟨v,vr,e1,h⟩:=h
 subst e1
 cases r with
 | cons r rr =>
  rw [hs]
  refine assignInOrder_cons (bB (h1 pins s σ H _ _ _ I r h) fun _ s1 ⟨σ1,H1,I1,q1⟩=>?_)
  exact h2 pins s1 σ1 H1 _ _ Q I1 rr q1
def EJ (K:PySem.W.Frag) (n:Nat) (t:rF):TG:=fun v σ H Q=>∃ a xs,v=.ref a/\gI K H a xs/\xs.length=n/\t xs σ H Q
theorem Uh {es:List Expr} {k:Nat} {t:rF} {n:Nat} (hc:X.calm=true) (h:LS X es t)
  (hn:(assignEach es X.env).length=n:=by rfl) (hst:(assignEach es X.env).findIdx? (·.1)=none:=by rfl):PG X (.Tuple es k pos) (EJ X.K n t):=by
 intro pins s σ H v u Q I r hw
 obtain ⟨a,xs,e1,hq,hl,hw⟩:=hw
 subst e1
 cases r
 obtain ⟨its,rv,ht,hz⟩:=I.tuple hq
 refine assign_Tuple_tuple (I.ok.hd hc) ht (by simp [hn,<- hl,rv.length]) hst fun h' hx=>?_
 have I1:Inv X pins σ H { s with heap:=h' }:=I.kept (t':=s.toks) fun b o e=>hx b o (Nat.ne_of_lt (Heap.lt_size e)) e
 exact h pins _ σ H xs _ Q I1 (by simpa using rv) hw
def W2 (to ti:TE) (t:NO):TG:=fun v σ H Q=>to σ H fun o H1=>ti σ H1 fun i H2=>t o i v H2 fun H3=>Q σ H3
theorem Sj {o i:Expr} {to ti:TE} {t:NO} (ho:PE X o to) (hi:PE X i ti) (hs:TK X t)
  (ha:∀ v,assign (.Subscript o i pos) X.env v=(do
   let ov <- holding [v] (eval o X.env)
   let iv <- holding [v,ov] (eval i X.env)
   standAt pos
   holding [v,ov,iv] (setItem ov iv v)
   release [v,ov,iv] []):=by intro _;rfl):PG X (.Subscript o i pos) (W2 to ti t):=by
 intro pins s σ H v u Q I r h
 rw [ha]
 refine wpAny_bind (wpAny_holding (bB (ho pins s σ H _ I h) fun ov s1 ⟨x,H1,I1,r1,q1⟩=>?_))
 refine wpAny_bind (wpAny_holding (bB (hi pins s1 σ H1 _ I1 q1) fun iv s2 ⟨y,H2,I2,r2,q2⟩=>?_))
 refine wpAny_bind (wpAny_standAt (wpAny_bind (wpAny_holding (bB (hs pins s2 σ H2 x y v ov iv u _ I2 r1 r2 r q2) fun _ s3 ⟨H3,I3,q3⟩=>?_))))
 exact wpAny_release ⟨σ,H3,I3,q3⟩
def IY (te:TE) (g:TG):TS:=fun D σ H=>te σ H fun x H1=>g x σ H1 D.nx
theorem K8 {tg e:Expr} {te:TE} {g:TG} (he:PE X e te) (hg:PG X tg g) (hs:swapsWithSole [tg] e pos.line X.env=pure false:=by rfl) (hw:swappedStores [tg] e X.env=pure none:=by rfl)
  (h1:(assignEach [tg] X.env).map (·.2)=[assign tg X.env]:=by rfl):PS X (.Assign [tg] e pos) (IY te g):=by
 intro pins s σ H D I h
 refine wpAny_Assign_stores (bB (he pins s σ H _ I h) fun v s1 ⟨x,H1,I1,r1,q1⟩=>?_) hs hw
 rw [h1]
 exact bB (hg pins s1 σ H1 x v _ I1 r1 q1) fun _ s2 q=>q
theorem LM {i:Nat} {x:Str} {e:Expr} {te:TE} {pos':Pos} (hN:X.N.Nodup) (hi:X.N[i]?=some x) (hx:Loc X.env.scope x) (he:PE X e te) (hs:swapsWith e (some (.Name x pos')) pos.line X.env=pure false:=by rfl) (hf:X.fn x=true\/X.env.scope.names.lookup x=some .local:=by first | exact .inl rfl | exact .inr rfl | assumption) :
  PS X (.Assign [.Name x pos'] e pos) (IY te (u7 i)):=by
 intro pins s σ H D I h
 refine wpAny_Assign_Name (bB (he pins s σ H _ I h) fun v s1 ⟨y,H1,I1,r1,q1⟩=>?_) hs
 exact vD I1 hN hi hx r1 (fun s2 I2=>⟨_,H1,I2,q1⟩) hf
end
section
variable {X:Cx} {pos:Pos}
def DX (c:TT) (tb:TS):TS:=fun D σ H=>∃ W:Nat->St->Hp->Prop,(∃ m,W m σ H)/\∀ m σ H,W m σ H ->
 c σ H fun b H1=>if b=true then ∃ N:St->Hp->Prop,(∀ σ' H',N σ' H'->∃ m',m' < m/\W m' σ' H')/\tb { D with nx:=N,ct:=N,bk:=D.nx } σ H1 else D.nx σ H1
theorem MW {c:Expr} {body:List Stmt} {tc:TT} {tb:TS} (hp:PassesOwn (model X.prog X.w) X.A X.env X.xe) (hc:PT X c tc) (hb:mZ X body tb):PS X (.While c body [] pos) (DX tc tb):=by
 intro pins s σ H D I h
 obtain ⟨W,⟨m0,w0⟩,turn⟩:=h
 refine wpAny_While (codeAny_whileLoop (fun n s'=>∃ σ' H',Inv X pins σ' H' s'/\W n σ' H') ?_ m0 ⟨σ,H,I,w0⟩)
 rintro n s1 ⟨σ1,H1,I1,w1⟩
 refine wpAny_passesOwn hp (bB (hc pins s1 σ1 H1 _ I1 (turn n σ1 H1 w1)) fun b s2 ⟨H2,I2,q2⟩=>?_)
 cases b with
 | true =>
  obtain ⟨N,hN,q2⟩:=q2
  rw [if_pos rfl]
  refine wpAny_passesOwn hp (bB (hb pins s2 σ1 H2 _ I2 q2) fun f s3 q3=>?_)
  cases f with
  | next =>
   obtain ⟨σ3,H3,I3,n3⟩:=q3
   obtain ⟨m',hm,w3⟩:=hN σ3 H3 n3
   exact ⟨m',hm,σ3,H3,I3,w3⟩
  | cont =>
   obtain ⟨σ3,H3,I3,n3⟩:=q3
   obtain ⟨m',hm,w3⟩:=hN σ3 H3 n3
   exact ⟨m',hm,σ3,H3,I3,w3⟩
  | brk=>exact q3
  | ret v=>exact q3
 | false =>
  rw [if_neg Bool.false_ne_true]
  exact wpAny_execs_nil ⟨σ1,H2,I2,q2⟩
end
structure It where
 go:Nat->Hp->Prop
 yld:Nat->Hp->V->Hp->Prop
 stop:Nat->Hp->Prop
def tO (X:Cx) (pins:List (Addr × Obj)) (H:Hp) (b:Addr):Prop :=
 H b=none/\b≠X.env.locals/\b ∉ X.fs/\(b∈X.ex\/X.s₀.heap.objs.size<=b)/\(∀ x c,X.env.cells.lookup x=some c->c≠b)/\∀ p∈X.pn++pins,p.1≠b
theorem Inv.fpOk {X:Cx} {pins:List (Addr × Obj)} {σ:St} {H H':Hp} {s:Shared} {b:Addr} (I:Inv X pins σ H s) (hb:s.heap.objs.size<=b) (hn:H' b=none):tO X pins H' b:=by
 refine ⟨hn,Nat.ne_of_gt (Nat.lt_of_lt_of_le I.lt hb),I.nofs hb,.inr (Nat.le_trans I.sz hb),fun x c e z=>?_,fun p hp z=>?_⟩
 ·obtain ⟨v,q⟩:=I.cell x c e
  exact absurd (Nat.lt_of_lt_of_le q.lt (by rw [z];exact hb)) (Nat.lt_irrefl _)
 ·exact absurd (Nat.lt_of_lt_of_le (Heap.lt_size (I.pin p hp).1) (by rw [z];exact hb)) (Nat.lt_irrefl _)
structure Turn (P:Program) (w:World) (K:PySem.W.Frag) (tg:Expr) (J:It) (fp:List Addr) (it:Addr) (tn:Nat->Heap->Prop):Prop where
 mem:it∈fp
 obj:∀ i h,tn i h->∀ b∈fp,∃ o,h.get? b=some o/\∀ v,o.data≠.cell v
 keep:∀ i h h',tn i h->(∀ b∈fp,∀ o,h.get? b=some o->h'.get? b=some o)->tn i h'
 item:∀ (X:Cx),X.prog=P->X.w=w->X.K=K->X.calm=true->∀ (i:Nat) (pins:List (Addr × Obj)) (s:Shared) (σ:St) (H:Hp) (E:Value->Shared->Prop),Inv X pins σ H s->(∀ b∈fp,tO X pins H b)->tn i s.heap->J.go i H ->
  wpAny (model P w) X.A (pyNext (.ref it)) (fun r s1=>∃ u,r=some u /\
   wpAny (model P w) X.A (letOwnedTupleGo tg (.ref it) u) (fun _ s2=>∃ x H',Inv X pins σ H' s2/\RelV x u/\J.yld i H x H'/\tn (i + 1) s2.heap/\∀ b∈fp,H' b=none) E s1) E s
 done:∀ (X:Cx),X.prog=P->X.w=w->X.K=K->X.calm=true->∀ (i:Nat) (pins:List (Addr × Obj)) (s:Shared) (σ:St) (H:Hp) (E:Value->Shared->Prop),Inv X pins σ H s->(∀ b∈fp,tO X pins H b)->tn i s.heap->J.stop i H ->
  wpAny (model P w) X.A (pyNext (.ref it)) (fun r s1=>r=none/\Inv X pins σ H s1) E s
 self:∀ (A:Around) (i:Nat) (s:Shared) (Q:Value->Shared->Prop) (E:Value->Shared->Prop),tn i s.heap->Q (.ref it) s->wpAny (model P w) A (pyIter (.ref it)) Q E s
abbrev TI:=St->Hp->(It->Hp->Prop)->Prop
def WL (X:Cx) (pins:List (Addr × Obj)) (σ:St) (tg:Expr) (R:It->Hp->Prop) (itv:Value) (s2:Shared):Prop :=
 ∃ (it:Addr) (fp:List Addr) (tn:Nat->Heap->Prop) (J:It) (H':Hp),itv=.ref it/\Inv X pins σ H' s2/\Turn X.prog X.w X.K tg J fp it tn/\tn 0 s2.heap/\(∀ b∈fp,tO X pins H' b)/\R J H'
def PI (X:Cx) (tg iter:Expr) (wi:TI):Prop :=
 ∀ (pins:List (Addr × Obj)) (s:Shared) (σ:St) (H:Hp) (R:It->Hp->Prop),Inv X pins σ H s->wi σ H R ->
  wpAny (model X.prog X.w) X.A (eval iter X.env) (fun v s1=>wpAny (model X.prog X.w) X.A (pyIter v) (WL X pins σ tg R) X.xe s1) X.xe s
theorem Dv {M:Model} {A:Around} {E:Value->Shared->Prop} {s:Shared} {tg:Expr} {it:Addr} {u:Value} {o:Obj} {n:String} {vs:Array Value} {Q:Unit->Shared->Prop} (ho:s.heap.get? it=some o) (hc:o.cls=.type n) (hd:o.data=.fields vs)
    (hn:["enumerate","zip","dict_itemiterator","dict_reverseitemiterator","odict_iterator","itertools.zip_longest","itertools.pairwise"].contains n=false) (hQ:Q () s):wpAny M A (letOwnedTupleGo tg (.ref it) u) Q E s:=by
  unfold letOwnedTupleGo
  cases tg <;> first
    | exact wpAny_pure hQ
    | (cases u <;> first
        | exact wpAny_pure hQ
        | (refine wpAny_bind (wpAny_load ho ?_)
           rw [hc,hd]
           show wpAny M A (if (["enumerate","zip","dict_itemiterator","dict_reverseitemiterator","odict_iterator","itertools.zip_longest","itertools.pairwise"].contains n && vs[0]? == some (rawInt _))=true then _ else _) Q E s
           rw [if_neg (by intro h;rw [hn,Bool.false_and] at h;cases h)]
           exact wpAny_pure hQ))
def PB (K:PySem.W.Frag) (a:Addr):It :=
 ⟨fun i H=>∃ xs x,fB K H a xs/\xs[i]?=some x,fun i H x H'=>H'=H/\∀ xs,fB K H a xs->xs[i]?=some x,fun i H=>∃ xs,fB K H a xs/\xs.length<=i⟩
def UC (K:PySem.W.Frag) (a:Addr):It :=
 ⟨fun i H=>∃ xs x,gI K H a xs/\xs[i]?=some x,fun i H x H'=>H'=H/\∀ xs,gI K H a xs->xs[i]?=some x,fun i H=>∃ xs,gI K H a xs/\xs.length<=i⟩
def Po (lo:Int) (n:Nat):It:=⟨fun i _=>i < n,fun i H x H'=>H'=H/\x=.int (lo + i),fun i _=>n<=i⟩
theorem L6 {P:Program} {w:World} {K:PySem.W.Frag} {tg:Expr} (a it:Addr):Turn P w K tg (PB K a) [it] it (fun i h=>h.IsListIter it a i) where
 mem:=by simp
 obj:=fun i h st b hb=>by
  have e:b=it:=by simpa using hb
  subst e
  obtain ⟨o,e,c,d⟩:=st
  exact ⟨o,e,fun v z=>by rw [d] at z;cases z⟩
 keep:=fun i h h' st k=>st.at fun o e=>k it (by simp) o e
 item:=by
  intro X hP hw hK hc i pins s σ H E I hf st hg
  subst hP hw hK
  obtain ⟨xs,x,hq,hx⟩:=hg
  obtain ⟨its,rv,p,hz⟩:=I.list hq
  obtain ⟨u,hu,ru⟩:=rv.get hx
  obtain ⟨f0,f1,f2,f3,f4,f5⟩:=hf it (by simp)
  refine wpAny_pyNext_list_item st p.isList (x:=u) (by simpa using hu) fun h' st' sb=>?_
  have I1:Inv X pins σ H { s with heap:=h' }:=I.turned (t':=s.toks) (fun b o hb e=>(sb.2 b hb).trans e) f0 f1 f3 f4 f5
  obtain ⟨o,e,c,d⟩:=id st'
  exact ⟨u,rfl,Dv (s:={ s with heap:=h' }) e c d (by decide) ⟨x,H,I1,ru,⟨rfl,fun ys hy=>by rw [I.list_inj hy hq];exact hx⟩,st',fun b hb=>(hf b hb).1⟩⟩
 done:=by
  intro X hP hw hK hc i pins s σ H E I hf st hg
  subst hP hw hK
  obtain ⟨xs,hq,hx⟩:=hg
  obtain ⟨its,rv,p,hz⟩:=I.list hq
  obtain ⟨f0,f1,f2,f3,f4,f5⟩:=hf it (by simp)
  have hl:=rv.length
  exact wpAny_pyNext_list_end (I.ok.hd hc) st p.isList (by simp;omega) fun h' eb=>⟨rfl,I.turned (t':=s.toks) (fun b o hb e=>eb b o hb e) f0 f1 f3 f4 f5⟩
 self:=fun _ _ _ _ _ st h=>wpAny_pyIter_listiter st h
theorem ID {P:Program} {w:World} {K:PySem.W.Frag} {tg:Expr} (a it:Addr):Turn P w K tg (UC K a) [it] it (fun i h=>h.IsTupleIter it a i) where
 mem:=by simp
 obj:=fun i h st b hb=>by
  have e:b=it:=by simpa using hb
  subst e
  obtain ⟨o,e,c,d⟩:=st
  exact ⟨o,e,fun v z=>by rw [d] at z;cases z⟩
 keep:=fun i h h' st k=>st.at fun o e=>k it (by simp) o e
 item:=by
  intro X hP hw hK hc i pins s σ H E I hf st hg
  subst hP hw hK
  obtain ⟨xs,x,hq,hx⟩:=hg
  obtain ⟨its,rv,p,hz⟩:=I.tuple hq
  obtain ⟨u,hu,ru⟩:=rv.get hx
  obtain ⟨f0,f1,f2,f3,f4,f5⟩:=hf it (by simp)
  refine wpAny_pyNext_tuple_item st (show s.heap.IsTuple a its.toArray from p) (x:=u) (by simpa using hu) fun h' st' sb=>?_
  have I1:Inv X pins σ H { s with heap:=h' }:=I.turned (t':=s.toks) (fun b o hb e=>(sb.2 b hb).trans e) f0 f1 f3 f4 f5
  obtain ⟨o,e,c,d⟩:=id st'
  exact ⟨u,rfl,Dv (s:={ s with heap:=h' }) e c d (by decide) ⟨x,H,I1,ru,⟨rfl,fun ys hy=>by rw [I.tuple_inj hy hq];exact hx⟩,st',fun b hb=>(hf b hb).1⟩⟩
 done:=by
  intro X hP hw hK hc i pins s σ H E I hf st hg
  subst hP hw hK
  obtain ⟨xs,hq,hx⟩:=hg
  obtain ⟨its,rv,p,hz⟩:=I.tuple hq
  obtain ⟨f0,f1,f2,f3,f4,f5⟩:=hf it (by simp)
  have hl:=rv.length
  exact wpAny_pyNext_tuple_end (I.ok.hd hc) st (show s.heap.IsTuple a its.toArray from p) (by simp;omega) fun h' eb=>⟨rfl,I.turned (t':=s.toks) (fun b o hb e=>eb b o hb e) f0 f1 f3 f4 f5⟩
 self:=fun _ _ _ _ _ st h=>wpAny_pyIter_tupleiter st h
theorem JW {P:Program} {w:World} {K:PySem.W.Frag} {tg:Expr} (it:Addr) (lo:Int) (n:Nat):Turn P w K tg (Po lo n) [it] it (fun i h=>IsRangeIter h it (lo + (i:Nat) * 1) ((n:Int) - (i:Nat)) 1) where
 mem:=by simp
 obj:=fun i h st b hb=>by
  have e:b=it:=by simpa using hb
  subst e
  exact ⟨_,st,fun v z=>by
   have z':Data.fields _=Data.cell v:=z
   cases z'⟩
 keep:=fun i h h' st k=>k it (by simp) _ st
 item:=by
  intro X hP hw hK hc i pins s σ H E I hf st hg
  subst hP hw hK
  obtain ⟨f0,f1,f2,f3,f4,f5⟩:=hf it (by simp)
  have W:=Walks.range (prog:=X.prog) (w:=X.w) (I.ok.hd hc) it lo 1 n
  refine W.item i s _ _ hg st fun v h' tk hv st' kk=>?_
  obtain ⟨t,rfl⟩:=hv
  have I1:Inv X pins σ H { s with heap:=h',toks:=tk }:=I.turned (fun b o hb e=>kk b o (by simpa using hb) e) f0 f1 f3 f4 f5
  refine ⟨_,rfl,Dv (s:={ s with heap:=h',toks:=tk }) (n:="range_iterator") st' rfl rfl (by decide) ⟨.int (lo + i),H,I1,⟨t,?_⟩,⟨rfl,rfl⟩,st',fun b hb=>(hf b hb).1⟩⟩
  rw [Int.mul_one]
 done:=by
  intro X hP hw hK hc i pins s σ H E I hf st hg
  subst hP hw hK
  obtain ⟨f0,f1,f2,f3,f4,f5⟩:=hf it (by simp)
  exact wpAny_pyNext_range_end (I.ok.hd hc) st (by have:n<=i:=hg;omega) fun h' eb=>⟨rfl,I.turned (t':=s.toks) (fun b o hb e=>eb b o hb e) f0 f1 f3 f4 f5⟩
 self:=fun _ _ _ _ _ st h=>wpAny_pyIter_rangeiter st h
section
variable {X:Cx} {tg:Expr}
theorem NM {pins:List (Addr × Obj)} {σ:St} {H:Hp} {s:Shared} {R:It->Hp->Prop} {E:Value->Shared->Prop} {lo hi:Int} {t u v:Tok} {tk:Nat} (I:Inv X pins σ H s) (h1:-(2 ^ 62)<=lo) (h2:lo < 2 ^ 62) (h3:-(2 ^ 62)<=hi) (h4:hi < 2 ^ 62)
  (q:R (Po lo (hi - lo).toNat) H):wpAny (model X.prog X.w) X.A (pyIter (.ref s.heap.objs.size)) (WL X pins σ tg R) E { s with heap:=s.heap.push { cls:=.type "range",data:=.fields #[.int lo t,.int hi u,.int 1 v] },toks:=tk }:=by
 refine wpAny_pyIter_range (IsRange.new ..) (small_one h1 h2 h3 h4) ?_
 have I1:Inv X pins σ H { s with heap:=s.heap.push { cls:=.type "range",data:=.fields #[.int lo t,.int hi u,.int 1 v] },toks:=tk }:=I.kept fun b o e=>Heap.get?_push_of_some _ e
 refine ⟨(s.heap.push { cls:=.type "range",data:=.fields #[.int lo t,.int hi u,.int 1 v] }).objs.size,[(s.heap.push { cls:=.type "range",data:=.fields #[.int lo t,.int hi u,.int 1 v] }).objs.size],_,_,H,rfl,
  I1.kept (t':=tk) fun b o e=>Heap.get?_push_of_some _ e,JW _ lo (hi - lo).toNat,?_,fun b hb=>?_,q⟩
 ·have e1:lo + ((0:Nat):Int) * 1=lo:=by simp
  have e2:(((hi - lo).toNat:Nat):Int) - ((0:Nat):Int)=Builtin.Range.rangeSize lo hi 1:=by rw [rangeSize_one];split <;> omega
  show IsRangeIter _ _ (lo + ((0:Nat):Int) * 1) ((((hi - lo).toNat:Nat):Int) - ((0:Nat):Int)) 1
  rw [e1,e2]
  exact Heap.get?_push_size _ rfl
 ·have e:b=(s.heap.push { cls:=.type "range",data:=.fields #[.int lo t,.int hi u,.int 1 v] }).objs.size:=by simpa using hb
  subst e
  exact I1.fpOk (Nat.le_refl _) (I1.hok.fresh (Nat.le_refl _))
def Pd (ta:TA):TI:=fun σ H R=>ta σ H fun vs H1=>∃ j:Int,vs=[.int j]/\-(2 ^ 62)<=j/\j < 2 ^ 62/\R (Po 0 j.toNat) H1
theorem Lf {a:Expr} {ta:TA} {p pos:Pos} (hg:Gl X "range") (hm:X.mg "range"=none) (ha:PA X [a] ta) (hs:starEach [a] X.env=[(false,eval a X.env)]:=by rfl):PI X tg (.Call (.Name "range" p) [a] [] pos) (Pd ta):=by
 intro pins s σ H R I h
 refine Call_ (nI I hg hm boot_range (PyProof.Rows.callWith_type1 (bB (ha pos pins s σ H _ I h) fun us s1 ⟨vs,H1,I1,r1,q1⟩=>?_) hs rfl))
 obtain ⟨j,e,q1,q2,q⟩:=q1
 subst e
 cases r1 with
 | cons r rr =>
  cases rr
  obtain ⟨t,rfl⟩:=r
  exact call_range_1 (NM I1 (by omega) (by omega) q1 q2 (by simpa using q))
def Oi (wi:TI) (g:TG) (tb:TS):TS:=fun D σ H=>wi σ H fun J H1=>∃ W:Nat->Nat->St->Hp->Prop,(∃ m,W 0 m σ H1)/\∀ i m σ H,W i m σ H ->
 (J.stop i H/\D.nx σ H)\/(J.go i H/\∃ N:St->Hp->Prop,(∀ σ' H',N σ' H'->∃ m',m' < m/\W (i + 1) m' σ' H')/\∀ x H',J.yld i H x H'->g x σ H' fun σ2 H2=>tb { D with nx:=N,ct:=N,bk:=D.nx } σ2 H2)
def uQ (fp:List Addr) (h:Heap):List (Addr × Obj):=fp.filterMap fun b=>(h.get? b).map fun o=>(b,o)
theorem lB {fp:List Addr} {h:Heap} {b:Addr} {o:Obj} (hb:b∈fp) (e:h.get? b=some o):(b,o)∈uQ fp h:=List.mem_filterMap.mpr ⟨b,hb,by rw [e];rfl⟩
theorem KH {fp:List Addr} {h:Heap} {p:Addr × Obj} (hp:p∈uQ fp h):p.1∈fp/\h.get? p.1=some p.2:=by
 obtain ⟨b,hb,e⟩:=List.mem_filterMap.mp hp
 cases q:h.get? b with
 | none=>rw [q] at e;cases e
 | some o =>
  rw [q] at e
  have e':(b,o)=p:=Option.some.inj e
  subst e'
  exact ⟨hb,q⟩
theorem Inv.pinned {pins:List (Addr × Obj)} {σ:St} {H:Hp} {s:Shared} {fp:List Addr} (I:Inv X pins σ H s) (hf:∀ b∈fp,tO X pins H b) (ho:∀ b∈fp,∃ o,s.heap.get? b=some o/\∀ v,o.data≠.cell v):Inv X (pins++uQ fp s.heap) σ H s :=
 I.pins_of fun p hp=>(List.mem_append.mp hp).elim (fun z=>I.pin p (List.mem_append_right _ z)) fun z=>by
  obtain ⟨hb,e⟩:=KH z
  obtain ⟨f0,f1,f2,_⟩:=hf p.1 hb
  obtain ⟨o,e',d⟩:=ho p.1 hb
  rw [e] at e';cases e'
  exact ⟨e,f0,f1,f2,d⟩
theorem Inv.unpinned {pins pl:List (Addr × Obj)} {σ:St} {H:Hp} {s:Shared} (I:Inv X (pins++pl) σ H s):Inv X pins σ H s:=I.pins_of fun p hp=>I.pin p (List.mem_append_right _ (List.mem_append_left _ hp))
theorem Sn {iter:Expr} {body:List Stmt} {wi:TI} {g:TG} {tb:TS} {pos:Pos} (hp:PassesOwn (model X.prog X.w) X.A X.env X.xe) (hc:X.calm=true) (hi:PI X tg iter wi) (hg:PG X tg g) (hb:mZ X body tb)
  (hs:∀ x,foldedSetIterable iter X.env x=pure x:=by intro _;rfl):PS X (.For tg iter body [] pos) (Oi wi g tb):=by
 intro pins s σ H D I h
 refine wpAny_For (bB (hi pins s σ H _ I h) fun v s1 h1=>bB h1 fun itv s2 h2=>?_) hs
 obtain ⟨it,fp,tn,J,H2,e,I2,T,st2,f2,W,⟨m0,w0⟩,turn⟩:=h2
 subst e
 have stat:∀ {H':Hp},(∀ b∈fp,H' b=none)->∀ b∈fp,tO X pins H' b:=fun hn b hb=>⟨hn b hb,(f2 b hb).2⟩
 refine codeAny_forLoop_any (fun n s'=>∃ i σ' H',Inv X pins σ' H' s'/\tn i s'.heap/\(∀ b∈fp,H' b=none)/\W i n σ' H') ?_ m0 ⟨0,σ,H2,I2,st2,fun b hb=>(f2 b hb).1,w0⟩
 rintro n s3 ⟨i,σ3,H3,I3,st3,fr3,w3⟩
 rcases turn i n σ3 H3 w3 with ⟨stop,qn⟩ | ⟨go,N,hN,step⟩
 ·refine wpAny_passesOwn hp (bB (T.done X rfl rfl rfl hc i pins s3 σ3 H3 X.xe I3 (stat fr3) st3 stop) fun r s4 ⟨hr,I4⟩=>?_)
  subst hr
  exact wpAny_execs_nil ⟨σ3,H3,I4,qn⟩
 ·refine wpAny_passesOwn hp (bB (T.item X rfl rfl rfl hc i pins s3 σ3 H3 X.xe I3 (stat fr3) st3 go) fun r s4 ⟨u,hr,h4⟩=>?_)
  subst hr
  refine wpAny_passesOwn hp (bB h4 fun _ s5 ⟨x,H5,I5,r5,y5,st5,fr5⟩=>?_)
  have I5':=I5.pinned (stat fr5) (T.obj _ _ st5)
  refine wpAny_passesOwn hp (bB (hg _ s5 σ3 H5 x u _ I5' r5 (step x H5 y5)) fun _ s6 ⟨σ6,H6,I6,q6⟩=>?_)
  refine wpAny_passesOwn hp (bB (hb _ s6 σ6 H6 _ I6 q6) fun f s7 q7=>?_)
  have again:∀ {σ7:St} {H7:Hp},Inv X (pins++uQ fp s5.heap) σ7 H7 s7->N σ7 H7->∃ m,m < n/\∃ i σ' H',Inv X pins σ' H' s7/\tn i s7.heap/\(∀ b∈fp,H' b=none)/\W i m σ' H':=fun {σ7 H7} I7 n7=>by
   obtain ⟨m',hm,w7⟩:=hN σ7 H7 n7
   refine ⟨m',hm,i + 1,σ7,H7,I7.unpinned,T.keep _ _ _ st5 fun b hb o e=>(I7.pin (b,o) (List.mem_append_right _ (List.mem_append_right _ (lB hb e)))).1,fun b hb=>?_,w7⟩
   obtain ⟨o,e,d⟩:=T.obj _ _ st5 b hb
   exact (I7.pin (b,o) (List.mem_append_right _ (List.mem_append_right _ (lB hb e)))).2.1
  cases f with
  | next=>obtain ⟨σ7,H7,I7,n7⟩:=q7;exact again I7 n7
  | cont=>obtain ⟨σ7,H7,I7,n7⟩:=q7;exact again I7 n7
  | brk=>obtain ⟨σ7,H7,I7,q7⟩:=q7;exact ⟨σ7,H7,I7.unpinned,q7⟩
  | ret v=>obtain ⟨x7,σ7,H7,I7,r7,q7⟩:=q7;exact ⟨x7,σ7,H7,I7.unpinned,r7,q7⟩
end
abbrev R2:=V->V->Hp->VK->Prop
def cZ (X:Cx) (f:Value->Value->Sem Value) (r:R2):Prop :=
 ∀ (pins:List (Addr × Obj)) (s:Shared) (σ:St) (H:Hp) (x y:V) (v u:Value) (Q:VK),Inv X pins σ H s->RelV x v->RelV y u->r x y H Q ->
  wpAny (model X.prog X.w) X.A (f v u) (EP X pins σ Q) X.xe s
def tI (X:Cx) (f:Value) (r:List V->Hp->VK->Prop):Prop :=
 ∀ (pins:List (Addr × Obj)) (s:Shared) (σ:St) (H:Hp) (xs:List V) (us:List Value) (Q:VK),Inv X pins σ H s->Vals xs us->r xs H Q ->
  wpAny (model X.prog X.w) X.A (call f us) (EP X pins σ Q) X.xe s
def W0 (X:Cx) (r:V->Hp->(Bool->Hp->Prop)->Prop):Prop :=
 ∀ (pins:List (Addr × Obj)) (s:Shared) (σ:St) (H:Hp) (x:V) (v:Value) (Q:Bool->Hp->Prop),Inv X pins σ H s->RelV x v->r x H Q ->
  wpAny (model X.prog X.w) X.A (truthy v) (TP X pins σ Q) X.xe s
def Hd (r:R2) (ta tb:TE):TE:=fun σ H Q=>ta σ H fun x H1=>tb σ H1 fun y H2=>r x y H2 Q
def rI (C:Int->Int->Prop) (g:Int->Int->V):R2:=fun x y H Q=>∃ i j,x=.int i/\y=.int j/\C i j/\Q (g i j) H
def yV (g:Int->Int->V):R2:=fun x y H Q=>∃ i j,x=.int i/\y=.int j/\Q (g i j) H
section
variable {X:Cx} {a b c:Expr} {ta tb tc:TE} {pos:Pos}
theorem JS (ha:PE X a ta) (hb:PE X b tb) {pins:List (Addr × Obj)} {s:Shared} {σ:St} {H:Hp} {R:V->V->Hp->Prop} (I:Inv X pins σ H s)
  (h:ta σ H fun x H1=>tb σ H1 fun y H2=>R x y H2) {Q:Value->Shared->Prop} {f:Value->Value->Sem Value}
  (hf:∀ v u s2 x y H2,Inv X pins σ H2 s2->RelV x v->RelV y u->R x y H2->wpAny (model X.prog X.w) X.A (f v u) Q X.xe s2) :
  wpAny (model X.prog X.w) X.A (eval a X.env) (fun v s₁=>wpAny (model X.prog X.w) X.A (eval b X.env) (fun u s₂=>wpAny (model X.prog X.w) X.A (f v u) Q X.xe s₂) X.xe s₁) X.xe s:=by
 refine bB (ha pins s σ H _ I h) fun v s1 ⟨x,H1,I1,r1,q1⟩=>?_
 refine bB (hb pins s1 σ H1 _ I1 q1) fun u s2 ⟨y,H2,I2,r2,q2⟩=>?_
 exact hf v u s2 x y H2 I2 r1 r2 q2
theorem VD {op:Operator} {r:R2} (ho:cZ X (binaryOp op) r) (ha:PE X a ta) (hb:PE X b tb):PE X (.BinOp a op b pos) (Hd r ta tb):=by
 intro pins s σ H Q I h
 exact wpAny_BinOp (JS ha hb I h fun v u s2 x y H2 I2 rx ry q=>ho pins s2 σ H2 x y v u Q I2 rx ry q)
theorem O4 {f:Value->Value->Sem Value} {C:Int->Int->Prop} {g:Int->Int->Int}
  (rule:∀ (i j:Int) (t u:Tok) (s:Shared) (Q:Value->Shared->Prop) (E:Value->Shared->Prop),C i j->Q (.int (g i j) s.toks) { s with toks:=s.toks + 1 }->wpAny (model X.prog X.w) X.A (f (.int i t) (.int j u)) Q E s) :
  cZ X f (rI C fun i j=>.int (g i j)):=by
 intro pins s σ H x y v u Q I rx ry h
 obtain ⟨i,j,rfl,rfl,hc,q⟩:=h
 obtain ⟨t,rfl⟩:=rx
 obtain ⟨t',rfl⟩:=ry
 exact rule i j t t' s _ _ hc ⟨.int (g i j),H,I.tok _,⟨_,rfl⟩,q⟩
theorem SO {f:Value->Value->Sem Value} {g:Int->Int->Int}
  (rule:∀ (i j:Int) (t u:Tok) (s:Shared) (Q:Value->Shared->Prop) (E:Value->Shared->Prop),Q (.int (g i j) s.toks) { s with toks:=s.toks + 1 }->wpAny (model X.prog X.w) X.A (f (.int i t) (.int j u)) Q E s) :
  cZ X f (yV fun i j=>.int (g i j)):=by
 intro pins s σ H x y v u Q I rx ry h
 obtain ⟨i,j,rfl,rfl,q⟩:=h
 obtain ⟨t,rfl⟩:=rx
 obtain ⟨t',rfl⟩:=ry
 exact rule i j t t' s _ _ ⟨.int (g i j),H,I.tok _,⟨_,rfl⟩,q⟩
theorem Om {f:Value->Value->Sem Value} {g:Int->Int->Bool}
  (rule:∀ (i j:Int) (t u:Tok) (s:Shared) (Q:Value->Shared->Prop) (E:Value->Shared->Prop),Q (.bool (g i j)) s->wpAny (model X.prog X.w) X.A (f (.int i t) (.int j u)) Q E s) :
  cZ X f (yV fun i j=>.bl (g i j)):=by
 intro pins s σ H x y v u Q I rx ry h
 obtain ⟨i,j,rfl,rfl,q⟩:=h
 obtain ⟨t,rfl⟩:=rx
 obtain ⟨t',rfl⟩:=ry
 exact rule i j t t' s _ _ ⟨.bl (g i j),H,I,rfl,q⟩
def Sg (i j:Int):Prop:=0<=j/\j<=1000000/\i.natAbs < 2 ^ 64
def Nm (i j:Int):Prop:=(-(2 ^ 64) < i/\i < 2 ^ 64)\/(-(2 ^ 64) < j/\j < 2 ^ 64)
theorem Nm.ok {i j:Int} (h:Nm i j):IntMulOk i j:=by
 rcases h with ⟨h1,h2⟩ | ⟨h1,h2⟩
 ·exact .of_left (intBits_le_64 h1 h2)
 ·exact .of_right (intBits_le_64 h1 h2)
theorem VW (k:Nat):(0:Int)<=2 ^ k:=by
 rw [two_pow_cast]
 exact Int.natCast_nonneg _
theorem J8:cZ X (binaryOp .Add) (yV fun i j=>.int (i + j)):=SO fun _ _ _ _ _ _ _ q=>add_int q
theorem TN:cZ X (binaryOp .Sub) (yV fun i j=>.int (i - j)):=SO fun _ _ _ _ _ _ _ q=>sub_int q
theorem Ur:cZ X (binaryOp .Mod) (rI (fun _ j=>0 < j) fun i j=>.int (i % j)):=O4 fun i j _ _ _ _ _ hc q=>by
 have h1:(0:Int) < j:=hc
 exact mod_int' (by omega) (by rw [Int.fmod_eq_emod_of_nonneg i (by omega)];exact q)
theorem Sh:cZ X (binaryOp .Pow) (rI Sg fun i j=>.int (i ^ j.toNat)):=O4 fun _ _ _ _ _ _ _ hc q=>pow_int_small hc.1 hc.2.1 hc.2.2 q
end
def JM:V->V->Bool
 | .non,.non=>true | .non,.int _=>true | .int _,.non=>true | .non,.bl _=>true | .bl _,.non=>true | .non,.str _=>true | .str _,.non=>true
 | .int _,.int _=>true | .bl _,.bl _=>true | .str _,.str _=>true | .byt _,.byt _=>true
 | .int _,.str _=>true | .str _,.int _=>true | .bl _,.str _=>true | .str _,.bl _=>true
 | _,_=>false
def W9:R2:=fun x y H Q=>JM x y=true/\Q (.bl (decide (x=y))) H
def Xb:R2:=fun x y H Q=>JM x y=true/\Q (.bl (!decide (x=y))) H
theorem GV {i j:Int}:decide (V.int i=V.int j)=(i == j):=by
 rw [Bool.eq_iff_iff]
 simp
theorem Mx {i j:Bool}:decide (V.bl i=V.bl j)=(i == j):=by
 rw [Bool.eq_iff_iff]
 simp
theorem GF {i j:Str}:decide (V.str i=V.str j)=(i == j):=by
 rw [Bool.eq_iff_iff]
 simp
theorem Hk {i j:Array UInt8}:decide (V.byt i=V.byt j)=(i.toList == j.toList):=by
 rw [Bool.eq_iff_iff]
 cases i
 cases j
 simp
section
variable {X:Cx} {a b c:Expr} {ta tb tc:TE} {pos:Pos}
theorem bZ {pins:List (Addr × Obj)} {σ:St} {H:Hp} {s:Shared} {Q:VK} {k k':Bool} (I:Inv X pins σ H s) (q:Q (.bl k) H) (e:k=k'):EP X pins σ Q (.bool k') s:=by
 subst e
 exact ⟨.bl k,H,I,rfl,q⟩
theorem VI:cZ X (compareOp .Eq) W9:=by
 intro pins s σ H x y v u Q I rx ry h
 obtain ⟨hs,q⟩:=h
 cases x with
 | non =>
  cases rx
  cases y with
  | non=>cases ry;exact PySem.EqNone.eq_none_none (bZ I q (by simp))
  | bl j=>cases ry;exact PySem.EqNone.eq_none_bool (bZ I q (by simp))
  | int j=>obtain ⟨t',rfl⟩:=ry;exact PySem.EqNone.eq_none_int (bZ I q (by simp))
  | str j=>obtain ⟨t',rfl⟩:=ry;exact PySem.EqNone.eq_none_str (bZ I q (by simp))
  | _=>exact absurd (show false=true from hs) Bool.false_ne_true
 | bl i =>
  cases rx
  cases y with
  | non=>cases ry;exact PySem.EqNone.eq_bool_none (bZ I q (by simp))
  | bl j=>cases ry;exact eq_bool (bZ I q Mx)
  | str j=>obtain ⟨t',rfl⟩:=ry;exact PySem.EqMixed.eq_bool_str (bZ I q (by simp))
  | _=>exact absurd (show false=true from hs) Bool.false_ne_true
 | int i =>
  obtain ⟨t,rfl⟩:=rx
  cases y with
  | non=>cases ry;exact PySem.EqNone.eq_int_none (bZ I q (by simp))
  | int j=>obtain ⟨t',rfl⟩:=ry;exact eq_int (bZ I q GV)
  | str j=>obtain ⟨t',rfl⟩:=ry;exact PySem.EqMixed.eq_int_str (bZ I q (by simp))
  | _=>exact absurd (show false=true from hs) Bool.false_ne_true
 | str i =>
  obtain ⟨t,rfl⟩:=rx
  cases y with
  | non=>cases ry;exact PySem.EqNone.eq_str_none (bZ I q (by simp))
  | bl j=>cases ry;exact PySem.EqMixed.eq_str_bool (bZ I q (by simp))
  | int j=>obtain ⟨t',rfl⟩:=ry;exact PySem.EqMixed.eq_str_int (bZ I q (by simp))
  | str j=>obtain ⟨t',rfl⟩:=ry;exact eq_str (bZ I q GF)
  | _=>exact absurd (show false=true from hs) Bool.false_ne_true
 | byt i =>
  obtain ⟨t,rfl⟩:=rx
  cases y with
  | byt j=>obtain ⟨t',rfl⟩:=ry;exact PySem.W.eq_bytes (bZ I q Hk)
  | _=>exact absurd (show false=true from hs) Bool.false_ne_true
 | _=>cases y <;> exact absurd (show false=true from hs) Bool.false_ne_true
theorem VE:cZ X (compareOp .NotEq) Xb:=by
 intro pins s σ H x y v u Q I rx ry h
 obtain ⟨hs,q⟩:=h
 cases x with
 | non =>
  cases rx
  cases y with
  | non=>cases ry;exact PySem.EqNone.ne_none_none (bZ I q (by simp))
  | bl j=>cases ry;exact PySem.EqNone.ne_none_bool (bZ I q (by simp))
  | int j=>obtain ⟨t',rfl⟩:=ry;exact PySem.EqNone.ne_none_int (bZ I q (by simp))
  | str j=>obtain ⟨t',rfl⟩:=ry;exact PySem.EqNone.ne_none_str (bZ I q (by simp))
  | _=>exact absurd (show false=true from hs) Bool.false_ne_true
 | bl i =>
  cases rx
  cases y with
  | non=>cases ry;exact PySem.EqNone.ne_bool_none (bZ I q (by simp))
  | bl j=>cases ry;exact ne_bool (bZ I q (congrArg not Mx))
  | str j=>obtain ⟨t',rfl⟩:=ry;exact PySem.EqMixed.ne_bool_str (bZ I q (by simp))
  | _=>exact absurd (show false=true from hs) Bool.false_ne_true
 | int i =>
  obtain ⟨t,rfl⟩:=rx
  cases y with
  | non=>cases ry;exact PySem.EqNone.ne_int_none (bZ I q (by simp))
  | int j=>obtain ⟨t',rfl⟩:=ry;exact ne_int (bZ I q (congrArg not GV))
  | str j=>obtain ⟨t',rfl⟩:=ry;exact PySem.EqMixed.ne_int_str (bZ I q (by simp))
  | _=>exact absurd (show false=true from hs) Bool.false_ne_true
 | str i =>
  obtain ⟨t,rfl⟩:=rx
  cases y with
  | non=>cases ry;exact PySem.EqNone.ne_str_none (bZ I q (by simp))
  | bl j=>cases ry;exact PySem.EqMixed.ne_str_bool (bZ I q (by simp))
  | int j=>obtain ⟨t',rfl⟩:=ry;exact PySem.EqMixed.ne_str_int (bZ I q (by simp))
  | str j=>obtain ⟨t',rfl⟩:=ry;exact ne_str (bZ I q (congrArg not GF))
  | _=>exact absurd (show false=true from hs) Bool.false_ne_true
 | byt i =>
  obtain ⟨t,rfl⟩:=rx
  cases y with
  | byt j=>obtain ⟨t',rfl⟩:=ry;exact PySem.W.ne_bytes (bZ I q (congrArg not Hk))
  | _=>exact absurd (show false=true from hs) Bool.false_ne_true
 | _=>cases y <;> exact absurd (show false=true from hs) Bool.false_ne_true
theorem Wl:cZ X (compareOp .Lt) (yV fun i j=>.bl (decide (i < j))):=Om fun _ _ _ _ _ _ _ q=>lt_int q
theorem VY:cZ X (compareOp .LtE) (yV fun i j=>.bl (decide (i<=j))):=Om fun _ _ _ _ _ _ _ q=>le_int q
theorem Wk:cZ X (compareOp .Gt) (yV fun i j=>.bl (decide (j < i))):=Om fun _ _ _ _ _ _ _ q=>gt_int q
theorem Mn:cZ X (compareOp .In) (fun x y H Q=>∃ i j,x=.str i/\y=.str j/\Q (.bl (!(Builtin.Str.occurrences j i 0 j.length 1).isEmpty)) H):=by
 intro pins s σ H x y v u Q I rx ry h
 obtain ⟨i,j,rfl,rfl,q⟩:=h
 obtain ⟨t,rfl⟩:=rx
 obtain ⟨t',rfl⟩:=ry
 exact in_str (bZ I q rfl)
theorem Uj:cZ X (compareOp .Is) (fun x y H Q=>y=.non/\Q (.bl (decide (x=.non))) H):=by
 intro pins s σ H x y v u Q I rx ry h
 obtain ⟨rfl,q⟩:=h
 cases ry
 refine is_none_gen (bZ I q ?_)
 cases x <;> first
  | (cases rx;rfl)
  | (obtain ⟨t,rfl⟩:=rx;rfl)
theorem cZ.or {f:Value->Value->Sem Value} {r r':R2} (h:cZ X f r) (h':cZ X f r'):cZ X f (fun x y H Q=>r x y H Q\/r' x y H Q):=by
 intro pins s σ H x y v u Q I rx ry q
 rcases q with q | q
 ·exact h pins s σ H x y v u Q I rx ry q
 ·exact h' pins s σ H x y v u Q I rx ry q
theorem Ls (b:Expr) {op:CmpOp} (h:op≠.In:=by decide) (h2:op≠.NotIn:=by decide):behindInMarks op b=false:=by
 have e1:(op == CmpOp.In)=false:=by cases op <;> first | rfl | exact absurd rfl h
 have e2:(op == CmpOp.NotIn)=false:=by cases op <;> first | rfl | exact absurd rfl h2
 cases b <;> simp [behindInMarks,e1,e2]
theorem RD {op:CmpOp} {r:R2} (ho:cZ X (compareOp op) r) (ha:PE X a ta) (hb:PE X b tb) (hm:behindInMarks op b=false):PE X (.Compare a [op] [b] pos) (Hd r ta tb):=by
 intro pins s σ H Q I h
 exact wpAny_Compare1 (JS ha hb I h fun v u s2 x y H2 I2 rx ry q=>ho pins s2 σ H2 x y v u Q I2 rx ry q) hm
def HX (t:TE):TT:=fun σ H Q=>t σ H fun x H'=>∃ k,x=.bl k/\Q k H'
theorem Qf {op:CmpOp} {r:R2} (ho:cZ X (compareOp op) r) (ha:PE X a ta) (hb:PE X b tb) (hm:behindInMarks op b=false):PT X (.Compare a [op] [b] pos) (HX (Hd r ta tb)):=by
 intro pins s σ H Q I h
 refine wpAny_isTrue_Compare1 (bB (ha pins s σ H _ I h) fun v s1 ⟨x,H1,I1,r1,q1⟩=>bB (hb pins s1 σ H1 _ I1 q1) fun u s2 ⟨y,H2,I2,r2,q2⟩ =>
  bB (ho pins s2 σ H2 x y v u _ I2 r1 r2 q2) fun c s3 ⟨z,H3,I3,r3,k,e,q3⟩=>?_) hm
 subst e
 cases r3
 exact wpAny_truthy_bool ⟨H3,I3,q3⟩
def DJ (r r':R2) (ta tb tc:TE):TE:=fun σ H Q=>ta σ H fun x H1=>tb σ H1 fun y H2=>r x y H2 fun z H3=>∃ k,z=.bl k /\
 (if k=true then tc σ H3 fun w' H4=>r' y w' H4 Q else Q (.bl false) H3)
theorem Ot {op op':CmpOp} {r r':R2} (ho:cZ X (compareOp op) r) (ho':cZ X (compareOp op') r') (ha:PE X a ta) (hb:PE X b tb) (hc:PE X c tc)
  (hm:lastMarks [op,op'] [b,c]=false:=by with_unfolding_all rfl):PE X (.Compare a [op,op'] [b,c] pos) (DJ r r' ta tb tc):=by
 intro pins s σ H Q I h
 refine Compare_chain (bB (ha pins s σ H _ I h) fun v s1 ⟨x,H1,I1,r1,q1⟩=>chain_link (bB (hb pins s1 σ H1 _ I1 q1) fun u s2 ⟨y,H2,I2,r2,q2⟩ =>
  bB (ho pins s2 σ H2 x y v u _ I2 r1 r2 q2) fun d s3 ⟨z,H3,I3,r3,k,e,q3⟩=>?_)) hm
 subst e
 cases r3
 refine wpAny_truthy_bool ?_
 cases k with
 | false=>exact ite_ff ⟨.bl false,H3,I3,rfl,q3⟩
 | true=>exact ite_tt (chain_last (bB (hc pins s3 σ H3 _ I3 q3) fun w' s4 ⟨z',H4,I4,r4,q4⟩=>ho' pins s4 σ H4 y z' u w' Q I4 r2 r4 q4))
theorem MM {op op':CmpOp} {r r':R2} (ho:cZ X (compareOp op) r) (ho':cZ X (compareOp op') r') (ha:PE X a ta) (hb:PE X b tb) (hc:PE X c tc)
  (hm:lastMarks [op,op'] [b,c]=false:=by with_unfolding_all rfl):PT X (.Compare a [op,op'] [b,c] pos) (HX (DJ r r' ta tb tc)):=by
 intro pins s σ H Q I h
 refine isTrue_chain (bB (ha pins s σ H _ I h) fun v s1 ⟨x,H1,I1,r1,q1⟩=>test_link (bB (hb pins s1 σ H1 _ I1 q1) fun u s2 ⟨y,H2,I2,r2,q2⟩ =>
  bB (ho pins s2 σ H2 x y v u _ I2 r1 r2 q2) fun d s3 ⟨z,H3,I3,r3,k,e,q3⟩=>?_)) hm
 subst e
 cases r3
 refine wpAny_truthy_bool ?_
 cases k with
 | false =>
  obtain ⟨k',e',q'⟩:=q3
  cases e'
  exact ite_ff ⟨H3,I3,q'⟩
 | true =>
  refine ite_tt (test_last (bB (hc pins s3 σ H3 _ I3 q3) fun w' s4 ⟨z',H4,I4,r4,q4⟩=>bB (ho' pins s4 σ H4 y z' u w' _ I4 r2 r4 q4) fun d' s5 ⟨z2,H5,I5,r5,k2,e2,q5⟩=>?_))
  subst e2
  cases r5
  exact wpAny_truthy_bool ⟨H5,I5,q5⟩
def NK (K:PySem.W.Frag) (x:V) (H:Hp) (k:Bool):Prop :=
 match x with
 | .non=>k=false
 | .bl b=>k=b
 | .int i=>k=(i != 0)
 | .str y=>y.length<=sizeLine/\k=((y.length:Int) != 0)
 | .byt y=>y.size<=sizeLine/\k=((y.size:Int) != 0)
 | .ref p=>(∃ xs,fB K H p xs/\k=!xs.isEmpty)\/(∃ xs,gI K H p xs/\k=!xs.isEmpty)\/∃ kvs,H p=some (.dK kvs)/\k=!kvs.isEmpty
 | _=>False
theorem HB {κ:Type} {kvs:List (κ × V)} {vs:List (κ × Value)} (r:KV kvs vs):(!vs.isEmpty)=!kvs.isEmpty:=by
 cases r <;> rfl
theorem Bo {xs:List V} {its:List Value} (r:Vals xs its):(!its.toArray.isEmpty)=!xs.isEmpty:=by
 cases r <;> simp
theorem uD:(sizeLine:Nat) < 2 ^ 63:=by rw [sizeLine_eq];decide
theorem Tx:W0 X (fun x H Q=>∃ k,NK X.K x H k/\Q k H):=by
 intro pins s σ H x v Q I rx h
 obtain ⟨k,e,q⟩:=h
 have hl:=uD
 have hs:sizeLine=16777216:=sizeLine_eq
 cases x with
 | non =>
  cases rx
  have e':k=false:=e
  subst e'
  exact truthy_none ⟨H,I,q⟩
 | bl b =>
  cases rx
  have e':k=b:=e
  subst e'
  exact wpAny_truthy_bool ⟨H,I,q⟩
 | int i =>
  obtain ⟨t,rfl⟩:=rx
  have e':k=(i != 0):=e
  subst e'
  exact PySem.P.truthy_int ⟨H,I,q⟩
 | str y =>
  obtain ⟨t,rfl⟩:=rx
  obtain ⟨hy,e'⟩:y.length<=sizeLine/\k=((y.length:Int) != 0):=e
  subst e'
  exact PySem.P.truthy_str (by omega) ⟨H,I.tok _,q⟩
 | byt y =>
  obtain ⟨t,rfl⟩:=rx
  obtain ⟨hy,e'⟩:y.size<=sizeLine/\k=((y.size:Int) != 0):=e
  subst e'
  exact PySem.W.truthy_bytes (by omega) ⟨H,I.tok _,q⟩
 | ref p =>
  cases rx
  have e':(∃ xs,fB X.K H p xs/\k=!xs.isEmpty)\/(∃ xs,gI X.K H p xs/\k=!xs.isEmpty)\/∃ kvs,H p=some (.dK kvs)/\k=!kvs.isEmpty:=e
  rcases e' with ⟨xs,hx,e'⟩ | ⟨xs,hx,e'⟩ | ⟨kvs,hx,e'⟩
  ·subst e'
   obtain ⟨its,r,pl,hz⟩:=I.list hx
   have hlen:=r.length
   exact wpAny_truthy_list pl.isList (by simp only [List.size_toArray];omega) ⟨H,I.tok _,by rw [Bo r];exact q⟩
  ·subst e'
   obtain ⟨its,r,pl,hz⟩:=I.tuple hx
   have hlen:=r.length
   exact truthy_tuple pl (by simp only [List.size_toArray];omega) ⟨H,I.tok _,by rw [Bo r];exact q⟩
  ·subst e'
   obtain ⟨hz,hS,vs,r,m⟩:kvs.length<=sizeLine/\(p == sysModules)=false/\∃ vs,KV kvs vs/\s.heap.DictOf (y0 X.prog X.w) p vs:=I.hok p _ hx
   have hlen:kvs.length=vs.length:=Paired.length r
   exact wpAny_truthy_dict hS m (by omega) ⟨H,I.tok _,by rw [HB r];exact q⟩
 | _=>exact (show False from e).elim
theorem NL (ha:PE X a ta) (he:∀ whole,isTrue a X.env whole=(do let v <- whole;standAt a.pos;holding [v] (truthy v))) :
  PT X a (fun σ H Q=>ta σ H fun x H'=>∃ k,NK X.K x H' k/\Q k H'):=by
 intro pins s σ H Q I h
 exact isTrue_plain (bB (ha pins s σ H _ I h) fun v s1 ⟨x,H1,I1,r1,q1⟩=>Tx pins s1 σ H1 x v Q I1 r1 q1) (he _)
theorem A5:cZ X (binaryOp .Add) (fun x y H Q=>∃ i j,x=.str i/\y=.str j/\i.length + j.length<=sizeLine/\Q (.str (i++j)) H):=by
 intro pins s σ H x y v u Q I rx ry h
 obtain ⟨i,j,rfl,rfl,hz,q⟩:=h
 obtain ⟨t,rfl⟩:=rx
 obtain ⟨t',rfl⟩:=ry
 exact add_str (fun t' tk=>⟨.str (i++j),H,I.tok _,⟨_,rfl⟩,q⟩) hz
theorem vals1 {x:V} {us:List Value} (r:Vals [x] us):∃ u,us=[u]/\RelV x u:=by
 cases r with
 | cons r1 r2=>cases r2;exact ⟨_,rfl,r1⟩
theorem vals2 {x y:V} {us:List Value} (r:Vals [x,y] us):∃ u w',us=[u,w']/\RelV x u/\RelV y w':=by
 cases r with
 | cons r1 r2 =>
  cases r2 with
  | cons r3 r4=>cases r4;exact ⟨_,_,rfl,r1,r3⟩
theorem E7:tI X (.type "str") (fun xs H Q=>∃ i,xs=[.int i]/\i.natAbs.log2 < 1920/\Q (.str (toString i)) H):=by
 intro pins s σ H xs us Q I r h
 obtain ⟨i,rfl,hz,q⟩:=h
 obtain ⟨u,rfl,t,rfl⟩:=vals1 r
 exact PySem.P.str_of_int hz ⟨.str _,H,I.tok _,⟨_,rfl⟩,q⟩
def Vi (K:PySem.W.Frag) (x:V) (H:Hp) (n:Nat):Prop :=
 match x with
 | .str y=>y.length<=sizeLine/\n=y.length
 | .byt y=>y.size<=sizeLine/\n=y.size
 | .ref p=>(∃ xs,fB K H p xs/\n=xs.length)\/∃ xs,gI K H p xs/\n=xs.length
 | _=>False
theorem Nz:tI X (.builtin "len") (fun xs H Q=>∃ x n,xs=[x]/\Vi X.K x H n/\Q (.int n) H):=by
 intro pins s σ H xs us Q I r h
 obtain ⟨x,n,rfl,e,q⟩:=h
 obtain ⟨u,rfl,rx⟩:=vals1 r
 have hl:=uD
 have hs:sizeLine=16777216:=sizeLine_eq
 cases x with
 | str y =>
  obtain ⟨t,rfl⟩:=rx
  obtain ⟨hy,e'⟩:y.length<=sizeLine/\n=y.length:=e
  subst e'
  exact len_str (by omega) ⟨.int _,H,I.tok _,⟨_,rfl⟩,q⟩
 | byt y =>
  obtain ⟨t,rfl⟩:=rx
  obtain ⟨hy,e'⟩:y.size<=sizeLine/\n=y.size:=e
  subst e'
  exact PySem.W.len_bytes (by omega) ⟨.int _,H,I.tok _,⟨_,rfl⟩,q⟩
 | ref p =>
  cases rx
  have e':(∃ xs,fB X.K H p xs/\n=xs.length)\/∃ xs,gI X.K H p xs/\n=xs.length:=e
  rcases e' with ⟨xs,hx,e'⟩ | ⟨xs,hx,e'⟩
  ·subst e'
   obtain ⟨its,r',pl,hz⟩:=I.list hx
   have hlen:=r'.length
   exact Calls.call_len_list pl.isList (by simp only [List.size_toArray];omega) ⟨.int xs.length,H,I.tok _,⟨_,by simp only [List.size_toArray];rw [hlen]⟩,q⟩
  ·subst e'
   obtain ⟨its,r',pl,hz⟩:=I.tuple hx
   have hlen:=r'.length
   exact len_tuple pl (by simp only [List.size_toArray];omega) ⟨.int xs.length,H,I.tok _,⟨_,by simp only [List.size_toArray];rw [hlen]⟩,q⟩
 | _=>exact (show False from e).elim
end
structure Oo (h:Heap) (x dx C:Addr) (mA:Str->Option Value):Prop where
 obj:h.get? x=some (PySem.W.instObj C dx)
 ns:h.Ns1 dx mA
 ne:dx≠x
theorem Ka {h:Heap} {dx:Addr} {mA:Str->Option Value} (n:h.Ns1 dx mA):∃ od,h.get? dx=some od/\∀ name,PySem.W.lookIn name od=some (mA name):=by
 obtain ⟨o,es,ep,ho,hd,hk,_,hm⟩:=n
 refine ⟨o,ho,fun name=>?_⟩
 have e:=hm name
 unfold nsFind findBy at e
 rw [<- Array.find?_toList] at e
 unfold PySem.W.lookIn
 rw [hd]
 dsimp only
 split
 ·rename_i y q
  rw [q] at e
  exact congrArg some e
 ·rename_i q
  rw [q] at e
  have a:es.toList.any (·.refKey)=false:=by
   rw [List.any_eq_false]
   intro y hy
   obtain ⟨z,t,hkey⟩:=hk y (Array.mem_toList_iff.mp hy)
   simp [DictEntry.refKey,hkey]
  have a':¬ es.toList.any (·.refKey)=true:=by rw [a];exact Bool.false_ne_true
  rw [if_neg a']
  exact congrArg some e
theorem Oo.look {h:Heap} {x dx C:Addr} {mA:Str->Option Value} (I:Oo h x dx C mA):∃ od,PySem.W.InstAt h x (PySem.W.instObj C dx) C (some od)/\∀ name,PySem.W.lookIn name od=some (mA name) :=
 let ⟨od,ho,hl⟩:=Ka I.ns
 ⟨od,⟨I.obj,rfl,rfl,ho⟩,hl⟩
section
variable {prog:Program} {w:World} {A:Around} {E:Value->Shared->Prop} {s:Shared} {K:PySem.W.Frag} {x dx C f:Addr} {mA:Str->Option Value} {name:Str} {v:Value}
end
def Jl (f:Str) (v:V):List (Str × V)->List (Str × V)
 | []=>[(f,v)]
 | (g,x) :: r=>if g=f then (g,v) :: r else (g,x) :: Jl f v r
theorem FW (f g:Str) (v:V):∀ fs:List (Str × V),(Jl f v fs).lookup g=if g=f then some v else fs.lookup g
 | []=>by
  show List.lookup g [(f,v)]=_
  by_cases h:g=f
  ·have hb:(g == f)=true:=beq_iff_eq.mpr h
   simp only [List.lookup,hb,if_pos h]
  ·have hb:(g == f)=false:=beq_eq_false_iff_ne.mpr h
   simp only [List.lookup,hb,if_neg h]
 | (k,x) :: r=>by
  have ih:=FW f g v r
  rw [show Jl f v ((k,x) :: r)=(if k=f then (k,v) :: r else (k,x) :: Jl f v r) from rfl]
  by_cases hk:k=f
  ·rw [if_pos hk]
   by_cases h:g=k
   ·have hb:(g == k)=true:=beq_iff_eq.mpr h
    simp only [List.lookup,hb,if_pos (h.trans hk)]
   ·have hb:(g == k)=false:=beq_eq_false_iff_ne.mpr h
    simp only [List.lookup,hb,if_neg (fun e:g=f=>h (e.trans hk.symm))]
  ·rw [if_neg hk]
   by_cases h:g=k
   ·have hb:(g == k)=true:=beq_iff_eq.mpr h
    simp only [List.lookup,hb,if_neg (fun e:g=f=>hk (h.symm.trans e))]
   ·have hb:(g == k)=false:=beq_eq_false_iff_ne.mpr h
    simp only [List.lookup,hb]
    exact ih
section
variable {P:Program} {w:World} {H H':Hp} {h h':Heap} {a C dx:Addr} {fs fs':List (Str × V)}
theorem QH (hok:eG P w H h) (e:H a=some (.ins C dx fs)):∃ mA,Oo h a dx C mA/\(∀ f,E8 (fs.lookup f) (mA f))/\PySem.Within mA (fs.map (·.1))/\fs.length<=1000/\H dx=some (.own a):=by
 obtain ⟨d,z,ne,ob,mA,n,r,q⟩:=(show dI P w H h a (.ins C dx fs) from hok a _ e)
 exact ⟨mA,⟨ob,n,ne⟩,r,q,z,d⟩
end
structure SY (K:PySem.W.Frag) (C:Addr):Prop where
 pg:PySem.W.plainGet K C Str.empty=true
 hd:PySem.W.hasDictIn K C=true
 po:PySem.W.plainOver K C=true
 sa:PySem.W.findIn K (.ref C) "__setattr__"=some (some (.builtin "object.__setattr__"))
theorem SY.get {K:PySem.W.Frag} {C:Addr} (c:SY K C) (f:Str):PySem.W.plainGet K C f=true:=c.pg
def uS (K:PySem.W.Frag) (C:Addr) (f:Str):Prop:=PySem.W.findIn K (.ref C) f=some none
section
variable {X:Cx} {pins:List (Addr × Obj)} {σ:St} {H:Hp} {s:Shared} {a C dx:Addr} {fs:List (Str × V)} {f:Str} {v:V} {A:Around} {E:Value->Shared->Prop}
theorem QS {prog:Program} {w:World} {env:Env} {e:Expr} {f:Str} {pos:Pos} {s:Shared} {Q:Value->Shared->Prop} (hb:attributeBase e f env (eval e env)=eval e env)
  (h:wpAny (model prog w) A (eval e env) (fun o s₁=>wpAny (model prog w) A (getAttr o f true) Q E s₁) E s):wpAny (model prog w) A (eval (.Attribute e f pos) env) Q E s :=
 Attribute_any_ h (by rw [arm_eval_Attribute,hb])
end
section
variable {X:Cx} {o e value:Expr} {f:Str} {pos pos' tpos:Pos} {ta tv:TE}
end
section
variable {X:Cx} {pins:List (Addr × Obj)} {σ:St} {H:Hp} {s:Shared} {A:Around} {E:Value->Shared->Prop} {Q:Value->Shared->Prop} {c:Value} {b:Bool}
inductive oU (K:PySem.W.Frag) (H:Hp):V->Value->Prop where
 | non:oU K H .non (.type "NoneType")
 | bl (x:Bool):oU K H (.bl x) (.type "bool")
 | int (i:Int):oU K H (.int i) (.type "int")
 | str (x:Str):oU K H (.str x) (.type "str")
 | flt (x:UInt64):oU K H (.flt x) (.type "float")
 | lst {a:Addr} {xs:List V} (e:H a=some (.lst xs)):oU K H (.ref a) (.type "list")
 | frz {a:Addr} {o:Obj} {xs:List V} (e:H a=some (.frz o (.lst xs))):oU K H (.ref a) (.type "list")
 | tup {a:Addr} {xs:List V} (e:H a=some (.tup xs)):oU K H (.ref a) (.type "tuple")
 | dK {a:Addr} {kvs:List (Key × V)} (e:H a=some (.dK kvs)):oU K H (.ref a) (.type "dict")
 | dT {a:Addr} {kvs:List (List Key × V)} (e:H a=some (.dT kvs)):oU K H (.ref a) (.type "dict")
 | ins {a C dx:Addr} {fs:List (Str × V)} (e:H a=some (.ins C dx fs)) (cl:SY K C) (ha:PySem.W.findIn K (.ref C) "__class__"=some (some (.builtin "object.__class__")))
   (hn:PySem.W.specialIn K (.builtin "object.__class__") "__get__"=some (some (.builtin "getset_descriptor.__get__"))) (htk:PySem.W.takesIn K (.builtin "object.__class__")=some true)
   (hm:PySem.W.mroIn K C (.type "object")=some true):oU K H (.ref a) (.ref C)
theorem LC {x:V} {u t:Value} (I:Inv X pins σ H s) (rx:RelV x u) (ty:oU X.K H x t) (e:PySem.W.kitOne X.K t c=some b) (h:∀ tk,Q (.bool b) { s with toks:=tk }) :
  wpAny (model X.prog X.w) A (call (.builtin "isinstance") [u,c]) Q E s:=by
 cases ty with
 | non=>cases (show u=Value.none from rx);exact PySem.W.kia_one PySem.W.kitx_none I.kIn True.intro e (fun z=>nomatch z) h
 | bl y=>cases (show u=Value.bool y from rx);exact PySem.W.kia_one PySem.W.kitx_bool I.kIn True.intro e (fun z=>nomatch z) h
 | int i=>obtain ⟨t,q⟩:=(show ∃ t,u=Value.int i t from rx);cases q;exact PySem.W.kia_one PySem.W.kitx_int I.kIn True.intro e (fun z=>nomatch z) h
 | str y=>obtain ⟨t,q⟩:=(show ∃ t,u=Value.str y t from rx);cases q;exact PySem.W.kia_one PySem.W.kitx_str I.kIn True.intro e (fun z=>nomatch z) h
 | flt y=>obtain ⟨t,q⟩:=(show ∃ t,u=Value.float y t from rx);cases q;exact PySem.W.kia_one PySem.W.kitx_float I.kIn True.intro e (fun z=>nomatch z) h
 | @lst a xs ea =>
  cases (show u=Value.ref a from rx)
  obtain ⟨_,_,n,_,h1⟩:=(show dI X.prog X.w H s.heap a (.lst xs) from I.hok a _ ea)
  exact PySem.W.kia_one PySem.W.kitx_list I.kIn ⟨_,h1,rfl⟩ e (fun z=>nomatch z) h
 | @frz a ob xs ea =>
  cases (show u=Value.ref a from rx)
  obtain ⟨_,_,_,n,_,h1⟩:=(show dI X.prog X.w H s.heap a (.frz ob (.lst xs)) from I.hok a _ ea)
  exact PySem.W.kia_one PySem.W.kitx_list I.kIn ⟨_,h1,rfl⟩ e (fun z=>nomatch z) h
 | @tup a xs ea =>
  cases (show u=Value.ref a from rx)
  obtain ⟨_,_,_,p⟩:=(show dI X.prog X.w H s.heap a (.tup xs) from I.hok a _ ea)
  obtain ⟨o,h1,h2,_⟩:=p
  exact PySem.W.kia_one PySem.W.kitx_tuple I.kIn ⟨o,h1,h2⟩ e (fun z=>nomatch z) h
 | @dK a kvs ea =>
  cases (show u=Value.ref a from rx)
  obtain ⟨_,_,vs,_,p⟩:=(show dI X.prog X.w H s.heap a (.dK kvs) from I.hok a _ ea)
  obtain ⟨o,es,ep,h1,h2,_⟩:=p
  exact PySem.W.kia_one PySem.W.kitx_dict I.kIn ⟨o,h1,h2.1⟩ e (fun z=>nomatch z) h
 | @dT a kvs ea =>
  cases (show u=Value.ref a from rx)
  obtain ⟨_,_,xs,_,o,es,ep,h1,h2,_⟩:=(show dI X.prog X.w H s.heap a (.dT kvs) from I.hok a _ ea)
  exact PySem.W.kia_one PySem.W.kitx_dict I.kIn ⟨o,h1,h2.1⟩ e (fun z=>nomatch z) h
 | @ins a C dx fs ea cl ha hn htk hm =>
  cases (show u=Value.ref a from rx)
  obtain ⟨mA,O,_⟩:=QH I.hok ea
  obtain ⟨od,J,_⟩:=O.look
  exact PySem.W.kia_one (PySem.W.kitx_own (cl.get _) cl.hd ha hn htk hm) I.kIn J e (fun z=>nomatch z) h
end
structure cX (k:Nat) (A:Around):Prop where
 hd:A.handled=none
 dp:A.depth + 3 * k + 5 < recursionLimit
 un:A.units + 16 * k + 200 < cLine
theorem cX.mono {j k:Nat} {A:Around} (r:cX k A) (h:j<=k):cX j A:=⟨r.hd,by have:=r.dp;omega,by have:=r.un;omega⟩
theorem cX.deeper {k:Nat} {A:Around} (r:cX (k + 1) A) (env:Env):cX k (A.deeper env) :=
 ⟨r.hd,by have:=r.dp;show A.depth + 1 + 3 * k + 5 < _;omega,by have:=r.un;show A.units + 3 + 16 * k + 200 < _;omega⟩
theorem JB {A:Around} {C:Addr} {us:List Value} {kw:List (Str × Value)}:(A.under (.builtin "type.__call__" ⟨.ref C :: us,kw⟩)).depth=A.depth + 1:=by
 first | rfl | simp [Around.under,Code.weight,Code.isCreation,Code.isGuard,Code.isCaller,Code.frames,Code.isFrame,guardIds]
theorem JH {A:Around} {C:Addr} {us:List Value} {kw:List (Str × Value)}:(A.under (.builtin "type.__call__" ⟨.ref C :: us,kw⟩)).units=A.units + 1:=by
 first | rfl | simp [Around.under,Code.cUnits,Code.frames,Code.isFrame]
theorem cX.depth {k:Nat} {A:Around} (r:cX k A):A.depth < recursionLimit:=by have:=r.dp;omega
theorem cX.units {k:Nat} {A:Around} (r:cX k A):A.units + 64 < cLine:=by have:=r.un;omega
theorem cX.units0 {k:Nat} {A:Around} (r:cX k A):A.units < cLine:=by have:=r.un;omega
def U7:TA:=fun _ H Q=>Q [] H
def PQ (ta:TE) (tr:TA):TA:=fun σ H Q=>ta σ H fun x H1=>tr σ H1 fun xs H2=>Q (x :: xs) H2
section
variable {X:Cx} {e:Expr} {es:List Expr} {te:TE} {t:TA} {pos:Pos}
theorem Bp:PA X [] U7:=fun _ _ _ _ H Q I h=>Calls.spliced_nil ⟨[],H,I,.nil,h⟩
theorem uH (ha:PE X e te) (hr:PA X es t) (hs:starEach (e :: es) X.env=(false,eval e X.env) :: starEach es X.env:=by rfl):PA X (e :: es) (PQ te t):=by
 intro pos pins s σ H Q I h
 rw [hs]
 show wpAny _ _ (spliced ((false,eval e X.env) :: backTo pos (starEach es X.env))) _ _ s
 refine Calls.spliced_cons (bB (ha pins s σ H _ I h) fun u s1 ⟨x,H1,I1,r1,q1⟩=>?_)
 exact bB (hr pos pins s1 σ H1 _ I1 q1) fun us s2 ⟨xs,H2,I2,r2,q2⟩=>⟨x :: xs,H2,I2,.cons r1 r2,q2⟩
def Vd (t:TA):TE:=fun σ H Q=>t σ H fun xs H1=>xs.length<=sizeLine/\∀ p,H1 p=none->Q (.ref p) (upd H1 p (.tup xs))
def UZ (t:TA):TE:=fun σ H Q=>t σ H fun xs H1=>xs.length<=sizeLine/\∀ p,H1 p=none->Q (.ref p) (upd H1 p (.lst xs))
theorem Vn {x1} (h:PA X es t):PE X (.Tuple es x1 pos) (Vd t):=by
 intro pins s σ H Q I hq
 refine wpAny_Tuple_spliced (bB (h pos pins s σ H _ I hq) fun us s1 ⟨xs,H1,I1,r,z,q⟩=>⟨by rw [<- r.length];exact z,?_⟩)
 have hf:H1 s1.heap.objs.size=none:=I1.hok.fresh (Nat.le_refl _)
 refine ⟨.ref s1.heap.objs.size,upd H1 s1.heap.objs.size (.tup xs),I1.laid (t':=s1.toks) (fun b u e=>Heap.get?_push_of_some _ e) (Nat.le_refl _) ?_,rfl,q _ hf⟩
 exact ⟨z,us,r,⟨_,Heap.get?_push_size _ rfl,rfl,rfl,_,rfl⟩⟩
theorem Tq (h:PA X es t):PE X (.List es pos) (UZ t):=by
 intro pins s σ H Q I hq
 refine wpAny_List_spliced (bB (h pos pins s σ H _ I hq) fun us s1 ⟨xs,H1,I1,r,z,q⟩=>⟨by rw [<- r.length];exact z,?_⟩)
 have hf:H1 s1.heap.objs.size=none:=I1.hok.fresh (Nat.le_refl _)
 refine ⟨.ref s1.heap.objs.size,upd H1 s1.heap.objs.size (.lst xs),I1.laid (t':=s1.toks) (fun b u e=>Heap.get?_push_of_some _ e) (Nat.le_refl _) ?_,rfl,q _ hf⟩
 exact ⟨z,us,0,r,Heap.get?_push_size _ rfl⟩
end
abbrev Sp:=List V->Hp->VK->XK->Prop
abbrev xC:=List Env->Hp->Shared->XK->Value->Shared->Prop
structure tU (P:Program) (w:World) (K:PySem.W.Frag) (mg:Str->Option Value) (base:Heap) (A:Around) (outer:List Env) (s:Shared) (H:Hp):Prop where
 frames:A.frames=some outer
 mod:Mod K mg base
 bs:∀ b o,base.get? b=some o->s.heap.get? b=some o/\H b=none
 bsz:base.objs.size<=s.heap.objs.size
 funs:s.heap.FunFrames base outer
 frf:∀ b∈gG outer,H b=none
 hok:eG P w H s.heap
 bare:AllBare s.gens
def CE (outer:List Env) (P:Program) (w:World) (H:Hp) (s:Shared) (Q:VK) (u:Value) (s':Shared):Prop :=
 ∃ v H',s'.os=s.os/\AllBare s'.gens/\Un (gG outer) [] H H' s.heap s'.heap/\eG P w H' s'.heap/\RelV v u/\Q v H'
def CR (CX:xC) (outer:List Env) (P:Program) (w:World) (H:Hp) (s:Shared) (Q:VK) (E:XK) (r:Result) (s':Shared):Prop :=
 match r with
 | .ok (.ret u)=>CE outer P w H s Q u s'
 | .ok _=>False
 | .error e=>CX outer H s E e s'
structure fJ (P:Program) (w:World) (K:PySem.W.Frag) (mg:Str->Option Value) (base:Heap) (CX:xC) (k:Nat) (f:Addr) (fd:FuncData) (ps:List Str) (sp:Sp):Prop where
 len:∀ vs H Q E,sp vs H Q E->vs.length=ps.length
 run:∀ (A:Around) (outer:List Env) (s:Shared) (H:Hp) (args:Args) (us:List Value) (vs:List V) (Q:VK) (E:XK),cX k A->tU P w K mg base A outer s H->BindsTo s fd args (ps.zip us)->Vals vs us->sp vs H Q E ->
  codeAny (model P w) A (.call (.ref f) args) (CR CX outer P w H s Q E) s
theorem tU.make {P:Program} {w:World} {K:PySem.W.Frag} {mg:Str->Option Value} {base:Heap} {A:Around} {outer:List Env} {s:Shared} {H:Hp} (e:tU P w K mg base A outer s H) (C:Addr) (us:List Value) (kw:List (Str × Value)) :
  tU P w K mg base (A.under (.builtin "type.__call__" ⟨.ref C :: us,kw⟩)) outer s H:=⟨by first | exact e.frames | (simpa [Around.under,Code.envs,Code.isFrame,pushEnvs] using e.frames),e.mod,e.bs,e.bsz,e.funs,e.frf,e.hok,e.bare⟩
section
variable {X:Cx} {pins:List (Addr × Obj)} {σ:St} {H:Hp} {s s':Shared}
theorem Inv.env0 (I:Inv X pins σ H s):tU X.prog X.w X.K X.mg X.base X.A X.stack s H :=
 ⟨I.ok.frames,I.ok.mod,I.bs,Nat.le_trans I.ok.bsz I.sz,I.stack,I.stkFree,I.hok,I.bare⟩
theorem Inv.after {Q:VK} {u:Value} (I:Inv X pins σ H s) (h:CE X.stack X.prog X.w H s Q u s'):EP X pins σ Q u s':=by
 obtain ⟨v,H',os,bare,un,hok,r,q⟩:=h
 obtain ⟨hh,g,d,t,os'⟩:=s'
 obtain rfl:os'=s.os:=os
 exact ⟨v,H',I.call (h':=hh) (g':=g) (d':=d) (t':=t) (ch:=[]) un hok bare (fun b z=>absurd z (by simp)),r,q⟩
end
def JP (sp:Sp) (dvs:List V) (E:XK) (t:TA):TE:=fun σ H Q=>t σ H fun vs H1=>sp (vs++dvs) H1 Q E
def Binds (K:PySem.W.Frag) (fd:FuncData) (ps:List Str) (ds:List Value):Prop :=
 ∀ (s:Shared) (us:List Value),K.In s.heap->(us++ds).length=ps.length->BindsTo s fd ⟨us,[]⟩ (ps.zip (us++ds))
theorem Binds.all {K:PySem.W.Frag} {fd:FuncData} {ps:List Str} (h:∀ us:List Value,us.length=ps.length->bindArgs fd ⟨us,[]⟩=pure (ps.zip us)):Binds K fd ps []:=fun s us _ hl=>by
 rw [List.append_nil] at hl ⊢
 exact .of_eq (h us hl)
def Passes (CX:xC) (X:Cx) (E:XK):Prop:=∀ (pins:List (Addr × Obj)) (σ:St) (H:Hp) (s:Shared) (e:Value) (s':Shared),Inv X pins σ H s->CX X.stack H s E e s'->X.xe e s'
section
variable {X:Cx} {CX:xC} {k:Nat} {f C:Addr} {fd:FuncData} {ps:List Str} {sp:Sp} {dvs:List V} {ds:List Value} {E:XK} {x m:Str} {p pos apos:Pos} {e o:Expr} {es:List Expr} {ta:TE} {t:TA}
theorem Fp {pins:List (Addr × Obj)} {σ:St} {H:Hp} {s:Shared} {Q:VK} {us:List Value} {vs:List V} (F:fJ X.prog X.w X.K X.mg X.base CX k f fd ps sp) (hr:cX k X.A) (hb:Binds X.K fd ps ds) (hd:Vals dvs ds) (hx:Passes CX X E)
  (I:Inv X pins σ H s) (r:Vals vs us) (h:sp (vs++dvs) H Q E):wpAny (model X.prog X.w) X.A (call (.ref f) us) (EP X pins σ Q) X.xe s:=by
 have r2:Vals (vs++dvs) (us++ds):=r.append hd
 have hl:(us++ds).length=ps.length:=by rw [<- r2.length];exact F.len _ _ _ _ h
 refine wpAny_call (codeAny_mono (F.run X.A X.stack s H ⟨us,[]⟩ (us++ds) (vs++dvs) Q E hr I.env0 (hb s us I.kIn hl) r2 h) fun r s' hq=>?_)
 cases r with
 | error e=>exact hx pins σ H s e s' I hq
 | ok fl =>
  cases fl with
  | ret u=>exact I.after hq
  | next=>exact False.elim hq
  | brk=>exact False.elim hq
  | cont=>exact False.elim hq
theorem Q8 (F:fJ X.prog X.w X.K X.mg X.base CX k f fd ps sp) (hr:cX k X.A) (hg:Gl X x) (hm:X.mg x=some (.ref f)) (hk:PySem.W.keepIn X.K (.ref f)=true) (hb:Binds X.K fd ps ds) (hd:Vals dvs ds) (hx:Passes CX X E)
  (ha:PA X (e :: es) t) (hdb:(x == ("__debug__":Str))=false:=by decide) (he:starEach (e :: es) X.env=(false,eval e X.env) :: starEach es X.env:=by rfl) (hpl:(backTo pos (starEach es X.env)).any (·.1)=false:=by rfl) :
  PE X (.Call (.Name x p) (e :: es) [] pos) (JP sp dvs E t):=by
 intro pins s σ H Q I h
 refine wpAny_Call_Name_kw (lK I hg hm ?_ hdb)
 refine PySem.W.callWith_K (h₀:=X.base) I.ok.mod.kin hk (bB (ha pos pins s σ H _ I h) fun us s1 ⟨vs,H1,I1,r,q⟩=>⟨I1.kIn,?_⟩) he hpl
 exact Fp F hr hb hd hx I1 r q
end
section
variable {X:Cx} {CX:xC} {k:Nat} {f C:Addr} {fd:FuncData} {ps ks:List Str} {sp:Sp} {E:XK} {x m:Str} {p pos apos kpos:Pos} {e o:Expr} {es:List Expr} {kws:List Keyword} {te ta:TE} {t tk:TA} {nm:Option Str}
variable {g:List Value->List Value->List Value} {gV:List V->List V->List V}
end
structure aV (N P:List Str) (sc:Scope):Prop where
 kind:sc.kind=.function
 co:sc.isCoroutine=false
 gen:sc.isGenerator=false
 nd:N.Nodup
 pre:N.take P.length=P
 par:∀ x∈P,sc.names.lookup x=some .local\/sc.names.lookup x=some .cell
 nofree:∀ y∈sc.names,y.2≠.free
theorem CK {kindOf:Str->Option NameKind} {x:Str}:∀ {binds:List (Str × Value)} {m:Str->Option Value},(∀ v,(x,v) ∉ binds)->bindL kindOf binds m x=m x
 | [],_,_=>rfl
 | (n,v) :: r,m,h=>by
  unfold bindL
  rw [CK fun w hw=>h w (List.mem_cons_of_mem _ hw)]
  split
  ·have:x≠n:=by rintro rfl;exact h v List.mem_cons_self
   simp [this]
  ·rfl
theorem CN {kindOf:Str->Option NameKind} {x:Str}:∀ {binds:List (Str × Value)} {m:Str->Option Value},(∀ v,(x,v) ∉ binds)->bindC kindOf binds m x=m x
 | [],_,_=>rfl
 | (n,v) :: r,m,h=>by
  unfold bindC
  rw [CN fun w hw=>h w (List.mem_cons_of_mem _ hw)]
  split
  ·rfl
  ·have:x≠n:=by rintro rfl;exact h v List.mem_cons_self
   simp [this]
theorem CM {kindOf:Str->Option NameKind} {x:Str} {v:Value}:∀ {P:List Str} {vs:List Value} {i:Nat} {m:Str->Option Value},P.Nodup->P[i]?=some x->vs[i]?=some v->kindOf x=some .local ->
  bindL kindOf (P.zip vs) m x=some v
 | [],_,_,_,_,h,_,_=>by simp at h
 | _ :: _,[],_,_,_,_,h,_=>by simp at h
 | p :: P,w :: vs,0,m,nd,h1,h2,hk=>by
  simp at h1 h2;subst h1;subst h2
  show bindL kindOf ((p,w) :: P.zip vs) m p=_
  unfold bindL
  rw [CK fun v hv=>(List.nodup_cons.mp nd).1 (List.of_mem_zip hv).1,if_pos hk]
  simp
 | p :: P,w :: vs,i + 1,m,nd,h1,h2,hk=>by
  show bindL kindOf ((p,w) :: P.zip vs) m x=_
  unfold bindL
  exact CM (i:=i) (List.nodup_cons.mp nd).2 (by simpa using h1) (by simpa using h2) hk
theorem Cg {kindOf:Str->Option NameKind} {x:Str} {v:Value}:∀ {P:List Str} {vs:List Value} {i:Nat} {m:Str->Option Value},P.Nodup->P[i]?=some x->vs[i]?=some v->kindOf x≠some .local ->
  bindC kindOf (P.zip vs) m x=some v
 | [],_,_,_,_,h,_,_=>by simp at h
 | _ :: _,[],_,_,_,_,h,_=>by simp at h
 | p :: P,w :: vs,0,m,nd,h1,h2,hk=>by
  simp at h1 h2;subst h1;subst h2
  show bindC kindOf ((p,w) :: P.zip vs) m p=_
  unfold bindC
  rw [CN fun v hv=>(List.nodup_cons.mp nd).1 (List.of_mem_zip hv).1,if_neg hk]
  simp
 | p :: P,w :: vs,i + 1,m,nd,h1,h2,hk=>by
  show bindC kindOf ((p,w) :: P.zip vs) m x=_
  unfold bindC
  exact Cg (i:=i) (List.nodup_cons.mp nd).2 (by simpa using h1) (by simpa using h2) hk
def start (N:List Str) (vs:List V):St:=vs.map some++List.replicate (N.length - vs.length) none
def kX (CX:xC) (P:Program) (w:World) (K:PySem.W.Frag) (mg:Str->Option Value) (base:Heap) (N:List Str) (qual:Str) (scope:Scope) (f:Addr) (cd:Value) (A:Around) (outer:List Env) (s:Shared) (H:Hp) (E:XK):Cx where
 prog:=P
 w:=w
 K:=K
 mg:=mg
 base:=base
 A:=A.deeper (envOfC qual scope s.heap.objs.size f cd)
 N:=N
 s₀:=s
 H₀:=H
 env:=envOfC qual scope s.heap.objs.size f cd
 outer:=outer
 stack:=envOfC qual scope s.heap.objs.size f cd :: outer
 ex:=[]
 calm:=true
 fn:=fun _=>true
 pn:=[]
 xe:=fun e s'=>wpAny (model P w) (A.deeper (envOfC qual scope s.heap.objs.size f cd)) (leaving (envOfC qual scope s.heap.objs.size f cd) e) (fun _ s''=>CX outer H s E e s'') (fun e' s''=>CX outer H s E e' s'') s'
theorem Fw {sc:Scope} {n:Nat} {x:Str} (h:sc.names.lookup x=some .cell):∃ c,(cellsFrom n sc.names []).lookup x=some c:=by
 have q:=PySem.W.cellsFrom_some sc.names n [] (.inl h)
 exact Option.isSome_iff_exists.mp q
theorem xK {CX:xC} {P:Program} {w:World} {K:PySem.W.Frag} {mg:Str->Option Value} {base:Heap} {N ps:List Str} {qual:Str} {scope:Scope} {f:Addr} {cd:Value} {A:Around} {outer:List Env} {s s1:Shared} {H:Hp} {E:XK} {us:List Value} {vs:List V}
  (S:aV N ps scope) (hd:A.handled=none) (e0:tU P w K mg base A outer s H) (hl:vs.length=ps.length) (r:Vals vs us)
  (x:InCallC s s.heap.objs.size (bindL (envOfC qual scope s.heap.objs.size f cd).kindOf (ps.zip us) fun _=>none) (cellsFrom (s.heap.objs.size + 1) scope.names []) (bindC (envOfC qual scope s.heap.objs.size f cd).kindOf (ps.zip us) fun _=>none) s1) :
  Inv (kX CX P w K mg base N qual scope f cd A outer s H E) [] (start N vs) H s1:=by
 have hpl:ps.length<=N.length:=by have:=congrArg List.length S.pre;rw [List.length_take] at this;omega
 obtain ⟨h1,tk,rfl,hk⟩:=x.done
 have noA:∀ b:Addr,b ∉ (kX CX P w K mg base N qual scope f cd A outer s H E).ex:=fun b z=>absurd (show b∈([]:List Addr) from z) (by simp)
 refine ⟨⟨e0.mod,S.kind,rfl,rfl,Nat.le_refl _,fun y z c h1 h2=>?_,fun y hy=>?_,fun y c _ h=>?_,fun _=>hd,Around.frames_deeper e0.frames,.inr ⟨rfl,rfl⟩,fun b z=>absurd z (noA b),e0.bs,e0.bsz,fun b _ _=>noA b,fun b z=>absurd z (noA b),e0.funs,e0.frf⟩,
  rfl,e0.bare,Un.kept hk,⟨_,x.toInCall.ns,fun i y v h1 h2 h3=>?_⟩,fun y c h=>⟨_,x.cell y c h⟩,e0.hok.fresh (Nat.le_refl _),fun y c h=>?_,fun p hp=>absurd (show p∈([]:List (Addr × Obj)) from hp) (by simp),e0.hok.kept hk,?_⟩
 ·exact name_of_addr x.apart (PySem.mem_of_lookup h1) (PySem.mem_of_lookup h2)
 ·have hy:scope.names.lookup y=some .cell\/scope.names.lookup y=some .free:=hy
  rcases hy with hy | hy
  ·exact Fw hy
  ·exact absurd rfl (S.nofree _ (PySem.mem_of_lookup hy))
 ·exact Nat.le_of_lt (x.above y c (PySem.mem_of_lookup h))
 ·have hi:i < vs.length:=by
   unfold start at h2
   by_cases hi:i < vs.length
   ·exact hi
   ·rw [List.getElem?_append_right (by simpa using hi)] at h2
    rw [List.getElem?_replicate] at h2
    split at h2 <;> cases h2
  have ha:vs[i]?=some v:=by
   unfold start at h2
   rw [List.getElem?_append_left (by simpa using hi),List.getElem?_map] at h2
   cases e:vs[i]? with
   | none=>rw [e] at h2;cases h2
   | some a=>rw [e] at h2;cases h2;rfl
  obtain ⟨u,hu,rv⟩:=r.get ha
  have hp:ps[i]?=some y:=by
   rw [<- S.pre,List.getElem?_take_of_lt (by omega)];exact h1
  have ndP:ps.Nodup:=by rw [<- S.pre];exact S.nd.sublist (List.take_sublist _ _)
  refine ⟨u,rv,?_⟩
  rcases S.par y (List.mem_of_getElem? hp) with k | k
  ·exact .inl ⟨k,CM ndP hp hu k⟩
  ·obtain ⟨c,e⟩:=Fw (n:=s.heap.objs.size + 1) k
   refine .inr ⟨.inl k,c,e,?_⟩
   have q:=x.cell y c e
   rw [Cg ndP hp hu (by show scope.names.lookup y≠_;rw [k];decide)] at q
   exact q
 ·exact e0.hok.fresh (Nat.le_of_lt (x.above y c (PySem.mem_of_lookup h)))
 ·unfold start
  show _=N.length
  rw [List.length_append,List.length_map,List.length_replicate]
  omega
theorem PF {CX:xC} {P:Program} {w:World} {K:PySem.W.Frag} {mg:Str->Option Value} {base:Heap} {k:Nat} {f:Addr} {name qual:Str} {params:Arguments} {body:List Stmt} {scope:Scope} {dV kV doc pm cdv ct oc:Value} {an od:Option Addr}
  {osl:Array (Option Value)} {N ps:List Str} {sp:Sp} (lk:K.lookup f=some ⟨oc,od,.func (PySem.W.fnOf name qual params body scope dV kV doc pm an cdv ct),osl⟩) (hcd:PySem.W.codeIn K cdv qual=true) (S:aV N ps scope)
  (len:∀ vs H Q E,sp vs H Q E->vs.length=ps.length)
  (hbody:∀ (A:Around) (outer:List Env) (s:Shared) (H:Hp) (vs:List V) (Q:VK) (E:XK),cX k (A.deeper (envOfC qual scope s.heap.objs.size f cdv))->sp vs H Q E ->
   ∃ t,mZ (kX CX P w K mg base N qual scope f cdv A outer s H E) body t/\t { nx:=fun _ H'=>Q .non H',rt:=Q } (start N vs) H) :
  fJ P w K mg base CX (k + 1) f (PySem.W.fnOf name qual params body scope dV kV doc pm an cdv ct) ps sp:=by
 refine ⟨len,fun A outer s H args us vs Q E hr e0 hb r hsp=>?_⟩
 have hl:=len _ _ _ _ hsp
 have KX:K.In s.heap:=e0.mod.kin.keeps fun b o e=>(e0.bs b o e).1
 have lim:s.heap.NoLimit:=e0.mod.nolimit.keeps fun b o e=>(e0.bs b o e).1
 have hkind:∀ y∈ps.zip us,scope.names.lookup y.1=some .local\/(scope.names.lookup y.1=some .cell/\((cellsFrom (s.heap.objs.size + 1) scope.names []).lookup y.1).isSome=true):=fun ⟨n,v⟩ hy=>by
  rcases S.par n (List.of_mem_zip hy).1 with q | q
  ·exact .inl q
  ·exact .inr ⟨q,PySem.W.cellsFrom_some _ _ _ (.inl q)⟩
 refine codeAny_call_function hr.depth (KX _ _ lk) rfl S.co S.gen rfl (PySem.W.codeRec_of KX hcd) (hb _ _ _ _ ?_)
 refine wpAny_newFunctionEnv_cells S.kind hkind fun env he s1 x=>?_
 subst he
 refine ⟨lim.keeps x.toInCall.keep,codeAny_func ?_⟩
 obtain ⟨t,ht,hq⟩:=hbody A outer s H vs Q E (hr.deeper _) hsp
 have I:Inv (kX CX P w K mg base N qual scope f cdv A outer s H E) [] (start N vs) H s1:=xK S hr.hd e0 hl r x
 refine wpAny_mono (ht [] s1 (start N vs) H _ I hq) (fun fl s' hs=>?_) fun e s' hs=>hs
 have fin:∀ {σ':St} {H':Hp} {v:V} {u:Value},Inv (kX CX P w K mg base N qual scope f cdv A outer s H E) [] σ' H' s'->RelV v u->Q v H'->CE outer P w H s Q u s' :=
  fun {σ' H' v u} J rv q=>⟨v,H',J.os,J.bare,J.base,J.hok,rv,q⟩
 cases fl with
 | ret u =>
  obtain ⟨v,σ',H',J,rv,q⟩:=hs
  exact fin J rv q
 | next =>
  obtain ⟨σ',H',J,q⟩:=hs
  exact fin (v:=V.non) (u:=Value.none) J rfl q
 | brk =>
  obtain ⟨_,_,_,q⟩:=hs
  exact False.elim q
 | cont =>
  obtain ⟨_,_,_,q⟩:=hs
  exact False.elim q
section
variable {X:Cx} {x:Str} {p pos:Pos} {e:Expr} {es:List Expr} {t:TA} {id T:String} {r:List V->Hp->VK->Prop}
def Ve (r:List V->Hp->VK->Prop) (t:TA):TE:=fun σ H Q=>t σ H fun vs H1=>r vs H1 Q
theorem NP (hc:tI X (.builtin id) r) (hg:Gl X x) (hm:X.mg x=none) (hv:bootBuiltins x=some (.builtin id)) (ha:PA X (e :: es) t) (hn:x≠"__name__":=by decide) (hdb:(x == ("__debug__":Str))=false:=by decide)
  (he:starEach (e :: es) X.env=(false,eval e X.env) :: starEach es X.env:=by rfl) (hpl:(backTo pos (starEach es X.env)).any (·.1)=false:=by rfl):PE X (.Call (.Name x p) (e :: es) [] pos) (Ve r t):=by
 intro pins s σ H Q I h
 refine wpAny_Call_Name_kw (nI I hg hm hv ?_ hn hdb)
 exact PyProof.Rows.callWith_builtin1 (bB (ha pos pins s σ H _ I h) fun us s1 ⟨vs,H1,I1,r1,q1⟩=>hc pins s1 σ H1 vs us Q I1 r1 q1) he hpl
theorem K4 (hc:tI X (.type T) r) (hg:Gl X x) (hm:X.mg x=none) (hv:bootBuiltins x=some (.type T)) (ha:PA X (e :: es) t) (hn:x≠"__name__":=by decide) (hdb:(x == ("__debug__":Str))=false:=by decide)
  (he:starEach (e :: es) X.env=(false,eval e X.env) :: starEach es X.env:=by rfl) (hpl:(backTo pos (starEach es X.env)).any (·.1)=false:=by rfl):PE X (.Call (.Name x p) (e :: es) [] pos) (Ve r t):=by
 intro pins s σ H Q I h
 refine wpAny_Call_Name_kw (nI I hg hm hv ?_ hn hdb)
 exact PyProof.Rows.callWith_type1 (bB (ha pos pins s σ H _ I h) fun us s1 ⟨vs,H1,I1,r1,q1⟩=>hc pins s1 σ H1 vs us Q I1 r1 q1) he hpl
end
end L2
namespace HT
open PySem PyProof.Rows
def lexLt:List Int->List Int->Bool
 | [],[]=>false
 | [],_ :: _=>true
 | _ :: _,[]=>false
 | x :: xs,y :: ys=>if x=y then lexLt xs ys else decide (x < y)
theorem A1 (x y:Int) (xs ys:List Int):lexLt (x :: xs) (y :: ys)=if x=y then lexLt xs ys else decide (x < y):=rfl
theorem Dm:lexLt [] []=false:=rfl
theorem BS (y:Int) (ys:List Int):lexLt [] (y :: ys)=true:=rfl
theorem BJ (x:Int) (xs:List Int):lexLt (x :: xs) []=false:=rfl
theorem NG (A:Around) (s:Shared) (a:Int) (t:Tok) (c:Int) (u:Tok):∃ e,SeqAt.EqAt A s (.int a t) (.int c u) e/\(e=true ↔ a=c) :=
 ⟨(a == c),SeqAt.EqAt.int_int a t c u,by simp⟩
theorem Od (A:Around) (s:Shared) (a:Int) (t:Tok) (c:Int) (u:Tok) (prog:Program) (w:World) (E:Value->Shared->Prop) (Q:Value->Shared->Prop) (h:Q (.bool (decide (a < c))) s) :
  wpAny (model prog w) A (richCompare .Lt (.int a t) (.int c u)) Q E s :=
 (PyProof.Rows.lt_int h:wpAny (model prog w) A (compareOp .Lt (.int a t) (.int c u)) Q E s)
section
open PySem.SeqAt
open PySem.AutoSeq1 (wpAny_loadPart')
open PySem.MeetsSeq PySem.MeetsSeq2 PySem.MeetsSeq3
theorem Dq (l b:Addr) (items items2:Array Value) (n n2:Nat) (dd dd2:Option Addr) (sl sl2:Array (Option Value)) (ns ms:List Int) (hi:IntsAre items.toList ns) (hj:IntsAre items2.toList ms) :
  Meets (Builtin.«tuple.__lt__» ⟨[.ref l,.ref b],[]⟩)
   (fun _ R s=>s.heap.get? l=some { cls:=.type "tuple",dict:=dd,data:=.seq items n,slots:=sl }/\s.heap.get? b=some { cls:=.type "tuple",dict:=dd2,data:=.seq items2 n2,slots:=sl2 } /\
    R (.ok (.ret (.bool (lexLt ns ms)))) s) :=
 .of_wp fun prog w A R s h=>by
  obtain ⟨hp,g,d,tk,os⟩:=s;obtain ⟨hl,hb,h⟩:=h
  have f2:=AutoSeq1.sub_tuple_tuple
  have z1:items.size=ns.length:=by rw [<- hi.length];simp
  have z2:items2.size=ms.length:=by rw [<- hj.length];simp
  wp_walk using wpAny_loadPart' hl,wpAny_loadPart' hb,wpAny_forIn_list _ (fun rest b s'=>b.1=none/\s'=⟨hp,g,d,tk,os⟩/\∃ (vs ws:List Value) (ns' ms':List Int),rest=vs.zip ws /\
   IntsAre vs ns'/\IntsAre ws ms'/\ns'.length + items2.size=ms'.length + items.size/\R (.ok (.ret (.bool (lexLt ns' ms')))) ⟨hp,g,d,tk,os⟩) _
  case turn =>
   rintro ⟨y,x⟩ rest b s' ⟨hb',rfl,vs,ws,ns',ms',hz,hvi,hwi,hlen,hR⟩
   cases hvi with
   | nil=>rw [List.zip_nil_left] at hz;cases hz
   | cons a t hvi' =>
    cases hwi with
    | nil=>rw [List.zip_nil_right] at hz;cases hz
    | cons c u hwi' =>
     rw [List.zip_cons_cons] at hz
     injection hz with hyx hrest
     injection hyx with hy hx
     subst hy hx
     rw [A1] at hR
     simp only [List.length_cons] at hlen
     obtain ⟨e,he,hiff⟩:=NG A.in1 ⟨hp,g,d,tk,os⟩ a t c u
     refine wpAny_bind (he prog w _ _ ?_)
     cases e with
     | true =>
      rw [if_pos (hiff.mp rfl)] at hR
      wp_walk
      exact ⟨rfl,rfl,_,_,_,_,hrest,hvi',hwi',by omega,hR⟩
     | false =>
      rw [if_neg (fun q=>absurd (hiff.mpr q) Bool.false_ne_true)] at hR
      have hri:=Od A.in1 ⟨hp,g,d,tk,os⟩ a t c u prog w
      wp_walk using hri
      exact ⟨_,rfl,by simpa using hR⟩
  case fin =>
   rintro ⟨b1,b2⟩ s' ⟨hb',rfl,vs,ws,ns',ms',hz,hvi,hwi,hlen,hR⟩
   simp only at hb'
   subst hb'
   have hv:lexLt ns' ms'=decide (items.size < items2.size):=by
    cases hvi with
    | nil =>
     cases hwi with
     | nil =>
      simp only [List.length_nil] at hlen
      rw [Dm]
      exact (decide_eq_false (by omega)).symm
     | cons c u hw =>
      simp only [List.length_nil,List.length_cons] at hlen
      rw [BS]
      exact (decide_eq_true (by omega)).symm
    | cons a t hv =>
     cases hwi with
     | nil =>
      simp only [List.length_nil,List.length_cons] at hlen
      rw [BJ]
      exact (decide_eq_false (by omega)).symm
     | cons c u hw =>
      rw [List.zip_cons_cons] at hz
      cases hz
   rw [hv] at hR
   wp_walk
   exact ⟨_,rfl,by simpa [Builtin.Tuple.tupleCompareSizes] using hR⟩
  case h =>
   exact ⟨rfl,rfl,items.toList,items2.toList,ns,ms,rfl,hi,hj,by omega,h⟩
end
section
variable {prog:Program} {w:World} {A:Around} {E:Value->Shared->Prop} {s:Shared}
theorem Jz {l b:Addr} {items items2:Array Value} {ns ms:List Int} {Q:Value->Shared->Prop} (hl:IsTup s.heap l items) (hb:IsTup s.heap b items2) (hi:IntsAre items.toList ns) (hj:IntsAre items2.toList ms)
  (hu:A.units < cLine) (h:Q (.bool (lexLt ns ms)) s):wpAny (model prog w) A (compareOp .Lt (.ref l) (.ref b)) Q E s:=by
 obtain ⟨⟨cls,dd,data,sl⟩,ho,hc,n,hd⟩:=id hl
 obtain ⟨⟨cls2,dd2,data2,sl2⟩,ho2,hc2,n2,hd2⟩:=id hb
 simp only at hc hd hc2 hd2
 subst hc hd hc2 hd2
 exact richCompare_meets_room (op:=.Lt) ⟨_,ho,rfl⟩ ⟨_,ho2,rfl⟩ PySem.F.slot_tuple_lt PySem.F.entry_tuple_lt (PySem.F.args_tuple_lt_2 _ _) (Dq l b items items2 n n2 dd dd2 sl sl2 ns ms hi hj)
  ⟨ho,ho2,show Value.bool (lexLt ns ms)≠Value.notImplemented/\Q (.bool (lexLt ns ms)) s from ⟨(fun x=>nomatch x),h⟩⟩ hu
theorem Q9 {t b:Addr} {vs ws:List Value} {Q:Value->Shared->Prop} (ht:IsTup s.heap t vs.toArray) (hb:IsTup s.heap b ws.toArray) (hv:vs≠[])
  (h1:ws=[]->Q (.ref t) s) (h2:ws≠[]->Q (.ref s.heap.objs.size) { s with heap:=s.heap.push { cls:=.type "tuple",data:=.seq (vs++ws).toArray } })
  (hsz:vs.length + ws.length<=sizeLine):wpAny (model prog w) A (binaryOp .Add (.ref t) (.ref b)) Q E s:=by
 obtain ⟨⟨cls,dd,data,sl⟩,ho,hc,n,hd⟩:=id ht
 obtain ⟨⟨cls2,dd2,data2,sl2⟩,ho2,hc2,n2,hd2⟩:=id hb
 simp only at hc hd hc2 hd2
 subst hc hd hc2 hd2
 have e:vs.toArray++ws.toArray=(vs++ws).toArray:=by simp
 by_cases hw:ws=[]
 ·exact concat_meets ⟨_,ho,rfl⟩ ⟨_,ho2,rfl⟩ noFill_tuple_add seq_tuple_add PySem.F.slot_tuple_add PySem.F.entry_tuple_add (PySem.F.args_tuple_add_2 _ _)
   (tuple_addW1 t b vs.toArray ws.toArray n n2 dd dd2 sl sl2 (by simpa using hv) (by simp [hw])) ⟨ho,ho2,h1 hw⟩
 ·refine concat_meets ⟨_,ho,rfl⟩ ⟨_,ho2,rfl⟩ noFill_tuple_add seq_tuple_add PySem.F.slot_tuple_add PySem.F.entry_tuple_add (PySem.F.args_tuple_add_2 _ _)
   (tuple_addW2 t b vs.toArray ws.toArray n n2 dd dd2 sl sl2 (by simpa using hv) (by simpa using hw) (by rw [List.size_toArray,List.size_toArray];exact hsz)) ⟨ho,ho2,?_⟩
  rw [e]
  exact h2 hw
def bS (n d:Nat):Option Int->Nat
 | none=>d
 | some v=>if v < 0 then (v + (n:Int)).toNat else min v.toNat n
theorem S5 (n d:Nat) (hd:d<=n) (o:Option Int):bS n d o<=n:=by
 cases o with
 | none=>exact hd
 | some v =>
  show (if v < 0 then (v + (n:Int)).toNat else min v.toNat n)<=n
  by_cases hv:v < 0
  ·rw [if_pos hv];omega
  ·rw [if_neg hv];exact Nat.min_le_right _ _
theorem GB (v:Int) (n d:Nat):(if v < 0 then max (v + (n:Int)) 0 else min v (n:Int))=((bS n d (some v):Nat):Int):=by
 show (if v < 0 then max (v + (n:Int)) 0 else min v (n:Int))=(((if v < 0 then (v + (n:Int)).toNat else min v.toNat n):Nat):Int)
 by_cases hv:v < 0
 ·simp only [if_pos hv];omega
 ·simp only [if_neg hv];omega
theorem Il (lo hi:Option Int) (n:Nat):Builtin.Slice.sliceAdjust lo hi 1 (n:Int)=(((bS n 0 lo:Nat):Int),((bS n n hi:Nat):Int)):=by
 have h1:¬ ((1:Int) < 0):=by omega
 unfold Builtin.Slice.sliceAdjust
 simp only [h1,if_false]
 refine Prod.ext ?_ ?_
 ·cases lo with
  | none=>rfl
  | some v=>exact GB v n 0
 ·cases hi with
  | none=>rfl
  | some v=>exact GB v n n
theorem Jj (i j:Nat):Builtin.Slice.slicePlaces (i:Int) (j:Int) 1=j - i:=by
 unfold Builtin.Slice.slicePlaces
 have h1:(1:Int) > 0:=by omega
 simp only [h1,if_true,Int.ediv_one]
 split <;> omega
theorem Bs {v:Value} {o:Option Int} {Q:Option Int->Shared->Prop} (p:IsPart v o) (h:Q o s):wpAny (model prog w) A (Builtin.Slice.slicePartIndex v) Q E s:=by
 cases p with
 | none=>exact slicePart_none h
 | int i t=>exact slicePart_int h
theorem rZ {sl:Addr} {vl vu:Value} {lo hi:Option Int} {n:Nat} {Q:Int × Int × Nat->Shared->Prop} (hs:s.heap.IsSliceOf sl vl vu .none) (pl:IsPart vl lo) (pu:IsPart vu hi)
  (h:Q (((bS n 0 lo:Nat):Int),1,bS n n hi - bS n 0 lo) s):wpAny (model prog w) A (Builtin.Slice.sliceApplied (.ref sl) (pure (n:Int))) Q E s:=by
 obtain ⟨os,hos,hcs,hds⟩:=id hs
 unfold Builtin.Slice.sliceApplied Builtin.Slice.sliceFields
 refine wpAny_bind (wpAny_bind (wpAny_field hos hds (x:=vl) rfl (wpAny_bind (wpAny_field hos hds (x:=vu) rfl (wpAny_bind (wpAny_field hos hds (x:=.none) rfl (wpAny_pure ?_)))))))
 refine wpAny_bind (slicePart_none ?_)
 show wpAny _ _ (if ((1:Int) == 0)=true then _ else _) _ _ s
 rw [if_neg (by decide)]
 refine wpAny_bind (Bs pl (wpAny_bind (Bs pu (wpAny_bind (wpAny_pure ?_)))))
 show wpAny _ _ (match Builtin.Slice.sliceAdjust lo hi 1 (n:Int) with | (lo,hi)=>pure (lo,(1:Int),Builtin.Slice.slicePlaces lo hi 1)) _ _ s
 rw [Il lo hi n]
 show wpAny _ _ (pure (((bS n 0 lo:Nat):Int),(1:Int),Builtin.Slice.slicePlaces ((bS n 0 lo:Nat):Int) ((bS n n hi:Nat):Int) 1)) _ _ s
 rw [Jj]
 exact wpAny_pure h
theorem Nl (xs:Array Value) (i k:Nat):((List.range k).filterMap fun (m:Nat)=>xs[((i:Int) + (m:Int) * 1).toNat]?).toArray=((xs.toList.drop i).take k).toArray:=by
 have e:(fun (m:Nat)=>xs[((i:Int) + (m:Int) * 1).toNat]?)=fun m=>xs[i + m]?:=by
  funext m
  have:((i:Int) + (m:Int) * 1).toNat=i + m:=by omega
  rw [this]
 rw [e]
 have:=pick_run xs i k
 rw [List.filterMap_map] at this
 have e2:((fun x=>xs[x]?) ∘ fun x=>i + x)=fun m=>xs[i + m]?:=rfl
 rw [e2] at this
 rw [this]
theorem Ah {t sl:Addr} {items:Array Value} {vl vu:Value} {lo hi:Option Int} {Q:Value->Shared->Prop} (ht:IsTup s.heap t items) (hs:s.heap.IsSliceOf sl vl vu .none) (pl:IsPart vl lo) (pu:IsPart vu hi)
  (hw:¬ (bS items.size 0 lo=0/\bS items.size items.size hi=items.size))
  (h:Q (.ref s.heap.objs.size) { s with heap:=s.heap.push { cls:=.type "tuple",data:=.seq ((items.toList.drop (bS items.size 0 lo)).take (bS items.size items.size hi - bS items.size 0 lo)).toArray } })
  (hsz:items.size<=sizeLine):wpAny (model prog w) A (getItem (.ref t) (.ref sl)) Q E s:=by
 have htake:sizeOk (.seq ((items.toList.drop (bS items.size 0 lo)).take (bS items.size items.size hi - bS items.size 0 lo)).toArray):=by
  show ((items.toList.drop (bS items.size 0 lo)).take (bS items.size items.size hi - bS items.size 0 lo)).toArray.size<=sizeLine
  rw [List.size_toArray,List.length_take,List.length_drop,Array.length_toList]
  omega
 have hj:bS items.size items.size hi<=items.size:=S5 _ _ (Nat.le_refl _) hi
 obtain ⟨os,hos,hcs,hds⟩:=id hs
 have hTs:s.TypeIs (.ref sl) "slice":=⟨os,hos,hcs⟩
 unfold getItem
 try with_reducible refine wpAny_holding ?_
 first | refine wpAny_bind (wpAny_pure ?_) | skip
 refine wpAny_bind (wpAny_sequenceKey ht.typeIs (by decide) ?_)
 refine wpAny_bind (wpAny_callSpecial?_slot (name:=Str.ofString "__getitem__") ht.typeIs PyProof.Rows.slot_tuple_getitem
  (wpAny_call_entry PyProof.Rows.slot_tuple_getitem ht.typeIs entry_tuple_getitem ?_ (args_tuple_getitem _ _)))
 show wpAny _ _ (Builtin.Tuple.tupleItemsOf (.ref t) >>= _) _ _ s
 refine wpAny_bind (tupleItemsOf_ ht ?_)
 refine wpAny_bind (wpAny_typeOf hTs ?_)
 rw [if_pos (by decide)]
 refine wpAny_bind (rZ hs pl pu ?_)
 have hno:¬ ((((bS items.size 0 lo:Nat):Int) == 0 && (1:Int) == 1 && (bS items.size items.size hi - bS items.size 0 lo) == items.size)=true):=by
  intro q
  rw [Bool.and_eq_true,Bool.and_eq_true] at q
  have q1:((bS items.size 0 lo:Nat):Int)=0:=eq_of_beq q.1.1
  have q2:bS items.size items.size hi - bS items.size 0 lo=items.size:=eq_of_beq q.2
  exact hw ⟨by omega,by omega⟩
 show wpAny _ _ (if (((bS items.size 0 lo:Nat):Int) == 0 && (1:Int) == 1 && (bS items.size items.size hi - bS items.size 0 lo) == items.size)=true then _ else _) _ _ s
 rw [if_neg hno,Nl]
 first
  | exact wpAny_bind (m:=Builtin.Tuple.tupleExact _) (wpAny_newObj_type (wpAny_pure ⟨_,rfl,wpAny_pure h⟩) htake)
  | exact wpAny_bind (m:=Builtin.Tuple.tupleExact _) (wpAny_newObj_type (wpAny_bind (wpAny_pure (wpAny_pure ⟨_,rfl,wpAny_pure h⟩))) htake)
  | exact wpAny_bind (wpAny_bind (m:=Builtin.Tuple.tupleExact _) (wpAny_newObj_type (wpAny_pure (wpAny_pure ⟨_,rfl,wpAny_pure h⟩)) htake))
  | exact wpAny_bind (wpAny_bind (m:=Builtin.Tuple.tupleExact _) (wpAny_newObj_type (wpAny_pure ⟨_,rfl,wpAny_pure h⟩) htake))
end
end HT
namespace L2
open PySem PySem.Spec PyProof.Rows
abbrev TO:=St->Hp->(Option Int->Hp->Prop)->Prop
def PO (X:Cx) (e:Option Expr) (t:TO):Prop :=
 ∀ (pins:List (Addr × Obj)) (s:Shared) (σ:St) (H:Hp) (Q:Option Int->Hp->Prop),Inv X pins σ H s->t σ H Q ->
  wpAny (model X.prog X.w) X.A (evalPart e X.env) (fun u s'=>∃ o H',Inv X pins σ H' s'/\IsPart u o/\Q o H') X.xe s
def Gy:TO:=fun _ H Q=>Q none H
def Pu (t:TE):TO:=fun σ H Q=>t σ H fun x H1=>∃ i,x=.int i/\Q (some i) H1
theorem intsAre_of {ns:List Int}:∀ {us:List Value},Vals (ns.map V.int) us->IntsAre us ns:=by
 induction ns with
 | nil=>intro us r;rw [List.map_nil] at r;cases r;exact .nil
 | cons n ns ih =>
  intro us r
  rw [List.map_cons] at r
  cases r with
  | cons r1 r2 =>
   obtain ⟨t,e⟩:=r1
   subst e
   exact .cons n t (ih r2)
section
variable {X:Cx} {e:Expr} {te:TE} {lo hi:Option Expr} {tl th:TO} {pos p2:Pos}
theorem RY:PO X none Gy:=by
 intro pins s σ H Q I h
 rw [evalPart_none]
 exact wpAny_pure ⟨none,H,I,.none,h⟩
theorem Ql (h:PE X e te):PO X (some e) (Pu te):=by
 intro pins s σ H Q I hw
 rw [evalPart_some]
 refine bB (h pins s σ H _ I hw) fun u s1 ⟨x,H1,I1,r1,q1⟩=>?_
 obtain ⟨i,rfl,q⟩:=q1
 obtain ⟨t,rfl⟩:=r1
 exact ⟨some i,H1,I1,.int i t,q⟩
def Ak (X:Cx) (r:V->Option Int->Option Int->Hp->VK->Prop):Prop :=
 ∀ (pins:List (Addr × Obj)) (s:Shared) (σ:St) (H:Hp) (x:V) (v vl vu:Value) (lo hi:Option Int) (sl:Addr) (Q:VK),Inv X pins σ H s->RelV x v->s.heap.IsSliceOf sl vl vu .none->IsPart vl lo->IsPart vu hi->r x lo hi H Q ->
  ∃ T id,typeLookup (.type T) "__getitem__"=pure (some (.builtin id))/\s.TypeIs v T/\wpAny (model X.prog X.w) X.A (getItem v (.ref sl)) (EP X pins σ Q) X.xe s
theorem Ak.or {r r':V->Option Int->Option Int->Hp->VK->Prop} (h:Ak X r) (h':Ak X r'):Ak X (fun x lo hi H Q=>r x lo hi H Q\/r' x lo hi H Q):=by
 intro pins s σ H x v vl vu lo hi sl Q I rx hs pl pu q
 rcases q with q | q
 ·exact h pins s σ H x v vl vu lo hi sl Q I rx hs pl pu q
 ·exact h' pins s σ H x v vl vu lo hi sl Q I rx hs pl pu q
def Ww (r:V->Option Int->Option Int->Hp->VK->Prop) (te:TE) (tl th:TO):TE:=fun σ H Q=>te σ H fun x H1=>tl σ H1 fun l H2=>th σ H2 fun u H3=>r x l u H3 Q
theorem OJ {r:V->Option Int->Option Int->Hp->VK->Prop} (hr:Ak X r) (he:PE X e te) (hl:PO X lo tl) (hu:PO X hi th):PE X (.Subscript e (.Slice lo hi none p2) pos) (Ww r te tl th):=by
 intro pins s σ H Q I h
 refine Subscript_ (bB (he pins s σ H _ I h) fun v s1 ⟨x,H1,I1,r1,q1⟩=>?_)
 refine wpAny_Slice (bB (hl pins s1 σ H1 _ I1 q1) fun vl s2 ⟨l,H2,I2,pl,q2⟩=>bB (hu pins s2 σ H2 _ I2 q2) fun vu s3 ⟨u,H3,I3,pu,q3⟩=>?_)
 rw [evalPart_none]
 refine wpAny_pure ?_
 have I4:Inv X pins σ H3 { s3 with heap:=s3.heap.push { cls:=.type "slice",data:=.fields #[vl,vu,.none] } }:=I3.kept (t':=s3.toks) fun b ob q=>Heap.get?_push_of_some _ q
 obtain ⟨T,id,hT,ht,hg⟩:=hr pins { s3 with heap:=s3.heap.push { cls:=.type "slice",data:=.fields #[vl,vu,.none] } } σ H3 x v vl vu l u s3.heap.objs.size Q I4 r1 (Heap.IsSliceOf.new ..) pl pu q3
 show wpAny (model X.prog X.w) X.A (subscriptTail e (.Slice lo hi none p2) v (.ref s3.heap.objs.size)) (EP X pins σ Q) X.xe { s3 with heap:=s3.heap.push { cls:=.type "slice",data:=.fields #[vl,vu,.none] } }
 exact tail_any (ops:=[.ref s3.heap.objs.size,v]) ht hT hg (by with_unfolding_all rfl)
def tQ (xs:List V) (lo hi:Option Int):List V:=(xs.drop (HT.bS xs.length 0 lo)).take (HT.bS xs.length xs.length hi - HT.bS xs.length 0 lo)
theorem Ai (xs:List V) (lo hi:Option Int):(tQ xs lo hi).length<=xs.length:=by
 unfold tQ
 rw [List.length_take,List.length_drop]
 omega
def W5 (K:PySem.W.Frag):V->Option Int->Option Int->Hp->VK->Prop:=fun x lo hi H Q=>∃ a xs,x=.ref a/\gI K H a xs /\
 ¬ (HT.bS xs.length 0 lo=0/\HT.bS xs.length xs.length hi=xs.length)/\∀ p,H p=none->Q (.ref p) (upd H p (.tup (tQ xs lo hi)))
theorem U3:Ak X (W5 X.K):=by
 intro pins s σ H x v vl vu lo hi sl Q I rx hs pl pu h
 obtain ⟨a,xs,rfl,hx,hw,q⟩:=h
 cases rx
 obtain ⟨its,r,ht,hz⟩:=I.tuple hx
 have hlen:its.toArray.size=xs.length:=by rw [List.size_toArray];exact r.length.symm
 refine ⟨"tuple",_,PyProof.Rows.slot_tuple_getitem.lookup,ht.typeIs,?_⟩
 refine HT.Ah ht hs pl pu (by rw [hlen];exact hw) ?_ (by rw [hlen];exact hz)
 rw [hlen]
 refine ⟨.ref s.heap.objs.size,_,I.laid (t':=s.toks) (o:=.tup (tQ xs lo hi)) (fun b ob q=>Heap.get?_push_of_some _ q) (Nat.le_refl _) ?_,rfl,q _ (I.hok.fresh (Nat.le_refl _))⟩
 exact ⟨Nat.le_trans (Ai xs lo hi) hz,_,(r.drop (HT.bS xs.length 0 lo)).take (HT.bS xs.length xs.length hi - HT.bS xs.length 0 lo),iC.new _ _⟩
def WY (K:PySem.W.Frag):R2:=fun x y H Q=>∃ a b ns ms,x=.ref a/\y=.ref b/\gI K H a (ns.map V.int)/\gI K H b (ms.map V.int)/\Q (.bl (HT.lexLt ns ms)) H
theorem SG (hu:X.A.units < cLine):cZ X (compareOp .Lt) (WY X.K):=by
 intro pins s σ H x y v u Q I rx ry h
 obtain ⟨a,b,ns,ms,rfl,rfl,ha,hb,q⟩:=h
 cases rx
 cases ry
 obtain ⟨its,r1,p1,_⟩:=I.tuple ha
 obtain ⟨its2,r2,p2,_⟩:=I.tuple hb
 have i1:IntsAre its.toArray.toList ns:=intsAre_of r1
 have i2:IntsAre its2.toArray.toList ms:=intsAre_of r2
 exact HT.Jz p1 p2 i1 i2 hu ⟨.bl (HT.lexLt ns ms),H,I,rfl,q⟩
def VJ (K:PySem.W.Frag):R2:=fun x y H Q=>∃ a b xs ys,x=.ref a/\y=.ref b/\gI K H a xs/\gI K H b ys/\xs≠[]/\xs.length + ys.length<=sizeLine /\
 (ys=[]->Q (.ref a) H)/\(ys≠[]->∀ p,H p=none->Q (.ref p) (upd H p (.tup (xs++ys))))
theorem Vals.nil_iff {xs:List V} {us:List Value} (r:Vals xs us):us=[] ↔ xs=[]:=by
 cases r with
 | nil=>simp
 | cons _ _=>simp
theorem RX:cZ X (binaryOp .Add) (VJ X.K):=by
 intro pins s σ H x y v u Q I rx ry h
 obtain ⟨a,b,xs,ys,rfl,rfl,ha,hb,hx,hz,q1,q2⟩:=h
 cases rx
 cases ry
 obtain ⟨its,r1,p1,_⟩:=I.tuple ha
 obtain ⟨its2,r2,p2,_⟩:=I.tuple hb
 refine HT.Q9 p1 p2 (fun z=>hx (r1.nil_iff.mp z)) (fun z=>⟨.ref a,H,I,rfl,q1 (r2.nil_iff.mp z)⟩) (fun z=>?_) (by rw [<- r1.length,<- r2.length];exact hz)
 refine ⟨.ref s.heap.objs.size,_,I.laid (t':=s.toks) (o:=.tup (xs++ys)) (fun b ob q=>Heap.get?_push_of_some _ q) (Nat.le_refl _) ?_,rfl,q2 (fun w=>z (r2.nil_iff.mpr w)) _ (I.hok.fresh (Nat.le_refl _))⟩
 exact ⟨by rw [List.length_append];exact hz,_,r1.append r2,iC.new _ _⟩
end
def w9 (n:Nat) (i:Int):Option Nat:=if 0<=i then (if i < n then some i.toNat else none) else if -(n:Int)<=i then some (i + n).toNat else none
def iT {α:Type} (xs:List α) (i:Int):Option α:=(w9 xs.length i).bind fun j=>xs[j]?
theorem G9 {n:Nat} {i:Int} {j:Nat} (h:w9 n i=some j):seqIndex? i n=some j/\j < n/\-(n:Int)<=i/\i < n:=by
 unfold w9 at h
 by_cases h0:0<=i
 ·rw [if_pos h0] at h
  by_cases h1:i < n
  ·rw [if_pos h1] at h
   have e:i.toNat=j:=Option.some.inj h
   exact ⟨by rw [seqIndex_of h0 h1,e],by omega,by omega,h1⟩
  ·rw [if_neg h1] at h;cases h
 ·rw [if_neg h0] at h
  by_cases h1:-(n:Int)<=i
  ·rw [if_pos h1] at h
   have e:(i + n).toNat=j:=Option.some.inj h
   exact ⟨by rw [seqIndex_neg (by omega) h1,e],by omega,h1,by omega⟩
  ·rw [if_neg h1] at h;cases h
theorem BK {α:Type} {xs:List α} {i:Int} {v:α} (h:iT xs i=some v):∃ j,seqIndex? i xs.length=some j/\xs[j]?=some v/\j < xs.length/\-(xs.length:Int)<=i/\i < xs.length:=by
 unfold iT at h
 cases e:w9 xs.length i with
 | none=>rw [e] at h;cases h
 | some j =>
  rw [e] at h
  obtain ⟨h1,h2,h3,h4⟩:=G9 e
  exact ⟨j,h1,h,h2,h3,h4⟩
theorem jQ {α:Type} {xs:List α} {j:Nat} {v:α} (h:xs[j]?=some v):iT xs (j:Int)=some v:=by
 have hj:j < xs.length:=(List.getElem?_eq_some_iff.mp h).1
 have e:w9 xs.length (j:Int)=some j:=by
  unfold w9
  rw [if_pos (by omega),if_pos (by omega)];simp
 unfold iT;rw [e];exact h
def zE (b:Expr):Prop:=∀ o i,subscripted b false o i=operate [o,i] (getItem o i)
def Bh (X:Cx) (r:R2):Prop :=
 ∀ (value slice:Expr) (pins:List (Addr × Obj)) (s:Shared) (σ:St) (H:Hp) (x y:V) (v u:Value) (Q:VK),Inv X pins σ H s->RelV x v->RelV y u->r x y H Q ->
  subscripted slice false v u=operate [v,u] (getItem v u)->wpAny (model X.prog X.w) X.A (subscriptTail value slice v u) (EP X pins σ Q) X.xe s
def U5 (X:Cx) (id:String) (r:V->List V->Hp->VK->Prop):Prop :=
 ∀ (pins:List (Addr × Obj)) (s:Shared) (σ:St) (H:Hp) (x:V) (xs:List V) (v:Value) (us:List Value) (Q:VK),Inv X pins σ H s->RelV x v->Vals xs us->r x xs H Q ->
  wpAny (model X.prog X.w) X.A (call (.builtin id) (v :: us)) (EP X pins σ Q) X.xe s
section
variable {X:Cx} {a b:Expr} {ta tb:TE} {pos:Pos}
theorem Bh.or {r r':R2} (h:Bh X r) (h':Bh X r'):Bh X (fun x y H Q=>r x y H Q\/r' x y H Q):=by
 intro value slice pins s σ H x y v u Q I rx ry q hs
 rcases q with q | q
 ·exact h value slice pins s σ H x y v u Q I rx ry q hs
 ·exact h' value slice pins s σ H x y v u Q I rx ry q hs
theorem Wj {r:R2} (hr:Bh X r) (ha:PE X a ta) (hb:PE X b tb) (hs:zE b):PE X (.Subscript a b pos) (Hd r ta tb):=by
 intro pins s σ H Q I h
 exact Subscript_ (JS ha hb I h fun v u s2 x y H2 I2 rx ry q=>hr a b pins s2 σ H2 x y v u Q I2 rx ry q (hs _ _))
def Uq (K:PySem.W.Frag):R2:=fun x y H Q=>∃ p xs i v,x=.ref p/\y=.int i/\fB K H p xs/\iT xs i=some v/\Q v H
def S0 (K:PySem.W.Frag):R2:=fun x y H Q=>∃ p xs i v,x=.ref p/\y=.int i/\gI K H p xs/\iT xs i=some v/\Q v H
def TU:R2:=fun x y H Q=>∃ z i c,x=.str z/\y=.int i/\z.length<=sizeLine/\iT z.cps.toList i=some c/\Q (.str ⟨#[c]⟩) H
theorem Q6:Bh X (Uq X.K):=by
 intro value slice pins s σ H x y v u Q I rx ry h hs
 obtain ⟨p,xs,i,z,rfl,rfl,hq,he,q⟩:=h
 cases rx
 obtain ⟨t,rfl⟩:=ry
 obtain ⟨its,r,pl,hz⟩:=I.list hq
 obtain ⟨j,h1,h2,h3,h4,h5⟩:=BK he
 obtain ⟨w,ew,rw'⟩:=r.get h2
 have hl:=r.length
 have hn:=uD
 have fin:EP X pins σ Q w s:=⟨z,H,I,rw',q⟩
 by_cases h0:0<=i
 ·have hj:i.toNat=j:=by
   rw [seqIndex_of h0 h5] at h1
   exact Option.some.inj h1
  exact item_listR pl.isList h0 (by omega) (by rw [hj];simpa using ew) fin hs
 ·have hj:(i + (its.toArray.size:Int)).toNat=j:=by
   rw [seqIndex_neg (by omega) h4] at h1
   rw [List.size_toArray,<- hl]
   exact Option.some.inj h1
  exact subscriptTail_builtinR (x:=w) pl.isList.typeIs slot_list_getitem.lookup
   (wpAny_getItem_list_neg (Q:=fun r s'=>r=w/\EP X pins σ Q r s') pl.isList (by omega) (by rw [List.size_toArray] <;> omega) (by omega) (by rw [hj];simpa using ew) ⟨rfl,fin⟩) hs
theorem UY:Bh X (S0 X.K):=by
 intro value slice pins s σ H x y v u Q I rx ry h hs
 obtain ⟨p,xs,i,z,rfl,rfl,hq,he,q⟩:=h
 cases rx
 obtain ⟨t,rfl⟩:=ry
 obtain ⟨its,r,pl,hz⟩:=I.tuple hq
 obtain ⟨j,h1,h2,h3,h4,h5⟩:=BK he
 obtain ⟨w,ew,rw'⟩:=r.get h2
 have hl:=r.length
 have hn:=uD
 have fin:EP X pins σ Q w s:=⟨z,H,I,rw',q⟩
 exact subscriptTail_builtinR (x:=w) pl.typeIs slot_tuple_getitem.lookup
  (getItem_tuple (j:=j) (Q:=fun r s'=>r=w/\EP X pins σ Q r s') pl (by omega) (by omega) (by rw [List.size_toArray,<- hl];exact h1) (by simpa using ew) ⟨rfl,fin⟩) hs
theorem U0:Bh X TU:=by
 intro value slice pins s σ H x y v u Q I rx ry h hs
 obtain ⟨z,i,c,rfl,rfl,hz,he,q⟩:=h
 obtain ⟨t,rfl⟩:=rx
 obtain ⟨t',rfl⟩:=ry
 obtain ⟨j,h1,h2,h3,h4,h5⟩:=BK he
 have hl:z.cps.toList.length=z.length:=by simp [Str.length]
 rw [hl] at h1 h4 h5
 have hn:=uD
 exact tail_any (typeIs_str s z t) slot_str_getitem.lookup (getItem_str (c:=c) (by
  have e1:decide (i < -(2 ^ 63:Int))=false:=decide_eq_false (by omega)
  have e2:decide (i ≥ 2 ^ 63)=false:=decide_eq_false (by omega)
  rw [e1,e2,Bool.or_false]) (by rw [h1];simpa using h2) ⟨.str ⟨#[c]⟩,H,I.tok _,⟨_,rfl⟩,q⟩) hs
def WA (K:PySem.W.Frag):R2:=fun x y H Q=>Uq K x y H Q\/S0 K x y H Q\/TU x y H Q
theorem SX:Bh X (WA X.K):=Q6.or (UY.or U0)
theorem Jf (its:List Value) (n j:Nat) (u:Value):Obj.mapSeq (·.setIfInBounds j u) { cls:=.type "list",data:=.seq its.toArray n }={ cls:=.type "list",data:=.seq (its.set j u).toArray n }:=by
 simp [Obj.mapSeq]
theorem Inv.lst {pins:List (Addr × Obj)} {σ:St} {H:Hp} {s:Shared} {p:Addr} {xs:List V} (I:Inv X pins σ H s) (h:H p=some (.lst xs)) :
  ∃ (its:List Value) (n:Nat),Vals xs its/\s.heap.get? p=some { cls:=.type "list",data:=.seq its.toArray n }/\xs.length<=sizeLine:=by
 obtain ⟨z,its,n,r,e⟩:=I.hok p _ h
 exact ⟨its,n,r,e,z⟩
theorem Inv.lstUpd {pins:List (Addr × Obj)} {σ:St} {H:Hp} {s:Shared} {p:Addr} {xs ys:List V} {its its':List Value} {n n':Nat} {f:Obj->Obj} (I:Inv X pins σ H s) (h:H p=some (.lst xs))
  (ho:s.heap.get? p=some { cls:=.type "list",data:=.seq its.toArray n }) (hf:f { cls:=.type "list",data:=.seq its.toArray n }={ cls:=.type "list",data:=.seq its'.toArray n' }) (r:Vals ys its') (hz:ys.length<=sizeLine) (t:Nat) :
  Inv X pins σ (upd H p (.lst ys)) { s with heap:=s.heap.update p f,toks:=t }:=by
 have e:(s.heap.update p f).get? p=some { cls:=.type "list",data:=.seq its'.toArray n' }:=by
  rw [Heap.get?_update_self f ho (by rw [hf] <;> rfl),hf]
 refine I.write (x:=p) (e:=p) (by rw [h];trivial) (.inl rfl) (fun b u hb q=>(Heap.get?_update_other _ _ (Ne.symm hb)).trans q) ⟨_,e⟩ ?_
 exact ⟨hz,its',n',r,e⟩
def Wt:V->V->V->Hp->(Hp->Prop)->Prop:=fun o i v H Q=>∃ p xs k j,o=.ref p/\i=.int k/\H p=some (.lst xs)/\w9 xs.length k=some j/\Q (upd H p (.lst (xs.set j v)))
theorem set_list:TK X Wt:=by
 intro pins s σ H o i v ov iv u Q I ro ri rv h
 obtain ⟨p,xs,k,j,rfl,rfl,hp,hj,q⟩:=h
 cases ro
 obtain ⟨t,rfl⟩:=ri
 obtain ⟨its,n,r,ho,hz⟩:=I.lst hp
 obtain ⟨h1,h2,h3,h4⟩:=G9 hj
 have hl:=r.length
 have hn:=uD
 have I':Inv X pins σ (upd H p (.lst (xs.set j v))) { s with heap:=s.heap.update p (Obj.mapSeq (·.setIfInBounds j u)) } :=
  I.lstUpd hp ho (Jf its n j u) (r.set rv j) (by rw [List.length_set];exact hz) s.toks
 by_cases h0:0<=k
 ·have hk:k.toNat=j:=by
   rw [seqIndex_of h0 h4] at h1
   exact Option.some.inj h1
  exact PySem.W.ki_setAt ho h0 (by omega) (by rw [List.size_toArray,<- hl];exact h4) (by rw [hk];exact ⟨_,I',q⟩)
 ·have hk:(k + (its.toArray.size:Int)).toNat=j:=by
   rw [seqIndex_neg (by omega) h3] at h1
   rw [List.size_toArray,<- hl]
   exact Option.some.inj h1
  exact PySem.W.ki_setBack ho (by omega) (by rw [List.size_toArray,<- hl];exact h3) (by omega) (by rw [hk];exact ⟨_,I',q⟩)
theorem E5 (lo hi:Option Int) (n:Nat):(sliceBounds lo hi none n).1=((HT.bS n 0 lo:Nat):Int)/\(sliceBounds lo hi none n).2.1=((HT.bS n n hi:Nat):Int)/\(sliceBounds lo hi none n).2.2=1:=by
 refine ⟨?_,?_,rfl⟩
 ·cases lo with
  | none=>simp [sliceBounds,HT.bS]
  | some i =>
   simp only [sliceBounds,HT.bS,Option.getD_none,show (1:Int) > 0 by decide,if_true]
   by_cases h:i < 0
   ·simp only [h,if_true] <;> omega
   ·simp only [h,if_false] <;> omega
 ·cases hi with
  | none=>simp [sliceBounds,HT.bS]
  | some i =>
   simp only [sliceBounds,HT.bS,Option.getD_none,show (1:Int) > 0 by decide,if_true]
   by_cases h:i < 0
   ·simp only [h,if_true] <;> omega
   ·simp only [h,if_false] <;> omega
theorem C7 (its:List Value) (lo hi:Option Int):slicePick its.toArray lo hi none=((its.drop (HT.bS its.length 0 lo)).take (HT.bS its.length its.length hi - HT.bS its.length 0 lo)).toArray:=by
 obtain ⟨h1,h2,h3⟩:=E5 lo hi its.toArray.size
 unfold slicePick
 rw [h1,h2,h3]
 simp only [sliceRange_one,pick_run,List.size_toArray] <;> rfl
def W3 (K:PySem.W.Frag):V->Option Int->Option Int->Hp->VK->Prop:=fun x lo hi H Q=>∃ a xs,x=.ref a/\fB K H a xs/\∀ p,H p=none->Q (.ref p) (upd H p (.lst (tQ xs lo hi)))
theorem R6:Ak X (W3 X.K):=by
 intro pins s σ H x v vl vu lo hi sl Q I rx hs pl pu h
 obtain ⟨a,xs,rfl,hx,q⟩:=h
 cases rx
 obtain ⟨its,r,ht,hz⟩:=I.list hx
 have hlen:=r.length
 refine ⟨"list",_,slot_list_getitem.lookup,ht.isList.typeIs,?_⟩
 refine wpAny_getItem_list_slice ht.isList hs pl pu .none (by simp) ?_ (by rw [List.size_toArray] <;> omega)
 rw [C7,<- hlen]
 refine ⟨.ref s.heap.objs.size,_,I.laid (t':=s.toks) (o:=.lst (tQ xs lo hi)) (fun b ob q=>Heap.get?_push_of_some _ q) (Nat.le_refl _) ?_,rfl,q _ (I.hok.fresh (Nat.le_refl _))⟩
 exact ⟨Nat.le_trans (Ai xs lo hi) hz,_,0,(r.drop (HT.bS xs.length 0 lo)).take (HT.bS xs.length xs.length hi - HT.bS xs.length 0 lo),Heap.get?_push_size _ rfl⟩
def kM:V->Bool
 | .non=>true
 | .bl _=>true
 | .int _=>true
 | .str _=>true
 | _=>false
def CU:V->V->Bool
 | .non,.non=>true
 | .bl a,.bl b=>a == b
 | .bl a,.int b=>(if a then 1 else 0) == b
 | .int a,.bl b=>a == (if b then 1 else 0)
 | .int a,.int b=>a == b
 | .str a,.str b=>a == b
 | _,_=>false
def WK (x:V) (u:Value):Bool:=match u with
 | .none=>CU .non x
 | .bool b=>CU (.bl b) x
 | .int i _=>CU (.int i) x
 | .str z _=>CU (.str z) x
 | _=>false
theorem UD {x y:V} {u:Value} (r:RelV y u) (f:kM y=true):WK x u=CU y x:=by
 cases y with
 | non=>cases r;rfl
 | bl b=>cases r;rfl
 | int i=>obtain ⟨t,rfl⟩:=r;rfl
 | str z=>obtain ⟨t,rfl⟩:=r;rfl
 | _=>exact absurd (show false=true from f) Bool.false_ne_true
theorem QX {x:V}:∀ {xs:List V} {us:List Value},Vals xs us->xs.all kM=true->us.any (WK x)=xs.any fun y=>CU y x
 | _,_,.nil,_=>rfl
 | y :: xs,u :: us,.cons r t,f=>by
  rw [List.all_cons,Bool.and_eq_true] at f
  rw [List.any_cons,List.any_cons,UD r f.1,QX t f.2]
def WH (x:V) (xs:List V):Bool:=xs.any fun y=>CU y x
theorem C5:tI X (.type "tuple") (fun xs H Q=>∃ p ys,xs=[.ref p]/\((fB X.K H p ys/\∀ l,H l=none->Q (.ref l) (upd H l (.tup ys)))\/(gI X.K H p ys/\Q (.ref p) H))):=by
 intro pins s σ H xs us Q I r h
 obtain ⟨p,ys,rfl,h⟩:=h
 obtain ⟨u,rfl,rx⟩:=vals1 r
 cases rx
 rcases h with ⟨hq,q⟩ | ⟨hq,q⟩
 ·obtain ⟨its,r',pl,hz⟩:=I.list hq
  have hlen:=r'.length
  refine call_tuple_list pl.isList (fun h' kp=>?_) (by simp only [List.size_toArray] <;> omega)
  have I1:Inv X pins σ H { s with heap:=h' }:=I.kept (t':=s.toks) kp
  have I2:Inv X pins σ (upd H h'.objs.size (.tup ys)) { s with heap:=h'.push { cls:=.type "tuple",data:=.seq its.toArray } } :=
   I1.laid (t':=s.toks) (fun b o e=>Heap.get?_push_of_some _ e) (Nat.le_refl _) (show dI X.prog X.w _ _ _ (.tup ys) from ⟨hz,its,r',iC.new _ _⟩)
  exact ⟨.ref h'.objs.size,_,I2,rfl,q _ (I1.hok.fresh (Nat.le_refl _))⟩
 ·obtain ⟨its,r',pl,hz⟩:=I.tuple hq
  exact call_tuple_same pl ⟨.ref p,H,I,rfl,q⟩
def Gq (K:PySem.W.Frag) (T:String) (x:V) (H:Hp):Prop:=match x with
 | .str _=>T="str"
 | .int _=>T="int"
 | .ref p=>(T="list"/\∃ xs,fB K H p xs)\/(T="tuple"/\∃ o,K.lookup p=some o/\o.cls=.type "tuple"/\o.dict=none) \/
   (T="dict"/\((∃ kvs,H p=some (.dK kvs))\/∃ kvs,H p=some (.dT kvs)))\/(T="set"/\∃ S n,H p=some (.set S n))
 | _=>False
theorem D6 {pins:List (Addr × Obj)} {σ:St} {H:Hp} {s:Shared} {T:String} {x:V} {v:Value} (I:Inv X pins σ H s) (r:RelV x v) (ty:Gq X.K T x H) :
  s.TypeIs v T/\∀ a,v=.ref a->∃ ob,s.heap.get? a=some ob/\ob.dict=none:=by
 cases x with
 | str z =>
  obtain ⟨t,rfl⟩:=r
  cases (show T="str" from ty)
  exact ⟨typeIs_str s z t,fun _ e=>nomatch e⟩
 | int i =>
  obtain ⟨t,rfl⟩:=r
  cases (show T="int" from ty)
  exact ⟨typeIs_int s i t,fun _ e=>nomatch e⟩
 | ref p =>
  cases r
  rcases ty with ⟨rfl,xs,hq⟩ | ⟨rfl,o,hk,hc,hd⟩ | ⟨rfl,hk⟩ | ⟨rfl,S,n,hk⟩
  ·obtain ⟨its,_,pl,_⟩:=I.list hq
   refine ⟨pl.isList.typeIs,fun a e=>?_⟩
   cases e
   obtain ⟨o,n,e,c,hd,_⟩:=pl
   exact ⟨o,e,hd⟩
  ·refine ⟨⟨o,I.kIn p o hk,hc⟩,fun a e=>?_⟩
   cases e
   exact ⟨o,I.kIn _ o hk,hd⟩
  ·have z:∃ o,s.heap.get? p=some o/\o.ExactDict:=by
    rcases hk with ⟨kvs,hk⟩ | ⟨kvs,hk⟩
    ·obtain ⟨_,_,_,_,o,_,_,e,ex,_⟩:=I.hok p _ hk
     exact ⟨o,e,ex⟩
    ·obtain ⟨_,_,_,_,o,_,_,e,ex,_⟩:=I.hok p _ hk
     exact ⟨o,e,ex⟩
   obtain ⟨o,e,ex⟩:=z
   refine ⟨⟨o,e,ex.1⟩,fun a e2=>?_⟩
   cases e2
   exact ⟨o,e,ex.2.1⟩
  ·obtain ⟨o,_,_,_,e,ex,_⟩:=I.hok p _ hk
   refine ⟨⟨o,e,ex.1⟩,fun a e2=>?_⟩
   cases e2
   exact ⟨o,e,ex.2.1⟩
 | _=>exact False.elim ty
def Tu (K:PySem.W.Frag) (T:String) (r:V->List V->Hp->VK->Prop) (to:TE):TE:=fun σ H Q=>to σ H fun x H1=>Gq K T x H1/\r x [] H1 Q
def O0 (K:PySem.W.Frag) (T:String) (r:V->List V->Hp->VK->Prop) (to:TE) (t:TA):TE:=fun σ H Q=>to σ H fun x H1=>Gq K T x H1/\t σ H1 fun xs H2=>r x xs H2 Q
variable {o e:Expr} {es:List Expr} {to:TE} {t:TA} {name:Str} {apos cpos:Pos} {T id:String} {r:V->List V->Hp->VK->Prop}
theorem U9 (pa:PlainAttrs T) (slot:Slot T name id) (hty:typeOf (.builtin id)=pure (.type "method_descriptor")) (hm:U5 X id r) (ho:PE X o to)
  (hbase:attributeBase o name X.env (eval o X.env)=eval o X.env:=by rfl) (hline:(apos.endLine == cpos.line)=true:=by rfl):PE X (.Call (.Attribute o name apos) [] [] cpos) (Tu X.K T r to):=by
 intro pins s σ H Q I h
 refine wpAny_Call_method0_late hbase hline (bB (ho pins s σ H _ I h) fun v s1 ⟨x,H1,I1,r1,ty,q1⟩=>?_)
 obtain ⟨h1,h2⟩:=D6 I1 r1 ty
 exact ⟨T,id,pa,slot,hty,h1,h2,Calls.callWith_builtin rfl (PySem.evalArgs_none (hm pins s1 σ H1 x [] v [] Q I1 r1 .nil q1))⟩
theorem zV (pa:PlainAttrs T) (slot:Slot T name id) (hty:typeOf (.builtin id)=pure (.type "method_descriptor")) (hm:U5 X id r) (ho:PE X o to) (ha:PA X (e :: es) t)
  (hbase:attributeBase o name X.env (eval o X.env)=eval o X.env:=by rfl)
  (hfew:((backTo cpos (starEach (e :: es) X.env)).all (fun x=>!x.1) && (backToKw cpos (keywordEach [] X.env)).all (fun x=>x.1.isSome)
   && decide ((e :: es).length + ([]:List Keyword).length + (if ([]:List Keyword).isEmpty then 0 else 1) < 30))=true:=by rfl)
  (hline:(apos.endLine == cpos.line)=true:=by rfl) (hs:starEach (e :: es) X.env=(false,eval e X.env) :: starEach es X.env:=by rfl) (hplain:(backTo cpos (starEach es X.env)).any (·.1)=false:=by rfl) :
  PE X (.Call (.Attribute o name apos) (e :: es) [] cpos) (O0 X.K T r to t):=by
 intro pins s σ H Q I h
 refine wpAny_Call_method_late hbase hfew hline rfl (bB (ho pins s σ H _ I h) fun v s1 ⟨x,H1,I1,r1,ty,q1⟩=>?_)
 obtain ⟨h1,h2⟩:=D6 I1 r1 ty
 refine ⟨T,id,pa,slot,hty,h1,h2,?_⟩
 have hA:=ha cpos pins s1 σ H1 _ I1 q1
 rw [hs] at hA ⊢
 refine Calls.callWith_builtin (by show (false || (backTo cpos (starEach es X.env)).any (·.1))=false;rw [hplain] <;> rfl) (Calls.evalArgs_plain ?_)
 exact bB hA fun us s2 ⟨vs,H2,I2,r2,q2⟩=>hm pins s2 σ H2 x vs v us Q I2 r1 r2 q2
end
def GY (X:Cx) (id:String) (r:V->List V->Hp->VK->Prop):Prop :=
 ∀ (pins:List (Addr × Obj)) (s:Shared) (σ:St) (H:Hp) (x:V) (xs:List V) (v:Value) (us:List Value) (Q:VK),Inv X pins σ H s->RelV x v->Vals xs us->r x xs H Q ->
  wpAny (model X.prog X.w) X.A (call (.builtin id) (v :: us)) (EP X pins σ Q) X.xe s
theorem Vals.one:∀ {x:V} {us:List Value},Vals [x] us->∃ u,us=[u]/\RelV x u
 | _,_,.cons r .nil=>⟨_,rfl,r⟩
theorem Vals.zero:∀ {us:List Value},Vals [] us->us=[]
 | _,.nil=>rfl
theorem Vals.dropLast {xs:List V} {us:List Value} (h:Vals xs us):Vals xs.dropLast us.dropLast:=by
 induction h with
 | nil=>exact .nil
 | cons r t ih =>
  cases t with
  | nil=>exact .nil
  | cons q t'=>exact .cons r ih
theorem Vals.rep {xs:List V} {us:List Value} (h:Vals xs us):∀ k:Nat,Vals (List.replicate k xs).flatten (List.replicate k us).flatten
 | 0=>.nil
 | k + 1=>by
  rw [List.replicate_succ,List.replicate_succ,List.flatten_cons,List.flatten_cons]
  exact Vals.append h (Vals.rep h k)
theorem IF {α:Type} (l:List α):l.eraseIdx (l.length - 1)=l.dropLast:=by
 induction l with
 | nil=>rfl
 | cons a r ih =>
  cases r with
  | nil=>rfl
  | cons b r =>
   have e:(a :: b :: r).length - 1=((b :: r).length - 1) + 1:=by
    have h1:(a :: b :: r).length=r.length + 2:=rfl
    have h2:(b :: r).length=r.length + 1:=rfl
    omega
   rw [e,List.eraseIdx_cons_succ,ih]
   all_goals rfl
theorem foldl_rep (its:List Value):∀ (k:Nat) (acc:List Value),
  List.foldl (fun x1 x2=>x1++x2) acc.toArray (List.replicate k its.toArray)=(acc++(List.replicate k its).flatten).toArray
 | 0,acc=>by simp
 | k + 1,acc=>by
  have e:acc.toArray++its.toArray=(acc++its).toArray:=by simp
  have e2:(acc++its)++(List.replicate k its).flatten=acc++(List.replicate (k + 1) its).flatten:=by
   rw [List.replicate_succ,List.flatten_cons,List.append_assoc]
  rw [<- e2,<- foldl_rep its k (acc++its),<- e,List.replicate_succ,List.foldl_cons]
section
variable {X:Cx} {pins:List (Addr × Obj)} {σ:St} {H:Hp} {s:Shared} {l b:Addr} {xs ys zs:List V}
theorem Inv.lset {its its':List Value} {n:Nat} {f:Array Value->Array Value} {t':Nat} (I:Inv X pins σ H s) (hH:H l=some (.lst xs))
  (e:s.heap.get? l=some { cls:=.type "list",data:=.seq its.toArray n }) (hf:f its.toArray=its'.toArray) (hv:Vals ys its') (hz:ys.length<=sizeLine) :
  Inv X pins σ (upd H l (.lst ys)) { s with heap:=s.heap.update l (Obj.mapSeq f),toks:=t' }:=by
 have q:=PySem.IsL.update e f
 rw [hf] at q
 refine I.write (x:=l) (e:=l) (by rw [hH];exact trivial) (.inl rfl) (fun b' u hb hu=>(Heap.get?_update_other s.heap (Obj.mapSeq f) (Ne.symm hb)).trans hu) ⟨_,q⟩ ?_
 exact ⟨hz,its',_,hv,q⟩
theorem Inv.lnew {its:List Value} {t':Nat} (I:Inv X pins σ H s) (hv:Vals ys its) (hz:ys.length<=sizeLine) :
  Inv X pins σ (upd H s.heap.objs.size (.lst ys)) { s with heap:=s.heap.push { cls:=.type "list",data:=.seq its.toArray },toks:=t' } :=
 I.laid (fun _ _ q=>Heap.get?_push_of_some _ q) (Nat.le_refl _) ⟨hz,its,0,hv,Heap.get?_push_size _ rfl⟩
theorem Inv.fresh (I:Inv X pins σ H s):H s.heap.objs.size=none:=I.hok.fresh (Nat.le_refl _)
theorem Inv.lstM (I:Inv X pins σ H s) (hH:H l=some (.lst xs)):xs.length<=sizeLine/\∃ (its:List Value) (n:Nat),Vals xs its/\xs.length=its.length/\s.heap.get? l=some { cls:=.type "list",data:=.seq its.toArray n }:=by
 obtain ⟨z,its,n,r,e⟩:=I.hok l _ hH
 exact ⟨z,its,n,r,r.length,e⟩
theorem DY {n:Nat} (h:n<=sizeLine):Builtin.List.listTooLong n=false:=by
 unfold Builtin.List.listTooLong
 exact decide_eq_false (by omega)
end
section
variable {X:Cx}
def Cd:V->List V->Hp->VK->Prop:=fun x vs H Q=>∃ l xs y,x=.ref l/\vs=[y]/\H l=some (.lst xs)/\xs.length < sizeLine/\Q .non (upd H l (.lst (xs++[y])))
theorem x8:GY X "list.append" Cd:=by
 intro pins s σ H x vs v us Q I rx rv h
 obtain ⟨l,xs,y,rfl,rfl,hH,hz,q⟩:=h
 cases rx
 obtain ⟨u,rfl,ru⟩:=rv.one
 obtain ⟨z,its,n,r,hl,e⟩:=I.lstM hH
 refine call_meets F.slot_list_append ⟨_,e,rfl⟩ F.entry_list_append (F.args_list_append_2 _ _) (PySem.list_append l its.toArray n u (by rw [List.size_toArray];omega)) ⟨e,?_⟩
 refine ⟨.non,_,I.lset (its':=its++[u]) hH e (by simp) (r.append (.cons ru .nil)) ?_,rfl,q⟩
 rw [List.length_append,List.length_singleton]
 omega
def Tn:V->List V->Hp->VK->Prop:=fun x vs H Q=>∃ l xs y,x=.ref l/\vs=[]/\H l=some (.lst xs)/\xs[xs.length - 1]?=some y/\Q y (upd H l (.lst xs.dropLast))
theorem To:GY X "list.pop" Tn:=by
 intro pins s σ H x vs v us Q I rx rv h
 obtain ⟨l,xs,y,rfl,rfl,hH,hy,q⟩:=h
 cases rx
 have hus:=rv.zero
 subst hus
 obtain ⟨z,its,n,r,hl,e⟩:=I.lstM hH
 obtain ⟨u,hu,ru⟩:=r.get hy
 have hy':its.toArray[its.toArray.size - 1]?=some u:=by
  show its.toArray[its.length - 1]?=some u
  rw [<- Array.getElem?_toList,<- hl]
  exact hu
 refine call_meets F.slot_list_pop ⟨_,e,rfl⟩ F.entry_list_pop (F.args_list_pop_1 _) (MeetsSeq.list_pop_last l its.toArray n u hy' (by rw [List.size_toArray];omega)) ⟨e,?_⟩
 refine ⟨y,_,I.lset (its':=its.dropLast) hH e ?_ r.dropLast ?_,ru,q⟩
 ·show its.toArray.eraseIdxIfInBounds (its.toArray.size - 1)=its.dropLast.toArray
  rw [List.size_toArray,List.eraseIdxIfInBounds_toArray,IF]
 ·rw [List.length_dropLast]
  omega
def Sd:R2:=fun x y H Q=>∃ l k xs,x=.ref l/\y=.int k/\H l=some (.lst xs)/\-(2 ^ 63)<=k/\k < 2 ^ 63/\xs.length * k.toNat<=sizeLine /\
 ∀ p,H p=none->Q (.ref p) (upd H p (.lst (List.replicate k.toNat xs).flatten))
theorem len_rep {α:Type} (xs:List α) (k:Nat):(List.replicate k xs).flatten.length=k * xs.length:=by
 induction k with
 | zero=>simp
 | succ k ih=>rw [List.replicate_succ,List.flatten_cons,List.length_append,ih,Nat.succ_mul,Nat.add_comm]
theorem SQ:cZ X (binaryOp .Mult) Sd:=by
 intro pins s σ H x y v u Q I rx ry h
 obtain ⟨l,k,xs,rfl,rfl,hH,h1,h2,hz,q⟩:=h
 cases rx
 obtain ⟨t,rfl⟩:=ry
 obtain ⟨z,its,n,r,hl,e⟩:=I.lstM hH
 have hlen:its.toArray.size * k.toNat<=sizeLine:=by rw [List.size_toArray,<- hl];exact hz
 have hcap:¬ its.toArray.size * k.toNat > (2 ^ 63 - 1) / 8:=by
  have:(sizeLine:Nat)<=(2 ^ 63 - 1) / 8:=by decide
  omega
 have hfit:¬ (!Builtin.List.listFitsIndex k)=true:=by
  rw [fitsIndex_both h1 h2]
  exact Bool.false_ne_true
 have hlong:¬ Builtin.List.listTooLong (its.toArray.size * k.toNat)=true:=by
  rw [DY hlen]
  exact Bool.false_ne_true
 have hnew:List.foldl (fun x1 x2=>x1++x2) #[] (List.replicate (if its.toArray.isEmpty=true then 0 else k.toNat) its.toArray)=(List.replicate k.toNat its).flatten.toArray:=by
  have f0:∀ m:Nat,List.foldl (fun x1 x2=>x1++x2) #[] (List.replicate m its.toArray)=(List.replicate m its).flatten.toArray:=fun m=>by
   have:=foldl_rep its m []
   rw [List.nil_append] at this
   exact this
  rw [f0]
  cases its with
  | nil=>simp
  | cons a r'=>rw [if_neg (by simp)]
 refine wpAny_binaryOp_repeat_ref (T:="list") (U:="int") (by decide) ⟨_,e,rfl⟩ (fun s'=>typeIs_int s' k t) noFill_list_mul F.fills_int_mul F.slot_int_rmul repeat_list F.slot_int_index.lookup
  (call_meets F.slot_int_rmul (typeIs_int s k t) F.entry_int_rmul (F.args_int_rmul_2 _ _) (int___rmul___int_list k t l its.toArray n)
   ⟨e,rfl,⟨_,e,rfl⟩,call_meets F.slot_list_mul ⟨_,e,rfl⟩ F.entry_list_mul (F.args_list_mul_2 _ _) (AutoListH.list___mul___list_int_3 l its.toArray n k t hfit hcap hlong) ⟨e,?_⟩⟩)
 rw [hnew]
 exact ⟨.ref _,_,I.lnew (t':=s.toks) (r.rep k.toNat) (by rw [len_rep,Nat.mul_comm];exact hz),rfl,q _ I.fresh⟩
end
section
variable {prog:Program} {w:World} {A:Around} {E:Value->Shared->Prop} {s:Shared}
end
section
variable {X:Cx}
end
end L2
namespace Att
open PySem PySem.W PySem.Calls PyProof.Rows
theorem BE {P:Params} {h:Heap}:∀ (ns:List Int) (vs:List Value),WellAll P h vs (ns.map WData.int)->IntsAre vs ns:=by
 intro ns
 induction ns with
 | nil =>
  intro vs w
  rw [List.map_nil] at w
  cases w
  exact .nil
 | cons n ns ih =>
  intro vs w
  rw [List.map_cons] at w
  cases w with
  | cons a b =>
   cases a
   exact .cons _ _ (ih _ b)
theorem L9 {l:OpenLaw} {n:Nat} (hn:l.most=some n) {P:Params} {h:Heap} {args:List WData} {vals:List Value}
  (hpre:l.row.toRowW.claim.pre args=true) (hwl:WellAll P h vals args) :
  ∃ a vs ns,vals=[Value.ref a]/\args=[WData.list (ns.map WData.int)]/\h.get? a=some { cls:=.type "list",data:=.seq vs.toArray }/\IntsAre vs ns/\ns.length<=n:=by
 have hsh:WShape.hasAll [] args [.list .int]=true:=(pre_splitW hpre).1
 have hc:l.pre.holds [] { args:=args }=true:=(pre_splitW hpre).2
 obtain ⟨d,r,rfl,h1,h2⟩:=hasAllW_cons hsh
 obtain rfl:=hasAllW_nil h2
 obtain ⟨xs,rfl,h3⟩:=hasW_list h1
 obtain ⟨ns,rfl⟩:=items_int h3
 have hlen:ns.length<=n:=by
  unfold OpenLaw.pre at hc
  have h4:(WTm.not (.lt (.lit (.int (n:Int))) (.len (.arg 0)))).holds [] { args:=[.list (ns.map .int)] }=true:=by
   have h4:=(holds_andW hc).1
   rw [hn] at h4
   exact h4
  have h5:=condW_of h4 (w_not (w_lt w_lit (w_len_list (w_arg rfl))))
  rw [List.length_map] at h5
  refine Nat.le_of_not_lt fun q=>?_
  have q':(n:Int) < ((ns.length:Nat):Int):=by omega
  first
   | (rw [decide_eq_true q'] at h5;exact absurd h5 (by decide))
   | (simp at h5;omega)
 cases hwl with
 | cons w1 w2 =>
  cases w2
  cases w1 with
  | list ho hall=>exact ⟨_,_,ns,rfl,rfl,ho,BE ns _ hall,hlen⟩
theorem LJ (l:OpenLaw) (args:List WData):l.row.toRowW.claim.post args (.bool true) args=true :=
 postW_of (r:=l.row.toRowW) (X:=(true == true))
  (show WShape.has [] (.bool true) .bool=true by first | rfl | decide | simp [WShape.has,WShape.arms,WShape.armsAll])
  (show (WTm.eq .res (.lit (.bool true))).value [] { args:=args,res:=some (.bool true),after:=args }=some (.bool (true == true)) from w_eq_bool (w_res rfl) w_lit) rfl
section
variable {prog:Program} {w:World} {A:Around} {E:Value->Shared->Prop} {s:Shared} {K:Frag}
end
end Att
namespace L2
open PySem PySem.Spec PyProof.Rows
theorem Cr:∀ {vs:List Value} {ns:List Int},IntsAre vs ns->Vals (ns.map V.int) vs
 | _,_,.nil=>.nil
 | _,_,.cons n t h=>.cons ⟨t,rfl⟩ (Cr h)
end L2
namespace L2
open PySem PySem.Spec PyProof.Rows
def aY (s:Stmt):Arguments:=match s with
 | .FunctionDef _ a _ _ _ _ _ _ _ _=>a
 | _=>{ posonlyargs:=[],args:=[],vararg:=none,kwonlyargs:=[],kw_defaults:=[],kwarg:=none,defaults:=[] }
def aS (s:Stmt):List Stmt:=match s with
 | .FunctionDef _ _ b _ _ _ _ _ _ _=>b
 | _=>[]
def aD (s:Stmt):Scope:=match s with
 | .FunctionDef _ _ _ _ _ _ sc _ _ _=>sc
 | _=>{ kind:=.function,names:=[],isGenerator:=false,isCoroutine:=false }
abbrev jF:xC:=fun _ _ _ _ _ _=>False
abbrev E0:XK:=fun _ _ _=>False
theorem Jc {X:Cx}:Passes jF X E0:=fun _ _ _ _ _ _ _ h=>h.elim
structure cE (K:PySem.W.Frag) (x qual:Str) (st:Stmt) (f:Addr) (fd:FuncData):Prop where
 ex:∃ (oc:Value) (od:Option Addr) (kV doc pm:Value) (an:Option Addr) (cdv ct:Value) (osl:Array (Option Value)),
  fd=PySem.W.fnOf x qual (aY st) (aS st) (aD st) .none kV doc pm an cdv ct/\K.lookup f=some ⟨oc,od,.func fd,osl⟩/\PySem.W.codeIn K cdv qual=true
 kp:PySem.W.keepIn K (.ref f)=true
section
variable {P:Program} {w:World} {K:PySem.W.Frag} {mg:Str->Option Value} {base:Heap}
theorem cE.ok {x qual:Str} {st:Stmt} {f:Addr} {fd:FuncData} {N ps:List Str} {k:Nat} {sp:Sp} (F:cE K x qual st f fd) (S:aV N ps (aD st)) (len:∀ vs H Q E,sp vs H Q E->vs.length=ps.length)
  (hbody:∀ (cdv:Value) (A:Around) (outer:List Env) (s:Shared) (H:Hp) (vs:List V) (Q:VK) (E:XK),cX k (A.deeper (envOfC qual (aD st) s.heap.objs.size f cdv))->sp vs H Q E ->
   ∃ t,mZ (kX jF P w K mg base N qual (aD st) f cdv A outer s H E).nox (aS st) t/\t { nx:=fun _ H'=>Q .non H',rt:=Q } (start N vs) H):fJ P w K mg base jF (k + 1) f fd ps sp:=by
 obtain ⟨oc,od,kV,doc,pm,an,cdv,ct,osl,rfl,lk,hcd⟩:=F.ex
 refine PF lk hcd S len fun A outer s H vs Q E hr hsp=>?_
 obtain ⟨t,h,q⟩:=hbody cdv A outer s H vs Q E hr hsp
 exact ⟨t,h.nox,q⟩
theorem cE.binds {x qual:Str} {st:Stmt} {f:Addr} {fd:FuncData} {ps:List Str} (F:cE K x qual st f fd)
  (h:∀ (kV doc pm:Value) (an:Option Addr) (cdv ct:Value) (us:List Value),us.length=ps.length->bindArgs (PySem.W.fnOf x qual (aY st) (aS st) (aD st) .none kV doc pm an cdv ct) ⟨us,[]⟩=pure (ps.zip us)):Binds K fd ps []:=by
 obtain ⟨oc,od,kV,doc,pm,an,cdv,ct,osl,rfl,lk,hcd⟩:=F.ex
 exact .all (h kV doc pm an cdv ct)
theorem bN {x qual:Str} {st:Stmt} {f:Addr} {oc:Value} {od an:Option Addr} {osl:Array (Option Value)} {kV doc pm cdv ct:Value} (l:K.lookup f=some ⟨oc,od,.func (PySem.W.fnOf x qual (aY st) (aS st) (aD st) .none kV doc pm an cdv ct),osl⟩)
  (c:PySem.W.codeIn K cdv qual=true) (k:PySem.W.keepIn K (.ref f)=true):cE K x qual st f (PySem.W.fnOf x qual (aY st) (aS st) (aD st) .none kV doc pm an cdv ct):=⟨⟨oc,od,kV,doc,pm,an,cdv,ct,osl,rfl,l,c⟩,k⟩
end
section
variable {X:Cx}
end
theorem qB {c A B:Prop} [Decidable c] (h1:c->A) (h2:¬ c->B):if c then A else B:=by
 by_cases h:c
 ·rw [if_pos h]
  exact h1 h
 ·rw [if_neg h]
  exact h2 h
end L2
namespace U2
open PySem L2
inductive U where
 | non | bl (b:Bool) | int (i:Int) | str (x:Str) | tup (us:List U) | lst (us:List U) | ref (a:Addr) | ty (n:String) | dic (ks:List (List Key)) (tk:Bool) (us:List U)
inductive MO where
 | lst (us:List U) | dK (kvs:List (Key × U)) | dT (kvs:List (List Key × U)) | dN (kvs:List ((List Key × Key) × U)) | tbl (q:Str) | cap (ps:Array Value) (vs:List V) (us:List U)
abbrev aF:=Addr->Option MO
def mup (M:aF) (a:Addr) (o:MO):aF:=fun b=>if b=a then some o else M b
theorem bO {M:aF} {a:Addr} {o:MO}:mup M a o a=some o:=by unfold mup;rw [if_pos rfl]
theorem cB {M:aF} {a b:Addr} {o:MO} (h:b≠a):mup M a o b=M b:=by unfold mup;rw [if_neg h]
theorem gR {M:aF} {a:Addr} {o u:MO}:mup (mup M a o) a u=mup M a u:=by
 funext b;unfold mup;split <;> rfl
def KT (K:PySem.W.Frag) (a:Addr) (xs:List V):Prop :=
 ∃ (o:Obj) (its:Array Value) (n:Nat),K.lookup a=some o/\o.cls=.type "tuple"/\o.dict=none/\o.data=.seq its n/\its.size<=sizeLine/\Vals xs its.toList
def KL (K:PySem.W.Frag) (a:Addr) (xs:List V):Prop :=
 ∃ (o:Obj) (its:Array Value) (n:Nat),K.lookup a=some o/\o.cls=.type "list"/\o.dict=none/\o.data=.seq its n/\its.size<=sizeLine/\Vals xs its.toList
def Bb (H:Hp) (a:Addr) (ks:List (List Key)) (tk:Bool) (vs:List V):Prop:=match tk with
 | true=>∃ ws,Rd H a (.dT ws)/\ks=ws.map (·.1)/\vs=ws.map (·.2)
 | false=>∃ ws,Rd H a (.dK ws)/\ks=ws.map (fun p=>[p.1])/\vs=ws.map (·.2)
mutual
def aP (K:PySem.W.Frag) (H:Hp) (M:aF):U->V->Prop
 | .non,v=>v=.non
 | .bl b,v=>v=.bl b
 | .int i,v=>v=.int i
 | .str x,v=>v=.str x
 | .ty n,v=>v=.ty n
 | .ref a,v=>v=.ref a
 | .tup us,v=>∃ a vs,v=.ref a/\(M a=none/\H a=some (.tup vs))/\aI K H M us vs
 | .dic ks tk us,v=>∃ a vs,v=.ref a/\M a=none/\Bb H a ks tk vs/\aI K H M us vs
 | .lst us,v=>∃ a vs,v=.ref a/\((M a=none/\Rd H a (.lst vs))\/KL K a vs)/\aI K H M us vs
def aI (K:PySem.W.Frag) (H:Hp) (M:aF):List U->List V->Prop
 | [],vs=>vs=[]
 | u :: us,vs=>∃ v vs',vs=v :: vs'/\aP K H M u v/\aI K H M us vs'
end
def Oe:HO->Bool
 | .dK _=>true
 | .dT _=>true
 | _=>false
def aX (H:Hp) (M:aF) (H1:Hp) (M1:aF):Prop:=∀ b o,H b=some o->M b=none->(H1 b=some o\/(Oe o=true/\∃ ob,H1 b=some (.frz ob o)))/\M1 b=none
theorem aX.by' {H H1:Hp} {M M1:aF} (h:∀ b o,H b=some o->M b=none->H1 b=some o/\M1 b=none):aX H M H1 M1:=fun b o e m=>⟨.inl (h b o e m).1,(h b o e m).2⟩
theorem aX.to {H H1:Hp} {M M1:aF} (st:aX H M H1 M1) {b:Addr} {o:HO} (e:H b=some o) (m:M b=none) (n:Oe o=false:=by rfl):H1 b=some o/\M1 b=none:=by
 obtain ⟨h | ⟨h,_⟩,m1⟩:=st b o e m
 ·exact ⟨h,m1⟩
 ·rw [n] at h;cases h
theorem aX.refl (H:Hp) (M:aF):aX H M H M:=.by' fun _ _ h m=>⟨h,m⟩
theorem aX.trans {H H1 H2:Hp} {M M1 M2:aF} (a:aX H M H1 M1) (b:aX H1 M1 H2 M2):aX H M H2 M2:=fun c o h m=>by
 obtain ⟨h1 | ⟨d,ob,h1⟩,m1⟩:=a c o h m
 ·exact b c o h1 m1
 ·obtain ⟨h2,m2⟩:=b.to h1 m1
  exact ⟨.inr ⟨d,ob,h2⟩,m2⟩
theorem Rd.stp {H H1:Hp} {M M1:aF} {a:Addr} {u:HO} (st:aX H M H1 M1) (m:M a=none) (h:Rd H a u):M1 a=none/\Rd H1 a u:=by
 rcases h with h | ⟨o,h⟩
 ·obtain ⟨x | ⟨_,ob,x⟩,y⟩:=st a _ h m
  ·exact ⟨y,.inl x⟩
  ·exact ⟨y,.inr ⟨ob,x⟩⟩
 ·obtain ⟨x,y⟩:=st.to h m;exact ⟨y,.inr ⟨o,x⟩⟩
theorem Bb.stp {H H1:Hp} {M M1:aF} {a:Addr} {ks:List (List Key)} {tk:Bool} {vs:List V} (st:aX H M H1 M1) (m:M a=none) (h:Bb H a ks tk vs):M1 a=none/\Bb H1 a ks tk vs:=by
 cases tk with
 | true=>obtain ⟨ws,e,r⟩:=h;exact ⟨(Rd.stp st m e).1,ws,(Rd.stp st m e).2,r⟩
 | false=>obtain ⟨ws,e,r⟩:=h;exact ⟨(Rd.stp st m e).1,ws,(Rd.stp st m e).2,r⟩
mutual
theorem aP.stp {K:PySem.W.Frag} {H H1:Hp} {M M1:aF} (st:aX H M H1 M1):∀ {u:U} {v:V},aP K H M u v->aP K H1 M1 u v
 | .non,_,h=>by simpa only [aP] using h
 | .bl _,_,h=>by simpa only [aP] using h
 | .int _,_,h=>by simpa only [aP] using h
 | .str _,_,h=>by simpa only [aP] using h
 | .ty _,_,h=>by simpa only [aP] using h
 | .ref _,_,h=>by simpa only [aP] using h
 | .tup us,_,h=>by
  simp only [aP] at h ⊢
  obtain ⟨a,vs,e,h1,h2⟩:=h
  refine ⟨a,vs,e,?_,aI.stp st h2⟩
  obtain ⟨m,r⟩:=h1
  exact ⟨(st.to r m).2,(st.to r m).1⟩
 | .dic ks tk us,_,h=>by
  simp only [aP] at h ⊢
  obtain ⟨a,vs,e,m,h1,h2⟩:=h
  have q:=Bb.stp st m h1
  exact ⟨a,vs,e,q.1,q.2,aI.stp st h2⟩
 | .lst us,_,h=>by
  simp only [aP] at h ⊢
  obtain ⟨a,vs,e,h1,h2⟩:=h
  refine ⟨a,vs,e,?_,aI.stp st h2⟩
  rcases h1 with ⟨m,r⟩ | k
  ·exact .inl (Rd.stp st m r)
  ·exact .inr k
theorem aI.stp {K:PySem.W.Frag} {H H1:Hp} {M M1:aF} (st:aX H M H1 M1):∀ {us:List U} {vs:List V},aI K H M us vs->aI K H1 M1 us vs
 | [],_,h=>by simpa only [aI] using h
 | u :: us,_,h=>by
  simp only [aI] at h ⊢
  obtain ⟨v,vs',e,h1,h2⟩:=h
  exact ⟨v,vs',e,aP.stp st h1,aI.stp st h2⟩
end
theorem aX.less {H:Hp} {M M1:aF} (h:∀ b,M b=none->M1 b=none):aX H M H M1:=.by' fun b o e m=>⟨e,h b m⟩
def n6 {κ:Type} (K:PySem.W.Frag) (H:Hp) (M:aF):List (κ × U)->List (κ × V)->Prop:=Paired fun p q=>p.1=q.1/\aP K H M p.2 q.2
theorem n6.stp {κ:Type} {K:PySem.W.Frag} {H H1:Hp} {M M1:aF} (st:aX H M H1 M1):∀ {us:List (κ × U)} {vs:List (κ × V)},n6 K H M us vs->n6 K H1 M1 us vs
 | _,_,.nil=>.nil
 | _,_,.cons h t=>.cons ⟨h.1,h.2.stp st⟩ (n6.stp st t)
def AZ (K:PySem.W.Frag) (H:Hp) (M:aF) (a:Addr):MO->Prop
 | .lst us=>∃ vs,H a=some (.lst vs)/\aI K H M us vs
 | .dK kvs=>∃ ws,H a=some (.dK ws)/\n6 K H M kvs ws
 | .dT kvs=>∃ ws,H a=some (.dT ws)/\n6 K H M kvs ws
 | .dN kvs=>∃ ws,H a=some (.dN ws)/\n6 K H M kvs ws
 | .cap ps vs us=>H a=some (.tbl ps)/\aI K H M us vs
 | .tbl q=>(∀ b,M b=some (.tbl q)->b=a)/\∃ ps,H a=some (.tbl ps)/\TriplesOk ps.toList/\∀ pos c,codeAmong pos ps.toList=some c->∃ c' oc vs t,c=.ref c'/\H c'=some (.frz oc (.own 0))/\M c'=none/\oc.data=.fields vs/\vs[1]?=some (.str q t)
def RelM (K:PySem.W.Frag) (H:Hp) (M:aF):Prop:=∀ a mo,M a=some mo->AZ K H M a mo
theorem AZ.stp {K:PySem.W.Frag} {H H1:Hp} {M M1:aF} {a:Addr} {mo:MO} (hu:∀ b q,M1 b=some (.tbl q)->M b=some (.tbl q)) (st:aX H M H1 M1) (e:H1 a=H a) (h:AZ K H M a mo):AZ K H1 M1 a mo:=by
 cases mo with
 | lst us=>obtain ⟨vs,x,y⟩:=h;exact ⟨vs,e.trans x,y.stp st⟩
 | dK us=>obtain ⟨vs,x,y⟩:=h;exact ⟨vs,e.trans x,y.stp st⟩
 | dT us=>obtain ⟨vs,x,y⟩:=h;exact ⟨vs,e.trans x,y.stp st⟩
 | dN us=>obtain ⟨vs,x,y⟩:=h;exact ⟨vs,e.trans x,y.stp st⟩
 | cap ps vs us=>exact ⟨e.trans h.1,h.2.stp st⟩
 | tbl q =>
  obtain ⟨un,ps,x,y,z⟩:=h
  refine ⟨fun b hb=>un b (hu b q hb),ps,e.trans x,y,fun pos c hc=>?_⟩
  obtain ⟨c',oc,vs,t,h1,h2,h3,h4⟩:=z pos c hc
  exact ⟨c',oc,vs,t,h1,(st.to h2 h3).1,(st.to h2 h3).2,h4⟩
theorem RelM.ex {K:PySem.W.Frag} {H:Hp} {M:aF} (r:RelM K H M) {a:Addr} {mo:MO} (h:M a=some mo):∃ o,H a=some o:=by
 have:=r a mo h
 cases mo with
 | lst us=>obtain ⟨vs,x,y⟩:=this;exact ⟨_,x⟩
 | dK us=>obtain ⟨vs,x,y⟩:=this;exact ⟨_,x⟩
 | dT us=>obtain ⟨vs,x,y⟩:=this;exact ⟨_,x⟩
 | dN us=>obtain ⟨vs,x,y⟩:=this;exact ⟨_,x⟩
 | cap ps vs us=>exact ⟨_,this.1⟩
 | tbl q=>obtain ⟨_,ps,x,_⟩:=this;exact ⟨_,x⟩
theorem RelM.no {K:PySem.W.Frag} {H:Hp} {M:aF} (r:RelM K H M) {a:Addr} (h:H a=none):M a=none:=by
 cases e:M a with
 | none=>rfl
 | some mo=>obtain ⟨o,q⟩:=r.ex e;rw [h] at q;cases q
theorem aX.laid {K:PySem.W.Frag} {H:Hp} {M:aF} {p:Addr} {o:HO} (r:RelM K H M) (h:H p=none):aX H M (upd H p o) M:=.by' fun b u e m=>⟨by rw [bE (bR e h)];exact e,m⟩
theorem RelM.laid {K:PySem.W.Frag} {H:Hp} {M:aF} {p:Addr} {o:HO} (r:RelM K H M) (h:H p=none):RelM K (upd H p o) M:=fun a mo e=>by
 obtain ⟨u,q⟩:=r.ex e
 exact (r a mo e).stp (fun _ _ z=>z) (aX.laid r h) (bE (bR q h))
theorem aX.own {K:PySem.W.Frag} {H:Hp} {M:aF} {p:Addr} {o:HO} {mo:MO} (r:RelM K H M) (h:H p=none):aX H M (upd H p o) (mup M p mo):=.by' fun b u e m=>by
 have n:=bR e h
 exact ⟨by rw [bE n];exact e,by rw [cB n];exact m⟩
theorem RelM.put {K:PySem.W.Frag} {H:Hp} {M:aF} {p:Addr} {o:HO} {mo:MO} (r:RelM K H M) (st:aX H M (upd H p o) (mup M p mo)) (new:AZ K (upd H p o) (mup M p mo) p mo) (hm:∀ q,mo≠.tbl q:=by intro q z;cases z):RelM K (upd H p o) (mup M p mo):=fun a m e=>by
 by_cases ha:a=p
 ·subst ha;rw [bO] at e;cases e;exact new
 ·rw [cB ha] at e
  refine (r a m e).stp (fun b q z=>?_) st (bE ha)
  by_cases hb:b=p
  ·subst hb;rw [bO] at z;exact absurd (Option.some.inj z) (hm q)
  ·rw [cB hb] at z;exact z
theorem aX.write {H:Hp} {M:aF} {p:Addr} {o:HO} {mo m0:MO} (h:M p=some m0):aX H M (upd H p o) (mup M p mo):=.by' fun b u e m=>by
 have n:b≠p:=fun z=>by subst z;rw [h] at m;cases m
 exact ⟨by rw [bE n];exact e,by rw [cB n];exact m⟩
section
variable {K:PySem.W.Frag} {H:Hp} {M:aF}
theorem aI.nil:aI K H M [] []:=by simp only [aI]
theorem aI.cons {u:U} {v:V} {us:List U} {vs:List V} (h:aP K H M u v) (t:aI K H M us vs):aI K H M (u :: us) (v :: vs):=by simp only [aI];exact ⟨v,vs,rfl,h,t⟩
theorem aI.length:∀ {us:List U} {vs:List V},aI K H M us vs->us.length=vs.length
 | [],_,h=>by simp only [aI] at h;subst h;rfl
 | u :: us,_,h=>by
  simp only [aI] at h
  obtain ⟨v,vs',rfl,_,t⟩:=h
  simp [aI.length t]
theorem aI.inv_cons {u:U} {us:List U} {vs:List V} (h:aI K H M (u :: us) vs):∃ v vs',vs=v :: vs'/\aP K H M u v/\aI K H M us vs':=by simpa only [aI] using h
theorem aI.inv_nil {vs:List V} (h:aI K H M [] vs):vs=[]:=by simpa only [aI] using h
theorem aI.append:∀ {us ws:List U} {vs zs:List V},aI K H M us vs->aI K H M ws zs->aI K H M (us++ws) (vs++zs)
 | [],_,_,_,h,t=>by cases h.inv_nil;exact t
 | u :: us,_,_,_,h,t=>by
  obtain ⟨v,vs',rfl,a,b⟩:=h.inv_cons
  exact .cons a (aI.append b t)
theorem aI.get:∀ {us:List U} {vs:List V} {i:Nat} {u:U},aI K H M us vs->us[i]?=some u->∃ v,vs[i]?=some v/\aP K H M u v
 | [],_,_,_,_,e=>by simp at e
 | u :: us,_,0,_,h,e=>by
  obtain ⟨v,vs',rfl,a,b⟩:=h.inv_cons
  simp at e;subst e;exact ⟨v,rfl,a⟩
 | u :: us,_,i + 1,_,h,e=>by
  obtain ⟨v,vs',rfl,a,b⟩:=h.inv_cons
  simp at e
  obtain ⟨w,x,y⟩:=aI.get b e
  exact ⟨w,by simpa using x,y⟩
theorem aI.drop:∀ {us:List U} {vs:List V} (n:Nat),aI K H M us vs->aI K H M (us.drop n) (vs.drop n)
 | _,_,0,h=>h
 | [],_,_ + 1,h=>by cases h.inv_nil;exact .nil
 | u :: us,_,n + 1,h=>by
  obtain ⟨v,vs',rfl,a,b⟩:=h.inv_cons
  exact aI.drop n b
theorem aI.take:∀ {us:List U} {vs:List V} (n:Nat),aI K H M us vs->aI K H M (us.take n) (vs.take n)
 | _,_,0,_=>by simp only [List.take_zero];exact .nil
 | [],_,_ + 1,h=>by cases h.inv_nil;exact .nil
 | u :: us,_,n + 1,h=>by
  obtain ⟨v,vs',rfl,a,b⟩:=h.inv_cons
  exact .cons a (aI.take n b)
theorem aI.set {u:U} {v:V} (r:aP K H M u v):∀ {us:List U} {vs:List V} (i:Nat),aI K H M us vs->aI K H M (us.set i u) (vs.set i v)
 | [],_,_,h=>by cases h.inv_nil;exact .nil
 | w :: us,_,0,h=>by
  obtain ⟨z,vs',rfl,a,b⟩:=h.inv_cons
  exact .cons r b
 | w :: us,_,i + 1,h=>by
  obtain ⟨z,vs',rfl,a,b⟩:=h.inv_cons
  exact .cons a (aI.set r i b)
theorem aI.dropLast {us:List U} {vs:List V} (h:aI K H M us vs):aI K H M us.dropLast vs.dropLast:=by
 rw [List.dropLast_eq_take,List.dropLast_eq_take,h.length];exact h.take _
end
abbrev SU:=List (Option U)
abbrev UK:=U->aF->Prop
abbrev UE:=SU->aF->UK->Prop
abbrev UT:=SU->aF->(Bool->aF->Prop)->Prop
abbrev UA:=SU->aF->(List U->aF->Prop)->Prop
structure mH where
 nx:SU->aF->Prop
 rt:UK
 bk:SU->aF->Prop:=fun _ _=>False
 ct:SU->aF->Prop:=fun _ _=>False
abbrev US:=mH->SU->aF->Prop
def cL (K:PySem.W.Frag) (H:Hp) (M:aF) (σ:St) (τ:SU):Prop:=τ.length=σ.length/\∀ (i:Nat) u,τ[i]?=some (some u)->∃ v,σ[i]?=some (some v)/\aP K H M u v
theorem cL.stp {K:PySem.W.Frag} {H H1:Hp} {M M1:aF} {σ:St} {τ:SU} (st:aX H M H1 M1) (r:cL K H M σ τ):cL K H1 M1 σ τ:=⟨r.1,fun i u e=>let ⟨v,a,b⟩:=r.2 i u e;⟨v,a,b.stp st⟩⟩
theorem cL.set {K:PySem.W.Frag} {H:Hp} {M:aF} {σ:St} {τ:SU} {i:Nat} {u:U} {v:V} (r:cL K H M σ τ) (h:aP K H M u v):cL K H M (σ.set i (some v)) (τ.set i (some u)):=by
 refine ⟨by simp [r.1],fun j w e=>?_⟩
 rw [List.getElem?_set] at e ⊢
 split at e
 ·rename_i hij
  subst hij
  split at e
  ·rename_i hl
   cases e
   rw [if_pos rfl,if_pos (by rw [<- r.1];exact hl)]
   exact ⟨v,rfl,h⟩
  ·cases e
 ·rename_i hij
  rw [if_neg hij]
  exact r.2 j w e
def bV (K:PySem.W.Frag) (t:TE) (t':UE):Prop:=∀ (σ:St) (τ:SU) (H:Hp) (M:aF) (Q':UK),cL K H M σ τ->RelM K H M->t' τ M Q' ->
 ∀ Q:VK,(∀ u v M1 H1,aX H M H1 M1->RelM K H1 M1->aP K H1 M1 u v->Q' u M1->Q v H1)->t σ H Q
def kL (K:PySem.W.Frag) (t:TT) (t':UT):Prop:=∀ (σ:St) (τ:SU) (H:Hp) (M:aF) (Q':Bool->aF->Prop),cL K H M σ τ->RelM K H M->t' τ M Q' ->
 ∀ Q:Bool->Hp->Prop,(∀ b M1 H1,aX H M H1 M1->RelM K H1 M1->Q' b M1->Q b H1)->t σ H Q
def mN (K:PySem.W.Frag) (t:TA) (t':UA):Prop:=∀ (σ:St) (τ:SU) (H:Hp) (M:aF) (Q':List U->aF->Prop),cL K H M σ τ->RelM K H M->t' τ M Q' ->
 ∀ Q:List V->Hp->Prop,(∀ us vs M1 H1,aX H M H1 M1->RelM K H1 M1->aI K H1 M1 us vs->Q' us M1->Q vs H1)->t σ H Q
structure Ej (K:PySem.W.Frag) (H:Hp) (M:aF) (D:Ends) (D':mH):Prop where
 nx:∀ σ τ H1 M1,aX H M H1 M1->RelM K H1 M1->cL K H1 M1 σ τ->D'.nx τ M1->D.nx σ H1
 rt:∀ u v H1 M1,aX H M H1 M1->RelM K H1 M1->aP K H1 M1 u v->D'.rt u M1->D.rt v H1
 bk:∀ σ τ H1 M1,aX H M H1 M1->RelM K H1 M1->cL K H1 M1 σ τ->D'.bk τ M1->D.bk σ H1
 ct:∀ σ τ H1 M1,aX H M H1 M1->RelM K H1 M1->cL K H1 M1 σ τ->D'.ct τ M1->D.ct σ H1
theorem Ej.stp {K:PySem.W.Frag} {H H1:Hp} {M M1:aF} {D:Ends} {D':mH} (d:Ej K H M D D') (st:aX H M H1 M1):Ej K H1 M1 D D' :=
 ⟨fun σ τ H2 M2 s=>d.nx σ τ H2 M2 (st.trans s),fun u v H2 M2 s=>d.rt u v H2 M2 (st.trans s),fun σ τ H2 M2 s=>d.bk σ τ H2 M2 (st.trans s),fun σ τ H2 M2 s=>d.ct σ τ H2 M2 (st.trans s)⟩
def jX (K:PySem.W.Frag) (t:TS) (t':US):Prop:=∀ (σ:St) (τ:SU) (H:Hp) (M:aF) (D':mH),cL K H M σ τ->RelM K H M->t' D' τ M->∀ D:Ends,Ej K H M D D'->t D σ H
end U2
namespace U2
open PySem L2
abbrev eC:=U->U->aF->UK->Prop
def cK (K:PySem.W.Frag) (H:Hp) (M:aF) (Q':UK) (Q:VK):Prop:=∀ u v M1 H1,aX H M H1 M1->RelM K H1 M1->aP K H1 M1 u v->Q' u M1->Q v H1
theorem cK.stp {K:PySem.W.Frag} {H H1:Hp} {M M1:aF} {Q':UK} {Q:VK} (c:cK K H M Q' Q) (st:aX H M H1 M1):cK K H1 M1 Q' Q:=fun u v M2 H2 s=>c u v M2 H2 (st.trans s)
theorem cK.here {K:PySem.W.Frag} {H:Hp} {M:aF} {Q':UK} {Q:VK} {u:U} {v:V} (c:cK K H M Q' Q) (rm:RelM K H M) (r:aP K H M u v) (q:Q' u M):Q v H:=c u v M H (aX.refl H M) rm r q
def fE (K:PySem.W.Frag) (r:R2) (r':eC):Prop:=∀ (x y:V) (u w:U) (H:Hp) (M:aF) (Q':UK),RelM K H M->aP K H M u x->aP K H M w y->r' u w M Q'->∀ Q:VK,cK K H M Q' Q->r x y H Q
def zC (K:PySem.W.Frag) (r:List V->Hp->VK->Prop) (r':List U->aF->UK->Prop):Prop:=∀ (xs:List V) (us:List U) (H:Hp) (M:aF) (Q':UK),RelM K H M->aI K H M us xs->r' us M Q'->∀ Q:VK,cK K H M Q' Q->r xs H Q
def pE (K:PySem.W.Frag) (r:V->List V->Hp->VK->Prop) (r':U->List U->aF->UK->Prop):Prop:=∀ (x:V) (xs:List V) (u:U) (us:List U) (H:Hp) (M:aF) (Q':UK),RelM K H M->aP K H M u x->aI K H M us xs->r' u us M Q'->∀ Q:VK,cK K H M Q' Q->r x xs H Q
section
variable {K:PySem.W.Frag} {H:Hp} {M:aF} {v:V}
theorem aP.non (h:aP K H M .non v):v=.non:=by simpa only [aP] using h
theorem aP.bl {b:Bool} (h:aP K H M (.bl b) v):v=.bl b:=by simpa only [aP] using h
theorem aP.int {i:Int} (h:aP K H M (.int i) v):v=.int i:=by simpa only [aP] using h
theorem aP.str {x:Str} (h:aP K H M (.str x) v):v=.str x:=by simpa only [aP] using h
theorem aP.ty {n:String} (h:aP K H M (.ty n) v):v=.ty n:=by simpa only [aP] using h
theorem aP.ref {a:Addr} (h:aP K H M (.ref a) v):v=.ref a:=by simpa only [aP] using h
theorem aP.tup {us:List U} (h:aP K H M (.tup us) v):∃ a vs,v=.ref a/\gI K H a vs/\aI K H M us vs:=by
 simp only [aP] at h
 obtain ⟨a,vs,e,h1,h2⟩:=h
 refine ⟨a,vs,e,?_,h2⟩
 exact .inl (.inl h1.2)
theorem aP.lst {us:List U} (h:aP K H M (.lst us) v):∃ a vs,v=.ref a/\fB K H a vs/\aI K H M us vs:=by
 simp only [aP] at h
 obtain ⟨a,vs,e,h1,h2⟩:=h
 refine ⟨a,vs,e,?_,h2⟩
 rcases h1 with ⟨_,r⟩ | k
 ·exact .inl r
 ·exact .inr k
theorem jZ:aP K H M .non .non:=by simp only [aP]
theorem cY {b:Bool}:aP K H M (.bl b) (.bl b):=by simp only [aP]
theorem dQ {i:Int}:aP K H M (.int i) (.int i):=by simp only [aP]
theorem fZ {x:Str}:aP K H M (.str x) (.str x):=by simp only [aP]
theorem Qx {n:String}:aP K H M (.ty n) (.ty n):=by simp only [aP]
theorem rQ {a:Addr}:aP K H M (.ref a) (.ref a):=by simp only [aP]
theorem wR {a:Addr} {us:List U} {vs:List V} (m:M a=none) (h:H a=some (.tup vs)) (r:aI K H M us vs):aP K H M (.tup us) (.ref a):=by
 simp only [aP];exact ⟨a,vs,rfl,⟨m,h⟩,r⟩
theorem AS {a:Addr} {us:List U} {vs:List V} (m:M a=none) (h:H a=some (.lst vs)) (r:aI K H M us vs):aP K H M (.lst us) (.ref a):=by
 simp only [aP];exact ⟨a,vs,rfl,.inl ⟨m,.inl h⟩,r⟩
theorem cK.tup {Q':UK} {Q:VK} {us:List U} {vs:List V} {p:Addr} (c:cK K H M Q' Q) (rm:RelM K H M) (r:aI K H M us vs) (hp:H p=none) (q:Q' (.tup us) M):Q (.ref p) (upd H p (.tup vs)) :=
 c _ _ M _ (aX.laid rm hp) (rm.laid hp) (wR (rm.no hp) bT (r.stp (aX.laid rm hp))) q
def kZ (o:Bool) (us:List U) (M:aF) (Q:UK):Prop:=match o with
 | true=>∀ p,M p=none->Q (.ref p) (mup M p (.lst us))
 | false=>Q (.lst us) M
theorem cK.lst {o:Bool} {Q':UK} {Q:VK} {us:List U} {vs:List V} {p:Addr} (c:cK K H M Q' Q) (rm:RelM K H M) (r:aI K H M us vs) (hp:H p=none) (q:kZ o us M Q'):Q (.ref p) (upd H p (.lst vs)):=by
 cases o with
 | false=>exact c _ _ M _ (aX.laid rm hp) (rm.laid hp) (AS (rm.no hp) bT (r.stp (aX.laid rm hp))) q
 | true =>
  have st:aX H M (upd H p (.lst vs)) (mup M p (.lst us)):=aX.own rm hp
  exact c (.ref p) _ _ _ st (rm.put st ⟨vs,bT,r.stp st⟩) rQ (q p (rm.no hp))
end
def view (M:aF):U->U
 | .ref a=>match M a with
  | some (.lst us)=>.lst us
  | _=>.ref a
 | u=>u
theorem mI {M:aF} {a:Addr} {us:List U} (h:M a=some (.lst us)):view M (.ref a)=.lst us:=by simp only [view,h]
theorem jE {K:PySem.W.Frag} {H:Hp} {M:aF} {u:U} {v:V} {us:List U} (rm:RelM K H M) (r:aP K H M u v) (h:view M u=.lst us):∃ a vs,v=.ref a/\fB K H a vs/\aI K H M us vs:=by
 cases u with
 | lst ws=>simp only [view] at h;cases h;exact r.lst
 | ref a =>
  simp only [view] at h
  split at h
  ·rename_i ws e
   cases h
   obtain ⟨vs,h1,h2⟩:=rm a _ e
   exact ⟨a,vs,r.ref,.inl (.inl h1),h2⟩
  ·cases h
 | _=>simp [view] at h
section
variable {K:PySem.W.Frag} {t ta tb tc:TE} {t' ta' tb' tc':UE}
def jR (i:Nat):UE:=fun τ M Q=>match τ[i]? with
 | some (some u)=>Q u M
 | _=>False
theorem y7 (i:Nat):bV K (tL i) (jR i):=fun σ τ H M Q' rs rm h Q c=>by
 unfold jR at h
 split at h
 ·rename_i u e
  obtain ⟨v,e2,r⟩:=rs.2 i u e
  exact ⟨v,e2,c u v M H (aX.refl _ _) rm r h⟩
 ·exact h.elim
def uC (u:U):UE:=fun _ M Q=>Q u M
theorem zU {u:U} {v:V} (h:∀ H M,aP K H M u v):bV K (tC v) (uC u):=fun σ τ H M Q' rs rm q Q c=>c u v M H (aX.refl _ _) rm (h H M) q
theorem GO {i:Int}:bV K (tC (.int i)) (uC (.int i)):=zU fun _ _=>dQ
theorem TJ {i:Bool}:bV K (tC (.bl i)) (uC (.bl i)):=zU fun _ _=>cY
theorem Hq {i:Str}:bV K (tC (.str i)) (uC (.str i)):=zU fun _ _=>fZ
theorem QT:bV K (tC .non) (uC .non):=zU fun _ _=>jZ
theorem SJ {n:String}:bV K (tC (.ty n)) (uC (.ty n)):=zU fun _ _=>Qx
theorem RR {a:Addr}:bV K (tC (.ref a)) (uC (.ref a)):=zU fun _ _=>rQ
def gF (r:eC) (ta tb:UE):UE:=fun τ M Q=>ta τ M fun x M1=>tb τ M1 fun y M2=>r x y M2 Q
theorem yH {r:R2} {r':eC} (hr:fE K r r') (ha:bV K ta ta') (hb:bV K tb tb'):bV K (Hd r ta tb) (gF r' ta' tb'):=fun σ τ H M Q' rs rm h Q c =>
 ha σ τ H M _ rs rm h _ fun u v M1 H1 s1 rm1 ru h1=>hb σ τ H1 M1 _ (rs.stp s1) rm1 h1 _ fun w x M2 H2 s2 rm2 rw h2=>hr v x u w H2 M2 Q' rm2 (ru.stp s2) rw h2 Q (cK.stp c (s1.trans s2))
def D0 (r:U->aF->UK->Prop) (ta:UE):UE:=fun τ M Q=>ta τ M fun x M1=>r x M1 Q
def m9 (t:UE):UT:=fun τ M Q=>t τ M fun u M1=>match u with
 | .bl b=>Q b M1
 | _=>False
theorem Eg (h:bV K t t'):kL K (HX t) (m9 t'):=fun σ τ H M Q' rs rm q Q c=>h σ τ H M _ rs rm q _ fun u v M1 H1 s1 rm1 ru h1=>by
 cases u with
 | bl b=>exact ⟨b,ru.bl,c b M1 H1 s1 rm1 h1⟩
 | _=>exact h1.elim
def wV (t:UE):UT:=fun τ M Q=>t τ M fun u M1=>match view M1 u with
 | .non=>Q false M1
 | .bl b=>Q b M1
 | .int i=>Q (i != 0) M1
 | .str x=>x.length<=sizeLine/\Q ((x.length:Int) != 0) M1
 | .tup us=>Q (!us.isEmpty) M1
 | .lst us=>Q (!us.isEmpty) M1
 | _=>False
theorem Ap {H:Hp} {M:aF} {us:List U} {vs:List V} (r:aI K H M us vs):us.isEmpty=vs.isEmpty:=by
 have:=r.length
 cases us <;> cases vs <;> simp_all
theorem R0 (h:bV K t t'):kL K (fun σ H Q=>t σ H fun x H'=>∃ k,NK K x H' k/\Q k H') (wV t'):=fun σ τ H M Q' rs rm q Q c=>h σ τ H M _ rs rm q _ fun u v M1 H1 s1 rm1 ru h1=>by
 split at h1
 ·rename_i e
  cases u with
  | non=>exact ⟨false,by rw [ru.non];rfl,c _ M1 H1 s1 rm1 h1⟩
  | ref a=>simp only [view] at e;split at e <;> cases e
  | _=>simp [view] at e
 ·rename_i b e
  cases u with
  | bl b'=>simp only [view] at e;cases e;exact ⟨b,by rw [ru.bl];rfl,c _ M1 H1 s1 rm1 h1⟩
  | ref a=>simp only [view] at e;split at e <;> cases e
  | _=>simp [view] at e
 ·rename_i b e
  cases u with
  | int b'=>simp only [view] at e;cases e;exact ⟨b != 0,by rw [ru.int];rfl,c _ M1 H1 s1 rm1 h1⟩
  | ref a=>simp only [view] at e;split at e <;> cases e
  | _=>simp [view] at e
 ·rename_i b e
  cases u with
  | str b'=>simp only [view] at e;cases e;exact ⟨(b.length:Int) != 0,by rw [ru.str];exact ⟨h1.1,rfl⟩,c _ M1 H1 s1 rm1 h1.2⟩
  | ref a=>simp only [view] at e;split at e <;> cases e
  | _=>simp [view] at e
 ·rename_i us e
  cases u with
  | tup us' =>
   simp only [view] at e;cases e
   obtain ⟨a,vs,rfl,r1,r2⟩:=ru.tup
   exact ⟨!vs.isEmpty,.inr (.inl ⟨vs,r1,rfl⟩),c _ M1 H1 s1 rm1 (by rw [<- Ap r2];exact h1)⟩
  | ref a=>simp only [view] at e;split at e <;> cases e
  | _=>simp [view] at e
 ·rename_i us e
  obtain ⟨a,vs,rfl,r1,r2⟩:=jE rm1 ru e
  exact ⟨!vs.isEmpty,.inl ⟨vs,r1,rfl⟩,c _ M1 H1 s1 rm1 (by rw [<- Ap r2];exact h1)⟩
 ·exact h1.elim
def u5 (t u:UT):UT:=fun τ M Q=>t τ M fun c M1=>if c=true then u τ M1 Q else Q false M1
def Bk (t u:UT):UT:=fun τ M Q=>t τ M fun c M1=>if c=true then Q true M1 else u τ M1 Q
def vO (t:UT):UT:=fun τ M Q=>t τ M fun c M1=>Q (!c) M1
theorem Q3 {t u:TT} {t' u':UT} (h:kL K t t') (k:kL K u u'):kL K (Tw t u) (u5 t' u'):=fun σ τ H M Q' rs rm q Q c=>h σ τ H M _ rs rm q _ fun b M1 H1 s1 rm1 h1=>by
 cases b with
 | true=>exact k σ τ H1 M1 Q' (rs.stp s1) rm1 h1 Q fun b M2 H2 s2=>c b M2 H2 (s1.trans s2)
 | false=>exact c _ M1 H1 s1 rm1 h1
theorem Tz {t u:TT} {t' u':UT} (h:kL K t t') (k:kL K u u'):kL K (Wx t u) (Bk t' u'):=fun σ τ H M Q' rs rm q Q c=>h σ τ H M _ rs rm q _ fun b M1 H1 s1 rm1 h1=>by
 cases b with
 | false=>exact k σ τ H1 M1 Q' (rs.stp s1) rm1 h1 Q fun b M2 H2 s2=>c b M2 H2 (s1.trans s2)
 | true=>exact c _ M1 H1 s1 rm1 h1
theorem QW {t:TT} {t':UT} (h:kL K t t'):kL K (UM t) (vO t'):=fun σ τ H M Q' rs rm q Q c=>h σ τ H M _ rs rm q _ fun b M1 H1 s1 rm1 h1=>c _ M1 H1 s1 rm1 h1
def lD (ta tb:UE):UE:=fun τ M Q=>ta τ M fun x M1=>match x with
 | .bl c=>if c=true then tb τ M1 Q else Q (.bl false) M1
 | _=>False
def wY (ta tb:UE):UE:=fun τ M Q=>ta τ M fun x M1=>match x with
 | .bl c=>if c=true then Q (.bl true) M1 else tb τ M1 Q
 | _=>False
def qM (ta:UE):UE:=fun τ M Q=>ta τ M fun x M1=>match x with
 | .bl c=>Q (.bl (!c)) M1
 | _=>False
theorem Nk (h:bV K ta ta') (k:bV K tb tb'):bV K (Px ta tb) (lD ta' tb'):=fun σ τ H M Q' rs rm q Q c=>h σ τ H M _ rs rm q _ fun u v M1 H1 s1 rm1 ru h1=>by
 cases u with
 | bl b =>
  refine ⟨b,ru.bl,?_⟩
  cases b with
  | true=>exact k σ τ H1 M1 Q' (rs.stp s1) rm1 h1 Q (cK.stp c s1)
  | false=>exact c _ _ M1 H1 s1 rm1 cY h1
 | _=>exact h1.elim
theorem Rt (h:bV K ta ta') (k:bV K tb tb'):bV K (Uv ta tb) (wY ta' tb'):=fun σ τ H M Q' rs rm q Q c=>h σ τ H M _ rs rm q _ fun u v M1 H1 s1 rm1 ru h1=>by
 cases u with
 | bl b =>
  refine ⟨b,ru.bl,?_⟩
  cases b with
  | false=>exact k σ τ H1 M1 Q' (rs.stp s1) rm1 h1 Q (cK.stp c s1)
  | true=>exact c _ _ M1 H1 s1 rm1 cY h1
 | _=>exact h1.elim
theorem Nu (h:bV K ta ta'):bV K (Pa ta) (qM ta'):=fun σ τ H M Q' rs rm q Q c=>h σ τ H M _ rs rm q _ fun u v M1 H1 s1 rm1 ru h1=>by
 cases u with
 | bl b=>exact ⟨b,ru.bl,c _ _ M1 H1 s1 rm1 cY h1⟩
 | _=>exact h1.elim
def BF (t:UT) (ta tb:UE):UE:=fun τ M Q=>t τ M fun c M1=>if c=true then ta τ M1 Q else tb τ M1 Q
theorem TQ {t:TT} {t':UT} (h:kL K t t') (k:bV K ta ta') (l:bV K tb tb'):bV K (WG t ta tb) (BF t' ta' tb'):=fun σ τ H M Q' rs rm q Q c=>h σ τ H M _ rs rm q _ fun b M1 H1 s1 rm1 h1=>by
 cases b with
 | true=>exact k σ τ H1 M1 Q' (rs.stp s1) rm1 h1 Q (cK.stp c s1)
 | false=>exact l σ τ H1 M1 Q' (rs.stp s1) rm1 h1 Q (cK.stp c s1)
def mC (r r':eC) (ta tb tc:UE):UE:=fun τ M Q=>ta τ M fun x M1=>tb τ M1 fun y M2=>r x y M2 fun z M3=>match z with
 | .bl k=>if k=true then tc τ M3 fun w M4=>r' y w M4 Q else Q (.bl false) M3
 | _=>False
theorem CJ {r r':R2} {s s':eC} (hr:fE K r s) (hr':fE K r' s') (ha:bV K ta ta') (hb:bV K tb tb') (hc:bV K tc tc'):bV K (DJ r r' ta tb tc) (mC s s' ta' tb' tc'):=fun σ τ H M Q' rs rm h Q c =>
 ha σ τ H M _ rs rm h _ fun u v M1 H1 s1 rm1 ru h1=>hb σ τ H1 M1 _ (rs.stp s1) rm1 h1 _ fun w x M2 H2 s2 rm2 rw h2 =>
  hr v x u w H2 M2 _ rm2 (ru.stp s2) rw h2 _ fun z zv M3 H3 s3 rm3 rz h3=>by
   cases z with
   | bl k =>
    refine ⟨k,rz.bl,?_⟩
    cases k with
    | true=>exact hc σ τ H3 M3 _ ((rs.stp s1).stp (s2.trans s3)) rm3 h3 _ fun w2 x2 M4 H4 s4 rm4 rw4 h4=>hr' x x2 w w2 H4 M4 Q' rm4 (rw.stp (s3.trans s4)) rw4 h4 Q (cK.stp c (((s1.trans s2).trans s3).trans s4))
    | false=>exact c _ _ M3 H3 ((s1.trans s2).trans s3) rm3 cY h3
   | _=>exact h3.elim
def oP:UA:=fun _ M Q=>Q [] M
def lL (ta:UE) (tr:UA):UA:=fun τ M Q=>ta τ M fun x M1=>tr τ M1 fun xs M2=>Q (x :: xs) M2
theorem RV:mN K U7 oP:=fun σ τ H M Q' rs rm q Q c=>c [] [] M H (aX.refl _ _) rm .nil q
theorem MK {tr:TA} {tr':UA} (ha:bV K ta ta') (hr:mN K tr tr'):mN K (PQ ta tr) (lL ta' tr'):=fun σ τ H M Q' rs rm h Q c =>
 ha σ τ H M _ rs rm h _ fun u v M1 H1 s1 rm1 ru h1=>hr σ τ H1 M1 _ (rs.stp s1) rm1 h1 _ fun us vs M2 H2 s2 rm2 rus h2=>c (u :: us) (v :: vs) M2 H2 (s1.trans s2) rm2 (.cons (ru.stp s2) rus) h2
def vW (t:UA):UE:=fun τ M Q=>t τ M fun us M1=>us.length<=sizeLine/\Q (.tup us) M1
def vI (o:Bool) (t:UA):UE:=fun τ M Q=>t τ M fun us M1=>us.length<=sizeLine/\kZ o us M1 Q
theorem Ri {t:TA} {t':UA} (h:mN K t t'):bV K (Vd t) (vW t'):=fun σ τ H M Q' rs rm q Q c =>
 h σ τ H M _ rs rm q _ fun us vs M1 H1 s1 rm1 r h1=>⟨by rw [<- r.length];exact h1.1,fun p hp=>(cK.stp c s1).tup rm1 r hp h1.2⟩
theorem RB {o:Bool} {t:TA} {t':UA} (h:mN K t t'):bV K (UZ t) (vI o t'):=fun σ τ H M Q' rs rm q Q c =>
 h σ τ H M _ rs rm q _ fun us vs M1 H1 s1 rm1 r h1=>⟨by rw [<- r.length];exact h1.1,fun p hp=>(cK.stp c s1).lst rm1 r hp h1.2⟩
def sM (r:List U->aF->UK->Prop) (t:UA):UE:=fun τ M Q=>t τ M fun us M1=>r us M1 Q
theorem Kn {r:List V->Hp->VK->Prop} {r':List U->aF->UK->Prop} {t:TA} {t':UA} (hr:zC K r r') (h:mN K t t'):bV K (Ve r t) (sM r' t'):=fun σ τ H M Q' rs rm q Q c =>
 h σ τ H M _ rs rm q _ fun us vs M1 H1 s1 rm1 ru h1=>hr vs us H1 M1 Q' rm1 ru h1 Q (cK.stp c s1)
end
end U2
namespace U2
open PySem L2
section
variable {K:PySem.W.Frag}
def rS (g:Int->Int->U):eC:=fun x y M Q=>match x,y with
 | .int i,.int j=>Q (g i j) M
 | _,_=>False
def uI (C:Int->Int->Prop) (g:Int->Int->U):eC:=fun x y M Q=>match x,y with
 | .int i,.int j=>C i j/\Q (g i j) M
 | _,_=>False
theorem Me {g:Int->Int->V} {g':Int->Int->U} (hg:∀ H M i j,aP K H M (g' i j) (g i j)):fE K (yV g) (rS g'):=fun x y u w H M Q' rm ru rw h Q c=>by
 cases u with
 | int i=>cases w with
  | int j=>exact ⟨i,j,ru.int,rw.int,c _ _ M H (aX.refl _ _) rm (hg H M i j) h⟩
  | _=>exact h.elim
 | _=>exact h.elim
theorem We {C:Int->Int->Prop} {g:Int->Int->V} {g':Int->Int->U} (hg:∀ H M i j,aP K H M (g' i j) (g i j)):fE K (rI C g) (uI C g'):=fun x y u w H M Q' rm ru rw h Q c=>by
 cases u with
 | int i=>cases w with
  | int j=>exact ⟨i,j,ru.int,rw.int,h.1,c _ _ M H (aX.refl _ _) rm (hg H M i j) h.2⟩
  | _=>exact h.elim
 | _=>exact h.elim
theorem EK {f:Int->Int->Int}:fE K (yV fun i j=>.int (f i j)) (rS fun i j=>.int (f i j)):=Me fun _ _ _ _=>dQ
theorem xY {f:Int->Int->Bool}:fE K (yV fun i j=>.bl (f i j)) (rS fun i j=>.bl (f i j)):=Me fun _ _ _ _=>cY
theorem sO {C:Int->Int->Prop} {f:Int->Int->Int}:fE K (rI C fun i j=>.int (f i j)) (uI C fun i j=>.int (f i j)):=We fun _ _ _ _=>dQ
def Wv:eC:=fun x y M Q=>match x,y with
 | .str i,.str j=>i.length + j.length<=sizeLine/\Q (.str (i++j)) M
 | _,_=>False
theorem NN:fE K (fun x y H Q=>∃ i j,x=.str i/\y=.str j/\i.length + j.length<=sizeLine/\Q (.str (i++j)) H) Wv:=fun x y u w H M Q' rm ru rw h Q c=>by
 cases u with
 | str i=>cases w with
  | str j=>exact ⟨i,j,ru.str,rw.str,h.1,c _ _ M H (aX.refl _ _) rm fZ h.2⟩
  | _=>exact h.elim
 | _=>exact h.elim
def DK (K:PySem.W.Frag):R2:=fun x y H Q=>∃ a b xs ys,x=.ref a/\y=.ref b/\gI K H a xs/\gI K H b ys/\xs.length + ys.length<=sizeLine /\
 (xs=[]->Q (.ref b) H)/\(xs≠[]->ys=[]->Q (.ref a) H)/\(xs≠[]->ys≠[]->∀ p,H p=none->Q (.ref p) (upd H p (.tup (xs++ys))))
def Vx:eC:=fun x y M Q=>match x,y with
 | .tup us,.tup ws=>us.length + ws.length<=sizeLine/\Q (.tup (us++ws)) M
 | _,_=>False
theorem NI:fE K (DK K) Vx:=fun x y u w H M Q' rm ru rw h Q c=>by
 cases u with
 | tup us=>cases w with
  | tup ws =>
   obtain ⟨h2,h3⟩:=h
   obtain ⟨a,xs,rfl,s1,r1⟩:=ru.tup
   obtain ⟨b,ys,rfl,s2,r2⟩:=rw.tup
   refine ⟨a,b,xs,ys,rfl,rfl,s1,s2,by rw [<- r1.length,<- r2.length];exact h2,fun e=>?_,fun _ e=>?_,fun _ _ p hp=>c.tup rm (r1.append r2) hp h3⟩
   ·subst e
    have e2:us=[]:=List.length_eq_zero_iff.mp r1.length
    subst e2
    exact c _ _ M H (aX.refl _ _) rm rw h3
   ·subst e
    have e2:ws=[]:=List.length_eq_zero_iff.mp r2.length
    subst e2
    exact c _ _ M H (aX.refl _ _) rm ru (by rw [List.append_nil] at h3;exact h3)
  | _=>exact h.elim
 | _=>exact h.elim
def o7 (o:Bool):eC:=fun x y M Q=>match view M x,view M y with
 | .lst us,.lst ws=>us.length + ws.length<=sizeLine/\kZ o (us++ws) M Q
 | _,_=>False
def HZ (K:PySem.W.Frag):R2:=fun x y H Q=>∃ l b xs zs,x=.ref l/\y=.ref b/\fB K H l xs/\fB K H b zs/\xs.length + zs.length<=sizeLine/\∀ p,H p=none->Q (.ref p) (upd H p (.lst (xs++zs)))
theorem OR {o:Bool}:fE K (HZ K) (o7 o):=fun x y u w H M Q' rm ru rw h Q c=>by
 unfold o7 at h
 split at h
 ·rename_i us ws e1 e2
  obtain ⟨a,xs,rfl,s1,r1⟩:=jE rm ru e1
  obtain ⟨b,ys,rfl,s2,r2⟩:=jE rm rw e2
  exact ⟨a,b,xs,ys,rfl,rfl,s1,s2,by rw [<- r1.length,<- r2.length];exact h.1,fun p hp=>c.lst rm (r1.append r2) hp h.2⟩
 ·exact h.elim
theorem G2 {H:Hp} {M:aF} {us:List U} {vs:List V} {i:Int} {u:U} (r:aI K H M us vs) (h:iT us i=some u):∃ v,iT vs i=some v/\aP K H M u v:=by
 unfold iT at h ⊢
 rw [<- r.length]
 cases e:w9 us.length i with
 | none=>rw [e] at h;cases h
 | some j=>rw [e] at h;exact r.get h
def tD:eC:=fun x y M Q=>match view M x,y with
 | .lst us,.int i=>∃ u,iT us i=some u/\Q u M
 | .tup us,.int i=>∃ u,iT us i=some u/\Q u M
 | .str z,.int i=>z.length<=sizeLine/\∃ c,iT z.cps.toList i=some c/\Q (.str ⟨#[c]⟩) M
 | _,_=>False
theorem vL {M:aF} {u:U} {us:List U} (h:view M u=.tup us):u=.tup us:=by
 cases u with
 | ref a=>simp only [view] at h;split at h <;> cases h
 | _=>simpa [view] using h
theorem Aw {M:aF} {u:U} {x:Str} (h:view M u=.str x):u=.str x:=by
 cases u with
 | ref a=>simp only [view] at h;split at h <;> cases h
 | _=>simpa [view] using h
theorem U8:fE K (WA K) tD:=fun x y u w H M Q' rm ru rw h Q c=>by
 unfold tD at h
 split at h
 ·rename_i us i e
  obtain ⟨z,h1,h2⟩:=h
  obtain ⟨a,xs,rfl,s1,r1⟩:=jE rm ru e
  obtain ⟨v,h3,h4⟩:=G2 r1 h1
  exact .inl ⟨a,xs,i,v,rfl,rw.int,s1,h3,c _ _ M H (aX.refl _ _) rm h4 h2⟩
 ·rename_i us i e
  obtain ⟨z,h1,h2⟩:=h
  have e':=vL e
  subst e'
  obtain ⟨a,xs,rfl,s1,r1⟩:=ru.tup
  obtain ⟨v,h3,h4⟩:=G2 r1 h1
  exact .inr (.inl ⟨a,xs,i,v,rfl,rw.int,s1,h3,c _ _ M H (aX.refl _ _) rm h4 h2⟩)
 ·rename_i z i e
  obtain ⟨h0,d,h1,h2⟩:=h
  have e':=Aw e
  subst e'
  exact .inr (.inr ⟨z,i,d,ru.str,rw.int,h0,h1,c _ _ M H (aX.refl _ _) rm fZ h2⟩)
 ·exact h.elim
abbrev UO:=SU->aF->(Option Int->aF->Prop)->Prop
def EW (K:PySem.W.Frag) (t:TO) (t':UO):Prop:=∀ (σ:St) (τ:SU) (H:Hp) (M:aF) (Q':Option Int->aF->Prop),cL K H M σ τ->RelM K H M->t' τ M Q' ->
 ∀ Q:Option Int->Hp->Prop,(∀ o M1 H1,aX H M H1 M1->RelM K H1 M1->Q' o M1->Q o H1)->t σ H Q
def lI:UO:=fun _ M Q=>Q none M
def qP (t:UE):UO:=fun τ M Q=>t τ M fun x M1=>match x with
 | .int i=>Q (some i) M1
 | _=>False
theorem HH:EW K Gy lI:=fun σ τ H M Q' rs rm q Q c=>c none M H (aX.refl _ _) rm q
theorem MP {t:TE} {t':UE} (h:bV K t t'):EW K (Pu t) (qP t'):=fun σ τ H M Q' rs rm q Q c=>h σ τ H M _ rs rm q _ fun u v M1 H1 s1 rm1 ru h1=>by
 cases u with
 | int i=>exact ⟨i,ru.int,c _ M1 H1 s1 rm1 h1⟩
 | _=>exact h1.elim
def pW {α:Type} (xs:List α) (lo hi:Option Int):List α:=(xs.drop (HT.bS xs.length 0 lo)).take (HT.bS xs.length xs.length hi - HT.bS xs.length 0 lo)
theorem GW {H:Hp} {M:aF} {us:List U} {vs:List V} (r:aI K H M us vs) (lo hi:Option Int):aI K H M (pW us lo hi) (tQ vs lo hi):=by
 unfold pW tQ
 rw [r.length]
 exact (r.drop _).take _
def Th (K:PySem.W.Frag):V->Option Int->Option Int->Hp->VK->Prop:=fun x lo hi H Q =>
 (∃ a xs,x=.ref a/\fB K H a xs/\∀ p,H p=none->Q (.ref p) (upd H p (.lst (tQ xs lo hi)))) \/
 (∃ a xs,x=.ref a/\gI K H a xs/\¬ (HT.bS xs.length 0 lo=0/\HT.bS xs.length xs.length hi=xs.length)/\∀ p,H p=none->Q (.ref p) (upd H p (.tup (tQ xs lo hi)))) \/
 (∃ z:Str,x=.str z/\z.length<=sizeLine/\Q (.str (Txt.slice z lo hi)) H)
def Xl (o:Bool) (te:UE) (tl th:UO):UE:=fun τ M Q=>te τ M fun x M1=>tl τ M1 fun l M2=>th τ M2 fun h M3=>match view M3 x with
 | .lst us=>kZ o (pW us l h) M3 Q
 | .tup us=>¬ (HT.bS us.length 0 l=0/\HT.bS us.length us.length h=us.length)/\Q (.tup (pW us l h)) M3
 | .str z=>z.length<=sizeLine/\Q (.str (Txt.slice z l h)) M3
 | _=>False
end
section
variable {K:PySem.W.Frag} {t u:TS} {t' u':US} {te:TE} {te':UE}
def bL:US:=fun D τ M=>D.nx τ M
def tV (t u:US):US:=fun D τ M=>t { D with nx:=u D } τ M
def nO:US:=fun D τ M=>D.bk τ M
def zI:US:=fun D τ M=>D.ct τ M
def mD (te:UE):US:=fun D τ M=>te τ M fun _ M1=>D.nx τ M1
def bI (te:UE):US:=fun D τ M=>te τ M D.rt
def zA:US:=fun D _ M=>D.rt .non M
def u6 (c:UT) (t u:US):US:=fun D τ M=>c τ M fun b M1=>if b=true then t D τ M1 else u D τ M1
theorem Ni:jX K O8 bL:=fun σ τ H M D' rs rm h D d=>d.nx σ τ H M (aX.refl _ _) rm rs h
theorem J6:jX K Kj nO:=fun σ τ H M D' rs rm h D d=>d.bk σ τ H M (aX.refl _ _) rm rs h
theorem Rg (h1:jX K t t') (h2:jX K u u'):jX K (Uy t u) (tV t' u'):=fun σ τ H M D' rs rm h D d =>
 h1 σ τ H M _ rs rm h _ ⟨fun σ1 τ1 H1 M1 s rm1 rs1 q=>h2 σ1 τ1 H1 M1 D' rs1 rm1 q D (d.stp s),d.rt,d.bk,d.ct⟩
theorem Oc (h1:bV K te te'):jX K (O2 te) (mD te'):=fun σ τ H M D' rs rm h D d=>h1 σ τ H M _ rs rm h _ fun u v M1 H1 s rm1 ru q=>d.nx σ τ H1 M1 s rm1 (rs.stp s) q
theorem QK (h1:bV K te te'):jX K (Vk te) (bI te'):=fun σ τ H M D' rs rm h D d=>h1 σ τ H M _ rs rm h _ fun u v M1 H1 s rm1 ru q=>d.rt u v H1 M1 s rm1 ru q
theorem QN {c:TT} {c':UT} (hc:kL K c c') (h1:jX K t t') (h2:jX K u u'):jX K (UJ c t u) (u6 c' t' u'):=fun σ τ H M D' rs rm h D d=>hc σ τ H M _ rs rm h _ fun b M1 H1 s rm1 q=>by
 cases b with
 | true=>exact h1 σ τ H1 M1 D' (rs.stp s) rm1 q D (d.stp s)
 | false=>exact h2 σ τ H1 M1 D' (rs.stp s) rm1 q D (d.stp s)
abbrev UG:=U->SU->aF->(SU->aF->Prop)->Prop
abbrev AY:=List U->SU->aF->(SU->aF->Prop)->Prop
def xN (K:PySem.W.Frag) (g:TG) (g':UG):Prop:=∀ (u:U) (v:V) (σ:St) (τ:SU) (H:Hp) (M:aF) (Q':SU->aF->Prop),aP K H M u v->cL K H M σ τ->RelM K H M->g' u τ M Q' ->
 ∀ Q:St->Hp->Prop,(∀ σ1 τ1 H1 M1,aX H M H1 M1->RelM K H1 M1->cL K H1 M1 σ1 τ1->Q' τ1 M1->Q σ1 H1)->g v σ H Q
def AX (K:PySem.W.Frag) (g:rF) (g':AY):Prop:=∀ (us:List U) (vs:List V) (σ:St) (τ:SU) (H:Hp) (M:aF) (Q':SU->aF->Prop),aI K H M us vs->cL K H M σ τ->RelM K H M->g' us τ M Q' ->
 ∀ Q:St->Hp->Prop,(∀ σ1 τ1 H1 M1,aX H M H1 M1->RelM K H1 M1->cL K H1 M1 σ1 τ1->Q' τ1 M1->Q σ1 H1)->g vs σ H Q
def hName (i:Nat):UG:=fun u τ M Q=>Q (τ.set i (some u)) M
theorem tF (i:Nat):xN K (u7 i) (hName i):=fun u v σ τ H M Q' ru rs rm h Q c=>c _ _ H M (aX.refl _ _) rm (rs.set ru) h
def sG:AY:=fun us τ M Q=>match us with
 | []=>Q τ M
 | _=>False
def nV (g:UG) (r:AY):AY:=fun us τ M Q=>match us with
 | u :: us=>g u τ M fun τ1 M1=>r us τ1 M1 Q
 | _=>False
theorem Nf:AX K DL sG:=fun us vs σ τ H M Q' ru rs rm h Q c=>by
 cases us with
 | nil=>exact ⟨ru.inv_nil,c σ τ H M (aX.refl _ _) rm rs h⟩
 | cons _ _=>exact h.elim
theorem Lk {g:TG} {g':UG} {r:rF} {r':AY} (h1:xN K g g') (h2:AX K r r'):AX K (BH g r) (nV g' r'):=fun us vs σ τ H M Q' ru rs rm h Q c=>by
 cases us with
 | nil=>exact h.elim
 | cons u us =>
  obtain ⟨v,vs',rfl,a,b⟩:=ru.inv_cons
  exact ⟨v,vs',rfl,h1 u v σ τ H M _ a rs rm h _ fun σ1 τ1 H1 M1 s rm1 rs1 q=>h2 us vs' σ1 τ1 H1 M1 Q' (b.stp s) rs1 rm1 q Q fun σ2 τ2 H2 M2 s2=>c σ2 τ2 H2 M2 (s.trans s2)⟩
def kR (n:Nat) (r:AY):UG:=fun u τ M Q=>match u with
 | .tup us=>us.length=n/\r us τ M Q
 | _=>False
theorem N4 {n:Nat} {r:rF} {r':AY} (h2:AX K r r'):xN K (EJ K n r) (kR n r'):=fun u v σ τ H M Q' ru rs rm h Q c=>by
 cases u with
 | tup us =>
  obtain ⟨a,vs,rfl,s1,r1⟩:=ru.tup
  exact ⟨a,vs,rfl,s1,by rw [<- r1.length];exact h.1,h2 us vs σ τ H M Q' r1 rs rm h.2 Q c⟩
 | _=>exact h.elim
def bJ (te:UE) (g:UG):US:=fun D τ M=>te τ M fun x M1=>g x τ M1 D.nx
theorem zH {g:TG} {g':UG} (h1:bV K te te') (h2:xN K g g'):jX K (IY te g) (bJ te' g'):=fun σ τ H M D' rs rm h D d =>
 h1 σ τ H M _ rs rm h _ fun u v M1 H1 s rm1 ru q=>h2 u v σ τ H1 M1 _ ru (rs.stp s) rm1 q _ fun σ1 τ1 H2 M2 s2 rm2 rs2 q2=>d.nx σ1 τ1 H2 M2 (s.trans s2) rm2 rs2 q2
def Bd (c:UT) (tb:US):US:=fun D τ M=>∃ (P:SU->aF->Prop) (μ:SU->aF->Nat),P τ M/\∀ τ M,P τ M->c τ M fun b M1=>if b=true then tb { D with nx:=fun τ' M'=>P τ' M'/\μ τ' M' < μ τ M,ct:=fun τ' M'=>P τ' M'/\μ τ' M' < μ τ M,bk:=D.nx } τ M1 else D.nx τ M1
theorem LQ {c:TT} {c':UT} (hc:kL K c c') (h1:jX K t t'):jX K (DX c t) (Bd c' t'):=fun σ τ H M D' rs rm h D d=>by
 obtain ⟨P,μ,p0,turn⟩:=h
 refine ⟨fun m σ1 H1=>∃ τ1 M1,aX H M H1 M1/\RelM K H1 M1/\cL K H1 M1 σ1 τ1/\P τ1 M1/\m=μ τ1 M1,⟨_,τ,M,aX.refl _ _,rm,rs,p0,rfl⟩,?_⟩
 rintro m σ1 H1 ⟨τ1,M1,s1,rm1,rs1,p1,rfl⟩
 refine hc σ1 τ1 H1 M1 _ rs1 rm1 (turn τ1 M1 p1) _ fun b M2 H2 s2 rm2 q=>?_
 cases b with
 | true =>
  refine ⟨fun σ3 H3=>∃ τ3 M3,aX H M H3 M3/\RelM K H3 M3/\cL K H3 M3 σ3 τ3/\P τ3 M3/\μ τ3 M3 < μ τ1 M1,?_,?_⟩
  ·rintro σ3 H3 ⟨τ3,M3,s3,rm3,rs3,p3,lt⟩
   exact ⟨_,lt,τ3,M3,s3,rm3,rs3,p3,rfl⟩
  ·have d2:=d.stp (s1.trans s2)
   exact h1 σ1 τ1 H2 M2 _ (rs1.stp s2) rm2 q _ ⟨fun σ3 τ3 H3 M3 s3 rm3 rs3 q3=>⟨τ3,M3,(s1.trans s2).trans s3,rm3,rs3,q3.1,q3.2⟩,d2.rt,d2.nx,fun σ3 τ3 H3 M3 s3 rm3 rs3 q3=>⟨τ3,M3,(s1.trans s2).trans s3,rm3,rs3,q3.1,q3.2⟩⟩
 | false=>exact d.nx σ1 τ1 H2 M2 (s1.trans s2) rm2 (rs1.stp s2) q
structure Src where
 own:Option Addr
 xs:List U
def Src.ok (S:Src) (M:aF):Prop:=∀ a,S.own=some a->M a=some (.lst S.xs)
structure Walk (K:PySem.W.Frag) (J:It) (S:Src) (H:Hp) (M:aF):Prop where
 step:∀ H1 M1,aX H M H1 M1->RelM K H1 M1->S.ok M1->∀ (i:Nat) u,S.xs[i]?=some u->J.go i H1/\∀ x H2,J.yld i H1 x H2->aX H1 M1 H2 M1/\RelM K H2 M1/\aP K H2 M1 u x
 stop:∀ H1 M1,aX H M H1 M1->RelM K H1 M1->S.ok M1->J.stop S.xs.length H1
abbrev UI:=SU->aF->(Src->aF->Prop)->Prop
def v3 (K:PySem.W.Frag) (t:TI) (t':UI):Prop:=∀ (σ:St) (τ:SU) (H:Hp) (M:aF) (R':Src->aF->Prop),cL K H M σ τ->RelM K H M->t' τ M R' ->
 ∀ R:It->Hp->Prop,(∀ J S M1 H1,aX H M H1 M1->RelM K H1 M1->Walk K J S H1 M1->R' S M1->R J H1)->t σ H R
def Ik (wi:UI) (g:UG) (tb:US):US:=fun D τ M=>wi τ M fun S M1=>∃ P:Nat->SU->aF->Prop,P 0 τ M1/\(∀ i τ M,P i τ M->S.ok M) /\
 (∀ i x τ M,S.xs[i]?=some x->P i τ M->g x τ M fun τ2 M2=>tb { D with nx:=P (i + 1),ct:=P (i + 1),bk:=D.nx } τ2 M2)/\∀ τ M,P S.xs.length τ M->D.nx τ M
theorem Rp {wi:TI} {wi':UI} {g:TG} {g':UG} (hi:v3 K wi wi') (hg:xN K g g') (h1:jX K t t'):jX K (Oi wi g t) (Ik wi' g' t'):=fun σ τ H M D' rs rm h D d=>by
 refine hi σ τ H M _ rs rm h _ fun J S M0 H0 s0 rm0 w h=>?_
 obtain ⟨P,p0,hok,turn,fin⟩:=h
 refine ⟨fun i m σ1 H1=>∃ τ1 M1,aX H0 M0 H1 M1/\RelM K H1 M1/\cL K H1 M1 σ1 τ1/\P i τ1 M1/\i<=S.xs.length/\m=S.xs.length - i,⟨_,τ,M0,aX.refl _ _,rm0,rs.stp s0,p0,Nat.zero_le _,rfl⟩,?_⟩
 rintro i m σ1 H1 ⟨τ1,M1,s1,rm1,rs1,p1,hle,rfl⟩
 have ok1:=hok i τ1 M1 p1
 by_cases hlt:i < S.xs.length
 ·obtain ⟨go,yl⟩:=w.step H1 M1 s1 rm1 ok1 i S.xs[i] (by simp [hlt])
  refine .inr ⟨go,fun σ3 H3=>∃ τ3 M3,aX H0 M0 H3 M3/\RelM K H3 M3/\cL K H3 M3 σ3 τ3/\P (i + 1) τ3 M3,?_,fun x H2 y=>?_⟩
  ·rintro σ3 H3 ⟨τ3,M3,s3,rm3,rs3,p3⟩
   exact ⟨S.xs.length - (i + 1),by omega,τ3,M3,s3,rm3,rs3,p3,hlt,rfl⟩
  ·obtain ⟨s2,rm2,ru⟩:=yl x H2 y
   refine hg _ x σ1 τ1 H2 M1 _ ru (rs1.stp s2) rm2 (turn i S.xs[i] τ1 M1 (by simp [hlt]) p1) _ fun σ3 τ3 H3 M3 s3 rm3 rs3 q3=>?_
   have d3:=d.stp (((s0.trans s1).trans s2).trans s3)
   exact h1 σ3 τ3 H3 M3 _ rs3 rm3 q3 _ ⟨fun σ4 τ4 H4 M4 s4 rm4 rs4 q4=>⟨τ4,M4,((s1.trans s2).trans s3).trans s4,rm4,rs4,q4⟩,d3.rt,d3.nx,fun σ4 τ4 H4 M4 s4 rm4 rs4 q4=>⟨τ4,M4,((s1.trans s2).trans s3).trans s4,rm4,rs4,q4⟩⟩
 ·have e:i=S.xs.length:=by omega
  subst e
  exact .inl ⟨w.stop H1 M1 s1 rm1 ok1,d.nx σ1 τ1 H1 M1 (s0.trans s1) rm1 rs1 (fin τ1 M1 p1)⟩
end
end U2
namespace U2
open PySem L2
section
variable {K:PySem.W.Frag}
theorem KI {a:Addr} {us:List U} {vs:List V} {H:Hp} {M:aF} (m:(M a=none/\Rd H a (.lst vs))\/KL K a vs) (r:aI K H M us vs):Walk K (PB K a) ⟨none,us⟩ H M:=by
 have sq:∀ H1 M1,aX H M H1 M1->fB K H1 a vs:=fun H1 M1 s=>by
  rcases m with ⟨m,h⟩ | k
  ·exact .inl (Rd.stp s m h).2
  ·exact .inr k
 refine ⟨fun H1 M1 s rm _ i u e=>?_,fun H1 M1 s rm _=>⟨vs,sq H1 M1 s,by rw [r.length];exact Nat.le_refl _⟩⟩
 obtain ⟨v,e2,ru⟩:=r.get e
 refine ⟨⟨vs,v,sq H1 M1 s,e2⟩,fun x H2 y=>?_⟩
 obtain ⟨rfl,y⟩:=y
 have:=y vs (sq _ M1 s)
 rw [e2] at this;cases this
 exact ⟨aX.refl _ _,rm,ru.stp s⟩
theorem NX {a:Addr} {us:List U} {vs:List V} {H:Hp} {M:aF} (m:M a=none/\H a=some (.tup vs)) (r:aI K H M us vs):Walk K (UC K a) ⟨none,us⟩ H M:=by
 have sq:∀ H1 M1,aX H M H1 M1->gI K H1 a vs:=fun H1 M1 s=>by
  exact .inl (.inl (s.to m.2 m.1).1)
 refine ⟨fun H1 M1 s rm _ i u e=>?_,fun H1 M1 s rm _=>⟨vs,sq H1 M1 s,by rw [r.length];exact Nat.le_refl _⟩⟩
 obtain ⟨v,e2,ru⟩:=r.get e
 refine ⟨⟨vs,v,sq H1 M1 s,e2⟩,fun x H2 y=>?_⟩
 obtain ⟨rfl,y⟩:=y
 have:=y vs (sq _ M1 s)
 rw [e2] at this;cases this
 exact ⟨aX.refl _ _,rm,ru.stp s⟩
theorem OS {a:Addr} {us:List U} {H:Hp} {M:aF}:Walk K (PB K a) ⟨some a,us⟩ H M:=by
 refine ⟨fun H1 M1 s rm ok i u e=>?_,fun H1 M1 s rm ok=>?_⟩
 ·obtain ⟨vs,h1,r⟩:=rm a _ (ok a rfl)
  obtain ⟨v,e2,ru⟩:=r.get e
  refine ⟨⟨vs,v,.inl (.inl h1),e2⟩,fun x H2 y=>?_⟩
  obtain ⟨rfl,y⟩:=y
  have:=y vs (.inl (.inl h1))
  rw [e2] at this;cases this
  exact ⟨aX.refl _ _,rm,ru⟩
 ·obtain ⟨vs,h1,r⟩:=rm a _ (ok a rfl)
  exact ⟨vs,.inl (.inl h1),by rw [r.length];exact Nat.le_refl _⟩
def Ux (z:Str):It:=⟨fun i _=>i < z.cps.size,fun i H x H'=>H'=H/\∃ c,z.cps[i]?=some c/\x=.str ⟨#[c]⟩,fun i _=>i=z.cps.size⟩
def chars (z:Str):List U:=z.cps.toList.map fun c=>.str ⟨#[c]⟩
theorem NB {z:Str} {H:Hp} {M:aF}:Walk K (Ux z) ⟨none,chars z⟩ H M:=by
 refine ⟨fun H1 M1 s rm _ i u e=>?_,fun H1 M1 s rm _=>?_⟩
 ·have hi:i < z.cps.size:=by
   have:=(List.getElem?_eq_some_iff.mp e).1
   simpa [chars] using this
  refine ⟨hi,fun x H2 y=>?_⟩
  obtain ⟨rfl,c,h1,rfl⟩:=y
  have:u=.str ⟨#[c]⟩:=by
   simp only [chars,List.getElem?_map,Array.getElem?_toList,h1,Option.map_some] at e
   exact (Option.some.inj e).symm
  subst this
  exact ⟨aX.refl _ _,rm,fZ⟩
 ·show (chars z).length=z.cps.size
  simp [chars]
def Um (K:PySem.W.Frag) (tl:TE):TI:=fun σ H R=>tl σ H fun x H1 =>
 (∃ a,x=.ref a/\(∃ xs,fB K H1 a xs)/\R (PB K a) H1)\/(∃ a,x=.ref a/\(∃ xs,gI K H1 a xs)/\R (UC K a) H1)\/(∃ z,x=.str z/\R (Ux z) H1)
def qS (te:UE):UI:=fun τ M R=>te τ M fun u M1=>match u with
 | .lst us=>R ⟨none,us⟩ M1
 | .tup us=>R ⟨none,us⟩ M1
 | .str z=>R ⟨none,chars z⟩ M1
 | .ref a=>match M1 a with
  | some (.lst us)=>R ⟨some a,us⟩ M1
  | _=>False
 | _=>False
theorem NF {te:TE} {te':UE} (h:bV K te te'):v3 K (Um K te) (qS te'):=fun σ τ H M R' rs rm q R c=>h σ τ H M _ rs rm q _ fun u v M1 H1 s1 rm1 ru h1=>by
 cases u with
 | lst us =>
  simp only [aP] at ru
  obtain ⟨a,vs,rfl,m,r⟩:=ru
  refine .inl ⟨a,rfl,⟨vs,?_⟩,c _ _ M1 H1 s1 rm1 (KI m r) h1⟩
  rcases m with ⟨_,m⟩ | k
  ·exact .inl m
  ·exact .inr k
 | tup us =>
  simp only [aP] at ru
  obtain ⟨a,vs,rfl,m,r⟩:=ru
  refine .inr (.inl ⟨a,rfl,⟨vs,?_⟩,c _ _ M1 H1 s1 rm1 (NX m r) h1⟩)
  exact .inl (.inl m.2)
 | str z=>exact .inr (.inr ⟨z,ru.str,c _ _ M1 H1 s1 rm1 NB h1⟩)
 | ref a =>
  dsimp only at h1
  split at h1
  ·rename_i us e
   obtain ⟨vs,h2,r⟩:=rm1 a _ e
   exact .inl ⟨a,ru.ref,⟨vs,.inl (.inl h2)⟩,c _ _ M1 H1 s1 rm1 OS h1⟩
  ·exact h1.elim
 | _=>exact h1.elim
def dA (lo:Int) (n:Nat):List U:=(List.range n).map fun (k:Nat)=>U.int (lo + (k:Int))
theorem Iy {lo:Int} {n:Nat} {H:Hp} {M:aF}:Walk K (Po lo n) ⟨none,dA lo n⟩ H M:=by
 refine ⟨fun H1 M1 s rm _ i u e=>?_,fun H1 M1 s rm _=>?_⟩
 ·have hi:i < n:=by
   have:=(List.getElem?_eq_some_iff.mp e).1
   simpa [dA] using this
  refine ⟨hi,fun x H2 y=>?_⟩
  obtain ⟨rfl,rfl⟩:=y
  have:u=.int (lo + i):=by
   simp only [dA,List.getElem?_map,List.getElem?_range hi,Option.map_some] at e
   exact (Option.some.inj e).symm
  subst this
  exact ⟨aX.refl _ _,rm,dQ⟩
 ·show n<=(dA lo n).length
  simp [dA]
def qO (ta:UA):UI:=fun τ M R=>ta τ M fun us M1=>match us with
 | [.int j]=>-(2 ^ 62)<=j/\j < 2 ^ 62/\R ⟨none,dA 0 j.toNat⟩ M1
 | _=>False
def vN (ta:UA):UI:=fun τ M R=>ta τ M fun us M1=>match us with
 | [.int i,.int j]=>(-(2 ^ 62)<=i/\i < 2 ^ 62/\-(2 ^ 62)<=j/\j < 2 ^ 62)/\R ⟨none,dA i (j - i).toNat⟩ M1
 | _=>False
theorem OD {ta:TA} {ta':UA} (h:mN K ta ta'):v3 K (Pd ta) (qO ta'):=fun σ τ H M R' rs rm q R c=>h σ τ H M _ rs rm q _ fun us vs M1 H1 s1 rm1 ru h1=>by
 split at h1
 ·rename_i j
  obtain ⟨v,vs',rfl,a,b⟩:=ru.inv_cons
  cases b.inv_nil
  cases a.int
  exact ⟨j,rfl,h1.1,h1.2.1,c _ _ M1 H1 s1 rm1 Iy h1.2.2⟩
 ·exact h1.elim
abbrev cH:=List U->aF->UK->Prop
def gE (K:PySem.W.Frag) (sp:cH):Sp:=fun vs H Q _=>∃ us M Q',RelM K H M/\aI K H M us vs/\sp us M Q'/\cK K H M Q' Q
def qN (sp:cH) (dus:List U) (t:UA):UE:=fun τ M Q=>t τ M fun us M1=>sp (us++dus) M1 Q
theorem ML {sp:cH} {dus:List U} {dvs:List V} {E:XK} {t:TA} {t':UA} (hd:∀ H M,aI K H M dus dvs) (h:mN K t t'):bV K (JP (gE K sp) dvs E t) (qN sp dus t'):=fun σ τ H M Q' rs rm q Q c =>
 h σ τ H M _ rs rm q _ fun us vs M1 H1 s1 rm1 ru h1=>⟨us++dus,M1,Q',rm1,ru.append (hd _ _),h1,cK.stp c s1⟩
def Sub (M' M1:aF):Prop:=∀ b mo,M' b=some mo->M1 b=some mo
theorem Sub.refl (M:aF):Sub M M:=fun _ _ h=>h
theorem Sub.mup {M M1:aF} {p:Addr} {o:MO} (h:Sub M M1) (hp:M p=none):Sub M (mup M1 p o):=fun b mo e=>by
 have:b≠p:=fun z=>by subst z;rw [hp] at e;cases e
 rw [cB this];exact h b mo e
theorem Sub.less {M M1:aF} (h:Sub M M1) {H:Hp}:aX H M1 H M:=aX.less fun b e=>by
 cases q:M b with
 | none=>rfl
 | some mo=>rw [h b mo q] at e;cases e
theorem RelM.sub {H:Hp} {M M1:aF} (rm:RelM K H M1) (h:Sub M M1):RelM K H M:=fun a mo e=>(rm a mo (h a mo e)).stp (fun b q z=>h b _ z) (h.less) rfl
def Out (M1 M':aF) (u u':U):Prop:=u'=u\/∃ a us,u=.ref a/\M1 a=some (.lst us)/\M' a=none/\u'=.lst us
def iG (Q:UK):UK:=fun u M1=>∃ u' M',Sub M' M1/\Out M1 M' u u'/\Q u' M'
theorem iG.ok {H H1:Hp} {M M1:aF} {Q':UK} {Q:VK} {u:U} {v:V} (c:cK K H M Q' Q) (s:aX H M H1 M1) (rm:RelM K H1 M1) (ru:aP K H1 M1 u v) (h:iG Q' u M1):Q v H1:=by
 obtain ⟨u',M',sb,o,q⟩:=h
 have s':aX H1 M1 H1 M':=sb.less
 refine c u' v M' H1 (s.trans s') (rm.sub sb) ?_ q
 rcases o with rfl | ⟨a,us,rfl,h1,h2,rfl⟩
 ·exact ru.stp s'
 ·obtain ⟨vs,h3,h4⟩:=rm a _ h1
  cases ru.ref
  exact AS h2 h3 (h4.stp s')
def dH (N:List Str) (us:List U):SU:=us.map some++List.replicate (N.length - us.length) none
def GJ (M:aF) (x:U):Prop:=∃ us,view M x=.lst us
def Ao (r:U->List U->aF->UK->Prop) (to:UE) (t:UA):UE:=fun τ M Q=>to τ M fun x M1=>GJ M1 x/\t τ M1 fun xs M2=>r x xs M2 Q
def vJ (r:U->List U->aF->UK->Prop) (to:UE):UE:=fun τ M Q=>to τ M fun x M1=>GJ M1 x/\r x [] M1 Q
theorem GJ.ty {H:Hp} {M:aF} {u:U} {v:V} (rm:RelM K H M) (ru:aP K H M u v) (h:GJ M u):Gq K "list" v H:=by
 obtain ⟨us,h⟩:=h
 obtain ⟨a,vs,rfl,s,_⟩:=jE rm ru h
 exact .inl ⟨rfl,vs,s⟩
theorem LD {r:V->List V->Hp->VK->Prop} {r':U->List U->aF->UK->Prop} {to:TE} {to':UE} {t:TA} {t':UA} (hr:pE K r r') (ho:bV K to to') (h:mN K t t') :
  bV K (O0 K "list" r to t) (Ao r' to' t'):=fun σ τ H M Q' rs rm q Q c =>
 ho σ τ H M _ rs rm q _ fun u v M1 H1 s1 rm1 ru h1=>⟨h1.1.ty rm1 ru,h σ τ H1 M1 _ (rs.stp s1) rm1 h1.2 _ fun us vs M2 H2 s2 rm2 rus h2=>hr v vs u us H2 M2 Q' rm2 (ru.stp s2) rus h2 Q (cK.stp c (s1.trans s2))⟩
theorem RH {r:V->List V->Hp->VK->Prop} {r':U->List U->aF->UK->Prop} {to:TE} {to':UE} (hr:pE K r r') (ho:bV K to to') :
  bV K (Tu K "list" r to) (vJ r' to'):=fun σ τ H M Q' rs rm q Q c =>
 ho σ τ H M _ rs rm q _ fun u v M1 H1 s1 rm1 ru h1=>⟨h1.1.ty rm1 ru,hr v [] u [] H1 M1 Q' rm1 ru .nil h1.2 Q (cK.stp c s1)⟩
theorem cK.write {H:Hp} {M:aF} {Q':UK} {Q:VK} {a:Addr} {us us':List U} {xs':List V} {r:U} {v:V} (c:cK K H M Q' Q) (rm:RelM K H M) (e:M a=some (.lst us)) (r1:aI K H M us' xs') (r2:aP K H M r v) (q:Q' r (mup M a (.lst us'))):Q v (upd H a (.lst xs')):=by
 have st:aX H M (upd H a (.lst xs')) (mup M a (.lst us')):=aX.write e
 exact c _ _ _ _ st (rm.put st ⟨xs',bT,r1.stp st⟩) (r2.stp st) q
def jS:U->List U->aF->UK->Prop:=fun x ws M Q=>match x,ws with
 | .ref a,[w]=>match M a with
  | some (.lst us)=>us.length < sizeLine/\Q .non (mup M a (.lst (us++[w])))
  | _=>False
 | _,_=>False
theorem Bz:pE K Cd jS:=fun x xs u us H M Q' rm ru rus h Q c=>by
 unfold jS at h
 split at h
 ·rename_i a w
  split at h
  ·rename_i ws e
   obtain ⟨vs,h1,r⟩:=rm a _ e
   obtain ⟨v,vs',rfl,a1,b⟩:=rus.inv_cons
   cases b.inv_nil
   cases ru.ref
   exact ⟨a,vs,v,rfl,rfl,h1,by rw [<- r.length];exact h.1,c.write rm e (r.append (.cons a1 .nil)) jZ h.2⟩
  ·exact h.elim
 ·exact h.elim
def tT:U->List U->aF->UK->Prop:=fun x ws M Q=>match x,ws with
 | .ref a,[]=>match M a with
  | some (.lst us)=>match us.getLast? with
   | some w=>Q w (mup M a (.lst us.dropLast))
   | none=>False
  | _=>False
 | _,_=>False
theorem Qg:pE K Tn tT:=fun x xs u us H M Q' rm ru rus h Q c=>by
 unfold tT at h
 split at h
 ·rename_i a
  split at h
  ·rename_i ws e
   split at h
   ·rename_i w e2
    obtain ⟨vs,h1,r⟩:=rm a _ e
    cases rus.inv_nil
    cases ru.ref
    rw [List.getLast?_eq_getElem?] at e2
    obtain ⟨v,h3,h4⟩:=r.get e2
    exact ⟨a,vs,v,rfl,rfl,h1,by rw [<- r.length];exact h3,c.write rm e r.dropLast h4 h⟩
   ·exact h.elim
  ·exact h.elim
 ·exact h.elim
def E6 (K:PySem.W.Frag):V->List V->Hp->VK->Prop:=fun x vs H Q=>∃ l b xs zs,x=.ref l/\vs=[.ref b]/\H l=some (.lst xs)/\fB K H b zs/\xs.length + zs.length<=sizeLine/\Q .non (upd H l (.lst (xs++zs)))
def kA:U->List U->aF->UK->Prop:=fun x ws M Q=>match x,ws with
 | .ref a,[w]=>match M a,view M w with
  | some (.lst us),.lst zs=>us.length + zs.length<=sizeLine/\Q .non (mup M a (.lst (us++zs)))
  | _,_=>False
 | _,_=>False
theorem II:pE K (E6 K) kA:=fun x xs u us H M Q' rm ru rus h Q c=>by
 unfold kA at h
 split at h
 ·rename_i a w
  split at h
  ·rename_i ws zs e e2
   obtain ⟨vs,h1,r⟩:=rm a _ e
   obtain ⟨v,vs',rfl,a1,b⟩:=rus.inv_cons
   cases b.inv_nil
   cases ru.ref
   obtain ⟨b,zvs,rfl,s2,r2⟩:=jE rm a1 e2
   exact ⟨a,b,vs,zvs,rfl,rfl,h1,s2,by rw [<- r.length,<- r2.length];exact h.1,c.write rm e (r.append r2) jZ h.2⟩
  ·exact h.elim
 ·exact h.elim
def rR:U->List U->aF->UK->Prop:=fun x ws M Q=>match x,ws with
 | .ref a,[]=>match M a with
  | some (.lst us)=>Q .non (mup M a (.lst []))
  | _=>False
 | _,_=>False
def qH:List U->aF->UK->Prop:=fun us M Q=>match us with
 | [x]=>match view M x with
  | .lst ws=>Q (.int ws.length) M
  | .tup ws=>Q (.int ws.length) M
  | .str z=>z.length<=sizeLine/\Q (.int z.length) M
  | _=>False
 | _=>False
theorem QU:zC K (fun xs H Q=>∃ x n,xs=[x]/\Vi K x H n/\Q (.int n) H) qH:=fun xs us H M Q' rm rus h Q c=>by
 unfold qH at h
 split at h
 ·rename_i x
  obtain ⟨v,vs',rfl,a1,b⟩:=rus.inv_cons
  cases b.inv_nil
  split at h
  ·rename_i ws e
   obtain ⟨b,zvs,rfl,s2,r2⟩:=jE rm a1 e
   exact ⟨_,zvs.length,rfl,.inl ⟨zvs,s2,rfl⟩,c.here rm dQ (by rw [<- r2.length];exact h)⟩
  ·rename_i ws e
   have e':=vL e
   subst e'
   obtain ⟨b,zvs,rfl,s2,r2⟩:=a1.tup
   exact ⟨_,zvs.length,rfl,.inr ⟨zvs,s2,rfl⟩,c.here rm dQ (by rw [<- r2.length];exact h)⟩
  ·rename_i z e
   have e':=Aw e
   subst e'
   cases a1.str
   exact ⟨_,z.length,rfl,⟨h.1,rfl⟩,c.here rm dQ h.2⟩
  ·exact h.elim
 ·exact h.elim
def pD (C:Int->Prop) (g:Int->U):List U->aF->UK->Prop:=fun us M Q=>match us with
 | [.int i]=>C i/\Q (g i) M
 | _=>False
def vX (g:Int->Int->U):List U->aF->UK->Prop:=fun us M Q=>match us with
 | [.int i,.int j]=>Q (g i j) M
 | _=>False
theorem aI.one {H:Hp} {M:aF} {u:U} {vs:List V} (h:aI K H M [u] vs):∃ v,vs=[v]/\aP K H M u v:=by
 obtain ⟨v,vs',rfl,a1,b⟩:=h.inv_cons
 cases b.inv_nil
 exact ⟨v,rfl,a1⟩
theorem aI.two {H:Hp} {M:aF} {u w:U} {vs:List V} (h:aI K H M [u,w] vs):∃ v z,vs=[v,z]/\aP K H M u v/\aP K H M w z:=by
 obtain ⟨v,vs',rfl,a1,b⟩:=h.inv_cons
 obtain ⟨z,rfl,b1⟩:=b.one
 exact ⟨v,z,rfl,a1,b1⟩
theorem JR:zC K (fun xs H Q=>∃ i,xs=[.int i]/\i.natAbs.log2 < 1920/\Q (.str (toString i)) H) (pD (fun i=>i.natAbs.log2 < 1920) fun i=>.str (toString i)):=fun xs us H M Q' rm rus h Q c=>by
 unfold pD at h
 split at h
 ·rename_i i
  obtain ⟨v,rfl,a⟩:=rus.one
  cases a.int
  exact ⟨i,rfl,h.1,c.here rm fZ h.2⟩
 ·exact h.elim
def vS (o:Bool):List U->aF->UK->Prop:=fun us M Q=>match us with
 | [x]=>match view M x with
  | .lst ws=>kZ o ws M Q
  | .tup ws=>kZ o ws M Q
  | _=>False
 | _=>False
def lZ:List U->aF->UK->Prop:=fun us M Q=>match us with
 | [x]=>match view M x with
  | .lst ws=>Q (.tup ws) M
  | .tup ws=>Q (.tup ws) M
  | _=>False
 | _=>False
theorem Lr:zC K (fun xs H Q=>∃ p ys,xs=[.ref p]/\((fB K H p ys/\∀ l,H l=none->Q (.ref l) (upd H l (.tup ys)))\/(gI K H p ys/\Q (.ref p) H))) lZ:=fun xs us H M Q' rm rus h Q c=>by
 unfold lZ at h
 split at h
 ·rename_i x
  obtain ⟨v,rfl,a1⟩:=rus.one
  split at h
  ·rename_i ws e
   obtain ⟨b,zvs,rfl,s2,r2⟩:=jE rm a1 e
   exact ⟨b,zvs,rfl,.inl ⟨s2,fun l hl=>c.tup rm r2 hl h⟩⟩
  ·rename_i ws e
   have e':=vL e
   subst e'
   have a2:=a1
   obtain ⟨b,zvs,rfl,s2,r2⟩:=a1.tup
   exact ⟨b,zvs,rfl,.inr ⟨s2,c.here rm a2 h⟩⟩
  ·exact h.elim
 ·exact h.elim
def wQ (M:aF) (x:U):Option String:=match x with
 | .non=>some "NoneType"
 | .bl _=>some "bool"
 | .int _=>some "int"
 | .str _=>some "str"
 | .tup _=>some "tuple"
 | .lst _=>some "list"
 | .ref a=>match M a with
  | some (.lst _)=>some "list"
  | some (.dK _)=>some "dict"
  | some (.dT _)=>some "dict"
  | _=>none
 | .dic _ _ _=>some "dict"
 | .ty _=>none
def yA:U->U->Option Bool
 | .non,.non=>some true
 | .non,.int _=>some false | .int _,.non=>some false | .non,.bl _=>some false | .bl _,.non=>some false | .non,.str _=>some false | .str _,.non=>some false
 | .int i,.int j=>some (decide (i=j))
 | .bl i,.bl j=>some (decide (i=j))
 | .str i,.str j=>some (decide (i=j))
 | .int _,.str _=>some false | .str _,.int _=>some false | .bl _,.str _=>some false | .str _,.bl _=>some false
 | _,_=>none
def AE:eC:=fun x y M Q=>match yA x y with
 | some b=>Q (.bl b) M
 | none=>False
def AJ:eC:=fun x y M Q=>match yA x y with
 | some b=>Q (.bl (!b)) M
 | none=>False
theorem Gr {H:Hp} {M:aF} {x y:V} {u w:U} {b:Bool} (ru:aP K H M u x) (rw:aP K H M w y) (h:yA u w=some b):JM x y=true/\decide (x=y)=b:=by
 cases u <;> cases w <;> simp only [yA,Option.some.injEq,reduceCtorEq] at h <;> subst h <;>
  (first
   | (cases ru.non) | (cases ru.bl) | (cases ru.int) | (cases ru.str)) <;>
  (first
   | (cases rw.non) | (cases rw.bl) | (cases rw.int) | (cases rw.str)) <;> simp [JM]
def eQ:U->Bool
 | .non=>true
 | _=>false
def tS:eC:=fun x y M Q=>match y with
 | .non=>Q (.bl (eQ x)) M
 | _=>False
def vG:eC:=fun x y M Q=>match y with
 | .non=>Q (.bl (!eQ x)) M
 | _=>False
theorem Rx {H:Hp} {M:aF} {x:V} {u:U} (ru:aP K H M u x):decide (x=.non)=eQ u:=by
 cases u with
 | non=>cases ru.non;simp [eQ]
 | bl b=>cases ru.bl;simp [eQ]
 | int b=>cases ru.int;simp [eQ]
 | str b=>cases ru.str;simp [eQ]
 | ty b=>cases ru.ty;simp [eQ]
 | ref b=>cases ru.ref;simp [eQ]
 | tup b=>obtain ⟨a,vs,rfl,_⟩:=ru.tup;simp [eQ]
 | lst b=>obtain ⟨a,vs,rfl,_⟩:=ru.lst;simp [eQ]
 | dic ks tk us=>simp only [aP] at ru;obtain ⟨a,vs,rfl,_⟩:=ru;simp [eQ]
theorem Qc:fE K (fun x y H Q=>y=.non/\Q (.bl (decide (x=.non))) H) tS:=fun x y u w H M Q' rm ru rw h Q c=>by
 unfold tS at h
 split at h
 ·exact ⟨rw.non,c.here rm (by rw [Rx ru];exact cY) h⟩
 ·exact h.elim
def xR (neg:Bool):eC:=fun x y M Q=>match x,y with
 | .str i,.str j=>Q (.bl (if neg then !(!(Builtin.Str.occurrences j i 0 j.length 1).isEmpty) else !(Builtin.Str.occurrences j i 0 j.length 1).isEmpty)) M
 | _,_=>False
end
end U2
namespace U2
open PySem L2
def eO {α:Type} (k:Nat) (ix:List Nat) (σ:List (Option α)):List (Option α):=List.replicate k none++ix.map fun i=>(σ[i]?).getD none
def Dw (k:Nat) (ix:List Nat) (wi:TI) (g:TG) (tc:TT) (te:TE):TE:=fun σ H Q=>wi σ H fun J H1=>∀ D,H1 D=none->∃ W:Nat->Nat->Hp->Prop,(∃ m,W 0 m (upd H1 D (.lst [])))/\∀ i m H,W i m H ->
 (J.stop i H/\Q (.ref D) H)\/(J.go i H/\∀ x H',J.yld i H x H'->g x (eO k ix σ) H' fun σ2 H2=>tc σ2 H2 fun ok H3 =>
  if ok=true then te σ2 H3 fun y H4=>∃ ys,H4 D=some (.lst ys)/\ys.length < sizeLine/\∃ m',m' < m/\W (i + 1) m' (upd H4 D (.lst (ys++[y]))) else ∃ m',m' < m/\W (i + 1) m' H3)
def UU (o:Bool) (Q:UK) (D:Addr) (ys:List U) (M:aF):Prop:=match o with
 | true=>Q (.ref D) M
 | false=>∃ M',Sub M' M/\M' D=none/\Q (.lst ys) M'
def BA (o:Bool) (k:Nat) (ix:List Nat) (wi:UI) (g:UG) (tc:UT) (te:UE):UE:=fun τ M Q=>wi τ M fun S M1=>S.xs.length<=sizeLine/\∀ D,M1 D=none->∃ P:Nat->List U->aF->Prop,P 0 [] (mup M1 D (.lst [])) /\
 (∀ i ys M,P i ys M->S.ok M/\M D=some (.lst ys)/\ys.length<=i) /\
 (∀ i x ys M,S.xs[i]?=some x->P i ys M->g x (eO k ix τ) M fun τ2 M2=>tc τ2 M2 fun ok M3=>if ok=true then te τ2 M3 fun y M4=>M4 D=some (.lst ys)/\P (i + 1) (ys++[y]) (mup M4 D (.lst (ys++[y]))) else P (i + 1) ys M3) /\
 ∀ ys M,P S.xs.length ys M->UU o Q D ys M
section
variable {K:PySem.W.Frag}
theorem OM {H:Hp} {M:aF} {σ:St} {τ:SU} (k:Nat) (ix:List Nat) (r:cL K H M σ τ):cL K H M (eO k ix σ) (eO k ix τ):=by
 refine ⟨by simp [eO],fun i u e=>?_⟩
 unfold eO at e ⊢
 by_cases hi:i < k
 ·rw [List.getElem?_append_left (by simpa using hi),List.getElem?_replicate] at e
  split at e <;> cases e
 ·rw [List.getElem?_append_right (by simpa using Nat.le_of_not_lt hi),List.getElem?_map] at e ⊢
  simp only [List.length_replicate] at e ⊢
  cases q:ix[i - k]? with
  | none=>rw [q] at e;cases e
  | some j =>
   rw [q] at e
   simp only [Option.map_some,Option.some.injEq] at e ⊢
   cases z:τ[j]? with
   | none=>rw [z] at e;cases e
   | some w =>
    rw [z] at e
    simp only [Option.getD_some] at e
    subst e
    obtain ⟨v,h1,h2⟩:=r.2 j u z
    exact ⟨v,by rw [h1];rfl,h2⟩
theorem D7 {o:Bool} {k:Nat} {ix:List Nat} {wi:TI} {wi':UI} {g:TG} {g':UG} {tc:TT} {tc':UT} {te:TE} {te':UE} (hi:v3 K wi wi') (hg:xN K g g') (hc:kL K tc tc') (he:bV K te te') :
  bV K (Dw k ix wi g tc te) (BA o k ix wi' g' tc' te'):=fun σ τ H M Q' rs rm h Q c=>by
 refine hi σ τ H M _ rs rm h _ fun J S M1 H1 s1 rm1 w h=>?_
 obtain ⟨hz,h⟩:=h
 intro D hD
 obtain ⟨P,p0,inv,turn,fin⟩:=h D (rm1.no hD)
 have sD:aX H1 M1 (upd H1 D (.lst [])) (mup M1 D (.lst [])):=aX.own rm1 hD
 have rmD:RelM K (upd H1 D (.lst [])) (mup M1 D (.lst [])):=rm1.put sD ⟨[],bT,.nil⟩
 refine ⟨fun i m H2=>∃ M2 ys,aX H1 M1 H2 M2/\RelM K H2 M2/\P i ys M2/\i<=S.xs.length/\m=S.xs.length - i,⟨_,_,[],sD,rmD,p0,Nat.zero_le _,rfl⟩,?_⟩
 rintro i m H2 ⟨M2,ys,s2,rm2,p2,hle,rfl⟩
 obtain ⟨ok2,d2,l2⟩:=inv i ys M2 p2
 by_cases hlt:i < S.xs.length
 ·obtain ⟨go,yl⟩:=w.step H2 M2 s2 rm2 ok2 i S.xs[i] (by simp [hlt])
  refine .inr ⟨go,fun x H3 y=>?_⟩
  obtain ⟨s3,rm3,ru⟩:=yl x H3 y
  have rs3:cL K H3 M2 (eO k ix σ) (eO k ix τ):=OM k ix (((rs.stp s1).stp s2).stp s3)
  refine hg _ x _ _ H3 M2 _ ru rs3 rm3 (turn i S.xs[i] ys M2 (by simp [hlt]) p2) _ fun σ4 τ4 H4 M4 s4 rm4 rs4 q4=>?_
  refine hc σ4 τ4 H4 M4 _ rs4 rm4 q4 _ fun b M5 H5 s5 rm5 q5=>?_
  have s25:aX H1 M1 H5 M5:=((s2.trans s3).trans s4).trans s5
  cases b with
  | false =>
   exact ⟨S.xs.length - (i + 1),by omega,M5,ys,s25,rm5,q5,hlt,rfl⟩
  | true =>
   refine he σ4 τ4 H5 M5 _ (rs4.stp s5) rm5 q5 _ fun u v M6 H6 s6 rm6 ru6 q6=>?_
   obtain ⟨d6,p6⟩:=q6
   obtain ⟨vs,h6,r6⟩:=rm6 D _ d6
   have l6:vs.length < sizeLine:=by rw [<- r6.length];omega
   have s7:aX H6 M6 (upd H6 D (.lst (vs++[v]))) (mup M6 D (.lst (ys++[u]))):=aX.write d6
   exact ⟨vs,h6,l6,S.xs.length - (i + 1),by omega,_,ys++[u],(s25.trans s6).trans s7,rm6.put s7 ⟨_,bT,(r6.append (.cons ru6 .nil)).stp s7⟩,p6,hlt,rfl⟩
 ·have e:i=S.xs.length:=by omega
  subst e
  refine .inl ⟨w.stop H2 M2 s2 rm2 ok2,?_⟩
  have q:=fin ys M2 p2
  cases o with
  | true=>exact c _ _ M2 H2 (s1.trans s2) rm2 rQ q
  | false =>
   obtain ⟨M',sb,n,q⟩:=q
   obtain ⟨vs,h6,r6⟩:=rm2 D _ d2
   have s':aX H2 M2 H2 M':=sb.less
   exact c _ _ M' H2 ((s1.trans s2).trans s') (rm2.sub sb) (AS n h6 (r6.stp s')) q
end
theorem LV {o:Bool} {k:Nat} {ix:List Nat} {wi:UI} {g:UG} {tc:UT} {te:UE} {τ:SU} {M1:aF} {Q:UK} {S:Src} (f:U->Option U) (hz:S.xs.length<=sizeLine) (hs:S.ok M1)
  (h:∀ x∈S.xs,∀ M,Sub M1 M->∀ R:Option U->aF->Prop,R (f x) M->g x (eO k ix τ) M fun τ2 M2=>tc τ2 M2 fun ok M3=>if ok=true then te τ2 M3 fun y M4=>R (some y) M4 else R none M3)
  (q:kZ o (S.xs.filterMap f) M1 Q):S.xs.length<=sizeLine/\∀ D,M1 D=none->∃ P:Nat->List U->aF->Prop,P 0 [] (mup M1 D (.lst [])) /\
 (∀ i ys M,P i ys M->S.ok M/\M D=some (.lst ys)/\ys.length<=i) /\
 (∀ i x ys M,S.xs[i]?=some x->P i ys M->g x (eO k ix τ) M fun τ2 M2=>tc τ2 M2 fun ok M3=>if ok=true then te τ2 M3 fun y M4=>M4 D=some (.lst ys)/\P (i + 1) (ys++[y]) (mup M4 D (.lst (ys++[y]))) else P (i + 1) ys M3) /\
 ∀ ys M,P S.xs.length ys M->UU o Q D ys M:=by
 refine ⟨hz,fun D hD=>⟨fun i ys M=>ys=(S.xs.take i).filterMap f/\M=mup M1 D (.lst ys)/\i<=S.xs.length,⟨by simp,rfl,Nat.zero_le _⟩,?_,?_,?_⟩⟩
 ·rintro i ys M ⟨rfl,rfl,hi⟩
  refine ⟨fun a e=>?_,bO,?_⟩
  ·have:=hs a e
   rw [cB (fun z=>by subst z;rw [hD] at this;cases this)]
   exact this
  ·refine Nat.le_trans (List.length_filterMap_le _ _) ?_
   rw [List.length_take];omega
 ·rintro i x ys M e ⟨rfl,rfl,hi⟩
  have hlt:i < S.xs.length:=(List.getElem?_eq_some_iff.mp e).1
  have hx:x∈S.xs:=List.mem_of_getElem? e
  have tk:(S.xs.take (i + 1)).filterMap f=(S.xs.take i).filterMap f++(f x).toList:=by
   rw [List.take_add_one,e,List.filterMap_append]
   cases q:f x <;> simp [q]
  refine h x hx (mup M1 D (.lst ((S.xs.take i).filterMap f))) ((Sub.refl M1).mup hD) (fun r M4=>match r with
   | some y=>M4 D=some (.lst ((S.xs.take i).filterMap f))/\((S.xs.take i).filterMap f++[y]=(S.xs.take (i + 1)).filterMap f/\mup M4 D (.lst ((S.xs.take i).filterMap f++[y]))=mup M1 D (.lst ((S.xs.take i).filterMap f++[y]))/\i + 1<=S.xs.length)
   | none=>(S.xs.take i).filterMap f=(S.xs.take (i + 1)).filterMap f/\M4=mup M1 D (.lst ((S.xs.take i).filterMap f))/\i + 1<=S.xs.length) ?_
  rw [tk]
  cases f x with
  | none=>exact ⟨by simp,rfl,hlt⟩
  | some y=>exact ⟨bO,rfl,gR,hlt⟩
 ·rintro ys M ⟨rfl,rfl,hi⟩
  rw [List.take_length]
  cases o with
  | true=>exact q D hD
  | false=>exact ⟨M1,(Sub.refl M1).mup hD,hD,q⟩
end U2
namespace U2
open PySem PySem.Spec PyProof.Rows L2
theorem Fh {P:Program} {w:World} {K:PySem.W.Frag} {tg:Expr} {ty:String} (z:Str) (t:Tok) (it:Addr)
  (W:∀ A':Around,A'.handled=none->Walks P w A' it [it] [it] z.cps.size (SignAt z) (fun i h=>h.IsStrIter it ty z t i))
  (hty:["enumerate","zip","dict_itemiterator","dict_reverseitemiterator","odict_iterator","itertools.zip_longest","itertools.pairwise"].contains ty=false)
  (self:∀ (A:Around) (i:Nat) (s:Shared) (Q:Value->Shared->Prop) (E:Value->Shared->Prop),s.heap.IsStrIter it ty z t i->Q (.ref it) s->wpAny (model P w) A (pyIter (.ref it)) Q E s) :
  Turn P w K tg (Ux z) [it] it (fun i h=>h.IsStrIter it ty z t i) where
 mem:=by simp
 obj:=fun i h st b hb=>by
  have e:b=it:=by simpa using hb
  subst e
  obtain ⟨o,e,c,d⟩:=st
  exact ⟨o,e,fun v z=>by rw [d] at z;cases z⟩
 keep:=fun i h h' st k=>let ⟨o,ho,r⟩:=st;⟨o,k it (by simp) o ho,r⟩
 item:=by
  intro X hP hw hK hc i pins s σ H E I hf st hg
  subst hP hw hK
  obtain ⟨f0,f1,f2,f3,f4,f5⟩:=hf it (by simp)
  refine (W X.A (I.ok.hd hc)).item i s _ E hg st fun v h' tk hv st' k=>?_
  obtain ⟨c,u,hc',rfl⟩:=hv
  have I1:Inv X pins σ H { s with heap:=h',toks:=tk }:=I.turned (t':=tk) (fun b o hb e=>k b o (by simpa using hb) e) f0 f1 f3 f4 f5
  obtain ⟨o,e,cl,d⟩:=id st'
  exact ⟨_,rfl,Dv (s:={ s with heap:=h',toks:=tk }) e cl d hty ⟨.str ⟨#[c]⟩,H,I1,⟨_,rfl⟩,⟨rfl,c,hc',rfl⟩,st',fun b hb=>(hf b hb).1⟩⟩
 done:=by
  intro X hP hw hK hc i pins s σ H E I hf st hg
  subst hP hw hK
  have hg':i=z.cps.size:=hg
  subst hg'
  obtain ⟨f0,f1,f2,f3,f4,f5⟩:=hf it (by simp)
  exact (W X.A (I.ok.hd hc)).done s _ E st fun h' tk k=>⟨rfl,I.turned (t':=tk) (fun b o hb e=>k b o (by simpa using hb) e) f0 f1 f3 f4 f5⟩
 self:=self
section
variable {X:Cx} {tg:Expr}
theorem Tt {l:Expr} {tl:TE} (hl:PE X l tl):PI X tg l (Um X.K tl):=by
 intro pins s σ H R I h
 refine bB (hl pins s σ H _ I h) fun v s1 ⟨x,H1,I1,r1,q1⟩=>?_
 have fp:∀ b∈[s1.heap.objs.size],tO X pins H1 b:=fun b hb=>by
  have e:b=s1.heap.objs.size:=by simpa using hb
  subst e
  exact I1.fpOk (Nat.le_refl _) (I1.hok.fresh (Nat.le_refl _))
 rcases q1 with ⟨a,rfl,⟨xs,hq⟩,q⟩ | ⟨a,rfl,⟨xs,hq⟩,q⟩ | ⟨z,rfl,q⟩
 ·cases r1
  obtain ⟨its,rv,p,hz⟩:=I1.list hq
  refine wpAny_pyIter_list p.isList ?_
  exact ⟨s1.heap.objs.size,[s1.heap.objs.size],_,_,H1,rfl,I1.kept (t':=s1.toks) fun b o e=>Heap.get?_push_of_some _ e,L6 a _,⟨_,Heap.get?_push_size _ rfl,rfl,rfl⟩,fp,q⟩
 ·cases r1
  obtain ⟨its,rv,p,hz⟩:=I1.tuple hq
  refine wpAny_pyIter_tuple (show s1.heap.IsTuple a its.toArray from p) ?_
  exact ⟨s1.heap.objs.size,[s1.heap.objs.size],_,_,H1,rfl,I1.kept (t':=s1.toks) fun b o e=>Heap.get?_push_of_some _ e,ID a _,⟨_,Heap.get?_push_size _ rfl,rfl,rfl⟩,fp,q⟩
 ·obtain ⟨t,rfl⟩:=r1
  cases ha:z.cps.all (· < 128)
  ·refine wpAny_pyIter_wide ha ?_
   exact ⟨s1.heap.objs.size,[s1.heap.objs.size],_,_,H1,rfl,I1.kept (t':=s1.toks) fun b o e=>Heap.get?_push_of_some _ e,
    Fh z t _ (fun A' hA=>Walks.strWide hA _ z t) (by decide) (fun A i s Q E st h=>wpAny_pyIter_striter_wide st h),⟨_,Heap.get?_push_size _ rfl,rfl,rfl⟩,fp,q⟩
  ·refine wpAny_pyIter_ascii ha ?_
   exact ⟨s1.heap.objs.size,[s1.heap.objs.size],_,_,H1,rfl,I1.kept (t':=s1.toks) fun b o e=>Heap.get?_push_of_some _ e,
    Fh z t _ (fun A' hA=>Walks.strAscii hA _ z t) (by decide) (fun A i s Q E st h=>wpAny_pyIter_striter_ascii st h),⟨_,Heap.get?_push_size _ rfl,rfl,rfl⟩,fp,q⟩
end
section
variable {prog:Program} {w:World} {A:Around} {R:Result->Shared->Prop} {s:Shared}
theorem F8 {elt target iter:Expr} {ifs:List Expr} {scope:Scope} {pos:Pos} {it acc:Value} {env:Env} (I:Nat->Shared->Prop)
  (turn:∀ n s,I n s->wpAny (model prog w) A (pyNext it) (fun r s₁=>match r with
   | none=>R (.ok .next) s₁
   | some v=>wpAny (model prog w) A (letOwnedTupleGo target it v) (fun _ s₀=>wpAny (model prog w) A (assign target env v) (fun _ s₂ =>
     wpAny (model prog w) A (forIn ifs true fun c r=>if r=true then do let ok <- isTrue c env (eval c env);pure (ForInStep.yield ok) else pure (ForInStep.yield r)) (fun ok s₃ =>
      if ok=true then wpAny (model prog w) A (eval elt env) (fun x s₄ =>
       wpAny (model prog w) A (call (.builtin "list.append") [acc,x]) (fun _ s₅=>∃ m,m < n/\I m s₅) (fun _ _=>False) s₄) (fun _ _=>False) s₃
      else ∃ m,m < n/\I m s₃) (fun _ _=>False) s₂) (fun _ _=>False) s₀) (fun _ _=>False) s₁) (fun _ _=>False) s)
  (n:Nat) (h:I n s) :
  codeAny (model prog w) A (.compLoop (.ListComp elt [⟨target,iter,ifs,0⟩] scope pos) 0 it acc env) R s:=by
 refine codeAny_loop rfl I (fun n s hI=>?_) n h
 show wpAny _ A ((compTurn (.ListComp elt [⟨target,iter,ifs,0⟩] scope pos) 0 it acc env).onRaise (fun x=>do noteFrame x env;theTreesLotGoes x)) _ _ s
 refine wpAny_noted ?_
 rw [compTurn_list]
 refine wpAny_bind (wpAny_standAt (wpAny_bind (wpAny_mono (turn n s hI) (fun r s₁ h₁=>?_) fun _ _ h'=>h'.elim)))
 cases r with
 | none=>exact wpAny_pure h₁
 | some v =>
  refine wpAny_bind (wpAny_mono h₁ (fun _ s₀ h₀=>?_) fun _ _ h'=>h'.elim)
  refine wpAny_bind (wpAny_mono h₀ (fun _ s₂ h₂=>wpAny_bind (wpAny_mono h₂ (fun ok s₃ h₃=>?_) fun _ _ h'=>h'.elim)) fun _ _ h'=>h'.elim)
  cases ok with
  | false=>exact wpAny_pure ⟨rfl,h₃⟩
  | true =>
   exact wpAny_bind (wpAny_bind (wpAny_mono h₃ (fun x s₄ h₄=>wpAny_bind (wpAny_mono h₄ (fun _ s₅ h₅=>wpAny_pure (wpAny_pure ⟨rfl,h₅⟩)) fun _ _ h'=>h'.elim)) fun _ _ h'=>h'.elim))
theorem vT {env:Env}:∀ (names:List (Str × NameKind)) (cs:List (Str × Addr)),(∀ x∈names,x.2=.free->∃ c,env.cells.lookup x.1=some c) ->
  (∀ x c,cs.lookup x=some c->env.cells.lookup x=some c) ->
  ∃ cl,(forIn names cs fun (x:Str × NameKind) (cs:List (Str × Addr))=>(if (x.2 == NameKind.free)=true then do let c <- cellOf env x.1;pure (ForInStep.yield ((x.1,c) :: cs)) else pure (ForInStep.yield cs):Sem (ForInStep (List (Str × Addr)))))=pure cl /\
   (∀ x c,cl.lookup x=some c->env.cells.lookup x=some c)/\(∀ x,(∃ c,cs.lookup x=some c)\/(x,NameKind.free)∈names->∃ c,cl.lookup x=some c)
 | [],cs,_,h=>⟨cs,rfl,h,fun x hx=>by rcases hx with hx | hx;exact hx;cases hx⟩
 | (n,k) :: r,cs,hf,h=>by
  rw [List.forIn_cons]
  by_cases hk:k=.free
  ·subst hk
   obtain ⟨c,hc⟩:=hf (n,.free) List.mem_cons_self rfl
   have e:cellOf env n=pure c:=by unfold cellOf;rw [hc]
   simp only [beq_self_eq_true,if_true,e,pure_bind]
   obtain ⟨cl,h1,h2,h3⟩:=vT r ((n,c) :: cs) (fun x hx=>hf x (List.mem_cons_of_mem _ hx)) (fun x d q=>by
    rw [List.lookup_cons] at q
    split at q
    ·rename_i e;cases q;rw [beq_iff_eq.mp e];exact hc
    ·exact h x d q)
   refine ⟨cl,h1,h2,fun x hx=>h3 x ?_⟩
   rcases hx with ⟨d,hd⟩ | hx
   ·left
    rw [List.lookup_cons]
    split
    ·exact ⟨_,rfl⟩
    ·exact ⟨d,hd⟩
   ·rcases List.mem_cons.mp hx with e | hx
    ·left;cases e;exact ⟨c,by simp [List.lookup_cons]⟩
    ·exact .inr hx
  ·have hb:(k == NameKind.free)=false:=by simpa using hk
   simp only [hb,Bool.false_eq_true,if_false,pure_bind]
   obtain ⟨cl,h1,h2,h3⟩:=vT r cs (fun x hx=>hf x (List.mem_cons_of_mem _ hx)) h
   refine ⟨cl,h1,h2,fun x hx=>h3 x ?_⟩
   rcases hx with hx | hx
   ·exact .inl hx
   ·rcases List.mem_cons.mp hx with e | hx
    ·cases e;exact absurd rfl hk
    ·exact .inr hx
theorem wO {env:Env} {scope:Scope} (hf:∀ x∈scope.names,x.2=.free->∃ c,env.cells.lookup x.1=some c) :
  ∃ cl,closureFor scope env=pure cl/\(∀ x c,cl.lookup x=some c->env.cells.lookup x=some c)/\(∀ x,(x,NameKind.free)∈scope.names->∃ c,cl.lookup x=some c):=by
 obtain ⟨cl,h1,h2,h3⟩:=vT (env:=env) scope.names [] hf (fun x c h=>by cases h)
 refine ⟨cl,?_,h2,fun x hx=>h3 x (.inr hx)⟩
 unfold closureFor
 first
  | exact h1
  | (have:_:=h1;simpa using this)
end
def eH (X:Cx) (N:List Str) (scope:Scope) (cl:List (Str × Addr)) (C:Addr) (s:Shared) (H:Hp) (fp:List Addr):Cx where
 prog:=X.prog
 w:=X.w
 K:=X.K
 mg:=X.mg
 base:=X.base
 A:=X.A
 N:=N
 s₀:=s
 H₀:=H
 env:=compEnvC scope cl C X.env
 outer:=X.stack
 stack:=X.stack
 ex:=fp
 fn:=fun _=>false
 calm:=X.calm
 pn:=[]
 xe:=fun _ _=>False
def G4 (X:Cx) (ifs:List Expr) (t:TT):Prop :=
 ∀ (pins:List (Addr × Obj)) (s:Shared) (σ:L2.St) (H:Hp) (Q:Bool->Hp->Prop),Inv X pins σ H s->t σ H Q ->
  wpAny (model X.prog X.w) X.A (forIn ifs true fun c r=>if r=true then do let ok <- isTrue c X.env (eval c X.env);pure (ForInStep.yield ok) else pure (ForInStep.yield r)) (TP X pins σ Q) X.xe s
def Vo:TT:=fun _ H Q=>Q true H
theorem QY {X:Cx}:G4 X [] Vo:=fun pins s σ H Q I h=>wpAny_tests_nil ⟨H,I,h⟩
theorem Q0 {X:Cx} {c:Expr} {t:TT} (h:PT X c t):G4 X [c] t:=fun pins s σ H Q I q=>wpAny_tests_one (h pins s σ H Q I q)
def GK (k:Nat) (g:TG):Prop:=∀ x σ H Q,g x σ H Q->g x σ H (fun σ2 H2=>(∀ j,k<=j->σ2[j]?=σ[j]?)/\Q σ2 H2)
def Le (k:Nat) (g:rF):Prop:=∀ xs σ H Q,g xs σ H Q->g xs σ H (fun σ2 H2=>(∀ j,k<=j->σ2[j]?=σ[j]?)/\Q σ2 H2)
theorem RT {k i:Nat} (h:i < k):GK k (u7 i):=fun x σ H Q q=>⟨fun j hj=>by rw [List.getElem?_set,if_neg (by omega)],q⟩
theorem T6 {k:Nat}:Le k DL:=fun xs σ H Q q=>⟨q.1,fun j _=>rfl,q.2⟩
theorem Qm {k:Nat} {g:TG} {r:rF} (h1:GK k g) (h2:Le k r) (m2:∀ xs σ H Q Q',(∀ σ2 H2,Q σ2 H2->Q' σ2 H2)->r xs σ H Q->r xs σ H Q') (m1:∀ x σ H Q Q',(∀ σ2 H2,Q σ2 H2->Q' σ2 H2)->g x σ H Q->g x σ H Q'):Le k (BH g r):=fun xs σ H Q q=>by
 obtain ⟨v,r',rfl,q⟩:=q
 refine ⟨v,r',rfl,m1 _ _ _ _ _ (fun σ2 H2 z=>?_) (h1 _ _ _ _ q)⟩
 exact m2 _ _ _ _ _ (fun σ3 H3 y=>⟨fun j hj=>(y.1 j hj).trans (z.1 j hj),y.2⟩) (h2 _ _ _ _ z.2)
theorem UH {i:Nat}:∀ x σ H (Q Q':L2.St->Hp->Prop),(∀ σ2 H2,Q σ2 H2->Q' σ2 H2)->u7 i x σ H Q->u7 i x σ H Q':=fun x σ H Q Q' h q=>h _ _ q
theorem VP:∀ xs σ H (Q Q':L2.St->Hp->Prop),(∀ σ2 H2,Q σ2 H2->Q' σ2 H2)->DL xs σ H Q->DL xs σ H Q':=fun x σ H Q Q' h q=>⟨q.1,h _ _ q.2⟩
theorem TM {g:TG} {r:rF} (m1:∀ x σ H Q Q',(∀ σ2 H2,Q σ2 H2->Q' σ2 H2)->g x σ H Q->g x σ H Q') (m2:∀ xs σ H Q Q',(∀ σ2 H2,Q σ2 H2->Q' σ2 H2)->r xs σ H Q->r xs σ H Q') :
  ∀ xs σ H (Q Q':L2.St->Hp->Prop),(∀ σ2 H2,Q σ2 H2->Q' σ2 H2)->BH g r xs σ H Q->BH g r xs σ H Q':=fun xs σ H Q Q' h q=>by
 obtain ⟨v,r',rfl,q⟩:=q
 exact ⟨v,r',rfl,m1 _ _ _ _ _ (fun σ2 H2 z=>m2 _ _ _ _ _ h z) q⟩
theorem TL {K:PySem.W.Frag} {k n:Nat} {r:rF} (h:Le k r):GK k (EJ K n r):=fun x σ H Q q=>by
 obtain ⟨a,xs,rfl,h1,h2,q⟩:=q
 exact ⟨a,xs,rfl,h1,h2,h _ _ _ _ q⟩
theorem Wn {K:PySem.W.Frag} {n:Nat} {r:rF} (m2:∀ xs σ H Q Q',(∀ σ2 H2,Q σ2 H2->Q' σ2 H2)->r xs σ H Q->r xs σ H Q') :
  ∀ x σ H (Q Q':L2.St->Hp->Prop),(∀ σ2 H2,Q σ2 H2->Q' σ2 H2)->EJ K n r x σ H Q->EJ K n r x σ H Q':=fun x σ H Q Q' h q=>by
 obtain ⟨a,xs,rfl,h1,h2,q⟩:=q
 exact ⟨a,xs,rfl,h1,h2,m2 _ _ _ _ _ h q⟩
theorem Cs {X:Cx} {tg elt iter:Expr} {ifs:List Expr} {scope:Scope} {pos:Pos} {N:List Str} {k:Nat} {ix:List Nat} {wi:TI} {g:TG} {tc:TT} {te:TE}
  (hc:X.calm=true) (hi:PI X tg iter wi) (gk:GK k g)
  (hk:scope.kind=.function) (hcell:∀ y∈scope.names,y.2≠.cell) (hnames:∀ y∈scope.names,y.2=.local->scope.names.lookup y.1=some .local)
  (hfree:∀ y∈scope.names,y.2=.free->X.env.kindOf y.1=some .cell\/X.env.kindOf y.1=some .free)
  (hone:∀ y∈scope.names,y.2=.free->scope.names.lookup y.1=some .free)
  (hN:∀ (j:Nat) x,N[k + j]?=some x->∃ i,ix[j]?=some i/\X.N[i]?=some x)
  (hcap:∀ (j:Nat) x,N[k + j]?=some x->scope.names.lookup x=some .free)
  (hlen:N.length=k + ix.length)
  (hg:∀ cl C s H fp,PG (eH X N scope cl C s H fp) tg g)
  (hif:∀ cl C s H fp,G4 (eH X N scope cl C s H fp) ifs tc)
  (he:∀ cl C s H fp,PE (eH X N scope cl C s H fp) elt te)
  (hs:∀ x,foldedSetIterable iter X.env x=pure x) {pins:List (Addr × Obj)} {s:Shared} {σ:L2.St} {H:Hp} {Q:VK} (I:L2.Inv X pins σ H s) (h:Dw k ix wi g tc te σ H Q) {pos':Pos} {use:Option (Value->Sem Unit)} {QQ:Value->Shared->Prop}
  (end_:∀ (D C:Addr) (H3:Hp) (s4:Shared),L2.Inv X pins σ H3 s4->(∃ m,s4.heap.Ns C m)->H3 C=none->C≠X.env.locals->X.s₀.heap.objs.size<=C->(∀ x c,X.env.cells.lookup x=some c->c≠C)->(∀ p∈X.pn++pins,p.1≠C) ->
   (∀ h':Heap,Heap.SameBut C s4.heap h'->L2.Inv X pins σ H3 { s4 with heap:=h' })->Q (.ref D) H3->compPost (model X.prog X.w) X.A X.xe use QQ (.ref D) C (.ok .next) s4) :
  wpAny (model X.prog X.w) X.A (comprehension (.ListComp elt [⟨tg,iter,ifs,0⟩] scope pos) scope X.env pos' (newList []) false (eval iter X.env) use) QQ X.xe s:=by
 obtain ⟨cl,hclos,hcl,hcl2⟩:=wO (env:=X.env) (scope:=scope) (fun x hx e=>I.ok.has x.1 (hfree x hx e))
 refine wpAny_comprehension_free (use:=use) rfl hs hclos hk hnames (bB (hi pins s σ H _ I h) fun v s1 h1=>bB h1 fun itv s2 h2=>?_)
 obtain ⟨it,fp,tn,J,H2,rfl,I2,T,st2,f2,h2⟩:=h2
 refine wpAny_newObj_type (wpAny_newFunctionEnv hcell (by intro y hy;simp at hy) (fun h₁ hns₁ hsb₁=>?_) hk)
 dsimp only at hns₁ hsb₁ ⊢
 generalize hP:s2.heap.push { cls:=.type "list",dict:=none,data:=.seq ([]:List Value).toArray }=P2 at hns₁ hsb₁ ⊢
 have hCs:P2.objs.size=s2.heap.objs.size + 1:=by rw [<- hP,Heap.size_push]
 have below:∀ b,b < s2.heap.objs.size->b≠P2.objs.size:=fun b hb=>by rw [hCs];omega
 have old:∀ b o,s2.heap.get? b=some o->h₁.get? b=some o:=fun b o e=>hsb₁.extBut b o (below b (Heap.lt_size e)) (Heap.get?_push_of_some _ (hP ▸ Heap.get?_push_of_some _ e))
 have hacc:h₁.get? s2.heap.objs.size=some { cls:=.type "list",dict:=none,data:=.seq ([]:List Value).toArray }:=hsb₁.extBut _ _ (show s2.heap.objs.size≠P2.objs.size by rw [hCs];exact Nat.ne_of_lt (Nat.lt_succ_self _)) (Heap.get?_push_of_some _ (hP ▸ Heap.get?_push_size _ rfl))
 obtain ⟨W,⟨m0,w0⟩,turn⟩:=h2 s2.heap.objs.size (I2.hok.fresh (Nat.le_refl _))
 have fpl:∀ b∈fp,b < s2.heap.objs.size:=fun b hb=>let ⟨o,e,_⟩:=T.obj _ _ st2 b hb;Heap.lt_size e
 have σl:(eO k ix σ).length=N.length:=by rw [hlen];simp [eO]
 have i2:=I2.ok
 have ok':(eH X N scope cl P2.objs.size s2 H2 fp).Ok:=by
  refine ⟨i2.mod,hk,i2.glob,i2.blt,(by show s2.heap.objs.size<=P2.objs.size;rw [hCs];exact Nat.le_succ _),fun x y c e1 e2=>i2.inj x y c (hcl x c e1) (hcl y c e2),fun x hx=>?_,(fun x c e=>by cases e),i2.hd,i2.frames,.inl rfl,fun b hb=>?_,fun b o e=>I2.bs b o e,Nat.le_trans i2.bsz I2.sz,fun b o e hb=>?_,fun b hb hb2=>?_,I2.stack,I2.stkFree⟩
  ·
   have hx':(relabel scope X.env).names.lookup x=some .cell\/(relabel scope X.env).names.lookup x=some .free:=hx
   have key:∀ (names:List (Str × NameKind)),(∀ y∈names,y.2≠.cell)->((names.map fun (n,k)=>if (k == NameKind.free && X.env.scope.kind == .function && X.env.kindOf n == some .cell) then (n,NameKind.cell) else (n,k)).lookup x=some .cell \/
     (names.map fun (n,k)=>if (k == NameKind.free && X.env.scope.kind == .function && X.env.kindOf n == some .cell) then (n,NameKind.cell) else (n,k)).lookup x=some .free)->(x,NameKind.free)∈names:=by
    intro names
    induction names with
    | nil=>intro _ h;rcases h with h | h <;> cases h
    | cons y r ih =>
     obtain ⟨n,kd⟩:=y
     intro hnc h
     by_cases hxn:x=n
     ·subst hxn
      have hkc:kd≠.cell:=hnc (x,kd) List.mem_cons_self
      by_cases hkf:kd=.free
      ·subst hkf;exact List.mem_cons_self
      ·exfalso
       have hb:(kd == NameKind.free)=false:=by simpa using hkf
       simp only [List.map_cons,hb,Bool.false_and,Bool.false_eq_true,if_false,List.lookup_cons,beq_self_eq_true] at h
       rcases h with h | h
       ·exact hkc (Option.some.inj h)
       ·exact hkf (Option.some.inj h)
     ·have hb:(x == n)=false:=by simpa using hxn
      refine List.mem_cons_of_mem _ (ih (fun y hy=>hnc y (List.mem_cons_of_mem _ hy)) ?_)
      have e1:∀ z:NameKind,List.lookup x (((n,z)) :: (r.map fun (n,k)=>if (k == NameKind.free && X.env.scope.kind == .function && X.env.kindOf n == some .cell) then (n,NameKind.cell) else (n,k)))=List.lookup x (r.map fun (n,k)=>if (k == NameKind.free && X.env.scope.kind == .function && X.env.kindOf n == some .cell) then (n,NameKind.cell) else (n,k)):=fun z=>by rw [List.lookup_cons,hb]
      rw [List.map_cons] at h
      dsimp only at h
      split at h
      ·rw [e1] at h;exact h
      ·rw [e1] at h;exact h
   exact hcl2 x (key scope.names hcell hx')
  ·exact ⟨below b (fpl b hb),fun x c e=>(f2 b hb).2.2.2.2.1 x c (hcl x c e)⟩
  ·rcases (f2 b hb).2.2.2.1 with z | z
   ·exact i2.noex b o e z
   ·exact absurd (Nat.lt_of_lt_of_le (Heap.lt_size e) (Nat.le_trans i2.bsz z)) (Nat.lt_irrefl _)
  ·rcases List.mem_cons.mp (I2.stkSub b hb2) with z | z
   ·exact (f2 b hb).2.1 z
   ·exact (f2 b hb).2.2.1 z
 have stat:∀ {H':Hp},(∀ b∈fp,H' b=none)->∀ b∈fp,tO (eH X N scope cl P2.objs.size s2 H2 fp) [] H' b:=fun hn b hb =>
  ⟨hn b hb,below b (fpl b hb),fun z=>ok'.exfs b hb z,.inl hb,fun x c e=>(f2 b hb).2.2.2.2.1 x c (hcl x c e),(fun p hp=>by cases hp)⟩
 have hD:H2 s2.heap.objs.size=none:=I2.hok.fresh (Nat.le_refl _)
 have relf:∀ x,scope.names.lookup x=some .free->(X.env.kindOf x=some .cell\/X.env.kindOf x=some .free)->((relabel scope X.env).names.lookup x=some .cell\/(relabel scope X.env).names.lookup x=some .free):=by
  intro x hx hkx
  have key:∀ (names:List (Str × NameKind)),names.lookup x=some .free->((names.map fun (n,k)=>if (k == NameKind.free && X.env.scope.kind == .function && X.env.kindOf n == some .cell) then (n,NameKind.cell) else (n,k)).lookup x=some .cell \/
    (names.map fun (n,k)=>if (k == NameKind.free && X.env.scope.kind == .function && X.env.kindOf n == some .cell) then (n,NameKind.cell) else (n,k)).lookup x=some .free):=by
   intro names
   induction names with
   | nil=>intro h;cases h
   | cons y r ih =>
    obtain ⟨n,kd⟩:=y
    intro h
    rw [List.lookup_cons] at h
    by_cases hxn:x=n
    ·subst hxn
     simp only [beq_self_eq_true] at h
     cases h
     rw [List.map_cons]
     dsimp only
     split
     ·left;simp [List.lookup_cons]
     ·right;simp [List.lookup_cons]
    ·have hb:(x == n)=false:=by simpa using hxn
     rw [hb] at h
     have:=ih h
     rw [List.map_cons]
     dsimp only
     split
     ·rw [List.lookup_cons,hb];exact this
     ·rw [List.lookup_cons,hb];exact this
  exact key scope.names hx
 have Istart:∀ tk,Inv (eH X N scope cl P2.objs.size s2 H2 fp) [] (eO k ix σ) (upd H2 s2.heap.objs.size (.lst [])) { s2 with heap:=h₁,toks:=tk }:=fun tk=>by
  refine ⟨ok',rfl,I2.bare,Un.laid old (Nat.le_refl _) hD,⟨_,hns₁,fun i x v e1 e2 e3=>?_⟩,fun x c e=>?_,?_,fun x c e=>?_,(fun p hp=>by cases hp),I2.hok.laid old (Nat.le_refl _) ⟨Nat.zero_le _,[],_,.nil,hacc⟩,σl⟩
  ·by_cases hik:i < k
   ·exfalso
    unfold eO at e2
    rw [List.getElem?_append_left (by simpa using hik),List.getElem?_replicate] at e2
    split at e2 <;> cases e2
   ·have ej:i=k + (i - k):=by omega
    have e1':N[k + (i - k)]?=some x:=by rw [<- ej];exact e1
    obtain ⟨i0,hi0,hXN⟩:=hN (i - k) x e1'
    have hfx:=hcap (i - k) x e1'
    have hmem:(x,NameKind.free)∈scope.names:=PySem.mem_of_lookup hfx
    have hkx:=hfree _ hmem rfl
    have e4:σ[i0]?=some (some v):=by
     unfold eO at e2
     rw [List.getElem?_append_right (by simpa using Nat.le_of_not_lt hik),List.getElem?_map] at e2
     simp only [List.length_replicate,hi0,Option.map_some,Option.some.injEq] at e2
     cases z:σ[i0]? with
     | none=>rw [z] at e2;cases e2
     | some y=>rw [z] at e2;simp only [Option.getD_some] at e2;rw [e2]
    obtain ⟨m2,hn2,hl2⟩:=I2.loc
    obtain ⟨u,ru,lk⟩:=hl2 i0 x v hXN e4 (by rcases hkx with z | z;exact .inr (.inl z);exact .inr (.inr z))
    rcases lk with ⟨z,_⟩ | ⟨_,c,hc1,hc2⟩
    ·exfalso
     have z':X.env.kindOf x=some .local:=z
     rcases hkx with y | y <;> (rw [z'] at y;cases y)
    ·obtain ⟨c',hc'⟩:=hcl2 x hmem
     have e5:=hcl x c' hc'
     rw [hc1] at e5;cases e5
     obtain ⟨o,ho,hd⟩:=hc2
     exact ⟨u,ru,.inr ⟨relf x hfx hkx,c,hc',o,old _ _ ho,hd⟩⟩
  ·obtain ⟨v,o,ho,hd⟩:=I2.cell x c (hcl x c e)
   exact ⟨v,o,old _ _ ho,hd⟩
  ·show upd H2 s2.heap.objs.size (.lst []) P2.objs.size=none
   rw [bE (show P2.objs.size≠s2.heap.objs.size by rw [hCs];exact Nat.succ_ne_self _)]
   exact I2.hok.fresh (show s2.heap.objs.size<=P2.objs.size by rw [hCs];exact Nat.le_succ _)
  ·have e':=hcl x c e
   obtain ⟨v,o,ho,hd⟩:=I2.cell x c e'
   rw [bE (Nat.ne_of_lt (Heap.lt_size ho))]
   exact I2.freeC x c e'
 have st1:tn 0 h₁:=T.keep 0 _ _ st2 fun b hb o e=>old b o e
 have fr1:∀ b∈fp,upd H2 s2.heap.objs.size (.lst []) b=none:=fun b hb=>by rw [bE (Nat.ne_of_lt (fpl b hb))];exact (f2 b hb).1
 have fin:∀ (H3:Hp) (s4:Shared),Inv (eH X N scope cl P2.objs.size s2 H2 fp) [] (eO k ix σ) H3 s4->∀ h':Heap,Heap.SameBut P2.objs.size s4.heap h'->Inv X pins σ H3 { s4 with heap:=h' }:=fun H3 s4 I4 h' sb=>by
  have kp:∀ b o,b < s2.heap.objs.size->s4.heap.get? b=some o->h'.get? b=some o:=fun b o hb e=>sb.extBut b o (below b hb) e
  have u:Un (gG X.stack) fp H2 H3 s2.heap s4.heap:=I4.base
  refine I2.call' (ch:=fp) (H':=H3) I4.os ⟨fun b o q n hb hx=>kp b o (Heap.lt_size q) (u.keep b o q n hb hx),fun b o q n hb hx=>?_,u.free,fun b o q hx=>?_,u.tups,u.frzs,u.tbls⟩ (fun a o e=>?_) I4.bare fun b hb=>⟨(f2 b hb).2.2.2.1,(f2 b hb).2.1,(f2 b hb).2.2.2.2.1,(f2 b hb).2.2.2.2.2⟩
  ·obtain ⟨sl,e⟩:=u.slot b o q n hb hx
   exact ⟨sl,kp b _ (Heap.lt_size q) e⟩
  ·obtain ⟨o',e⟩:=u.there b o q hx
   exact ⟨o',kp b _ (Heap.lt_size q) e⟩
  ·have nC:H3 P2.objs.size=none:=I4.free
   refine (I4.hok a o e).stay (fun b z hb q=>sb.extBut b z ?_ q) (fun _ q=>q) fun _ _ q=>q
   rcases hb with rfl | hb
   ·exact bR e nC
   ·exact bR hb nC
 have loop:∀ tk,codeAny (model X.prog X.w) X.A (.compLoop (.ListComp elt [⟨tg,iter,ifs,0⟩] scope pos) 0 (.ref it) (.ref s2.heap.objs.size) (compEnvC scope cl P2.objs.size X.env))
   (compPost (model X.prog X.w) X.A X.xe use QQ (.ref s2.heap.objs.size) P2.objs.size) { s2 with heap:=h₁,toks:=tk }:=fun tk=>by
  refine F8 (fun n s'=>∃ i H',Inv (eH X N scope cl P2.objs.size s2 H2 fp) [] (eO k ix σ) H' s'/\tn i s'.heap/\(∀ b∈fp,H' b=none)/\W i n H') ?_ m0 ⟨0,_,Istart tk,st1,fr1,w0⟩
  rintro n s3 ⟨i,H3,I3,st3,fr3,w3⟩
  rcases turn i n H3 w3 with ⟨stop,q⟩ | ⟨go,step⟩
  ·refine bB (T.done (eH X N scope cl P2.objs.size s2 H2 fp) rfl rfl rfl hc i [] s3 _ H3 (fun _ _=>False) I3 (stat fr3) st3 stop) fun r s4 ⟨hr,I4⟩=>?_
   subst hr
   obtain ⟨m,hn,_⟩:=I4.loc
   refine end_ s2.heap.objs.size P2.objs.size H3 s4 (fin H3 s4 I4 s4.heap (Heap.SameBut.refl ..)) ⟨m,hn⟩ I4.free (Ne.symm (below _ I2.lt)) (Nat.le_trans I2.sz (show s2.heap.objs.size<=P2.objs.size by rw [hCs];exact Nat.le_succ _)) (fun x c e=>?_) (fun p hp=>below _ (Heap.lt_size (I2.pin p hp).1)) (fin H3 s4 I4) q
   obtain ⟨v,o,ho,_⟩:=I2.cell x c e
   exact below _ (Heap.lt_size ho)
  ·refine bB (T.item (eH X N scope cl P2.objs.size s2 H2 fp) rfl rfl rfl hc i [] s3 _ H3 (fun _ _=>False) I3 (stat fr3) st3 go) fun r s4 ⟨u,hr,h4⟩=>?_
   subst hr
   refine bB h4 fun _ s5 ⟨x,H5,I5,r5,y5,st5,fr5⟩=>?_
   have I5':=I5.pinned (stat fr5) (T.obj _ _ st5)
   refine bB (hg cl P2.objs.size s2 H2 fp _ s5 _ H5 x u _ I5' r5 (gk _ _ _ _ (step x H5 y5))) fun _ s6 ⟨σ6,H6,I6,ag,q6⟩=>?_
   have again:∀ {s7:Shared} {H7:Hp} {m':Nat},Inv (eH X N scope cl P2.objs.size s2 H2 fp) ([]++uQ fp s5.heap) σ6 H7 s7->m' < n->W (i + 1) m' H7->∃ m,m < n/\∃ i H',Inv (eH X N scope cl P2.objs.size s2 H2 fp) [] (eO k ix σ) H' s7/\tn i s7.heap/\(∀ b∈fp,H' b=none)/\W i m H':=fun {s7 H7 m'} I7 hm w7=>by
    refine ⟨m',hm,i + 1,H7,(I7.unpinned).weak (by rw [σl];exact (I7.len).symm) (fun j v e=>?_),T.keep _ _ _ st5 fun b hb o e=>(I7.pin (b,o) (List.mem_append_right _ (List.mem_append_right _ (lB hb e)))).1,fun b hb=>?_,w7⟩
    ·by_cases hj:j < k
     ·exfalso
      unfold eO at e
      rw [List.getElem?_append_left (by simpa using hj),List.getElem?_replicate] at e
      split at e <;> cases e
     ·rw [ag j (by omega)];exact e
    ·obtain ⟨o,e,d⟩:=T.obj _ _ st5 b hb
     exact (I7.pin (b,o) (List.mem_append_right _ (List.mem_append_right _ (lB hb e)))).2.1
   refine bB (hif cl P2.objs.size s2 H2 fp _ s6 σ6 H6 _ I6 q6) fun ok s7 ⟨H7,I7,q7⟩=>?_
   cases ok with
   | false =>
    obtain ⟨m',hm,w7⟩:=q7
    exact again I7 hm w7
   | true =>
    refine bB (he cl P2.objs.size s2 H2 fp _ s7 σ6 H7 _ I7 q7) fun y s8 ⟨yv,H8,I8,r8,ys,hD8,hz8,m',hm,w8⟩=>?_
    refine bB (x8 _ s8 σ6 H8 (.ref s2.heap.objs.size) [yv] (.ref s2.heap.objs.size) [y] (fun v H9=>H9=upd H8 s2.heap.objs.size (.lst (ys++[yv]))) I8 rfl (.cons r8 .nil) ⟨_,ys,yv,rfl,rfl,hD8,hz8,rfl⟩) fun _ s9 ⟨_,H9,I9,_,e9⟩=>?_
    subst e9
    exact again I9 hm w8
 exact codeAny_compStart_list (loop _) (T.self _ 0 _ _ _ st1 (loop _))
theorem QF {X:Cx} {tg elt iter:Expr} {ifs:List Expr} {scope:Scope} {pos:Pos} {N:List Str} {k:Nat} {ix:List Nat} {wi:TI} {g:TG} {tc:TT} {te:TE}
  (hc:X.calm=true) (hi:PI X tg iter wi) (gk:GK k g)
  (hk:scope.kind=.function) (hcell:∀ y∈scope.names,y.2≠.cell) (hnames:∀ y∈scope.names,y.2=.local->scope.names.lookup y.1=some .local)
  (hfree:∀ y∈scope.names,y.2=.free->X.env.kindOf y.1=some .cell\/X.env.kindOf y.1=some .free)
  (hone:∀ y∈scope.names,y.2=.free->scope.names.lookup y.1=some .free)
  (hN:∀ (j:Nat) x,N[k + j]?=some x->∃ i,ix[j]?=some i/\X.N[i]?=some x)
  (hcap:∀ (j:Nat) x,N[k + j]?=some x->scope.names.lookup x=some .free)
  (hlen:N.length=k + ix.length)
  (hg:∀ cl C s H fp,PG (eH X N scope cl C s H fp) tg g)
  (hif:∀ cl C s H fp,G4 (eH X N scope cl C s H fp) ifs tc)
  (he:∀ cl C s H fp,PE (eH X N scope cl C s H fp) elt te)
  (hs:∀ x,foldedSetIterable iter X.env x=pure x:=by intro _;rfl) :
  PE X (.ListComp elt [⟨tg,iter,ifs,0⟩] scope pos) (Dw k ix wi g tc te):=by
 intro pins s σ H Q I h
 rw [eval_ListComp]
 refine Cs (use:=none) hc hi gk hk hcell hnames hfree hone hN hcap hlen hg hif he hs I h fun D C H3 s4 I4 ⟨m,hn⟩ _ _ _ _ _ fin q=>?_
 exact ⟨m,hn,fun h' sb=>⟨.ref D,H3,fin h' sb,rfl,q⟩⟩
theorem Rf {X:Cx} {tg elt iter:Expr} {ifs:List Expr} {scope:Scope} {pos spos py:Pos} {N:List Str} {k:Nat} {ix:List Nat} {wi:TI} {g:TG} {tc:TT} {te:TE} {i:Nat} {y:Str}
  (hc:X.calm=true) (hi:PI X tg iter wi) (gk:GK k g)
  (hk:scope.kind=.function) (hcell:∀ y∈scope.names,y.2≠.cell) (hnames:∀ y∈scope.names,y.2=.local->scope.names.lookup y.1=some .local)
  (hfree:∀ y∈scope.names,y.2=.free->X.env.kindOf y.1=some .cell\/X.env.kindOf y.1=some .free)
  (hone:∀ y∈scope.names,y.2=.free->scope.names.lookup y.1=some .free)
  (hN:∀ (j:Nat) x,N[k + j]?=some x->∃ i,ix[j]?=some i/\X.N[i]?=some x)
  (hcap:∀ (j:Nat) x,N[k + j]?=some x->scope.names.lookup x=some .free)
  (hlen:N.length=k + ix.length)
  (hg:∀ cl C s H fp,PG (eH X N scope cl C s H fp) tg g)
  (hif:∀ cl C s H fp,G4 (eH X N scope cl C s H fp) ifs tc)
  (he:∀ cl C s H fp,PE (eH X N scope cl C s H fp) elt te)
  (hs:∀ x,foldedSetIterable iter X.env x=pure x) (hsw:swapsWith (.ListComp elt [⟨tg,iter,ifs,0⟩] scope pos) (some (.Name y py)) spos.line X.env=pure true)
  (hNd:X.N.Nodup) (hiy:X.N[i]?=some y) (hy:Loc X.env.scope y) (hf:X.fn y=true\/X.env.scope.names.lookup y=some .local) :
  PS X (.Assign [.Name y py] (.ListComp elt [⟨tg,iter,ifs,0⟩] scope pos) spos) (IY (Dw k ix wi g tc te) (u7 i)):=by
 intro pins s σ H D I h
 rw [exec_Assign_Name_used _ _ _ _ hsw]
 refine wpAny_bind (wpAny_standAt (wpAny_bind ?_))
 show wpAny _ X.A (do let _ <- comprehension (.ListComp elt [⟨tg,iter,ifs,0⟩] scope pos) scope X.env _ (newList []) false (eval iter X.env) (some (assign (.Name y py) X.env))) _ _ s
 refine wpAny_bind (wpAny_mono (Cs (use:=some (assign (.Name y py) X.env)) (QQ:=fun _ s'=>SP X pins D .next s') hc hi gk hk hcell hnames hfree hone hN hcap hlen hg hif he hs I h fun A C H3 s4 I4 hn nC nL sC cC pC fin q=>?_) (fun _ s' hq=>wpAny_pure (wpAny_pure hq)) fun _ _ e=>e)
 show wpAny _ X.A (assign (.Name y py) X.env (.ref A)) _ _ _
 refine wpAny_assign_Name (CQ (i:=i) (v:=.ref A) I4 hNd hiy hy rfl (fun s5 I5 ⟨a,sb,ha⟩=>?_) hf)
 obtain ⟨m,hn⟩:=hn
 have aC:C≠a:=by
  rcases ha with z | z
  ·rw [z];exact nL
  ·exact fun e=>cC y a z e.symm
 refine ⟨m,hn.at' fun o e=>sb.extBut C o aC e,fun h' sb'=>?_⟩
 exact ⟨_,H3,I5.turned (t':=s5.toks) (fun b o hb e=>sb'.extBut b o hb e) nC nL (.inr sC) cC pC,q⟩
section
variable {X:Cx}
theorem G1:cZ X (binaryOp .Add) (HZ X.K):=by
 intro pins s σ H x y v u Q I rx ry h
 obtain ⟨l,b,xs,zs,rfl,rfl,hH,hB,hz,q⟩:=h
 cases rx
 cases ry
 obtain ⟨its,r,p,hl⟩:=I.list hH
 obtain ⟨its2,r2,p2,hl2⟩:=I.list hB
 obtain ⟨⟨cls,dd,data,sl⟩,n,ho,hc,_,hd⟩:=p
 obtain ⟨⟨cls2,dd2,data2,sl2⟩,n2,ho2,hc2,_,hd2⟩:=p2
 simp only at hc hd hc2 hd2
 subst hc hd hc2 hd2
 have q1:=r.length
 have q2:=r2.length
 have e:its.toArray++its2.toArray=(its++its2).toArray:=by simp
 refine concat_meets ⟨_,ho,rfl⟩ ⟨_,ho2,rfl⟩ noFill_list_add seq_list_add PySem.F.slot_list_add PySem.F.entry_list_add (PySem.F.args_list_add_2 _ _) (list_addW l b its.toArray its2.toArray n n2 dd dd2 sl sl2 (by rw [List.size_toArray,List.size_toArray];omega)) ⟨ho,ho2,?_⟩
 rw [e]
 exact ⟨.ref _,_,I.lnew (t':=s.toks) (r.append r2) (by rw [List.length_append];omega),rfl,q _ I.fresh⟩
theorem Fu:cZ X (binaryOp .Add) (DK X.K):=by
 intro pins s σ H x y v u Q I rx ry h
 obtain ⟨a,b,xs,ys,rfl,rfl,ha,hb,hz,q0,q1,q2⟩:=h
 by_cases hx:xs=[]
 ·cases rx
  cases ry
  obtain ⟨its,r1,p1,_⟩:=I.tuple ha
  obtain ⟨its2,r2,p2,_⟩:=I.tuple hb
  obtain ⟨⟨cls,dd,data,sl⟩,ho,hc,n,hd⟩:=p1
  obtain ⟨⟨cls2,dd2,data2,sl2⟩,ho2,hc2,n2,hd2⟩:=p2
  simp only at hc hd hc2 hd2
  subst hc hd hc2 hd2
  have e:its=[]:=r1.nil_iff.mpr hx
  exact concat_meets ⟨_,ho,rfl⟩ ⟨_,ho2,rfl⟩ noFill_tuple_add seq_tuple_add PySem.F.slot_tuple_add PySem.F.entry_tuple_add (PySem.F.args_tuple_add_2 _ _) (tuple_addW0 a b its.toArray its2.toArray n n2 dd dd2 sl sl2 (by rw [e];rfl)) ⟨ho,ho2,.ref b,H,I,rfl,q0 hx⟩
 ·exact RX pins s σ H _ _ v u Q I rx ry ⟨a,b,xs,ys,rfl,rfl,ha,hb,hx,hz,q1 hx,q2 hx⟩
theorem UL:Ak X (fun x lo hi H Q=>∃ z:Str,x=.str z/\z.length<=sizeLine/\Q (.str (Txt.slice z lo hi)) H):=by
 intro pins s σ H x v vl vu lo hi sl Q I rx hs pl pu h
 obtain ⟨z,rfl,hz,q⟩:=h
 obtain ⟨t,rfl⟩:=rx
 refine ⟨"str",_,F.slot_str_getitem.lookup,typeIs_str _ _ _,?_⟩
 have fin:∀ t' k,EP X pins σ Q (.str (Txt.slice z lo hi) t') { s with toks:=k }:=fun t' k=>⟨.str (Txt.slice z lo hi),H,I.tok k,⟨t',rfl⟩,q⟩
 cases pl with
 | none=>cases pu with
  | none=>exact wpAny_getItem_str_slice (l:=none) (u:=none) (st:=none) hs rfl (post_val_or_str ⟨Nat.le_trans (Txt.slice_le z _ _) hz,fun t' k=>fin t' k⟩)
  | int j uj=>exact wpAny_getItem_str_slice (l:=none) (u:=some (j,uj)) (st:=none) hs rfl (post_val_or_str ⟨Nat.le_trans (Txt.slice_le z _ _) hz,fun t' k=>fin t' k⟩)
 | int i ui=>cases pu with
  | none=>exact wpAny_getItem_str_slice (l:=some (i,ui)) (u:=none) (st:=none) hs rfl (post_val_or_str ⟨Nat.le_trans (Txt.slice_le z _ _) hz,fun t' k=>fin t' k⟩)
  | int j uj=>exact wpAny_getItem_str_slice (l:=some (i,ui)) (u:=some (j,uj)) (st:=none) hs rfl (post_val_or_str ⟨Nat.le_trans (Txt.slice_le z _ _) hz,fun t' k=>fin t' k⟩)
theorem So:Ak X (Th X.K):=R6.or (U3.or UL)
theorem Lq (hc:X.calm=true):tI X (.builtin "all") (fun xs H Q=>∃ (p:Addr) (bs:List Bool),xs=[.ref p]/\fB X.K H p (bs.map V.bl)/\Q (.bl (bs.all fun b=>b)) H):=by
 intro pins s σ H xs us Q I r h
 obtain ⟨a,bs,rfl,ha,q⟩:=h
 obtain ⟨u,rfl,ru⟩:=vals1 r
 cases ru
 obtain ⟨its,rv,p,hz⟩:=I.list ha
 have hl:=rv.length
 have hne:a≠s.heap.objs.size:=by
  obtain ⟨o,n,e,_⟩:=p
  exact Nat.ne_of_lt (Heap.lt_size e)
 refine call_all_walk (wpAny_pyIter_list p.isList ?_)
 refine ⟨s.heap.objs.size,_,_,_,_,_,fun i=>(bs[i]?).getD false,rfl,Walks.list (show X.A.in1.handled=none from I.ok.hd hc) s.heap.objs.size a hne its.toArray,⟨⟨_,Heap.get?_push_size _ rfl,rfl,rfl⟩,?_⟩,?_,fun h' tk k=>?_⟩
 ·obtain ⟨o,n,e,c,d,z⟩:=p
  exact ⟨o,Heap.get?_push_of_some _ e,c,n,z⟩
 ·intro i v s' Q' E' hP hQ
  have hv:its[i]?=some v:=by simpa using hP
  have hi:i < bs.length:=by
   have:=(List.getElem?_eq_some_iff.mp hv).1
   rw [<- hl] at this;simpa using this
  obtain ⟨u,hu,ru⟩:=rv.get (i:=i) (x:=.bl bs[i]) (by simp [hi])
  rw [hv] at hu;cases hu
  cases ru
  refine wpAny_truthy_bool ?_
  have:(bs[i]?).getD false=bs[i]:=by simp [hi]
  rw [<- this];exact hQ
 ·have e:(List.range its.toArray.size).all (fun i=>(bs[i]?).getD false)=bs.all fun b=>b:=by
   have:its.toArray.size=bs.length:=by rw [List.size_toArray,<- hl,List.length_map]
   rw [this]
   clear this hl rv p hz k
   rw [Bool.eq_iff_iff]
   simp only [List.all_eq_true,List.mem_range]
   constructor
   ·intro h b hb
    obtain ⟨i,hi,rfl⟩:=List.mem_iff_getElem.mp hb
    have:=h i hi
    simpa [hi] using this
   ·intro h i hi
    have:=h bs[i] (List.getElem_mem hi)
    simpa [hi] using this
  rw [e]
  exact ⟨.bl _,H,I.kept (t':=tk) (fun b o e=>k b o (fun z=>Nat.lt_irrefl _ (Nat.lt_of_lt_of_le (Heap.lt_size e) (Nat.le_of_eq (show s.heap.objs.size=b from (List.mem_singleton.mp z).symm)))) (Heap.get?_push_of_some _ e)),rfl,q⟩
end
end U2
namespace U2
open PySem PySem.Spec PyProof.Rows L2
structure Dat where
 prog:Program
 w:World
 K:PySem.W.Frag
 mg:Str->Option Value
 base:Heap
 N:List Str
 sc:Scope
 k:Nat
 fn:Bool
 cod:Value:=.none
 qual:Str:=""
structure kN (D:Dat) (X:Cx):Prop where
 prog:X.prog=D.prog
 w:X.w=D.w
 K:X.K=D.K
 mg:X.mg=D.mg
 base:X.base=D.base
 N:X.N=D.N
 sc:X.env.scope=D.sc
 room:cX D.k X.A
 calm:X.calm=true
 xe:X.xe=fun _ _=>False
 fn:D.fn=true->∀ x,X.fn x=true
 cod:D.cod≠.none->X.env.code=D.cod/\X.env.qual=D.qual
 dl:D.fn=true->X.ex=[]/\X.stack=X.env :: X.outer/\X.env.frame=some X.env.locals
def bC (D:Dat) (e:Expr) (t':UE):Prop:=∃ t,(∀ X,kN D X->PE X e t)/\bV D.K t t'
def pH (D:Dat) (e:Expr) (t':UT):Prop:=∃ t,(∀ X,kN D X->PT X e t)/\kL D.K t t'
def jU (D:Dat) (e:Expr) (t':UT):Prop:=∃ t,(∀ X,kN D X->PW X e t)/\kL D.K t t'
def kS (D:Dat) (es:List Expr) (t':UA):Prop:=∃ t,(∀ X,kN D X->PA X es t)/\mN D.K t t'
def tH (D:Dat) (s:Stmt) (t':US):Prop:=∃ t,(∀ X,kN D X->PS X s t)/\jX D.K t t'
def oC (D:Dat) (s:List Stmt) (t':US):Prop:=∃ t,(∀ X,kN D X->mZ X s t)/\jX D.K t t'
def CF (D:Dat) (k:Nat) (e:Expr) (g':UG):Prop:=∃ g,(∀ X,kN D X->PG X e g)/\xN D.K g g'/\GK k g/\∀ x σ H Q Q',(∀ σ2 H2,Q σ2 H2->Q' σ2 H2)->g x σ H Q->g x σ H Q'
def Ji (D:Dat) (k:Nat) (es:List Expr) (g':AY):Prop:=∃ g,(∀ X,kN D X->LS X es g)/\AX D.K g g'/\Le k g/\∀ x σ H Q Q',(∀ σ2 H2,Q σ2 H2->Q' σ2 H2)->g x σ H Q->g x σ H Q'
def Bw (D:Dat) (tg e:Expr) (t':UI):Prop:=∃ t,(∀ X,kN D X->PI X tg e t)/\v3 D.K t t'
def PV (D:Dat) (e:Option Expr) (t':UO):Prop:=∃ t,(∀ X,kN D X->PO X e t)/\EW D.K t t'
def Ih (D:Dat) (es:List Expr) (t':UT):Prop:=∃ t,(∀ X,kN D X->G4 X es t)/\kL D.K t t'
section
variable {D:Dat} {a b c e o:Expr} {ta tb tc te:UE} {pos:Pos}
theorem uv (i:Nat) {x:Str} (hN:D.N[i]?=some x:=by rfl) (hv:A7 D.sc x:=by first | exact Or.inl rfl | exact Or.inr (Or.inl rfl) | exact Or.inr (Or.inr rfl)) (hd:(x == ("__debug__":Str))=false:=by decide)
  (hcd:(x == ("__classdict__":Str))=false:=by decide):bC D (.Name x pos) (jR i) :=
 ⟨_,fun X h=>nH (by rw [h.N];exact hN) (by rw [h.sc];exact hv) hd hcd,y7 i⟩
theorem aJ {i j}:bC D (.Constant (.int i) j pos) (uC (.int i)):=⟨_,fun X h=>T7,GO⟩
theorem pQ {i j}:bC D (.Constant (.bool i) j pos) (uC (.bl i)):=⟨_,fun X h=>VG,TJ⟩
theorem b8 {i j}:bC D (.Constant (.str i) j pos) (uC (.str i)):=⟨_,fun X h=>KU,Hq⟩
theorem G5 {j}:bC D (.Constant .none j pos) (uC .non):=⟨_,fun X h=>SN,QT⟩
theorem lY {x:Str} {i:Int} {t:Tok} (hm:D.mg x=some (.int i t)) (hg:D.sc.names.lookup x=some .globalImplicit:=by rfl) (hd:(x == ("__debug__":Str))=false:=by decide):bC D (.Name x pos) (uC (.int i)) :=
 ⟨_,fun X h=>Cb (v:=.int i) (by show X.env.scope.names.lookup x=_;rw [h.sc];exact hg) (by rw [h.mg];exact hm) ⟨t,rfl⟩ hd,GO⟩
theorem A6 {x:Str} {i:Str} {t:Tok} (hm:D.mg x=some (.str i t)) (hg:D.sc.names.lookup x=some .globalImplicit:=by rfl) (hd:(x == ("__debug__":Str))=false:=by decide):bC D (.Name x pos) (uC (.str i)) :=
 ⟨_,fun X h=>Cb (v:=.str i) (by show X.env.scope.names.lookup x=_;rw [h.sc];exact hg) (by rw [h.mg];exact hm) ⟨t,rfl⟩ hd,Hq⟩
theorem uO {x:Str} {f:Addr} (hm:D.mg x=some (.ref f)) (hg:D.sc.names.lookup x=some .globalImplicit:=by rfl) (hd:(x == ("__debug__":Str))=false:=by decide):bC D (.Name x pos) (uC (.ref f)) :=
 ⟨_,fun X h=>Cb (v:=.ref f) (by show X.env.scope.names.lookup x=_;rw [h.sc];exact hg) (by rw [h.mg];exact hm) rfl hd,RR⟩
theorem iV {x:Str} {n:String} (hm:D.mg x=none) (hv:bootBuiltins x=some (.type n):=by kernel_rfl) (hg:D.sc.names.lookup x=some .globalImplicit:=by rfl) (hn:x≠"__name__":=by decide) (hd:(x == ("__debug__":Str))=false:=by decide):bC D (.Name x pos) (uC (.ty n)) :=
 ⟨_,fun X h=>RN (v:=.ty n) (by show X.env.scope.names.lookup x=_;rw [h.sc];exact hg) (by rw [h.mg];exact hm) hv rfl hn hd,SJ⟩
theorem y8 {op:Operator} {r:R2} {r':eC} (ho:∀ X,kN D X->cZ X (binaryOp op) r) (hr:fE D.K r r') (ha:bC D a ta) (hb:bC D b tb):bC D (.BinOp a op b pos) (gF r' ta tb):=by
 obtain ⟨x,p,s⟩:=ha;obtain ⟨y,q,r⟩:=hb
 exact ⟨_,fun X h=>VD (ho X h) (p X h) (q X h),yH hr s r⟩
theorem nS (ha:bC D a ta) (hb:bC D b tb):bC D (.BinOp a .Sub b pos) (gF (rS fun i j=>.int (i - j)) ta tb):=y8 (fun _ _=>TN) EK ha hb
theorem cM (ha:bC D a ta) (hb:bC D b tb):bC D (.BinOp a .Mod b pos) (gF (uI (fun _ j=>0 < j) fun i j=>.int (i % j)) ta tb):=y8 (fun _ _=>Ur) sO ha hb
theorem Br (ha:bC D a ta) (hb:bC D b tb):bC D (.BinOp a .Pow b pos) (gF (uI Sg fun i j=>.int (i ^ j.toNat)) ta tb):=y8 (fun _ _=>Sh) sO ha hb
def oQ (o:Bool):eC:=fun x y M Q=>match x,y with
 | .int i,.int j=>Q (.int (i + j)) M
 | .str i,.str j=>i.length + j.length<=sizeLine/\Q (.str (i++j)) M
 | .tup us,.tup ws=>us.length + ws.length<=sizeLine/\Q (.tup (us++ws)) M
 | x,y=>o7 o x y M Q
def Iq (K:PySem.W.Frag):R2:=fun x y H Q=>yV (fun i j=>.int (i + j)) x y H Q\/((∃ i j,x=.str i/\y=.str j/\i.length + j.length<=sizeLine/\Q (.str (i++j)) H)\/(DK K x y H Q\/HZ K x y H Q))
theorem GU {K:PySem.W.Frag} {o:Bool}:fE K (Iq K) (oQ o):=fun x y u w H M Q' rm ru rw h Q c=>by
 unfold oQ at h
 split at h
 ·exact .inl (EK x y _ _ H M Q' rm ru rw h Q c)
 ·exact .inr (.inl (NN x y _ _ H M Q' rm ru rw h Q c))
 ·exact .inr (.inr (.inl (NI x y _ _ H M Q' rm ru rw h Q c)))
 ·exact .inr (.inr (.inr (OR x y _ _ H M Q' rm ru rw h Q c)))
theorem aQ (own:Bool:=false) (ha:bC D a ta) (hb:bC D b tb):bC D (.BinOp a .Add b pos) (gF (oQ own) ta tb) :=
 y8 (r:=Iq D.K) (fun X h=>by have:=J8.or (A5.or ((Fu (X:=X)).or (G1 (X:=X))));rw [h.K] at this;exact this) GU ha hb
theorem Vl {op:CmpOp} {r:R2} {r':eC} (ho:∀ X,kN D X->cZ X (compareOp op) r) (hr:fE D.K r r') (ha:bC D a ta) (hb:bC D b tb) (hm:behindInMarks op b=false):bC D (.Compare a [op] [b] pos) (gF r' ta tb):=by
 obtain ⟨x,p,s⟩:=ha;obtain ⟨y,q,r⟩:=hb
 exact ⟨_,fun X h=>RD (ho X h) (p X h) (q X h) hm,yH hr s r⟩
theorem Sz {op:CmpOp} {r:R2} {r':eC} (ho:∀ X,kN D X->cZ X (compareOp op) r) (hr:fE D.K r r') (ha:bC D a ta) (hb:bC D b tb) (hm:behindInMarks op b=false):pH D (.Compare a [op] [b] pos) (m9 (gF r' ta tb)):=by
 obtain ⟨x,p,s⟩:=ha;obtain ⟨y,q,r⟩:=hb
 exact ⟨_,fun X h=>Qf (ho X h) (p X h) (q X h) hm,Eg (yH hr s r)⟩
abbrev EH:eC:=rS fun i j=>.bl (decide (i < j))
abbrev CB:eC:=rS fun i j=>.bl (decide (i<=j))
abbrev CT:eC:=rS fun i j=>.bl (decide (j < i))
abbrev DT:eC:=rS fun i j=>.bl (decide (j<=i))
structure pR (D:Dat) (op:CmpOp) (r':eC):Prop where
 ex:∃ r:R2,(∀ X,kN D X->cZ X (compareOp op) r)/\fE D.K r r'
theorem jJ:pR D .LtE CB:=⟨⟨_,fun _ _=>VY,xY⟩⟩
theorem DV:pR D .Gt CT:=⟨⟨_,fun _ _=>Wk,xY⟩⟩
theorem Py:pR D .Is tS:=⟨⟨_,fun _ _=>Uj,Qc⟩⟩
def xI (neg:Bool):eC:=fun x y M Q=>match x,y with
 | .str i,.str j=>Q (.bl (if neg then !(!(Builtin.Str.occurrences j i 0 j.length 1).isEmpty) else !(Builtin.Str.occurrences j i 0 j.length 1).isEmpty)) M
 | _,_=>False
theorem HV:pR D .In (xI false):=⟨⟨_,fun _ _=>Mn,fun x y u w H M Q' rm ru rw h Q c=>by
 cases u with
 | str i=>cases w with
  | str j=>exact ⟨i,j,ru.str,rw.str,c.here rm cY h⟩
  | _=>exact h.elim
 | _=>exact h.elim⟩⟩
theorem gM {op:CmpOp} {r':eC} (k:pR D op r') (ha:bC D a ta) (hb:bC D b tb) (hm:behindInMarks op b=false:=by first | exact Ls _ | with_unfolding_all rfl):bC D (.Compare a [op] [b] pos) (gF r' ta tb) :=
 let ⟨_,h1,h2⟩:=k.ex;Vl h1 h2 ha hb hm
theorem bW {op:CmpOp} {r':eC} (k:pR D op r') (ha:bC D a ta) (hb:bC D b tb) (hm:behindInMarks op b=false:=by first | exact Ls _ | with_unfolding_all rfl):pH D (.Compare a [op] [b] pos) (m9 (gF r' ta tb)) :=
 let ⟨_,h1,h2⟩:=k.ex;Sz h1 h2 ha hb hm
theorem Wr {op op':CmpOp} {r r':eC} (k:pR D op r) (k':pR D op' r') (ha:bC D a ta) (hb:bC D b tb) (hc:bC D c tc) (hm:lastMarks [op,op'] [b,c]=false:=by with_unfolding_all rfl) :
  bC D (.Compare a [op,op'] [b,c] pos) (mC r r' ta tb tc):=by
 obtain ⟨x,p,s⟩:=ha;obtain ⟨y,q,r⟩:=hb;obtain ⟨z,u,v⟩:=hc
 obtain ⟨_,h1,h2⟩:=k.ex
 obtain ⟨_,h3,h4⟩:=k'.ex
 exact ⟨_,fun X h=>Ot (h1 X h) (h3 X h) (p X h) (q X h) (u X h) hm,CJ h2 h4 s r v⟩
theorem Du {op op':CmpOp} {r r':eC} (k:pR D op r) (k':pR D op' r') (ha:bC D a ta) (hb:bC D b tb) (hc:bC D c tc) (hm:lastMarks [op,op'] [b,c]=false:=by with_unfolding_all rfl) :
  pH D (.Compare a [op,op'] [b,c] pos) (m9 (mC r r' ta tb tc)):=by
 obtain ⟨x,p,s⟩:=ha;obtain ⟨y,q,r⟩:=hb;obtain ⟨z,u,v⟩:=hc
 obtain ⟨_,h1,h2⟩:=k.ex
 obtain ⟨_,h3,h4⟩:=k'.ex
 exact ⟨_,fun X h=>MM (h1 X h) (h3 X h) (p X h) (q X h) (u X h) hm,Eg (CJ h2 h4 s r v)⟩
theorem cQ (ha:bC D a ta) (he:∀ env whole,isTrue a env whole=(do let v <- whole;standAt a.pos;holding [v] (truthy v)):=by intro _ _;rfl):pH D a (wV ta):=by
 obtain ⟨x,p,s⟩:=ha
 refine ⟨_,fun X h=>?_,R0 s⟩
 have:=NL (p X h) (he X.env)
 rw [h.K] at this
 exact this
theorem jU.pt {t:UT} (h:jU D a t):pH D a t:=let ⟨_,p,s⟩:=h;⟨_,fun X h=>(p X h).pt,s⟩
variable {rest:List Expr} {tA tB':UT}
theorem zB (ha:pH D a tA):jU D (.BoolOp .And [a] pos) tA:=let ⟨_,p,s⟩:=ha;⟨_,fun X h=>Rz (p X h),s⟩
theorem iY (ha:pH D a tA):jU D (.BoolOp .Or [a] pos) tA:=let ⟨_,p,s⟩:=ha;⟨_,fun X h=>Tf (p X h),s⟩
theorem yM (ha:pH D a tA) (hb:jU D (.BoolOp .And (b :: rest) pos) tB'):jU D (.BoolOp .And (a :: b :: rest) pos) (u5 tA tB'):=let ⟨_,p,s⟩:=ha;let ⟨_,q,r⟩:=hb;⟨_,fun X h=>Tc (p X h) (q X h),Q3 s r⟩
theorem jH (ha:pH D a tA) (hb:jU D (.BoolOp .Or (b :: rest) pos) tB'):jU D (.BoolOp .Or (a :: b :: rest) pos) (Bk tA tB'):=let ⟨_,p,s⟩:=ha;let ⟨_,q,r⟩:=hb;⟨_,fun X h=>VF (p X h) (q X h),Tz s r⟩
theorem dB (ha:pH D a tA):pH D (.UnaryOp .Not a pos) (vO tA):=let ⟨_,p,s⟩:=ha;⟨_,fun X h=>UX (p X h),QW s⟩
theorem iZ {op} (ha:bC D a ta):bC D (.BoolOp op [a] pos) ta:=let ⟨_,p,s⟩:=ha;⟨_,fun X h=>Vs (p X h),s⟩
theorem iA (ha:bC D a ta) (hb:bC D (.BoolOp .And (b :: rest) pos) tb):bC D (.BoolOp .And (a :: b :: rest) pos) (lD ta tb):=let ⟨_,p,s⟩:=ha;let ⟨_,q,r⟩:=hb;⟨_,fun X h=>Va (p X h) (q X h),Nk s r⟩
theorem VN (ha:bC D a ta) (hb:bC D (.BoolOp .Or (b :: rest) pos) tb):bC D (.BoolOp .Or (a :: b :: rest) pos) (wY ta tb):=let ⟨_,p,s⟩:=ha;let ⟨_,q,r⟩:=hb;⟨_,fun X h=>VS (p X h) (q X h),Rt s r⟩
theorem ES (ha:bC D a ta):bC D (.UnaryOp .Not a pos) (qM ta):=let ⟨_,p,s⟩:=ha;⟨_,fun X h=>S3 (p X h),Nu s⟩
theorem VM (hc:pH D c tA) (ha:bC D a ta) (hb:bC D b tb):bC D (.IfExp c a b pos) (BF tA ta tb):=let ⟨_,p,s⟩:=ha;let ⟨_,q,r⟩:=hb;let ⟨_,u,v⟩:=hc;⟨_,fun X h=>Og (u X h) (p X h) (q X h),TQ v s r⟩
variable {es:List Expr} {tas:UA}
theorem aB:kS D [] oP:=⟨_,fun X h=>Bp,RV⟩
theorem aA (ha:bC D e te) (hr:kS D es tas) (hs:∀ env,starEach (e :: es) env=(false,eval e env) :: starEach es env:=by intro _;rfl):kS D (e :: es) (lL te tas):=let ⟨_,p,s⟩:=ha;let ⟨_,q,r⟩:=hr;⟨_,fun X h=>uH (p X h) (q X h) (hs _),MK s r⟩
theorem bD {x1} (h:kS D es tas):bC D (.Tuple es x1 pos) (vW tas):=let ⟨_,p,s⟩:=h;⟨_,fun X h=>Vn (p X h),Ri s⟩
theorem pG (own:Bool:=false) (h:kS D es tas):bC D (.List es pos) (vI own tas):=let ⟨_,p,s⟩:=h;⟨_,fun X h=>Tq (p X h),RB s⟩
theorem aW (ha:bC D a ta) (hb:bC D b tb) (hs:zE b:=by intro _ _;rfl):bC D (.Subscript a b pos) (gF tD ta tb):=by
 obtain ⟨x,p,s⟩:=ha;obtain ⟨y,q,r⟩:=hb
 refine ⟨_,fun X h=>?_,yH U8 s r⟩
 have:=Wj (pos:=pos) SX (p X h) (q X h) hs
 rw [h.K] at this
 exact this
theorem B4:PV D none lI:=⟨_,fun X h=>RY,HH⟩
theorem eA (h:bC D e te):PV D (some e) (qP te):=let ⟨_,p,s⟩:=h;⟨_,fun X h=>Ql (p X h),MP s⟩
variable {st:Stmt} {sts body body2:List Stmt} {t u:US}
theorem bA:oC D [] bL:=⟨_,fun X h=>QJ,Ni⟩
theorem aH (h1:tH D st t) (h2:oC D sts u):oC D (st :: sts) (tV t u):=let ⟨_,p,s⟩:=h1;let ⟨_,q,r⟩:=h2;⟨_,fun X h=>Fg (p X h) (q X h),Rg s r⟩
theorem aM (h1:tH D st t):oC D [st] t:=let ⟨_,p,s⟩:=h1;⟨_,fun X h=>B2 (p X h),s⟩
theorem NC:tH D (.Break pos) nO:=⟨_,fun X h=>NJ,J6⟩
theorem qY (he:bC D e te) (hs:∀ env,swapsWith e none pos.line env=pure false:=by intro _;rfl):tH D (.Expr e pos) (mD te):=let ⟨_,p,s⟩:=he;⟨_,fun X h=>Ha (p X h) (hs _),Oc s⟩
theorem aR (he:bC D e te):tH D (.Return (some e) pos) (bI te):=let ⟨_,p,s⟩:=he;⟨_,fun X h=>TV (p X h),QK s⟩
theorem cA {c:Expr} {tc:UT} (hc:pH D c tc) (ha:oC D body t) (hb:oC D body2 u):tH D (.If c body body2 pos) (u6 tc t u):=let ⟨_,p,s⟩:=ha;let ⟨_,q,r⟩:=hb;let ⟨_,x,y⟩:=hc;⟨_,fun X h=>VH (x X h) (p X h) (q X h),QN y s r⟩
theorem vR {c:Expr} {tc:UT} (hc:pH D c tc) (hb:oC D body t):tH D (.While c body [] pos) (Bd tc t):=by
 obtain ⟨_,p,s⟩:=hb;obtain ⟨_,x,y⟩:=hc
 exact ⟨_,fun X h=>MW (by rw [h.xe];exact PassesOwn.never) (x X h) (p X h),LQ y s⟩
variable {k:Nat} {g:UG} {gs:AY}
theorem cN (i:Nat) {x:Str} (hN:D.N.Nodup) (hi:D.N[i]?=some x:=by rfl) (hx:Loc D.sc x:=by first | exact Or.inl rfl | exact Or.inr rfl) (hik:i < k:=by decide) (hf:D.fn=true\/D.sc.names.lookup x=some .local:=by first | exact .inl rfl | exact .inr rfl):CF D k (.Name x pos) (hName i) :=
 ⟨_,fun X h=>RM (i:=i) (by rw [h.N];exact hN) (by rw [h.N];exact hi) (by rw [h.sc];exact hx) (by rcases hf with z | z;exact .inl (h.fn z x);exact .inr (by rw [h.sc];exact z)),tF i,RT hik,UH⟩
theorem uE:Ji D k [] sG:=⟨_,fun X h=>RW,Nf,T6,VP⟩
theorem hX (h1:CF D k e g) (h2:Ji D k es gs) (hs:∀ env,(assignEach (e :: es) env).map (·.2)=assign e env :: (assignEach es env).map (·.2):=by intro _;rfl):Ji D k (e :: es) (nV g gs) :=
 let ⟨_,p,s,x,y⟩:=h1;let ⟨_,q,r,z,w⟩:=h2;⟨_,fun X h=>Nx (p X h) (q X h) (hs _),Lk s r,Qm x z w y,TM y w⟩
theorem yX {kk:Nat} {n:Nat} (h:Ji D k es gs) (hn:∀ env,(assignEach es env).length=n:=by intro _;rfl) (hst:∀ env,(assignEach es env).findIdx? (·.1)=none:=by intro _;rfl):CF D k (.Tuple es kk pos) (kR n gs):=by
 obtain ⟨_,p,s,x,y⟩:=h
 refine ⟨_,fun X h=>?_,N4 s,TL x,Wn y⟩
 have:=Uh (pos:=pos) (k:=kk) h.calm (p X h) (hn _) (hst _)
 rw [h.K] at this
 exact this
theorem S9 {tg:Expr} (he:bC D e te) (hg:CF D k tg g) (hs:∀ env,swapsWithSole [tg] e pos.line env=pure false:=by intro _;rfl) (hw:∀ env,swappedStores [tg] e env=pure none:=by intro _;rfl)
  (h1:∀ env,(assignEach [tg] env).map (·.2)=[assign tg env]:=by intro _;rfl):tH D (.Assign [tg] e pos) (bJ te g):=let ⟨_,p,s⟩:=he;let ⟨_,q,r,_⟩:=hg;⟨_,fun X h=>K8 (p X h) (q X h) (hs _) (hw _) (h1 _),zH s r⟩
theorem aT (i:Nat) {x:Str} {pos':Pos} (hN:D.N.Nodup) (he:bC D e te) (hi:D.N[i]?=some x:=by rfl) (hx:Loc D.sc x:=by first | exact Or.inl rfl | exact Or.inr rfl) (hs:∀ env,swapsWith e (some (.Name x pos')) pos.line env=pure false:=by intro _;rfl)
  (hf:D.fn=true\/D.sc.names.lookup x=some .local:=by first | exact .inl rfl | exact .inr rfl):tH D (.Assign [.Name x pos'] e pos) (bJ te (hName i)):=by
 obtain ⟨_,p,s⟩:=he
 exact ⟨_,fun X h=>LM (i:=i) (by rw [h.N];exact hN) (by rw [h.N];exact hi) (by rw [h.sc];exact hx) (p X h) (hs _) (by rcases hf with z | z;exact .inl (h.fn z x);exact .inr (by rw [h.sc];exact z)),zH s (tF i)⟩
variable {tg iter:Expr} {wi:UI}
theorem nJ (h:bC D e te):Bw D tg e (qS te):=by
 obtain ⟨_,p,s⟩:=h
 refine ⟨_,fun X h=>?_,NF s⟩
 have:=Tt (tg:=tg) (p X h)
 rw [h.K] at this
 exact this
theorem Ca {p:Pos} {ta:UA} (hm:D.mg "range"=none) (ha:kS D [a] ta) (hg:D.sc.names.lookup ("range":Str)=some .globalImplicit:=by rfl) (hs:∀ env,starEach [a] env=[(false,eval a env)]:=by intro _;rfl):Bw D tg (.Call (.Name "range" p) [a] [] pos) (qO ta):=by
 obtain ⟨_,q,s⟩:=ha
 exact ⟨_,fun X h=>Lf (by show X.env.scope.names.lookup _=_;rw [h.sc];exact hg) (by rw [h.mg];exact hm) (q X h) (hs _),OD s⟩
theorem yU (hi:Bw D tg iter wi) (hg:CF D k tg g) (hb:oC D body t) (hs:∀ env x,foldedSetIterable iter env x=pure x:=by intro _ _;rfl):tH D (.For tg iter body [] pos) (Ik wi g t):=by
 obtain ⟨_,p,s⟩:=hi;obtain ⟨_,q,r,_⟩:=hg;obtain ⟨_,x,y⟩:=hb
 exact ⟨_,fun X h=>Sn (by rw [h.xe];exact PassesOwn.never) h.calm (p X h) (q X h) (x X h) (hs _),Rp s r y⟩
end
end U2
namespace U2
open PySem PySem.Spec PyProof.Rows L2
structure Callee (P:Program) (w:World) (K:PySem.W.Frag) (mg:Str->Option Value) (base:Heap) (j:Nat) (x:Str) (sp:cH) (dus:List U):Prop where
 ex:∃ f fd ps dvs ds,fJ P w K mg base jF j f fd ps (gE K sp)/\mg x=some (.ref f)/\PySem.W.keepIn K (.ref f)=true/\Binds K fd ps ds/\Vals dvs ds/\∀ H M,aI K H M dus dvs
abbrev Xh (D:Dat):=Callee D.prog D.w D.K D.mg D.base
section
variable {D:Dat} {a b c e o:Expr} {ta tb tc te:UE} {pos p:Pos} {es:List Expr} {tas:UA} {x:Str}
theorem bF {sp:cH} {dus:List U} {j:Nat} (F:Xh D j x sp dus) (ha:kS D (e :: es) tas) (hj:j<=D.k:=by first | exact Nat.le_refl _ | (dsimp only;omega) | omega | (dsimp only [cP];omega)) (hg:D.sc.names.lookup x=some .globalImplicit:=by rfl) (hdb:(x == ("__debug__":Str))=false:=by decide)
  (he:∀ env,starEach (e :: es) env=(false,eval e env) :: starEach es env:=by intro _;rfl) (hpl:∀ env,(backTo pos (starEach es env)).any (·.1)=false:=by intro _;rfl):bC D (.Call (.Name x p) (e :: es) [] pos) (qN sp dus tas):=by
 obtain ⟨f,fd,ps,dvs,ds,F,hm,kp,hb,hd,hr⟩:=F.ex
 obtain ⟨_,q,s⟩:=ha
 refine ⟨JP (gE D.K sp) dvs E0 _,fun X h=>?_,ML hr s⟩
 have F':fJ X.prog X.w X.K X.mg X.base jF j f fd ps (gE D.K sp):=by rw [h.prog,h.w,h.K,h.mg,h.base];exact F
 exact Q8 F' (h.room.mono hj) (by show X.env.scope.names.lookup x=_;rw [h.sc];exact hg) (by rw [h.mg];exact hm) (by rw [h.K];exact kp) (by rw [h.K];exact hb) hd Jc (q X h) hdb (he _) (hpl _)
structure D3 (D:Dat) (f:Value) (r':List U->aF->UK->Prop):Prop where
 ex:∃ r,(∀ X,kN D X->tI X f r)/\zC D.K r r'
theorem cJ {id:String} {r':List U->aF->UK->Prop} (k:D3 D (.builtin id) r') (hm:D.mg x=none) (ha:kS D (e :: es) tas) (hv:bootBuiltins x=some (.builtin id):=by kernel_rfl) (hg:D.sc.names.lookup x=some .globalImplicit:=by rfl) (hn:x≠"__name__":=by decide) (hdb:(x == ("__debug__":Str))=false:=by decide)
  (he:∀ env,starEach (e :: es) env=(false,eval e env) :: starEach es env:=by intro _;rfl) (hpl:∀ env,(backTo pos (starEach es env)).any (·.1)=false:=by intro _;rfl):bC D (.Call (.Name x p) (e :: es) [] pos) (sM r' tas):=by
 obtain ⟨r,h1,h2⟩:=k.ex
 obtain ⟨_,q,s⟩:=ha
 exact ⟨_,fun X h=>NP (h1 X h) (by show X.env.scope.names.lookup x=_;rw [h.sc];exact hg) (by rw [h.mg];exact hm) hv (q X h) hn hdb (he _) (hpl _),Kn h2 s⟩
theorem pZ {T:String} {r':List U->aF->UK->Prop} (k:D3 D (.type T) r') (hm:D.mg x=none) (ha:kS D (e :: es) tas) (hv:bootBuiltins x=some (.type T):=by kernel_rfl) (hg:D.sc.names.lookup x=some .globalImplicit:=by rfl) (hn:x≠"__name__":=by decide) (hdb:(x == ("__debug__":Str))=false:=by decide)
  (he:∀ env,starEach (e :: es) env=(false,eval e env) :: starEach es env:=by intro _;rfl) (hpl:∀ env,(backTo pos (starEach es env)).any (·.1)=false:=by intro _;rfl):bC D (.Call (.Name x p) (e :: es) [] pos) (sM r' tas):=by
 obtain ⟨r,h1,h2⟩:=k.ex
 obtain ⟨_,q,s⟩:=ha
 exact ⟨_,fun X h=>K4 (h1 X h) (by show X.env.scope.names.lookup x=_;rw [h.sc];exact hg) (by rw [h.mg];exact hm) hv (q X h) hn hdb (he _) (hpl _),Kn h2 s⟩
theorem eP:D3 D (.builtin "len") qH:=⟨⟨_,fun X h=>by have:=Nz (X:=X);rw [h.K] at this;exact this,QU⟩⟩
theorem zD:D3 D (.type "str") (pD (fun i=>i.natAbs.log2 < 1920) fun i=>.str (toString i)):=⟨⟨_,fun X h=>E7,JR⟩⟩
theorem qX:D3 D (.type "tuple") lZ:=⟨⟨_,fun X h=>by have:=C5 (X:=X);rw [h.K] at this;exact this,Lr⟩⟩
def T4 (K:PySem.W.Frag):List V->Hp->VK->Prop:=fun xs H Q=>∃ x T t b,xs=[x,.ty T]/\(oU K H x (.type t)\/(t="tuple"/\∃ p vs ob,x=.ref p/\H p=some (.frz ob (.tup vs)))\/(t="tuple"/\∃ p vs,x=.ref p/\KT K p vs)\/(t="list"/\∃ p vs,x=.ref p/\KL K p vs)\/(t="dict"/\∃ p ob u,x=.ref p/\H p=some (.frz ob u)/\Oe u=true))/\PySem.W.kitOne K (.type t) (.type T)=some b/\Q (.bl b) H
theorem NV {X:Cx}:tI X (.builtin "isinstance") (T4 X.K):=by
 intro pins s σ H xs us Q I r h
 obtain ⟨x,T,t,b,rfl,ty,e,q⟩:=h
 obtain ⟨u,w',rfl,ru,rw'⟩:=vals2 r
 cases rw'
 rcases ty with ty | ⟨rfl,p,vs,ob,rfl,m⟩ | ⟨rfl,p,vs,rfl,o,its,n,hk,hc,hd,_,_⟩ | ⟨rfl,p,vs,rfl,o,its,n,hk,hc,_,hd,_,_⟩ | ⟨rfl,p,ob,du,rfl,m,dk⟩
 ·exact LC I ru ty e fun tk=>⟨.bl b,H,I.tok tk,rfl,q⟩
 ·cases ru
  obtain ⟨_,_,_,_,o,h1,h2,_⟩:=(show dI X.prog X.w H s.heap p (.frz ob (.tup vs)) from I.hok p _ m)
  exact PySem.W.kia_one PySem.W.kitx_tuple I.kIn ⟨o,h1,h2⟩ e (fun z=>nomatch z) fun tk=>⟨.bl b,H,I.tok tk,rfl,q⟩
 ·cases ru
  exact PySem.W.kia_one PySem.W.kitx_tuple I.kIn ⟨o,I.kIn _ _ hk,hc⟩ e (fun z=>nomatch z) fun tk=>⟨.bl b,H,I.tok tk,rfl,q⟩
 ·cases ru
  exact PySem.W.kia_one PySem.W.kitx_list I.kIn ⟨o,I.kIn _ _ hk,hc⟩ e (fun z=>nomatch z) fun tk=>⟨.bl b,H,I.tok tk,rfl,q⟩
 ·cases ru
  obtain ⟨hg,ho⟩:=(show dI X.prog X.w H s.heap p (.frz ob du) from I.hok p _ m)
  have hx:∃ o,s.heap.get? p=some o/\o.cls=.type "dict":=by
   cases du with
   | dK kvs=>obtain ⟨_,_,_,_,o,_,_,h1,h2,_⟩:=ho;exact ⟨o,h1,h2.1⟩
   | dT kvs=>obtain ⟨_,_,_,_,o,_,_,h1,h2,_⟩:=ho;exact ⟨o,h1,h2.1⟩
   | _=>cases dk
  exact PySem.W.kia_one PySem.W.kitx_dict I.kIn hx e (fun z=>nomatch z) fun tk=>⟨.bl b,H,I.tok tk,rfl,q⟩
def Bx:List (String × String × Bool):=[("NoneType","bool",false),("NoneType","int",false),("NoneType","str",false),("NoneType","tuple",false),("NoneType","list",false),("NoneType","dict",false),("bool","bool",true),("bool","int",true),("bool","str",false),("bool","tuple",false),("bool","list",false),("bool","dict",false),("int","bool",false),("int","int",true),("int","str",false),("int","tuple",false),("int","list",false),("int","dict",false),("str","bool",false),("str","int",false),("str","str",true),("str","tuple",false),("str","list",false),("str","dict",false),("tuple","bool",false),("tuple","int",false),("tuple","str",false),("tuple","tuple",true),("tuple","list",false),("tuple","dict",false),("list","bool",false),("list","int",false),("list","str",false),("list","tuple",false),("list","list",true),("list","dict",false),("dict","bool",false),("dict","int",false),("dict","str",false),("dict","tuple",false),("dict","list",false),("dict","dict",true)]
theorem Ld {K:PySem.W.Frag}:∀ r∈Bx,PySem.W.kitOne K (.type r.1) (.type r.2.1)=some r.2.2:=by
 intro r hr
 simp only [Bx,List.mem_cons,List.not_mem_nil,or_false] at hr
 rcases hr with rfl | rfl | rfl | rfl | rfl | rfl | rfl | rfl | rfl | rfl | rfl | rfl | rfl | rfl | rfl | rfl | rfl | rfl | rfl | rfl | rfl | rfl | rfl | rfl | rfl | rfl | rfl | rfl | rfl | rfl | rfl | rfl | rfl | rfl | rfl | rfl | rfl | rfl | rfl | rfl | rfl | rfl <;> first | rfl | kernel_rfl
def bK (t T:String):Option Bool:=(Bx.find? fun r=>r.1 == t && r.2.1 == T).map (·.2.2)
theorem J7 {K:PySem.W.Frag} {t T:String} {b:Bool} (h:bK t T=some b):PySem.W.kitOne K (.type t) (.type T)=some b:=by
 unfold bK at h
 cases e:Bx.find? fun r=>r.1 == t && r.2.1 == T with
 | none=>rw [e] at h;cases h
 | some r =>
  rw [e] at h
  cases h
  have h1:=List.find?_some e
  have h2:=Ld (K:=K) r (List.mem_of_find?_eq_some e)
  simp only [Bool.and_eq_true,beq_iff_eq] at h1
  rw [h1.1,h1.2] at h2
  exact h2
def oY:List U->aF->UK->Prop:=fun us M Q=>match us with
 | [x,.ty T]=>match wQ M x with
  | some t=>match bK t T with
   | some b=>Q (.bl b) M
   | none=>False
  | none=>False
 | _=>False
theorem RI {K:PySem.W.Frag}:zC K (T4 K) oY:=fun xs us H M Q' rm rus h Q c=>by
 unfold oY at h
 split at h
 ·rename_i x T
  split at h
  ·rename_i t e
   split at h
   ·rename_i b e2
    obtain ⟨v,z,rfl,a1,a2⟩:=rus.two
    cases a2.ty
    refine ⟨v,T,t,b,rfl,?_,J7 e2,c.here rm cY h⟩
    cases x with
    | non=>cases a1.non;cases e;exact .inl .non
    | bl y=>cases a1.bl;cases e;exact .inl (.bl y)
    | int y=>cases a1.int;cases e;exact .inl (.int y)
    | str y=>cases a1.str;cases e;exact .inl (.str y)
    | ty y=>cases e
    | tup y =>
     cases e
     simp only [aP] at a1
     obtain ⟨a,vs,rfl,m,r⟩:=a1
     exact .inl (.tup m.2)
    | lst y =>
     cases e
     simp only [aP] at a1
     obtain ⟨a,vs,rfl,m,r⟩:=a1
     rcases m with ⟨_,m | ⟨ob,m⟩⟩ | k
     ·exact .inl (.lst m)
     ·exact .inl (.frz m)
     ·exact .inr (.inr (.inr (.inl ⟨rfl,a,vs,rfl,k⟩)))
    | dic ks tk y =>
     cases e
     simp only [aP] at a1
     obtain ⟨a,vs,rfl,m,r,_⟩:=a1
     cases tk with
     | true =>
      obtain ⟨ws,h1 | ⟨ob,h1⟩,_⟩:=r
      ·exact .inl (.dT h1)
      ·exact .inr (.inr (.inr (.inr ⟨rfl,a,ob,_,rfl,h1,rfl⟩)))
     | false =>
      obtain ⟨ws,h1 | ⟨ob,h1⟩,_⟩:=r
      ·exact .inl (.dK h1)
      ·exact .inr (.inr (.inr (.inr ⟨rfl,a,ob,_,rfl,h1,rfl⟩)))
    | ref y =>
     cases a1.ref
     simp only [wQ] at e
     split at e
     ·rename_i ws e3
      cases e
      obtain ⟨vs,h1,_⟩:=rm y _ e3
      exact .inl (.lst h1)
     ·rename_i ws e4
      cases e
      obtain ⟨vs,h1,_⟩:=rm y _ e4;exact .inl (.dK h1)
     ·rename_i ws e4
      cases e
      obtain ⟨vs,h1,_⟩:=rm y _ e4;exact .inl (.dT h1)
     ·cases e
   ·exact h.elim
  ·exact h.elim
 ·exact h.elim
theorem iU:D3 D (.builtin "isinstance") oY:=⟨⟨_,fun X h=>by have:=NV (X:=X);rw [h.K] at this;exact this,RI⟩⟩
def qF:List U->Option (List Bool)
 | []=>some []
 | .bl b :: r=>(qF r).map (b :: ·)
 | _=>none
def wK:List U->aF->UK->Prop:=fun us M Q=>match us with
 | [x]=>match view M x with
  | .lst ws=>match qF ws with
   | some bs=>Q (.bl (bs.all fun b=>b)) M
   | none=>False
  | _=>False
 | _=>False
theorem DH {K:PySem.W.Frag} {H:Hp} {M:aF}:∀ {us:List U} {vs:List V} {bs:List Bool},aI K H M us vs->qF us=some bs->vs=bs.map V.bl
 | [],_,_,r,h=>by cases h;exact r.inv_nil
 | u :: us,_,bs,r,h=>by
  obtain ⟨v,vs',rfl,a,b⟩:=r.inv_cons
  cases u with
  | bl y =>
   simp only [qF] at h
   cases e:qF us with
   | none=>rw [e] at h;cases h
   | some cs =>
    rw [e] at h
    cases h
    rw [DH b e,a.bl];rfl
  | _=>cases h
theorem IQ:D3 D (.builtin "all") wK:=⟨⟨_,fun X h=>by have:=Lq (X:=X) h.calm;rw [h.K] at this;exact this,fun xs us H M Q' rm rus h Q c=>by
 unfold wK at h
 split at h
 ·rename_i x
  obtain ⟨v,rfl,a1⟩:=rus.one
  split at h
  ·rename_i ws e
   split at h
   ·rename_i bs e2
    obtain ⟨b,zvs,rfl,s2,r2⟩:=jE rm a1 e
    rw [DH r2 e2] at s2
    exact ⟨b,bs,rfl,s2,c.here rm cY h⟩
   ·exact h.elim
  ·exact h.elim
 ·exact h.elim⟩⟩
theorem sV {apos:Pos} (ho:bC D o ta) (ha:kS D [e] tas) (hbase:∀ env,attributeBase o "append" env (eval o env)=eval o env:=by intro _;rfl)
  (hfew:∀ env,((backTo pos (starEach [e] env)).all (fun x=>!x.1) && (backToKw pos (keywordEach [] env)).all (fun x=>x.1.isSome) && decide ([e].length + ([]:List Keyword).length + (if ([]:List Keyword).isEmpty then 0 else 1) < 30))=true:=by intro _;rfl)
  (hline:(apos.endLine == pos.line)=true:=by rfl) (hs:∀ env,starEach [e] env=[(false,eval e env)]:=by intro _;rfl):bC D (.Call (.Attribute o "append" apos) [e] [] pos) (Ao jS ta tas):=by
 obtain ⟨_,p,s⟩:=ho;obtain ⟨_,q,r⟩:=ha
 refine ⟨_,fun X h=>?_,LD Bz s r⟩
 have:=zV (cpos:=pos) (apos:=apos) PySem.F.plainAttrs_list PySem.F.slot_list_append PySem.F.type_list_append x8 (p X h) (q X h) (hbase _) (hfew _) hline (hs _) (by rfl)
 rw [h.K] at this
 exact this
theorem Ko {apos:Pos} (ho:bC D o ta) (hbase:∀ env,attributeBase o "pop" env (eval o env)=eval o env:=by intro _;rfl)
  (hline:(apos.endLine == pos.line)=true:=by rfl):bC D (.Call (.Attribute o "pop" apos) [] [] pos) (vJ tT ta):=by
 obtain ⟨_,p,s⟩:=ho
 refine ⟨_,fun X h=>?_,RH Qg s⟩
 have:=U9 (cpos:=pos) (apos:=apos) PySem.F.plainAttrs_list PySem.F.slot_list_pop PySem.F.type_list_pop To (p X h) (hbase _) hline
 rw [h.K] at this
 exact this
def dY (scope sc:Scope):Scope :=
 { scope with names:=scope.names.map fun (n,k)=>if (k == .free && sc.kind == .function && sc.names.lookup n == some .cell) then (n,.cell) else (n,k) }
def cP (D:Dat) (N:List Str) (scope:Scope):Dat:={ D with N:=N,sc:=dY scope D.sc,fn:=false,cod:=.none }
theorem kN.comp {X:Cx} (h:kN D X) (N:List Str) (scope:Scope) (cl:List (Str × Addr)) (C:Addr) (s:Shared) (H:Hp) (fp:List Addr):kN (cP D N scope) (eH X N scope cl C s H fp) :=
 ⟨h.prog,h.w,h.K,h.mg,h.base,rfl,by show dY scope X.env.scope=dY scope D.sc;rw [h.sc],h.room,h.calm,rfl,(fun z=>by cases z),(fun z=>absurd rfl z),(fun z=>by cases z)⟩
theorem m8:Ih D [] (fun _ M Q=>Q true M):=⟨Vo,fun X h=>QY,fun σ τ H M Q' rs rm q Q c=>c true M H (aX.refl _ _) rm q⟩
theorem QL {t:UT} (h:pH D c t):Ih D [c] t:=let ⟨_,p,s⟩:=h;⟨_,fun X h=>Q0 (p X h),s⟩
theorem mX (own:Bool) (N:List Str) (k:Nat) (ix:List Nat) {scope:Scope} {tg iter elt:Expr} {ifs:List Expr} {wi:UI} {g:UG} {tcs:UT} (hi:Bw D tg iter wi) (hg:CF (cP D N scope) k tg g) (hif:Ih (cP D N scope) ifs tcs) (he:bC (cP D N scope) elt te)
  (hk:scope.kind=.function:=by rfl) (hcell:∀ y∈scope.names,y.2≠.cell:=by first | decide +kernel | (dsimp only;decide +kernel) | (dsimp only [cP,dY];decide +kernel)) (hnames:∀ y∈scope.names,y.2=.local->scope.names.lookup y.1=some .local:=by first | decide +kernel | (dsimp only;decide +kernel) | (dsimp only [cP,dY];decide +kernel))
  (hfree:∀ y∈scope.names,y.2=.free->D.sc.names.lookup y.1=some .cell\/D.sc.names.lookup y.1=some .free:=by first | decide +kernel | (dsimp only;decide +kernel) | (dsimp only [cP,dY];decide +kernel)) (hone:∀ y∈scope.names,y.2=.free->scope.names.lookup y.1=some .free:=by first | decide +kernel | (dsimp only;decide +kernel) | (dsimp only [cP,dY];decide +kernel))
  (hN:ix.map (fun i=>D.N[i]?)=(N.drop k).map some:=by rfl) (hcap:∀ x∈N.drop k,scope.names.lookup x=some .free:=by first | decide +kernel | (dsimp only;decide +kernel) | (dsimp only [cP,dY];decide +kernel)) (hlen:N.length=k + ix.length:=by rfl)
  (hs:∀ env x,foldedSetIterable iter env x=pure x:=by intro _ _;rfl):bC D (.ListComp elt [⟨tg,iter,ifs,0⟩] scope pos) (BA own k ix wi g tcs te):=by
 obtain ⟨_,p1,s1⟩:=hi;obtain ⟨_,p2,s2,gk,_⟩:=hg;obtain ⟨_,p3,s3⟩:=hif;obtain ⟨_,p4,s4⟩:=he
 have hN':∀ (j:Nat) x,N[k + j]?=some x->∃ i,ix[j]?=some i/\D.N[i]?=some x:=fun j x e=>by
  have e1:((N.drop k).map some)[j]?=some (some x):=by rw [List.getElem?_map,List.getElem?_drop,e];rfl
  rw [<- hN,List.getElem?_map] at e1
  cases q:ix[j]? with
  | none=>rw [q] at e1;cases e1
  | some i=>rw [q] at e1;exact ⟨i,rfl,Option.some.inj e1⟩
 have hcap':∀ (j:Nat) x,N[k + j]?=some x->scope.names.lookup x=some .free:=fun j x e=>hcap x (List.mem_of_getElem? (i:=j) (by rw [List.getElem?_drop];exact e))
 refine ⟨_,fun X h=>QF (N:=N) (k:=k) (ix:=ix) h.calm (p1 X h) gk hk hcell hnames (fun y hy e=>by show X.env.scope.names.lookup y.1=_\/X.env.scope.names.lookup y.1=_;rw [h.sc];exact hfree y hy e) hone (fun j x e=>by rw [h.N];exact hN' j x e) hcap' hlen
  (fun cl C s H fp=>p2 _ (h.comp N scope cl C s H fp)) (fun cl C s H fp=>p3 _ (h.comp N scope cl C s H fp)) (fun cl C s H fp=>p4 _ (h.comp N scope cl C s H fp)) (hs _),D7 s1 s2 s3 s4⟩
theorem MV {elt:Expr} {gens:List Comprehension} {scope:Scope} {pos py:Pos} {y:Str} {line:Nat} {env:Env} (h1:env.scope.kind=.function) (h2:env.scope.names.lookup y=some .local) (h3:(py.line == pos.line && !(scope.names.any fun (n,k)=>n == y && (k == .local || k == .cell)))=true) :
  swapsWith (.ListComp elt gens scope pos) (some (.Name y py)) line env=pure true:=by
 have e1:(env.blockKind == .function)=true:=by first | (unfold Env.blockKind;rw [h1];rfl) | (unfold Env.blockKind;simp [h1])
 have e2:(env.kindOf y == some .local)=true:=by unfold Env.kindOf;rw [h2];rfl
 show pure (env.blockKind == .function && env.kindOf y == some .local && py.line == pos.line && !(scope.names.any fun (n,k)=>n == y && (k == .local || k == .cell)))=pure true
 rw [e1,e2]
 simp only [Bool.and_eq_true] at h3
 rw [h3.1,h3.2]
 rfl
theorem RU (i:Nat) {y:Str} {spos py:Pos} (hNd:D.N.Nodup) (own:Bool) (N:List Str) (k:Nat) (ix:List Nat) {scope:Scope} {tg iter elt:Expr} {ifs:List Expr} {wi:UI} {g:UG} {tcs:UT} (hi:Bw D tg iter wi) (hg:CF (cP D N scope) k tg g) (hif:Ih (cP D N scope) ifs tcs) (he:bC (cP D N scope) elt te)
  (hk:scope.kind=.function:=by rfl) (hcell:∀ y∈scope.names,y.2≠.cell:=by first | decide +kernel | (dsimp only;decide +kernel) | (dsimp only [cP,dY];decide +kernel)) (hnames:∀ y∈scope.names,y.2=.local->scope.names.lookup y.1=some .local:=by first | decide +kernel | (dsimp only;decide +kernel) | (dsimp only [cP,dY];decide +kernel))
  (hfree:∀ y∈scope.names,y.2=.free->D.sc.names.lookup y.1=some .cell\/D.sc.names.lookup y.1=some .free:=by first | decide +kernel | (dsimp only;decide +kernel) | (dsimp only [cP,dY];decide +kernel)) (hone:∀ y∈scope.names,y.2=.free->scope.names.lookup y.1=some .free:=by first | decide +kernel | (dsimp only;decide +kernel) | (dsimp only [cP,dY];decide +kernel))
  (hN:ix.map (fun i=>D.N[i]?)=(N.drop k).map some:=by rfl) (hcap:∀ x∈N.drop k,scope.names.lookup x=some .free:=by first | decide +kernel | (dsimp only;decide +kernel) | (dsimp only [cP,dY];decide +kernel)) (hlen:N.length=k + ix.length:=by rfl)
  (hs:∀ env x,foldedSetIterable iter env x=pure x:=by intro _ _;rfl) (hl1:D.sc.kind=.function:=by rfl) (hl2:D.sc.names.lookup y=some .local:=by rfl) (hl3:(py.line == pos.line && !(scope.names.any fun (n,k)=>n == y && (k == .local || k == .cell)))=true:=by decide +kernel)
  (hiy:D.N[i]?=some y:=by rfl) (hy:Loc D.sc y:=by first | exact Or.inl rfl | exact Or.inr rfl) (hf:D.fn=true\/D.sc.names.lookup y=some .local:=by first | exact .inl rfl | exact .inr rfl):tH D (.Assign [.Name y py] (.ListComp elt [⟨tg,iter,ifs,0⟩] scope pos) spos) (bJ (BA own k ix wi g tcs te) (hName i)):=by
 obtain ⟨_,p1,s1⟩:=hi;obtain ⟨_,p2,s2,gk,_⟩:=hg;obtain ⟨_,p3,s3⟩:=hif;obtain ⟨_,p4,s4⟩:=he
 have hN':∀ (j:Nat) x,N[k + j]?=some x->∃ i,ix[j]?=some i/\D.N[i]?=some x:=fun j x e=>by
  have e1:((N.drop k).map some)[j]?=some (some x):=by rw [List.getElem?_map,List.getElem?_drop,e];rfl
  rw [<- hN,List.getElem?_map] at e1
  cases q:ix[j]? with
  | none=>rw [q] at e1;cases e1
  | some i=>rw [q] at e1;exact ⟨i,rfl,Option.some.inj e1⟩
 have hcap':∀ (j:Nat) x,N[k + j]?=some x->scope.names.lookup x=some .free:=fun j x e=>hcap x (List.mem_of_getElem? (i:=j) (by rw [List.getElem?_drop];exact e))
 refine ⟨_,fun X h=>Rf (i:=i) (N:=N) (k:=k) (ix:=ix) h.calm (p1 X h) gk hk hcell hnames (fun y hy e=>by show X.env.scope.names.lookup y.1=_\/X.env.scope.names.lookup y.1=_;rw [h.sc];exact hfree y hy e) hone (fun j x e=>by rw [h.N];exact hN' j x e) hcap' hlen
  (fun cl C s H fp=>p2 _ (h.comp N scope cl C s H fp)) (fun cl C s H fp=>p3 _ (h.comp N scope cl C s H fp)) (fun cl C s H fp=>p4 _ (h.comp N scope cl C s H fp)) (hs _) (MV (by rw [h.sc];exact hl1) (by rw [h.sc];exact hl2) hl3) (by rw [h.N];exact hNd) (by rw [h.N];exact hiy) (by rw [h.sc];exact hy) (by rcases hf with z | z;exact .inl (h.fn z y);exact .inr (by rw [h.sc];exact z)),zH (D7 s1 s2 s3 s4) (tF i)⟩
end
section
variable {P:Program} {w:World} {K:PySem.W.Frag} {mg:Str->Option Value} {base:Heap}
theorem tB {H:Hp} {M:aF} {N:List Str} {us:List U} {vs:List V} (r:aI K H M us vs):cL K H M (L2.start N vs) (dH N us):=by
 have hl:=r.length
 refine ⟨by simp [L2.start,dH,hl],fun i u e=>?_⟩
 unfold dH at e
 unfold L2.start
 by_cases hi:i < us.length
 ·rw [List.getElem?_append_left (by simpa using hi),List.getElem?_map] at e
  cases q:us[i]? with
  | none=>rw [q] at e;cases e
  | some u' =>
   rw [q] at e
   cases e
   obtain ⟨v,h1,h2⟩:=r.get q
   exact ⟨v,by rw [List.getElem?_append_left (by rw [List.length_map];omega),List.getElem?_map,h1];rfl,h2⟩
 ·rw [List.getElem?_append_right (by simpa using hi),List.getElem?_replicate] at e
  split at e <;> cases e
theorem P0 {x:Str} {st:Stmt} {f:Addr} {fd:FuncData} {N ps:List Str} {k:Nat} {sp:cH} {t:US} (F:cE K x x st f fd) (S:aV N ps (aD st))
  (len:∀ us M Q,sp us M Q->us.length=ps.length)
  (h:oC ⟨P,w,K,mg,base,N,aD st,k,true,.none,""⟩ (aS st) t)
  (q:∀ us M Q,sp us M Q->t { nx:=fun _ M'=>iG Q .non M',rt:=iG Q } (dH N us) M):fJ P w K mg base jF (k + 1) f fd ps (gE K sp):=by
 obtain ⟨t0,h1,h2⟩:=h
 refine F.ok S (fun vs H Q E ⟨us,M,Q',_,r,hs,_⟩=>by rw [<- r.length];exact len us M Q' hs) (fun cdv A outer s H vs Q E hr ⟨us,M,Q',rm,r,hs,c⟩=>?_)
 refine ⟨t0,h1 _ ⟨rfl,rfl,rfl,rfl,rfl,rfl,rfl,hr,rfl,rfl,fun _ _=>rfl,fun h=>absurd rfl h,fun _=>⟨rfl,rfl,rfl⟩⟩,?_⟩
 refine h2 _ (dH N us) H M _ (tB r) rm (q us M Q' hs) _ ⟨fun σ τ H1 M1 s1 rm1 rs1 q1=>?_,fun u v H1 M1 s1 rm1 ru q1=>iG.ok c s1 rm1 ru q1,fun _ _ _ _ _ _ _ z=>z.elim,fun _ _ _ _ _ _ _ z=>z.elim⟩
 exact iG.ok c s1 rm1 jZ q1
theorem L8 {x:Str} {st:Stmt} {f:Addr} {fd:FuncData} {N ps:List Str} {k:Nat} {sp:cH} {t:US} (F:cE K x x st f fd) (hm:mg x=some (.ref f)) (S:aV N ps (aD st))
  (bind:∀ (kV doc pm:Value) (an:Option Addr) (cdv ct:Value) (us:List Value),us.length=ps.length->bindArgs (PySem.W.fnOf x x (aY st) (aS st) (aD st) .none kV doc pm an cdv ct) ⟨us,[]⟩=pure (ps.zip us))
  (len:∀ us M Q,sp us M Q->us.length=ps.length)
  (h:oC ⟨P,w,K,mg,base,N,aD st,k,true,.none,""⟩ (aS st) t)
  (q:∀ us M Q,sp us M Q->t { nx:=fun _ M'=>iG Q .non M',rt:=iG Q } (dH N us) M):Callee P w K mg base (k + 1) x sp []:=by
 obtain ⟨t0,h1,h2⟩:=h
 refine ⟨f,fd,ps,[],[],F.ok S (fun vs H Q E ⟨us,M,Q',_,r,hs,_⟩=>by rw [<- r.length];exact len us M Q' hs) (fun cdv A outer s H vs Q E hr ⟨us,M,Q',rm,r,hs,c⟩=>?_),hm,F.kp,F.binds bind,.nil,fun H M=>.nil⟩
 refine ⟨t0,h1 _ ⟨rfl,rfl,rfl,rfl,rfl,rfl,rfl,hr,rfl,rfl,fun _ _=>rfl,fun h=>absurd rfl h,fun _=>⟨rfl,rfl,rfl⟩⟩,?_⟩
 refine h2 _ (dH N us) H M _ (tB r) rm (q us M Q' hs) _ ⟨fun σ τ H1 M1 s1 rm1 rs1 q1=>?_,fun u v H1 M1 s1 rm1 ru q1=>iG.ok c s1 rm1 ru q1,fun _ _ _ _ _ _ _ z=>z.elim,fun _ _ _ _ _ _ _ z=>z.elim⟩
 exact iG.ok c s1 rm1 jZ q1
end
end U2
namespace U2
open PySem L2
theorem dE:bK "NoneType" "bool"=some false:=by decide +kernel
theorem dS:bK "NoneType" "int"=some false:=by decide +kernel
theorem dP:bK "NoneType" "str"=some false:=by decide +kernel
theorem cU:bK "NoneType" "tuple"=some false:=by decide +kernel
theorem dD:bK "NoneType" "list"=some false:=by decide +kernel
theorem dC:bK "NoneType" "dict"=some false:=by decide +kernel
theorem fR:bK "bool" "bool"=some true:=by decide +kernel
theorem hZ:bK "bool" "int"=some true:=by decide +kernel
theorem h7:bK "bool" "str"=some false:=by decide +kernel
theorem eX:bK "bool" "tuple"=some false:=by decide +kernel
theorem fN:bK "bool" "list"=some false:=by decide +kernel
theorem fT:bK "bool" "dict"=some false:=by decide +kernel
theorem gT:bK "int" "bool"=some false:=by decide +kernel
theorem i8:bK "int" "int"=some true:=by decide +kernel
theorem jC:bK "int" "str"=some false:=by decide +kernel
theorem gB:bK "int" "tuple"=some false:=by decide +kernel
theorem iE:bK "int" "list"=some false:=by decide +kernel
theorem gY:bK "int" "dict"=some false:=by decide +kernel
theorem gZ:bK "str" "bool"=some false:=by decide +kernel
theorem i7:bK "str" "int"=some false:=by decide +kernel
theorem jB:bK "str" "str"=some true:=by decide +kernel
theorem fS:bK "str" "tuple"=some false:=by decide +kernel
theorem gU:bK "str" "list"=some false:=by decide +kernel
theorem hW:bK "str" "dict"=some false:=by decide +kernel
theorem eV:bK "tuple" "bool"=some false:=by decide +kernel
theorem fY:bK "tuple" "int"=some false:=by decide +kernel
theorem gA:bK "tuple" "str"=some false:=by decide +kernel
theorem eJ:bK "tuple" "tuple"=some true:=by decide +kernel
theorem eS:bK "tuple" "list"=some false:=by decide +kernel
theorem eZ:bK "tuple" "dict"=some false:=by decide +kernel
theorem fP:bK "list" "bool"=some false:=by decide +kernel
theorem iD:bK "list" "int"=some false:=by decide +kernel
theorem iB:bK "list" "str"=some false:=by decide +kernel
theorem eY:bK "list" "tuple"=some false:=by decide +kernel
theorem fO:bK "list" "list"=some true:=by decide +kernel
theorem fX:bK "list" "dict"=some false:=by decide +kernel
theorem fW:bK "dict" "bool"=some false:=by decide +kernel
theorem gW:bK "dict" "int"=some false:=by decide +kernel
theorem gX:bK "dict" "str"=some false:=by decide +kernel
theorem eU:bK "dict" "tuple"=some false:=by decide +kernel
theorem fM:bK "dict" "list"=some false:=by decide +kernel
theorem fQ:bK "dict" "dict"=some true:=by decide +kernel
theorem aL {Q:UK} {u:U} {M:aF} (q:Q u M):iG Q u M:=⟨u,M,Sub.refl M,.inl rfl,q⟩
theorem A4 {o:Bool} {k:Nat} {ix:List Nat} {wi:UI} {g:UG} {tc:UT} {te:UE} {τ:SU} {M M1:aF} {Q:UK} {S:Src} (f:U->Option U) (hw:∀ R:Src->aF->Prop,R S M1->wi τ M R) (hz:S.xs.length<=sizeLine) (hs:S.ok M1)
  (h:∀ x∈S.xs,∀ M,Sub M1 M->∀ R:Option U->aF->Prop,R (f x) M->g x (eO k ix τ) M fun τ2 M2=>tc τ2 M2 fun ok M3=>if ok=true then te τ2 M3 fun y M4=>R (some y) M4 else R none M3)
  (q:kZ o (S.xs.filterMap f) M1 Q):BA o k ix wi g tc te τ M Q:=hw _ (LV (wi:=wi) f hz hs h q)
theorem t9 {wi:UI} {g:UG} {tb:US} {D:mH} {τ:SU} {M M1:aF} {S:Src} (hw:∀ R:Src->aF->Prop,R S M1->wi τ M R) (P:Nat->SU->aF->Prop) (h0:P 0 τ M1) (hok:∀ i τ M,P i τ M->S.ok M)
  (turn:∀ i x τ M,S.xs[i]?=some x->P i τ M->g x τ M fun τ2 M2=>tb { D with nx:=P (i + 1),ct:=P (i + 1),bk:=D.nx } τ2 M2) (fin:∀ τ M,P S.xs.length τ M->D.nx τ M):Ik wi g tb D τ M:=hw _ ⟨P,h0,hok,turn,fin⟩
theorem mJ {c:UT} {tb:US} {D:mH} {τ:SU} {M:aF} (P:SU->aF->Prop) (μ:SU->aF->Nat) (h0:P τ M)
  (turn:∀ τ M,P τ M->c τ M fun b M1=>if b=true then tb { D with nx:=fun τ' M'=>P τ' M'/\μ τ' M' < μ τ M,ct:=fun τ' M'=>P τ' M'/\μ τ' M' < μ τ M,bk:=D.nx } τ M1 else D.nx τ M1):Bd c tb D τ M:=⟨P,μ,h0,turn⟩
theorem wB {lo:Int} {n i:Nat} {x:U} (h:(dA lo n)[i]?=some x):x=.int (lo + i)/\i < n:=by
 have hi:i < n:=by
  have:=(List.getElem?_eq_some_iff.mp h).1
  simpa [dA] using this
 simp only [dA,List.getElem?_map,List.getElem?_range hi,Option.map_some] at h
 exact ⟨(Option.some.inj h).symm,hi⟩
theorem Wo (lo:Int) (n:Nat):(dA lo n).length=n:=by simp [dA]
end U2
namespace U2
open PySem PySem.Spec PyProof.Rows L2
inductive Fl where
 | int (i:Int) | str (x:Str)
def Fl.d:Fl->PyData
 | .int i=>.int i
 | .str x=>.str x
def Fl.u:Fl->U
 | .int i=>.int i
 | .str x=>.str x
def Fl.v:Fl->V
 | .int i=>.int i
 | .str x=>.str x
def M7 (T:List (Str × Fl)):List (PyData × PyData):=T.map fun p=>(PyData.str p.1,p.2.d)
def bX:List (Str × Fl)->Str->Option Fl
 | [],_=>none
 | (a,b) :: r,z=>if a=z then some b else bX r z
structure oX (P:Program) (w:World) (K:PySem.W.Frag) (d:Addr) (T:List (Str × Fl)):Prop where
 at_:∀ h:Heap,K.In h->StrTab P w h d (M7 T)
theorem Wm (a b:Str):same (.str a) (.str b)=decide (a=b):=by
 by_cases h:a=b <;> simp [same,h]
theorem lookup_tab:∀ (T:List (Str × Fl)) (z:Str),PySem.Spec.lookup (.str z) (M7 T)=(bX T z).map Fl.d
 | [],_=>rfl
 | (a,b) :: r,z=>by
  have ih:=lookup_tab r z
  show (if same (.str a) (.str z)=true then some b.d else PySem.Spec.lookup (.str z) (M7 r))=((if a=z then some b else bX r z).map Fl.d)
  rw [Wm]
  by_cases e:a=z
  ·rw [if_pos (decide_eq_true e),if_pos e];rfl
  ·rw [if_neg (by simpa using e),if_neg e,ih]
def yB (T:List (Str × Fl)):List (Str × PyData):=T.map fun p=>(p.1,p.2.d)
theorem tab_of {P:Program} {w:World} {K:PySem.W.Frag} {d:Addr} {T:List (Str × Fl)} (n:((yB T).map (·.1)).Nodup) (e:KTD.tabLook KTD.flatLooks (fun b=>K.lookup b) d (yB T)=true) (q:KTD.hashesOf (fun b=>K.lookup b) d=(yB T).map fun p=>(PySem.strKind P w).hash p.1):oX P w K d T:=⟨fun h hK=>by
 have:=PySem.W.kt_tab_in P w hK e n q
 unfold yB at this
 rw [List.map_map] at this
 exact this⟩
section
variable {X:Cx} {d:Addr} {T:List (Str × Fl)}
theorem Oy (t:oX X.prog X.w X.K d T):cZ X (compareOp .In) (fun x y H Q=>∃ z,x=.str z/\y=.ref d/\Q (.bl (bX T z).isSome) H):=by
 intro pins s σ H x y v u Q I rx ry h
 obtain ⟨z,rfl,rfl,q⟩:=h
 obtain ⟨tk,rfl⟩:=rx
 cases ry
 refine in_strTab (t.at_ _ I.kIn) ?_
 rw [lookup_tab,Option.isSome_map]
 exact ⟨.bl _,H,I.tok _,rfl,q⟩
theorem FO (t:oX X.prog X.w X.K d T):cZ X (compareOp .NotIn) (fun x y H Q=>∃ z,x=.str z/\y=.ref d/\Q (.bl (!(bX T z).isSome)) H):=by
 intro pins s σ H x y v u Q I rx ry h
 obtain ⟨z,rfl,rfl,q⟩:=h
 obtain ⟨tk,rfl⟩:=rx
 cases ry
 refine notin_strTab (t.at_ _ I.kIn) ?_
 rw [lookup_tab,Option.isSome_map]
 exact ⟨.bl _,H,I.tok _,rfl,q⟩
theorem QG {f:Fl} {v:Value} (h:PyProof.V.Flat v f.d):RelV f.v v:=by
 have:=h default
 cases f with
 | int i=>cases this;exact ⟨_,rfl⟩
 | str i=>cases this;exact ⟨_,rfl⟩
theorem SH {x:Str} {px pos:Pos} {b:Expr} {ta tb:TE} (t:oX X.prog X.w X.K d T) (ha:PE X (.Name x px) ta) (hb:PE X b tb) (hs:zE b) :
  PE X (.Subscript (.Name x px) b pos) (Hd (fun x y H Q=>∃ z f,x=.ref d/\y=.str z/\bX T z=some f/\Q f.v H) ta tb):=by
 intro pins s σ H Q I h
 refine Subscript_ (JS ha hb I h fun v u s2 x' y H2 I2 rx ry q=>?_)
 obtain ⟨z,f,rfl,rfl,e,q⟩:=q
 cases rx
 obtain ⟨tk,rfl⟩:=ry
 exact item_strTab (t.at_ _ I2.kIn) (dv:=f.d) (by rw [lookup_tab,e];rfl) (fun v hv=>⟨f.v,H2,I2.tok _,QG hv,q⟩) (hs _ _) (fun r=>rfl)
end
section
variable {D:Dat} {d:Addr} {T:List (Str × Fl)}
abbrev Tab (D:Dat):=oX D.prog D.w D.K
def nU (d:Addr) (T:List (Str × Fl)) (neg:Bool):eC:=fun x y M Q=>match x with
 | .str z=>y=.ref d/\Q (.bl (if neg then !(bX T z).isSome else (bX T z).isSome)) M
 | _=>False
theorem Hn (t:Tab D d T):pR D .In (nU d T false):=⟨⟨_,fun X h=>Oy (by rw [h.prog,h.w,h.K];exact t),fun x y u w H M Q' rm ru rw h Q c=>by
 cases u with
 | str z=>obtain ⟨rfl,h⟩:=h;exact ⟨z,ru.str,rw.ref,c.here rm cY h⟩
 | _=>exact h.elim⟩⟩
theorem HY (t:Tab D d T):pR D .NotIn (nU d T true):=⟨⟨_,fun X h=>FO (by rw [h.prog,h.w,h.K];exact t),fun x y u w H M Q' rm ru rw h Q c=>by
 cases u with
 | str z=>obtain ⟨rfl,h⟩:=h;exact ⟨z,ru.str,rw.ref,c.here rm cY h⟩
 | _=>exact h.elim⟩⟩
def o6 (d:Addr) (T:List (Str × Fl)):eC:=fun x y M Q=>match y with
 | .str z=>x=.ref d/\match bX T z with
  | some f=>Q f.u M
  | none=>False
 | _=>False
theorem Se {K:PySem.W.Frag} {H:Hp} {M:aF} (f:Fl):aP K H M f.u f.v:=by cases f;exact dQ;exact fZ
theorem Mf {x:Str} {px pos:Pos} {b:Expr} {ta tb:UE} (t:Tab D d T) (ha:bC D (.Name x px) ta) (hb:bC D b tb) (hs:zE b:=by intro _ _;rfl):bC D (.Subscript (.Name x px) b pos) (gF (o6 d T) ta tb):=by
 obtain ⟨_,p,s⟩:=ha;obtain ⟨_,q,r⟩:=hb
 refine ⟨_,fun X h=>SH (d:=d) (T:=T) (by rw [h.prog,h.w,h.K];exact t) (p X h) (q X h) hs,yH (fun x y u w H M Q' rm ru rw h Q c=>?_) s r⟩
 cases w with
 | str z =>
  obtain ⟨rfl,h⟩:=h
  cases e:bX T z with
  | none=>rw [e] at h;exact h.elim
  | some f=>rw [e] at h;exact ⟨z,f,ru.ref,rw.str,e,c.here rm (Se f) h⟩
 | _=>exact h.elim
def Lb (i:Nat) (f:Addr) (sp:Sp) (t:TA):TE:=fun σ H Q=>tL i σ H fun v H1=>v=.ref f/\t σ H1 fun vs H2=>sp vs H2 Q E0
def pF (i:Nat) (f:Addr) (sp:cH) (t:UA):UE:=fun τ M Q=>jR i τ M fun v M1=>v=.ref f/\t τ M1 fun us M2=>sp us M2 Q
end
end U2
namespace U2
open PySem PySem.Spec PyProof.Rows L2
def half (j:Int):Nat:=((j + 1) / 2).toNat
theorem WS {j:Int} (h:0<=j):Builtin.Range.rangeSize 0 j 2=(half j:Nat):=by
 unfold Builtin.Range.rangeSize half
 simp only [show (2:Int) > 0 by decide,if_true]
 split <;> omega
def Hg (n:Nat):List U:=(List.range n).map fun (k:Nat)=>U.int ((k:Int) * 2)
theorem Vw (n:Nat):(Hg n).length=n:=by simp [Hg]
end U2
namespace U2
open PySem PySem.Spec PyProof.Rows L2
def sW:List U->Option (List Str)
 | []=>some []
 | .str b :: r=>(sW r).map (b :: ·)
 | _=>none
theorem CG {K:PySem.W.Frag} {H:Hp} {M:aF}:∀ {us:List U} {vs:List V} {bs:List Str},aI K H M us vs->sW us=some bs->vs=bs.map V.str
 | [],_,_,r,h=>by cases h;exact r.inv_nil
 | u :: us,_,bs,r,h=>by
  obtain ⟨v,vs',rfl,a,b⟩:=r.inv_cons
  cases u with
  | str y =>
   simp only [sW] at h
   cases e:sW us with
   | none=>rw [e] at h;cases h
   | some cs =>
    rw [e] at h
    cases h
    rw [CG b e,a.str];rfl
  | _=>cases h
end U2
namespace U2
open PySem L2
theorem yF {α:Type} {a:α} {r:List α}:iT (a :: r) 0=some a:=jQ (j:=0) rfl
theorem CI {α:Type} {a b:α} {r:List α}:iT (a :: b :: r) 1=some b:=jQ (j:=1) rfl
theorem at2 {α:Type} {a b c:α} {r:List α}:iT (a :: b :: c :: r) 2=some c:=jQ (j:=2) rfl
theorem DN {α:Type} {a b c d:α} {r:List α}:iT (a :: b :: c :: d :: r) 3=some d:=jQ (j:=3) rfl
theorem WO {α:Type} (l:List α) (a:α):(l++[a]).getLast?=some a:=by simp
theorem WT {α:Type} (l:List α) (a:α):(l++[a]).dropLast=l:=List.dropLast_concat
theorem MN {α:Type} (a:α) (r:List α):pW (a :: r) (some 1) none=r:=by
 unfold pW
 simp [HT.bS]
 try omega
theorem yW {M:aF}:view M .non=.non:=rfl
theorem Ba {M:aF} {x:Bool}:view M (.bl x)=.bl x:=rfl
theorem yG {M:aF} {x:Int}:view M (.int x)=.int x:=rfl
theorem yO {M:aF} {x:Str}:view M (.str x)=.str x:=rfl
theorem yT {M:aF} {x:List U}:view M (.tup x)=.tup x:=rfl
theorem yC {M:aF} {x:List U}:view M (.lst x)=.lst x:=rfl
theorem uW {M:aF} {p:Addr} {us:List U}:view (mup M p (.lst us)) (.ref p)=.lst us:=mI bO
theorem mV {M:aF} {p:Addr} {us:List U}:GJ (mup M p (.lst us)) (.ref p):=⟨us,uW⟩
theorem iW {o:Bool} {k:Nat} {ix:List Nat} {wi:UI} {g:UG} {te:UE} {τ:SU} {M M1:aF} {Q:UK} {S:Src} (zs:List U) (hw:∀ R:Src->aF->Prop,R S M1->wi τ M R) (hl:zs.length=S.xs.length) (hz:S.xs.length<=sizeLine) (hs:S.ok M1)
  (h:∀ (i:Nat) x y,S.xs[i]?=some x->zs[i]?=some y->∀ M,Sub M1 M->∀ R:UK,R y M->g x (eO k ix τ) M fun τ2 M2=>te τ2 M2 R)
  (q:kZ o zs M1 Q):BA o k ix wi g (fun _ M Q=>Q true M) te τ M Q:=by
 refine hw _ ⟨hz,fun D hD=>⟨fun i ys M=>ys=zs.take i/\M=mup M1 D (.lst ys)/\i<=S.xs.length,⟨by simp,rfl,Nat.zero_le _⟩,?_,?_,?_⟩⟩
 ·rintro i ys M ⟨rfl,rfl,hi⟩
  refine ⟨fun a e=>?_,bO,?_⟩
  ·have:=hs a e
   rw [cB (fun z=>by subst z;rw [hD] at this;cases this)]
   exact this
  ·rw [List.length_take];omega
 ·rintro i x ys M e ⟨rfl,rfl,hi⟩
  have hlt:i < S.xs.length:=(List.getElem?_eq_some_iff.mp e).1
  have hy:zs[i]?=some zs[i]:=by simp [show i < zs.length by omega]
  have tk:zs.take (i + 1)=zs.take i++[zs[i]]:=by rw [List.take_add_one,hy];rfl
  refine h i x zs[i] e hy (mup M1 D (.lst (zs.take i))) ((Sub.refl M1).mup hD) (fun y M4=>M4 D=some (.lst (zs.take i))/\(zs.take i++[y]=zs.take (i + 1)/\mup M4 D (.lst (zs.take i++[y]))=mup M1 D (.lst (zs.take i++[y]))/\i + 1<=S.xs.length)) ?_
  exact ⟨bO,tk.symm,gR,hlt⟩
 ·rintro ys M ⟨rfl,rfl,hi⟩
  rw [show zs.take S.xs.length=zs by rw [<- hl];exact List.take_length]
  cases o with
  | true=>exact q D hD
  | false=>exact ⟨M1,(Sub.refl M1).mup hD,hD,q⟩
end U2
namespace U2
open PySem PySem.Spec PyProof.Rows L2
section
variable {prog:Program} {w:World} {A:Around} {E:Value->Shared->Prop} {s:Shared}
theorem Ag {it t:Addr} {i:Nat} {items} {x:Value} {Q:Value->Shared->Prop} (hit:s.heap.IsTupleIter it t i)
  (ht:s.heap.IsTuple t items) (hx:items[i]?=some x)
  (hQ:∀ h',h'.IsTupleIter it t (i + 1)->Heap.SameBut it s.heap h'->Q x { s with heap:=h' }) :
  wpAny (model prog w) A (Builtin.SmallTypes.nextOf (.ref it)) Q E s:=by
 obtain ⟨o,ho,hc,hd⟩:=id hit
 obtain ⟨ol,hol,_,nl,hdl⟩:=ht
 unfold Builtin.SmallTypes.nextOf
 refine wpAny_bind (wpAny_callSpecial?_slot (name:=Str.ofString "__next__") hit.typeIs PySem.F.slot_tuple_iterator_next
  (wpAny_call_entry PySem.F.slot_tuple_iterator_next hit.typeIs PySem.F.entry_tuple_iterator_next ?_ (PySem.F.args_tuple_iterator_next_1 _)))
 show wpAny _ _ (field (.ref it) 0 >>= _) _ _ s
 refine wpAny_bind (wpAny_field ho hd (x:=.ref t) rfl ?_)
 show wpAny _ _ (if (Value.ref t == Value.none)=true then _ else _) _ _ s
 rw [if_neg (show ¬ ((Value.ref t == Value.none)=true) from Bool.false_ne_true)]
 show wpAny _ _ (field (.ref it) 1 >>= _) _ _ s
 refine wpAny_bind (wpAny_field ho hd (x:=.int i 0) rfl ?_)
 show wpAny _ _ (seqItems? (.ref t) >>= _) _ _ s
 refine wpAny_bind (wpAny_seqItems hol hdl ?_)
 simp only [Int.toNat_natCast,hx]
 refine wpAny_bind (wpAny_setField ho hd (by simp) (wpAny_pure ⟨x,rfl,wpAny_pure (hQ _ ?_ (Heap.SameBut.update ..))⟩))
 exact ⟨_,Heap.get?_update_self _ ho (Obj.isFreed_of_fields (Obj.data_mapFields hd _)),(Obj.cls_mapFields ..).trans hc,by
  rw [Obj.data_mapFields hd];simp [rawInt]⟩
theorem AB {it t:Addr} {i:Nat} {items} {Q:Value->Shared->Prop} (hh:A.handled=none)
  (hit:s.heap.IsTupleIter it t i) (ht:s.heap.IsTuple t items) (hx:items[i]?=none)
  (hE:∀ h' e,Heap.ExtBut it s.heap h'->(∃ o,h'.get? e=some o/\o.cls=.type "StopIteration")->E (.ref e) { s with heap:=h' }) :
  wpAny (model prog w) A (Builtin.SmallTypes.nextOf (.ref it)) Q E s:=by
 obtain ⟨o,ho,hc,hd⟩:=id hit
 obtain ⟨ol,hol,_,nl,hdl⟩:=ht
 unfold Builtin.SmallTypes.nextOf
 refine wpAny_bind (wpAny_callSpecial?_slot (name:=Str.ofString "__next__") hit.typeIs PySem.F.slot_tuple_iterator_next
  (wpAny_call_entry PySem.F.slot_tuple_iterator_next hit.typeIs PySem.F.entry_tuple_iterator_next ?_ (PySem.F.args_tuple_iterator_next_1 _)))
 show wpAny _ _ (field (.ref it) 0 >>= _) _ _ s
 refine wpAny_bind (wpAny_field ho hd (x:=.ref t) rfl ?_)
 show wpAny _ _ (if (Value.ref t == Value.none)=true then _ else _) _ _ s
 rw [if_neg (show ¬ ((Value.ref t == Value.none)=true) from Bool.false_ne_true)]
 show wpAny _ _ (field (.ref it) 1 >>= _) _ _ s
 refine wpAny_bind (wpAny_field ho hd (x:=.int i 0) rfl ?_)
 show wpAny _ _ (seqItems? (.ref t) >>= _) _ _ s
 refine wpAny_bind (wpAny_seqItems hol hdl ?_)
 simp only [Int.toNat_natCast,hx]
 refine wpAny_bind (wpAny_rule (wpAny_bind (wpAny_setField ho hd (by simp) ?_)))
 show wpAny _ _ (newExc (.type "StopIteration") [] >>= _) _ _ _
 refine wpAny_bind ?_
 simp only [newExc,newTuple]
 refine wpAny_bind (wpAny_newObj_type ?_ (by size_fits))
 refine wpAny_bind (m:=firstArgMember _ _) (wpAny_of_eq (a:=Value.none) (by first | rfl | (simp only [firstArgMember];rfl)) ?_)
 refine wpAny_newObj_type ?_ (by size_fits)
 simp only [raiseNew]
 refine wpAny_bind (wpAny_handled ?_)
 first | rw [show A.in1.handled=none from hh] | rw [hh]
 refine wpAny_bind (wpAny_pure (wpAny_throw ?_))
 exact hE _ _ (((Heap.SameBut.update ..).extBut.push _).push _) ⟨_,Heap.get?_push_size _ rfl,rfl⟩
theorem FG {prog:Program} {w:World} {A:Around} (hh:A.handled=none) (it l:Addr) (hne:l≠it) (items:Array Value) :
  Draws prog w A it [it,l] items.size (fun i v=>items[i]?=some v) (fun i h=>h.IsTupleIter it l i/\h.IsTuple l items) where
 live:=fun _ _ st=>let ⟨o,ho,_⟩:=st.1;⟨o,ho⟩
 frame:=fun _ _ _ st hk=>⟨st.1.at fun o e=>hk it (by simp) o e,let ⟨o,ho,r⟩:=st.2;⟨o,hk l (by simp) o ho,r⟩⟩
 item:=fun i s Q E hi st hQ=>by
  refine Ag st.1 st.2 (x:=items[i]) (by simp [hi]) fun h' hit' hs'=>?_
  exact hQ _ h' s.toks (by simp [hi]) ⟨hit',let ⟨o,ho,r⟩:=st.2;⟨o,hs'.extBut l o hne ho,r⟩⟩ hs'
 done:=fun s Q E st hE=>AB hh st.1 st.2 (by simp) hE
end
def mO (b:Bool) (K:PySem.W.Frag) (H:Hp) (a:Addr) (xs:List V):Prop:=match b with
 | true=>fB K H a xs
 | false=>gI K H a xs
def j6 (b:Bool) (h:Heap) (a:Addr) (xs:Array Value):Prop:=match b with
 | true=>h.IsList a xs
 | false=>h.IsTuple a xs
def lQ (b:Bool) (h:Heap) (it a:Addr) (i:Nat):Prop:=match b with
 | true=>h.IsListIter it a i
 | false=>h.IsTupleIter it a i
def WJ:Bool->String
 | true=>"list"
 | false=>"tuple"
def wZ:Bool->String
 | true=>"list_iterator"
 | false=>"tuple_iterator"
theorem iS {h:Heap} {b b':Addr} {o o':Obj} {n n':String} (x:h.get? b=some o) (y:h.get? b'=some o') (p:o.cls=.type n) (q:o'.cls=.type n') (ne:n≠n'):b≠b':=fun z=>by
 subst z;rw [x] at y;cases y;rw [p] at q;exact ne (Value.type.inj q)
theorem j6.obj {b:Bool} {h:Heap} {a:Addr} {xs:Array Value} (p:j6 b h a xs):∃ o n,h.get? a=some o/\o.cls=.type (WJ b)/\o.data=.seq xs n:=by
 cases b <;> (obtain ⟨o,e,c,n,d⟩:=p;exact ⟨o,n,e,c,d⟩)
theorem lQ.obj {b:Bool} {h:Heap} {it a:Addr} {i:Nat} (p:lQ b h it a i):∃ o,h.get? it=some o/\o.cls=.type (wZ b)/\o.data=.fields #[.ref a,.int i 0]:=by
 cases b <;> exact p
theorem lQ.of {b:Bool} {h:Heap} {it a:Addr} {i:Nat} {o:Obj} (e:h.get? it=some o) (c:o.cls=.type (wZ b)) (d:o.data=.fields #[.ref a,.int i 0]):lQ b h it a i:=by
 cases b <;> exact ⟨o,e,c,d⟩
theorem lQ.at {b:Bool} {h h':Heap} {it a:Addr} {i:Nat} (p:lQ b h it a i) (k:∀ o,h.get? it=some o->h'.get? it=some o):lQ b h' it a i :=
 let ⟨o,e,c,d⟩:=p.obj;.of (k o e) c d
theorem j6.ne {b b':Bool} {h:Heap} {a it c:Addr} {xs:Array Value} {i:Nat} (p:j6 b h a xs) (q:lQ b' h it c i):a≠it :=
 let ⟨_,_,e,c,_⟩:=p.obj;let ⟨_,e',c',_⟩:=q.obj;iS e e' c c' (by cases b <;> cases b' <;> decide)
theorem xA {X:Cx} {pins:List (Addr × Obj)} {σ:L2.St} {H:Hp} {s:Shared} {b:Bool} {a:Addr} {xs:List V} (I:L2.Inv X pins σ H s) (h:mO b X.K H a xs):∃ its:List Value,Vals xs its/\j6 b s.heap a its.toArray/\xs.length<=sizeLine:=by
 cases b
 ·exact I.tuple h
 ·obtain ⟨its,r,p,z⟩:=I.list h;exact ⟨its,r,p.isList,z⟩
theorem OZ {X:Cx} {pins:List (Addr × Obj)} {σ:L2.St} {H:Hp} {s:Shared} {b:Bool} {a:Addr} {xs ys:List V} (I:L2.Inv X pins σ H s) (h:mO b X.K H a xs) (h':mO b X.K H a ys):xs=ys:=by
 cases b
 ·exact I.tuple_inj h h'
 ·exact I.list_inj h h'
theorem kE {prog:Program} {w:World} {A:Around} (b:Bool) (hh:A.handled=none) (it l:Addr) (hne:l≠it) (items:Array Value) :
  Draws prog w A it [it,l] items.size (fun i v=>items[i]?=some v) (fun i h=>lQ b h it l i/\j6 b h l items):=by
 cases b
 ·exact FG hh it l hne items
 ·exact Draws.list hh it l hne items
def Hv (b:Bool) (K:PySem.W.Frag) (H:Hp) (M:aF) (a:Addr) (vs:List V):Prop:=∀ H1 M1,aX H M H1 M1->mO b K H1 a vs
theorem Mp {K:PySem.W.Frag} {H:Hp} {M:aF} {a:Addr} {vs:List V} (m:M a=none/\H a=some (.tup vs)):Hv false K H M a vs:=fun _ _ s=>.inl (.inl (s.to m.2 m.1).1)
theorem Xe {K:PySem.W.Frag} {H:Hp} {M:aF} {a:Addr} {vs:List V} (m:(M a=none/\Rd H a (.lst vs))\/KL K a vs):Hv true K H M a vs:=fun _ _ s=>by
 rcases m with ⟨m,h⟩ | k
 ·exact .inl (Rd.stp s m h).2
 ·exact .inr k
section
variable {prog:Program} {w:World} {A:Around} {E:Value->Shared->Prop} {s:Shared}
theorem AU (l:Addr) (items:Array Value) (n:Nat) (dd:Option Addr) (sl:Array (Option Value)) :
  Meets (Builtin.«enumerate.__new__» ⟨[.type "enumerate",.ref l],[]⟩) (fun _ R s=>s.heap.get? l=some { cls:=.type "tuple",dict:=dd,data:=.seq items n,slots:=sl } /\
   R (.ok (.ret (.ref (s.heap.push { cls:=.type "tuple_iterator",data:=.fields #[.ref l,.int 0 0] }).objs.size)))
    { s with heap:=(s.heap.push { cls:=.type "tuple_iterator",data:=.fields #[.ref l,.int 0 0] }).push { cls:=.type "enumerate",data:=.fields #[.none,.bool false,.ref s.heap.objs.size,rawInt 0,.none,.none] } }) :=
 .of_wp fun prog w A R s h=>by
  obtain ⟨hp,g,d,tk,os⟩:=s;obtain ⟨hl,h⟩:=h
  have hsub:=PySem.sub_enumerate
  have hL:Heap.IsTuple (Shared.heap ⟨hp,g,d,tk,os⟩) l items:=⟨_,hl,rfl,n,rfl⟩
  wp_walk using wpAny_loadPart' hl
  refine wpAny_stack_any fun st=>wpAny_pure ?_
  split
  ·rename_i c _ _ _ _ _
   cases (c == Value.type "enumerate")
   ·wp_walk using wpAny_loadPart' hl,wpAny_pyIter_tuple hL
    exact ⟨_,rfl,h⟩
   ·wp_walk using wpAny_loadPart' hl,wpAny_pyIter_tuple hL
    exact ⟨_,rfl,h⟩
  ·wp_walk using wpAny_loadPart' hl,wpAny_pyIter_tuple hL
   exact ⟨_,rfl,h⟩
theorem Bu (l:Addr) (items:Array Value) (n:Nat) (dd:Option Addr) (sl:Array (Option Value)) :
  Meets (Builtin.«enumerate.__new__» ⟨[.type "enumerate",.ref l],[]⟩) (fun _ R s=>s.heap.get? l=some { cls:=.type "list",dict:=dd,data:=.seq items n,slots:=sl } /\
   R (.ok (.ret (.ref (s.heap.push { cls:=.type "list_iterator",data:=.fields #[.ref l,.int 0 0] }).objs.size)))
    { s with heap:=(s.heap.push { cls:=.type "list_iterator",data:=.fields #[.ref l,.int 0 0] }).push { cls:=.type "enumerate",data:=.fields #[.none,.bool false,.ref s.heap.objs.size,rawInt 0,.none,.none] } }) :=
 .of_wp fun prog w A R s h=>by
  obtain ⟨hp,g,d,tk,os⟩:=s;obtain ⟨hl,h⟩:=h
  have hsub:=PySem.sub_enumerate
  have hL:Heap.IsList (Shared.heap ⟨hp,g,d,tk,os⟩) l items:=⟨_,hl,rfl,n,rfl⟩
  wp_walk using wpAny_loadPart' hl
  refine wpAny_stack_any fun st=>wpAny_pure ?_
  split
  ·rename_i c _ _ _ _ _
   cases (c == Value.type "enumerate")
   ·wp_walk using wpAny_loadPart' hl,wpAny_pyIter_list hL
    exact ⟨_,rfl,h⟩
   ·wp_walk using wpAny_loadPart' hl,wpAny_pyIter_list hL
    exact ⟨_,rfl,h⟩
  ·wp_walk using wpAny_loadPart' hl,wpAny_pyIter_list hL
   exact ⟨_,rfl,h⟩
end
theorem oK {X:Cx} {pins:List (Addr × Obj)} {σ:L2.St} {H:Hp} {s:Shared} {h':Heap} {ch:List Addr} {T:Addr} {o:HO} {tk:Nat} (I:L2.Inv X pins σ H s) (hf:∀ b∈ch,tO X pins H b)
  (k:∀ b o,b ∉ ch->s.heap.get? b=some o->h'.get? b=some o) (hT:s.heap.objs.size<=T) (new:dI X.prog X.w (upd H T o) h' T o):L2.Inv X pins σ (upd H T o) { s with heap:=h',toks:=tk }:=by
 have hn:H T=none:=I.hok.fresh hT
 refine I.call' (ch:=ch) (H':=upd H T o) rfl ⟨fun b u q n hb hx=>k b u hx q,fun b u q n hb hx=>⟨u.slots,k b u hx q⟩,fun b u q n hx=>?_,fun b u q hx=>⟨u,k b u hx q⟩,fun b xs q=>by rw [bE (bR q hn)];exact q,fun b u xs q=>by rw [bE (bR q hn)];exact q,
  fun b ps q=>⟨#[],by rw [bE (bR q hn),q];simp⟩⟩ (fun a u e=>?_) I.bare fun b hb=>⟨(hf b hb).2.2.2.1,(hf b hb).2.1,(hf b hb).2.2.2.2.1,(hf b hb).2.2.2.2.2⟩
 ·rw [bE (Nat.ne_of_lt (Nat.lt_of_lt_of_le (Heap.lt_size q) hT))];exact n
 ·by_cases ha:a=T
  ·subst ha;rw [bT] at e;cases e;exact new
  ·rw [bE ha] at e
   refine (I.hok a u e).stay (fun b z hb q=>k b z (fun hc=>?_) q) (fun c q=>by rw [bE (bR q hn)];exact q) fun c xs q=>by rw [bE (bR q hn)];exact q
   have hnone:=(hf b hc).1
   rcases hb with rfl | hb
   ·rw [hnone] at e;cases e
   ·rw [hnone] at hb;cases hb
def Ug (f:Bool) (K:PySem.W.Frag) (a:Addr):It :=
 ⟨fun i H=>∃ xs x,mO f K H a xs/\xs[i]?=some x,fun i H x H'=>∃ p v,(∀ xs,mO f K H a xs->xs[i]?=some v)/\H p=none/\x=.ref p/\H'=upd H p (.tup [.int i,v]),fun i H=>∃ xs,mO f K H a xs/\xs.length=i⟩
theorem KQ {P:Program} {w:World} {K:PySem.W.Frag} {elts:List Expr} {kk:Nat} {pos:Pos} (f:Bool) (a it e:Addr):Turn P w K (.Tuple elts kk pos) (Ug f K a) [e,it] e (fun i h=>(∃ old,IsEnum h e it i old)/\lQ f h it a i) where
 mem:=by simp
 obj:=fun i h st b hb=>by
  obtain ⟨⟨old,he⟩,hi⟩:=st
  obtain ⟨o,ho,hc,hd⟩:=hi.obj
  have:b=e\/b=it:=by simpa using hb
  rcases this with rfl | rfl
  ·exact ⟨_,he,fun v z=>by
    have z':Data.fields _=Data.cell v:=z
    cases z'⟩
  ·exact ⟨o,ho,fun v z=>by rw [hd] at z;cases z⟩
 keep:=fun i h h' st k=>let ⟨⟨old,he⟩,hi⟩:=st;⟨⟨old,k e (by simp) _ he⟩,hi.at fun o q=>k it (by simp) o q⟩
 item:=by
  intro X hP hw hK hc i pins s σ H E I hf st hg
  subst hP hw hK
  obtain ⟨⟨old,he⟩,hit⟩:=st
  obtain ⟨xs,x,hq,hx⟩:=hg
  obtain ⟨its,rv,p,hz⟩:=xA I hq
  obtain ⟨u,hu,ru⟩:=rv.get hx
  have p':j6 f s.heap a its.toArray:=p
  obtain ⟨oi,hoi,hci,hdi⟩:=hit.obj
  obtain ⟨oa,na,hoa,hca,hda⟩:=p'.obj
  have n1:a≠it:=p'.ne hit
  have n2:e≠it:=iS he hoi rfl hci (by cases f <;> decide)
  have n3:e≠a:=iS he hoa rfl hca (by cases f <;> decide)
  have W:=WalksT.enumerateD (prog:=X.prog) (w:=X.w) (A:=X.A) (kE f (A:=X.A.in1) (show X.A.in1.handled=none from I.ok.hd hc) it a n1 its.toArray) e n2 (by simp [n2,n3]) (by simp)
  have hlt:i < its.toArray.size:=by
   have:=(List.getElem?_eq_some_iff.mp hu).1
   simpa using this
  have hD:=kE f (prog:=X.prog) (w:=X.w) (A:=X.A.in1) (show X.A.in1.handled=none from I.ok.hd hc) it a n1 its.toArray
  refine wpAny_pyNext_enum_itemD hD he ⟨hit,p'⟩ hlt n2 (by simp [n2,n3]) fun y h' tk hy ho0 hs0 hT0 hsz0 hk0=>?_
  have helt:e < s.heap.objs.size:=Heap.lt_size he
  have hilt:it < s.heap.objs.size:=Heap.lt_size hoi
  have kR:iC h' s.heap.objs.size #[Value.int i tk,y]:=⟨_,hT0,rfl,rfl,_,rfl⟩
  have hk:∀ b o,b ∉ [e,it]->s.heap.get? b=some o->h'.get? b=some o:=fun b o hb z=>hk0 b o (fun e'=>hb (by simp [e'])) (fun e'=>hb (by simp [e'])) z
  have hMid:=(⟨⟨_,ho0⟩,hs0,Nat.ne_of_gt helt,Nat.ne_of_gt hilt⟩:(∃ x,IsEnumOut h' e it ((i:Int) + 1) x s.heap.objs.size)/\_/\s.heap.objs.size≠e/\s.heap.objs.size≠it)
  obtain ⟨T,hTe⟩:∃ T,T=s.heap.objs.size:=⟨_,rfl⟩
  rw [<- hTe] at kR hMid ⊢
  have hT:s.heap.objs.size<=T:=Nat.le_of_eq hTe.symm
  refine ⟨.ref T,rfl,W.go elts kk pos i T _ _ E hMid fun h'' hSt hk2=>?_⟩
  have hy':y=u:=by
   have h3:its[i]?=some y:=by simpa using hy
   rw [hu] at h3;exact (Option.some.inj h3).symm
  subst hy'
  have hTT:iC h'' T #[.int i tk,y]:=let ⟨o,ho,r⟩:=kR;⟨o,hk2 T o (W.apart i T _ hMid) ho,r⟩
  refine ⟨.ref T,upd H T (.tup [.int i,x]),oK (s:=s) (h':=h'') (tk:=tk + 1) (ch:=[e,it]) I hf (fun b o hb q=>hk2 b o (by simpa using hb) (hk b o (by simpa using hb) q)) hT ⟨by show 2<=sizeLine;decide,[.int i tk,y],.cons ⟨tk,rfl⟩ (.cons ru .nil),hTT⟩,rfl,⟨T,x,fun ys hy=>by rw [<- OZ I hq hy];exact hx,I.hok.fresh hT,rfl,rfl⟩,⟨by simpa using hSt.1,hSt.2.1⟩,fun b hb=>?_⟩
  have hn:=(hf b hb).1
  rw [bE (Nat.ne_of_lt (Nat.lt_of_lt_of_le ?_ hT))]
  ·exact hn
  ·have:b=e\/b=it:=by simpa using hb
   rcases this with rfl | rfl
   ·exact Heap.lt_size he
   ·exact Heap.lt_size hoi
 done:=by
  intro X hP hw hK hc i pins s σ H E I hf st hg
  subst hP hw hK
  obtain ⟨⟨old,he⟩,hit⟩:=st
  obtain ⟨xs,hq,hx⟩:=hg
  obtain ⟨its,rv,p,hz⟩:=xA I hq
  have p':j6 f s.heap a its.toArray:=p
  obtain ⟨oi,hoi,hci,hdi⟩:=hit.obj
  obtain ⟨oa,na,hoa,hca,hda⟩:=p'.obj
  have n1:a≠it:=p'.ne hit
  have n2:e≠it:=iS he hoi rfl hci (by cases f <;> decide)
  have n3:e≠a:=iS he hoa rfl hca (by cases f <;> decide)
  have W:=WalksT.enumerateD (prog:=X.prog) (w:=X.w) (A:=X.A) (kE f (A:=X.A.in1) (show X.A.in1.handled=none from I.ok.hd hc) it a n1 its.toArray) e n2 (by simp [n2,n3]) (by simp)
  have hi:i=its.toArray.size:=by rw [List.size_toArray,<- rv.length];exact hx.symm
  subst hi
  refine W.done s _ E ⟨⟨old,he⟩,hit,p'⟩ fun h' tk hk=>⟨rfl,?_⟩
  have:=I.call' (ch:=[e,it]) (H':=H) (s':={ s with heap:=h',toks:=tk }) rfl ⟨fun b u q n hb hx=>hk b u (by simpa using hx) q,fun b u q n hb hx=>⟨u.slots,hk b u (by simpa using hx) q⟩,fun b u q n hx=>n,fun b u q hx=>⟨u,hk b u (by simpa using hx) q⟩,fun b xs q=>q,fun b u xs q=>q,fun b ps q=>⟨#[],by rw [q];simp⟩⟩
   (fun a u e'=>?_) I.bare fun b hb=>⟨(hf b hb).2.2.2.1,(hf b hb).2.1,(hf b hb).2.2.2.2.1,(hf b hb).2.2.2.2.2⟩
  ·exact this
  ·refine (I.hok a u e').stay (fun b z hb q=>hk b z (fun hc=>?_) q) (fun _ q=>q) fun _ _ q=>q
   have hnone:=(hf b (by simpa using hc)).1
   rcases hb with rfl | hb
   ·rw [hnone] at e';cases e'
   ·rw [hnone] at hb;cases hb
 self:=fun _ _ _ _ _ st h=>let ⟨⟨old,he⟩,_⟩:=st;wpAny_pyIter_enum he h
theorem HF {prog:Program} {w:World} {A:Around} {E:Value->Shared->Prop} {s:Shared} {f:Bool} {l:Addr} {items:Array Value} {Q:Value->Shared->Prop}
  (hl:j6 f s.heap l items)
  (h:∀ h',IsEnum h' (s.heap.objs.size + 1) s.heap.objs.size 0 .none->lQ f h' s.heap.objs.size l 0->h'.objs.size=s.heap.objs.size + 2 ->
   (∀ b o,s.heap.get? b=some o->h'.get? b=some o)->Q (.ref (s.heap.objs.size + 1)) { s with heap:=h' }) :
  wpAny (model prog w) A (call (.type "enumerate") [.ref l]) Q E s:=by
 have fin:Q (.ref (s.heap.push { cls:=.type (wZ f),data:=.fields #[.ref l,.int 0 0] }).objs.size)
   { s with heap:=(s.heap.push { cls:=.type (wZ f),data:=.fields #[.ref l,.int 0 0] }).push { cls:=.type "enumerate",data:=.fields #[.none,.bool false,.ref s.heap.objs.size,rawInt 0,.none,.none] } } /\
   ((s.heap.push { cls:=.type (wZ f),data:=.fields #[.ref l,.int 0 0] }).push { cls:=.type "enumerate",data:=.fields #[.none,.bool false,.ref s.heap.objs.size,rawInt 0,.none,.none] }).get? (s.heap.push { cls:=.type (wZ f),data:=.fields #[.ref l,.int 0 0] }).objs.size=some { cls:=.type "enumerate",data:=.fields #[.none,.bool false,.ref s.heap.objs.size,rawInt 0,.none,.none] }:=by
  have hz:(s.heap.push { cls:=.type (wZ f),data:=.fields #[.ref l,.int 0 0] }).objs.size=s.heap.objs.size + 1:=Heap.size_push ..
  have he:=Heap.get?_push_size (s.heap.push { cls:=.type (wZ f),data:=.fields #[.ref l,.int 0 0] })
   (o:={ cls:=.type "enumerate",data:=.fields #[.none,.bool false,.ref s.heap.objs.size,rawInt 0,.none,.none] }) rfl
  refine ⟨?_,he⟩
  rw [hz] at he
  rw [hz]
  exact h _ he (.of (Heap.get?_push_of_some _ (Heap.get?_push_size _ rfl)) rfl rfl) (by rw [Heap.size_push,hz]) fun b o x=>Heap.get?_push_of_some _ (Heap.get?_push_of_some _ x)
 obtain ⟨⟨oc,od,odt,osl⟩,n,ho,hc,hd⟩:=hl.obj
 have hc':oc=.type (WJ f):=hc
 have hd':odt=.seq items n:=hd
 subst hc' hd'
 cases f
 ·exact callType_new F.called_enumerate (by decide) (F.typeCall_enumerate_1 _) (F.newCall_enumerate_1 _) (fun obj=>F.args_object_init_2 obj _) F.entry_enumerate_new
   (AU l items n od osl) ⟨ho,⟨_,fin.2,rfl⟩,fin.1⟩
 ·exact callType_new F.called_enumerate (by decide) (F.typeCall_enumerate_1 _) (F.newCall_enumerate_1 _) (fun obj=>F.args_object_init_2 obj _) F.entry_enumerate_new
   (Bu l items n od osl) ⟨ho,⟨_,fin.2,rfl⟩,fin.1⟩
def Pq (f:Bool) (K:PySem.W.Frag) (ta:TA):TI:=fun σ H R=>ta σ H fun vs H1=>∃ a,vs=[.ref a]/\(∃ xs,mO f K H1 a xs)/\R (Ug f K a) H1
theorem RS {f:Bool} {X:Cx} {elts:List Expr} {kk:Nat} {tpos:Pos} {a:Expr} {ta:TA} {p pos:Pos} (hg:Gl X "enumerate") (hm:X.mg "enumerate"=none) (ha:PA X [a] ta) (hs:starEach [a] X.env=[(false,eval a X.env)]) :
  PI X (.Tuple elts kk tpos) (.Call (.Name "enumerate" p) [a] [] pos) (Pq f X.K ta):=by
 intro pins s σ H R I h
 refine Call_ (nI I hg hm boot_enumerate (PyProof.Rows.callWith_type1 (bB (ha pos pins s σ H _ I h) fun us s1 ⟨vs,H1,I1,r1,q1⟩=>?_) hs rfl))
 obtain ⟨a,e,⟨xs,hq⟩,q⟩:=q1
 subst e
 cases r1 with
 | cons r rr =>
  cases rr
  cases r
  obtain ⟨its,rv,p,hz⟩:=xA I1 hq
  refine HF p fun h' he hit hsz hk=>?_
  refine wpAny_pyIter_enum (s:={ s1 with heap:=h' }) he ?_
  have I2:L2.Inv X pins σ H1 { s1 with heap:=h',toks:=s1.toks }:=I1.kept hk
  refine ⟨s1.heap.objs.size + 1,[s1.heap.objs.size + 1,s1.heap.objs.size],_,_,H1,rfl,I2,KQ f a s1.heap.objs.size (s1.heap.objs.size + 1),⟨⟨_,he⟩,hit⟩,fun b hb=>?_,q⟩
  have e:b=s1.heap.objs.size + 1\/b=s1.heap.objs.size:=by simpa using hb
  rcases e with rfl | rfl
  ·exact I1.fpOk (Nat.le_succ _) (I1.hok.fresh (Nat.le_succ _))
  ·exact I1.fpOk (Nat.le_refl _) (I1.hok.fresh (Nat.le_refl _))
def numbered (us:List U):List U:=us.zipIdx.map fun p=>.tup [.int (p.2:Nat),p.1]
theorem yE (us:List U):(numbered us).length=us.length:=by simp [numbered]
theorem yD {us:List U} {i:Nat} {x:U} (h:(numbered us)[i]?=some x):∃ u,us[i]?=some u/\x=.tup [.int i,u]:=by
 simp only [numbered,List.getElem?_map,List.getElem?_zipIdx] at h
 cases e:us[i]? with
 | none=>rw [e] at h;simp at h
 | some u=>rw [e] at h;simp at h;exact ⟨u,rfl,h.symm⟩
theorem K5 {f:Bool} {K:PySem.W.Frag} {a:Addr} {us:List U} {vs:List V} {H:Hp} {M:aF} (sq:Hv f K H M a vs) (r:aI K H M us vs):Walk K (Ug f K a) ⟨none,numbered us⟩ H M:=by
 refine ⟨fun H1 M1 s rm _ i u e=>?_,fun H1 M1 s rm _=>⟨vs,sq H1 M1 s,by show vs.length=(numbered us).length;rw [yE,r.length]⟩⟩
 obtain ⟨w,e1,rfl⟩:=yD e
 obtain ⟨v,e2,ru⟩:=r.get e1
 refine ⟨⟨vs,v,sq H1 M1 s,e2⟩,fun x H2 y=>?_⟩
 obtain ⟨p,v',y,hp,rfl,rfl⟩:=y
 have:=y vs (sq _ M1 s)
 rw [e2] at this;cases this
 have st:=aX.laid (o:=.tup [.int i,v]) rm hp
 have rr:aI K H1 M1 [.int i,w] [.int i,v]:=by
  simp only [aI]
  exact ⟨_,_,rfl,dQ,_,_,rfl,ru.stp s,rfl⟩
 exact ⟨st,rm.laid hp,wR (rm.no hp) bT (rr.stp st)⟩
def aG (ta:UA):UI:=fun τ M R=>ta τ M fun us M1=>match us with
 | [.tup us]=>R ⟨none,numbered us⟩ M1
 | _=>False
theorem Nc {K:PySem.W.Frag} {ta:TA} {ta':UA} (h:mN K ta ta'):v3 K (Pq false K ta) (aG ta'):=fun σ τ H M R' rs rm q R c=>h σ τ H M _ rs rm q _ fun us vs M1 H1 s1 rm1 ru h1=>by
 split at h1
 ·rename_i xs
  obtain ⟨v,rfl,a⟩:=ru.one
  simp only [aP] at a
  obtain ⟨a,vs,rfl,m,r⟩:=a
  refine ⟨a,rfl,⟨vs,?_⟩,c _ _ M1 H1 s1 rm1 (K5 (Mp m) r) h1⟩
  exact .inl (.inl m.2)
 ·exact h1.elim
theorem Er {D:Dat} {elts:List Expr} {kk:Nat} {tpos:Pos} {a:Expr} {p pos:Pos} {ta:UA} (hm:D.mg "enumerate"=none) (ha:kS D [a] ta) (hg:D.sc.names.lookup ("enumerate":Str)=some .globalImplicit:=by rfl) (hs:∀ env,starEach [a] env=[(false,eval a env)]:=by intro _;rfl):Bw D (.Tuple elts kk tpos) (.Call (.Name "enumerate" p) [a] [] pos) (aG ta):=by
 obtain ⟨_,q,s⟩:=ha
 exact ⟨_,fun X h=>h.K ▸ RS (by show X.env.scope.names.lookup _=_;rw [h.sc];exact hg) (by rw [h.mg];exact hm) (q X h) (hs _),Nc s⟩
def aE (ta:UA):UI:=fun τ M R=>ta τ M fun us M1=>match us with
 | [.lst us]=>R ⟨none,numbered us⟩ M1
 | _=>False
end U2
namespace U2
open PySem PySem.Spec PyProof.Rows L2
mutual
def gJ (K:PySem.W.Frag) (H:Hp):PyData->V->Prop
 | .none,v=>v=.non
 | .bool b,v=>v=.bl b
 | .int i,v=>v=.int i
 | .str z,v=>v=.str z
 | .list ds,v=>∃ a xs,v=.ref a/\fB K H a xs/\dM K H ds xs
 | .tuple ds,v=>∃ a xs,v=.ref a/\gI K H a xs/\dM K H ds xs
 | .dict _,_=>False
def dM (K:PySem.W.Frag) (H:Hp):List PyData->List V->Prop
 | [],vs=>vs=[]
 | d :: ds,vs=>∃ v vs',vs=v :: vs'/\gJ K H d v/\dM K H ds vs'
end
mutual
theorem gJ.reads {X:Cx} {pins:List (Addr × Obj)} {σ:L2.St} {H:Hp} {s:Shared} (I:L2.Inv X pins σ H s):∀ {d:PyData} {v:V} {u:Value},gJ X.K H d v->RelV v u->∃ as,Reads s.heap u d as
 | .none,v,u,h,r=>by simp only [gJ] at h;subst h;cases r;exact ⟨_,.none⟩
 | .bool b,v,u,h,r=>by simp only [gJ] at h;subst h;cases r;exact ⟨_,.bool b⟩
 | .int i,v,u,h,r=>by simp only [gJ] at h;subst h;obtain ⟨t,rfl⟩:=r;exact ⟨_,.int i t⟩
 | .str z,v,u,h,r=>by simp only [gJ] at h;subst h;obtain ⟨t,rfl⟩:=r;exact ⟨_,.str z t⟩
 | .list ds,v,u,h,r=>by
  simp only [gJ] at h
  obtain ⟨a,xs,rfl,q,hs⟩:=h
  cases r
  obtain ⟨its,rv,p,hz⟩:=I.list q
  obtain ⟨as,ra⟩:=dM.reads I hs rv
  obtain ⟨o,h1,h2,n,h3⟩:=p.isList
  exact ⟨_,.list h1 h2 h3 (by simpa using ra)⟩
 | .tuple ds,v,u,h,r=>by
  simp only [gJ] at h
  obtain ⟨a,xs,rfl,q,hs⟩:=h
  cases r
  obtain ⟨its,rv,p,hz⟩:=I.tuple q
  obtain ⟨as,ra⟩:=dM.reads I hs rv
  obtain ⟨o,h1,h2,n,h3⟩:=(show s.heap.IsTuple a its.toArray from p)
  exact ⟨_,.tuple h1 h2 h3 (by simpa using ra)⟩
 | .dict _,v,u,h,r=>by simp only [gJ] at h
theorem dM.reads {X:Cx} {pins:List (Addr × Obj)} {σ:L2.St} {H:Hp} {s:Shared} (I:L2.Inv X pins σ H s):∀ {ds:List PyData} {vs:List V} {us:List Value},dM X.K H ds vs->Vals vs us->∃ as,ReadsAll s.heap us ds as
 | [],vs,us,h,r=>by simp only [dM] at h;subst h;cases r;exact ⟨_,.nil⟩
 | d :: ds,vs,us,h,r=>by
  simp only [dM] at h
  obtain ⟨v,vs',rfl,h1,h2⟩:=h
  cases r with
  | cons r rr =>
   obtain ⟨as,ra⟩:=gJ.reads I h1 r
   obtain ⟨bs,rb⟩:=dM.reads I h2 rr
   exact ⟨_,.cons ra rb⟩
end
def Ov (K:PySem.W.Frag) (neg:Bool):R2:=fun x y H Q=>∃ d d',gJ K H d x/\gJ K H d' y/\d.canLay0=true/\d'.canLay0=true/\min d.depth d'.depth<=64/\Q (.bl (if neg then !PyData.eqv d d' else PyData.eqv d d')) H
theorem UR {X:Cx} {k:Nat} (hr:cX k X.A):cZ X (compareOp .Eq) (Ov X.K false):=by
 intro pins s σ H x y v u Q I rx ry h
 obtain ⟨d,d',h1,h2,c1,c2,hd,q⟩:=h
 obtain ⟨as,ra⟩:=h1.reads I rx
 obtain ⟨bs,rb⟩:=h2.reads I ry
 exact SeqAt.compareEq_reads ra rb c1 c2 (by have:=hr.units;omega) ⟨.bl _,H,I,rfl,q⟩
theorem Vr {X:Cx} {k:Nat} (hr:cX k X.A):cZ X (compareOp .NotEq) (Ov X.K true):=by
 intro pins s σ H x y v u Q I rx ry h
 obtain ⟨d,d',h1,h2,c1,c2,hd,q⟩:=h
 obtain ⟨as,ra⟩:=h1.reads I rx
 obtain ⟨bs,rb⟩:=h2.reads I ry
 exact SeqAt.compareNe_reads ra rb c1 c2 (by have:=hr.units;omega) ⟨.bl _,H,I,rfl,q⟩
mutual
def toD:U->Option PyData
 | .non=>some .none
 | .bl b=>some (.bool b)
 | .int i=>some (.int i)
 | .str z=>some (.str z)
 | .tup us=>(dR us).map .tuple
 | .lst us=>(dR us).map .list
 | .ty _=>none
 | .ref _=>none
 | .dic _ _ _=>none
def dR:List U->Option (List PyData)
 | []=>some []
 | u :: us=>match toD u,dR us with
  | some d,some ds=>some (d :: ds)
  | _,_=>none
end
def wG (M:aF) (u:U):Option PyData:=match u with
 | .ref a=>match M a with
  | some (.lst us)=>(dR us).map .list
  | _=>none
 | u=>toD u
mutual
theorem Gs {K:PySem.W.Frag} {H:Hp} {M:aF}:∀ {u:U} {v:V} {d:PyData},aP K H M u v->toD u=some d->gJ K H d v
 | .non,v,d,r,e=>by simp only [toD,Option.some.injEq] at e;subst e;simp only [gJ];exact r.non
 | .bl b,v,d,r,e=>by simp only [toD,Option.some.injEq] at e;subst e;simp only [gJ];exact r.bl
 | .int i,v,d,r,e=>by simp only [toD,Option.some.injEq] at e;subst e;simp only [gJ];exact r.int
 | .str i,v,d,r,e=>by simp only [toD,Option.some.injEq] at e;subst e;simp only [gJ];exact r.str
 | .tup us,v,d,r,e=>by
  simp only [toD] at e
  cases e2:dR us with
  | none=>rw [e2] at e;simp at e
  | some ds =>
   rw [e2] at e;simp at e;subst e
   obtain ⟨a,vs,rfl,q,rs⟩:=r.tup
   simp only [gJ]
   exact ⟨a,vs,rfl,q,rN rs e2⟩
 | .lst us,v,d,r,e=>by
  simp only [toD] at e
  cases e2:dR us with
  | none=>rw [e2] at e;simp at e
  | some ds =>
   rw [e2] at e;simp at e;subst e
   obtain ⟨a,vs,rfl,q,rs⟩:=r.lst
   simp only [gJ]
   exact ⟨a,vs,rfl,q,rN rs e2⟩
 | .ty _,v,d,r,e=>by simp [toD] at e
 | .ref _,v,d,r,e=>by simp [toD] at e
 | .dic _ _ _,v,d,r,e=>by simp [toD] at e
theorem rN {K:PySem.W.Frag} {H:Hp} {M:aF}:∀ {us:List U} {vs:List V} {ds:List PyData},aI K H M us vs->dR us=some ds->dM K H ds vs
 | [],vs,ds,r,e=>by simp only [dR,Option.some.injEq] at e;subst e;simp only [dM];exact r.inv_nil
 | u :: us,vs,ds,r,e=>by
  obtain ⟨v,vs',rfl,a,b⟩:=r.inv_cons
  simp only [dR] at e
  cases e1:toD u with
  | none=>rw [e1] at e;simp at e
  | some d =>
   cases e2:dR us with
   | none=>rw [e1,e2] at e;simp at e
   | some ds' =>
    rw [e1,e2] at e;simp at e;subst e
    simp only [dM]
    exact ⟨v,vs',rfl,Gs a e1,rN b e2⟩
end
theorem AK {K:PySem.W.Frag} {H:Hp} {M:aF} {u:U} {v:V} {d:PyData} (rm:RelM K H M) (r:aP K H M u v) (e:wG M u=some d):gJ K H d v:=by
 cases u with
 | ref a =>
  simp only [wG] at e
  split at e
  ·rename_i us hM
   cases e2:dR us with
   | none=>rw [e2] at e;simp at e
   | some ds =>
    rw [e2] at e;simp at e;subst e
    obtain ⟨vs,h1,rs⟩:=rm a _ hM
    cases r.ref
    simp only [gJ]
    exact ⟨a,vs,rfl,.inl (.inl h1),rN rs e2⟩
  ·cases e
 | _=>exact Gs r (by simpa only [wG] using e)
def AQ (neg:Bool):eC:=fun x y M Q=>∃ d d',wG M x=some d/\wG M y=some d'/\d.canLay0=true/\d'.canLay0=true/\min d.depth d'.depth<=64/\Q (.bl (if neg then !PyData.eqv d d' else PyData.eqv d d')) M
theorem GD {K:PySem.W.Frag} {neg:Bool}:fE K (Ov K neg) (AQ neg):=fun x y u w H M Q' rm ru rw h Q c=>by
 obtain ⟨d,d',e1,e2,c1,c2,hd,q⟩:=h
 exact ⟨d,d',AK rm ru e1,AK rm rw e2,c1,c2,hd,c.here rm cY q⟩
variable {D:Dat}
def zW:U->Bool
 | .non=>true
 | .bl _=>true
 | .int _=>true
 | .str _=>true
 | _=>false
def Pc:U->U->Bool
 | .non,.non=>true
 | .bl a,.bl b=>a == b
 | .bl a,.int j=>(if a then 1 else 0) == j
 | .int i,.bl b=>i == (if b then 1 else 0)
 | .int i,.int j=>i == j
 | .str x,.str y=>x == y
 | _,_=>false
def items (M:aF):U->Option (List U)
 | .tup us=>some us
 | .lst us=>some us
 | .ref a=>match M a with
  | some (.lst us)=>some us
  | _=>none
 | _=>none
def GA (neg:Bool):eC:=fun x y M Q=>match items M y with
 | some us=>zW x=true/\us.all zW=true/\Q (.bl (if neg then !us.any (fun u=>Pc u x) else us.any (fun u=>Pc u x))) M
 | none=>False
theorem RL {K:PySem.W.Frag} {H:Hp} {M:aF} {u w:U} {v x:V} (r:aP K H M u v) (r':aP K H M w x) (f:zW u=true) (f':zW w=true):CU v x=Pc u w:=by
 cases u <;> (first | (cases r.non) | (cases r.bl) | (cases r.int) | (cases r.str) | exact absurd (show false=true from f) Bool.false_ne_true) <;> cases w <;>
  (first | (cases r'.non) | (cases r'.bl) | (cases r'.int) | (cases r'.str) | exact absurd (show false=true from f') Bool.false_ne_true) <;> rfl
theorem R1 {K:PySem.W.Frag} {H:Hp} {M:aF} {w:U} {x:V} (r':aP K H M w x) (f':zW w=true):∀ {us:List U} {vs:List V},aI K H M us vs->us.all zW=true->WH x vs=us.any fun u=>Pc u w
 | [],vs,r,_=>by cases r.inv_nil;rfl
 | u :: us,vs,r,f=>by
  obtain ⟨v,vs',rfl,a,b⟩:=r.inv_cons
  rw [List.all_cons,Bool.and_eq_true] at f
  have:=R1 r' f' b f.2
  unfold WH at this ⊢
  rw [List.any_cons,List.any_cons,this,RL a r' f.1 f']
theorem yP {K:PySem.W.Frag} {H:Hp} {M:aF} {u:U} {v:V} {us:List U} (rm:RelM K H M) (r:aP K H M u v) (e:items M u=some us):∃ p xs,v=.ref p/\(fB K H p xs\/gI K H p xs)/\aI K H M us xs:=by
 cases u with
 | tup us'=>cases e;obtain ⟨a,vs,rfl,q,rs⟩:=r.tup;exact ⟨a,vs,rfl,.inr q,rs⟩
 | lst us'=>cases e;obtain ⟨a,vs,rfl,q,rs⟩:=r.lst;exact ⟨a,vs,rfl,.inl q,rs⟩
 | ref a =>
  simp only [items] at e
  split at e
  ·rename_i us' hM
   cases e
   obtain ⟨vs,h1,rs⟩:=rm a _ hM
   exact ⟨a,vs,r.ref,.inl (.inl (.inl h1)),rs⟩
  ·cases e
 | _=>cases e
def kK (neg:Bool):eC:=fun x y M Q=>match yA x y with
 | some b=>Q (.bl (if neg then !b else b)) M
 | none=>AQ neg x y M Q
theorem cI:pR D .Eq (kK false):=⟨⟨_,fun X h=>h.K ▸ VI.or (UR h.room),fun x y u w H M Q' rm ru rw h Q c=>by
 unfold kK at h
 split at h
 ·rename_i b e
  obtain ⟨h1,h2⟩:=Gr ru rw e
  exact .inl ⟨h1,c.here rm (by rw [h2];exact cY) h⟩
 ·exact .inr (GD x y u w H M Q' rm ru rw h Q c)⟩⟩
theorem tG:pR D .NotEq (kK true):=⟨⟨_,fun X h=>h.K ▸ VE.or (Vr h.room),fun x y u w H M Q' rm ru rw h Q c=>by
 unfold kK at h
 split at h
 ·rename_i b e
  obtain ⟨h1,h2⟩:=Gr ru rw e
  exact .inl ⟨h1,c.here rm (by rw [h2];exact cY) h⟩
 ·exact .inr (GD x y u w H M Q' rm ru rw h Q c)⟩⟩
end U2
namespace U2
open PySem PySem.Spec PyProof.Rows L2
structure Zp (z TI TO i1 i2:Addr) (f1 f2:List Addr):Prop where
 TIz:TI≠z
 TOz:TO≠z
 i1z:i1≠z
 i2z:i2≠z
 TITO:TI≠TO
 TIi1:TI≠i1
 TIi2:TI≠i2
 TOi1:TO≠i1
 TOi2:TO≠i2
 i12:i1≠i2
 zf1:z ∉ f1
 zf2:z ∉ f2
 Tf1:TO ∉ f1
 Tf2:TO ∉ f2
 if2:i1 ∉ f2
 if1:i2 ∉ f1
theorem Draws.same {prog:Program} {w:World} {A:Around} {it:Addr} {fp:List Addr} {n:Nat} {P:Nat->Value->Prop} {St:Nat->Heap->Prop} (D:Draws prog w A it fp n P St) {i:Nat} {h h':Heap} {c:Addr} (st:St i h) (sb:Heap.ExtBut c h h') (hc:c ∉ fp):St i h' :=
 D.frame _ _ _ st fun b hb o e=>sb b o (fun q=>hc (q ▸ hb)) e
section
variable {prog:Program} {w:World} {A:Around} {E:Value->Shared->Prop} {s:Shared} {z TI TO i1 i2:Addr} {f1 f2:List Addr} {n1 n2:Nat} {P1 P2:Nat->Value->Prop} {S1 S2:Nat->Heap->Prop} {i:Nat} {a b:Value}
theorem MT (Z:Zp z TI TO i1 i2 f1 f2) (D1:Draws prog w A i1 f1 n1 P1 S1) (D2:Draws prog w A i2 f2 n2 P2 S2) {Q:Value->Shared->Prop}
  (hz:IsZip s.heap z TI TO .none) (hTI:IsPair s.heap TI (.ref i1) (.ref i2)) (hTO:IsPair s.heap TO a b) (h1:S1 i s.heap) (h2:S2 i s.heap) (l1:i < n1) (l2:i < n2)
  (hQ:∀ x y h' tk,P1 i x->P2 i y->IsZip h' z TI TO (rawInt s.heap.objs.size)->IsPair h' TO x y->S1 (i + 1) h'->S2 (i + 1) h'->IsPair h' s.heap.objs.size x y ->
   (∀ c o,c≠z->c≠TO->c≠i1->c≠i2->s.heap.get? c=some o->h'.get? c=some o)->Q (.ref s.heap.objs.size) { s with heap:=h',toks:=tk }) :
  wpAny (model prog w) A (Builtin.«zip.__next__» ⟨[.ref z],[]⟩) (fun fin s'=>∃ v,fin=.done (.ret v)/\Q v s') E s:=by
 show wpAny _ _ (field (.ref z) 2 >>= _) _ _ _
 refine wpAny_bind (wpAny_field hz rfl (x:=.bool false) rfl ?_)
 show wpAny _ _ (field (.ref z) 3 >>= _) _ _ _
 refine wpAny_bind (wpAny_field hz rfl (x:=.ref TI) rfl ?_)
 refine wpAny_bind (wpAny_seqItems hTI rfl ?_)
 show wpAny _ _ (Builtin.SmallTypes.ownedTupleIsFree (.ref z) >>= _) _ _ _
 refine wpAny_bind ?_
 unfold Builtin.SmallTypes.ownedTupleIsFree
 refine wpAny_bind (wpAny_field hz rfl (x:=.none) rfl (wpAny_pure ?_))
 simp only [if_true]
 refine wpAny_bind (wpAny_rule ?_)
 refine wpAny_bind (wpAny_field hz rfl (x:=.ref TO) rfl ?_)
 refine wpAny_bind (wpAny_setField_rec hz (by simp) fun g1 hz1 hs1=>?_)
 replace hz1:IsZip g1 z TI TO .ellipsis:=hz1
 refine wpAny_bind ?_
 simp only [List.zipIdx_cons,List.zipIdx_nil,List.forIn_cons,List.forIn_nil]
 refine wpAny_bind (wpAny_bind (wpAny_onRaise ?_))
 show wpAny _ _ (Builtin.SmallTypes.nextOf (.ref i1) >>= _) _ _ _
 refine wpAny_bind (D1.item i _ _ _ l1 (Draws.same D1 h1 hs1.extBut Z.zf1) fun x g2 tk2 px st2 hs2=>wpAny_pure ?_)
 have hTO2:IsPair g2 TO a b:=hs2.extBut _ _ Z.TOi1 (hs1.extBut _ _ Z.TOz hTO)
 refine wpAny_bind (wpAny_seqItems hTO2 rfl ?_)
 refine wpAny_bind (wpAny_updateSeq_pair hTO2 fun g3 hTO3 hs3=>?_)
 replace hTO3:IsPair g3 TO x b:=hTO3
 refine wpAny_bind (wpAny_letGo (wpAny_pure ?_))
 refine wpAny_bind (wpAny_bind (wpAny_onRaise ?_))
 show wpAny _ _ (Builtin.SmallTypes.nextOf (.ref i2) >>= _) _ _ _
 refine wpAny_bind (D2.item i _ _ _ l2 (Draws.same D2 (Draws.same D2 (Draws.same D2 h2 hs1.extBut Z.zf2) hs2.extBut Z.if2) hs3.extBut Z.Tf2) fun y g4 tk4 py st4 hs4=>wpAny_pure ?_)
 have hTO4:IsPair g4 TO x b:=hs4.extBut _ _ Z.TOi2 hTO3
 refine wpAny_bind (wpAny_seqItems hTO4 rfl ?_)
 refine wpAny_bind (wpAny_updateSeq_pair hTO4 fun g5 hTO5 hs5=>?_)
 replace hTO5:IsPair g5 TO x y:=hTO5
 refine wpAny_bind (wpAny_letGo (wpAny_pure (wpAny_pure ?_)))
 refine wpAny_bind (wpAny_seqItems hTO5 rfl ?_)
 refine wpAny_bind (wpAny_newTuple ?_)
 have hsz:g5.objs.size=s.heap.objs.size:=by rw [hs5.1,hs4.1,hs3.1,hs2.1,hs1.1]
 have hz5:IsZip g5 z TI TO .ellipsis:=hs5.extBut _ _ Z.TOz.symm (hs4.extBut _ _ Z.i2z.symm (hs3.extBut _ _ Z.TOz.symm (hs2.extBut _ _ Z.i1z.symm hz1)))
 have hk5:∀ c o,c≠z->c≠TO->c≠i1->c≠i2->s.heap.get? c=some o->g5.get? c=some o:=fun c o c1 c2 c3 c4 e =>
  hs5.extBut _ _ c2 (hs4.extBut _ _ c4 (hs3.extBut _ _ c2 (hs2.extBut _ _ c3 (hs1.extBut _ _ c1 e))))
 have h15:S1 (i + 1) g5:=Draws.same D1 (Draws.same D1 (Draws.same D1 st2 hs3.extBut Z.Tf1) hs4.extBut Z.if1) hs5.extBut Z.Tf1
 have h25:S2 (i + 1) g5:=Draws.same D2 st4 hs5.extBut Z.Tf2
 have hzlt:z < g5.objs.size:=Heap.lt_size hz5
 show wpAny _ _ (Builtin.SmallTypes.ownedTupleHandOut (.ref z) (.ref g5.objs.size) >>= _) _ _ _
 refine wpAny_bind ?_
 unfold Builtin.SmallTypes.ownedTupleHandOut
 have hz6:IsZip (g5.push { cls:=.type "tuple",data:=.seq #[x,y] }) z TI TO .ellipsis:=Heap.get?_push_of_some _ hz5
 refine wpAny_bind (wpAny_setField_rec hz6 (by simp) fun g7 hz7 hs7=>?_)
 replace hz7:IsZip g7 z TI TO (rawInt g5.objs.size):=hz7
 refine wpAny_setField_rec hz7 (by simp) fun g8 hz8 hs8=>?_
 replace hz8:IsZip g8 z TI TO (rawInt g5.objs.size):=hz8
 have up:∀ c o,c≠z->g5.get? c=some o->g8.get? c=some o:=fun c o c1 e=>hs8.extBut _ _ c1 (hs7.extBut _ _ c1 (Heap.get?_push_of_some _ e))
 have hT8:IsPair g8 g5.objs.size x y:=hs8.extBut _ _ (Nat.ne_of_gt hzlt) (hs7.extBut _ _ (Nat.ne_of_gt hzlt) (Heap.get?_push_size _ rfl))
 rw [hsz] at hz8 hT8
 refine wpAny_pure ⟨_,rfl,?_⟩
 show Q (.ref g5.objs.size) _
 rw [hsz]
 exact hQ x y g8 _ px py hz8 (up _ _ Z.TOz hTO5) (D1.frame _ _ _ h15 fun b hb o e=>up b o (fun q=>Z.zf1 (q ▸ hb)) e) (D2.frame _ _ _ h25 fun b hb o e=>up b o (fun q=>Z.zf2 (q ▸ hb)) e) hT8 fun c o c1 c2 c3 c4 e=>up c o c1 (hk5 c o c1 c2 c3 c4 e)
theorem Q7 (Z:Zp z TI TO i1 i2 f1 f2) (D1:Draws prog w A i1 f1 n1 P1 S1) (D2:Draws prog w A i2 f2 n2 P2 S2) {Q:Fin->Shared->Prop}
  (hz:IsZip s.heap z TI TO .none) (hTI:IsPair s.heap TI (.ref i1) (.ref i2)) (hTO:IsPair s.heap TO a b) (h1:S1 i s.heap) (h2:S2 i s.heap) (l1:i<=n1) (hi:i=min n1 n2)
  (hE:∀ h' e tk,(∀ c o,c≠z->c≠TO->c≠i1->c≠i2->s.heap.get? c=some o->h'.get? c=some o)->(∃ o,h'.get? e=some o/\o.cls=.type "StopIteration")->E (.ref e) { s with heap:=h',toks:=tk }) :
  wpAny (model prog w) A (Builtin.«zip.__next__» ⟨[.ref z],[]⟩) Q E s:=by
 show wpAny _ _ (field (.ref z) 2 >>= _) _ _ _
 refine wpAny_bind (wpAny_field hz rfl (x:=.bool false) rfl ?_)
 show wpAny _ _ (field (.ref z) 3 >>= _) _ _ _
 refine wpAny_bind (wpAny_field hz rfl (x:=.ref TI) rfl ?_)
 refine wpAny_bind (wpAny_seqItems hTI rfl ?_)
 show wpAny _ _ (Builtin.SmallTypes.ownedTupleIsFree (.ref z) >>= _) _ _ _
 refine wpAny_bind ?_
 unfold Builtin.SmallTypes.ownedTupleIsFree
 refine wpAny_bind (wpAny_field hz rfl (x:=.none) rfl (wpAny_pure ?_))
 simp only [if_true]
 refine wpAny_bind (wpAny_rule ?_)
 refine wpAny_bind (wpAny_field hz rfl (x:=.ref TO) rfl ?_)
 refine wpAny_bind (wpAny_setField_rec hz (by simp) fun g1 hz1 hs1=>?_)
 replace hz1:IsZip g1 z TI TO .ellipsis:=hz1
 refine wpAny_bind ?_
 simp only [List.zipIdx_cons,List.zipIdx_nil,List.forIn_cons,List.forIn_nil]
 refine wpAny_bind (wpAny_bind (wpAny_onRaise ?_))
 show wpAny _ _ (Builtin.SmallTypes.nextOf (.ref i1) >>= _) _ _ _
 have hA:S1 i g1:=Draws.same D1 h1 hs1.extBut Z.zf1
 by_cases hlt:i < n1
 ·have hn2:i=n2:=by omega
  refine wpAny_bind (D1.item i _ _ _ hlt hA fun x g2 tk2 px st2 hs2=>wpAny_pure ?_)
  have hTO2:IsPair g2 TO a b:=hs2.extBut _ _ Z.TOi1 (hs1.extBut _ _ Z.TOz hTO)
  refine wpAny_bind (wpAny_seqItems hTO2 rfl ?_)
  refine wpAny_bind (wpAny_updateSeq_pair hTO2 fun g3 hTO3 hs3=>?_)
  refine wpAny_bind (wpAny_letGo (wpAny_pure ?_))
  refine wpAny_bind (wpAny_bind (wpAny_onRaise ?_))
  show wpAny _ _ (Builtin.SmallTypes.nextOf (.ref i2) >>= _) _ _ _
  refine wpAny_bind (D2.done _ _ _ (hn2 ▸ Draws.same D2 (Draws.same D2 (Draws.same D2 h2 hs1.extBut Z.zf2) hs2.extBut Z.if2) hs3.extBut Z.Tf2) fun g4 e hs4 he=>?_)
  obtain ⟨oe,hoe,hce⟩:=he
  have hz4:IsZip g4 z TI TO .ellipsis:=hs4 _ _ Z.i2z.symm (hs3.extBut _ _ Z.TOz.symm (hs2.extBut _ _ Z.i1z.symm hz1))
  have hez:e≠z:=fun x=>by subst x;rw [hz4] at hoe;cases hoe;simp at hce
  exact wpAny_setField_rec hz4 (by simp) fun g5 _ hs5=>hE g5 e _ (fun c o c1 c2 c3 c4 x=>hs5.extBut _ _ c1 (hs4 _ _ c4 (hs3.extBut _ _ c2 (hs2.extBut _ _ c3 (hs1.extBut _ _ c1 x))))) ⟨oe,hs5.extBut _ _ hez hoe,hce⟩
 ·have hn1:i=n1:=by omega
  refine wpAny_bind (D1.done _ _ _ (hn1 ▸ hA) fun g2 e hs2 he=>?_)
  obtain ⟨oe,hoe,hce⟩:=he
  have hz2:IsZip g2 z TI TO .ellipsis:=hs2 _ _ Z.i1z.symm hz1
  have hez:e≠z:=fun x=>by subst x;rw [hz2] at hoe;cases hoe;simp at hce
  exact wpAny_setField_rec hz2 (by simp) fun g3 _ hs3=>hE g3 e _ (fun c o c1 _ c3 _ x=>hs3.extBut _ _ c1 (hs2 _ _ c3 (hs1.extBut _ _ c1 x))) ⟨oe,hs3.extBut _ _ hez hoe,hce⟩
theorem C6 (Z:Zp z TI TO i1 i2 f1 f2) (D1:Draws prog w A.in1 i1 f1 n1 P1 S1) (D2:Draws prog w A.in1 i2 f2 n2 P2 S2) {Q:Option Value->Shared->Prop}
  (hz:IsZip s.heap z TI TO .none) (hTI:IsPair s.heap TI (.ref i1) (.ref i2)) (hTO:IsPair s.heap TO a b) (h1:S1 i s.heap) (h2:S2 i s.heap) (l1:i < n1) (l2:i < n2)
  (hQ:∀ x y h' tk,P1 i x->P2 i y->IsZip h' z TI TO (rawInt s.heap.objs.size)->IsPair h' TO x y->S1 (i + 1) h'->S2 (i + 1) h'->IsPair h' s.heap.objs.size x y ->
   (∀ c o,c≠z->c≠TO->c≠i1->c≠i2->s.heap.get? c=some o->h'.get? c=some o)->Q (some (.ref s.heap.objs.size)) { s with heap:=h',toks:=tk }) :
  wpAny (model prog w) A (pyNext (.ref z)) Q E s:=by
 have hT:s.TypeIs (.ref z) "zip":=⟨_,hz,rfl⟩
 unfold pyNext
 exact wpAny_bind (wpAny_attempt (wpAny_callSpecial?_slot (name:=Str.ofString "__next__") hT PySem.F.slot_zip_next
  (wpAny_call_entry PySem.F.slot_zip_next hT PySem.F.entry_zip_next
   (MT Z D1 D2 hz hTI hTO h1 h2 l1 l2 fun x y h' tk a1 a2 a3 a4 a5 a6 a7 a8=>wpAny_pure (hQ x y h' tk a1 a2 a3 a4 a5 a6 a7 a8)) (PySem.F.args_zip_next_1 _))))
theorem EC (Z:Zp z TI TO i1 i2 f1 f2) (D1:Draws prog w A.in1 i1 f1 n1 P1 S1) (D2:Draws prog w A.in1 i2 f2 n2 P2 S2) {Q:Option Value->Shared->Prop}
  (hz:IsZip s.heap z TI TO .none) (hTI:IsPair s.heap TI (.ref i1) (.ref i2)) (hTO:IsPair s.heap TO a b) (h1:S1 i s.heap) (h2:S2 i s.heap) (l1:i<=n1) (hi:i=min n1 n2)
  (hQ:∀ h' tk,(∀ c o,c≠z->c≠TO->c≠i1->c≠i2->s.heap.get? c=some o->h'.get? c=some o)->Q none { s with heap:=h',toks:=tk }):wpAny (model prog w) A (pyNext (.ref z)) Q E s:=by
 have hT:s.TypeIs (.ref z) "zip":=⟨_,hz,rfl⟩
 unfold pyNext
 refine wpAny_bind (wpAny_attempt (wpAny_callSpecial?_slot (name:=Str.ofString "__next__") hT PySem.F.slot_zip_next
  (wpAny_call_entry PySem.F.slot_zip_next hT PySem.F.entry_zip_next (Q7 Z D1 D2 hz hTI hTO h1 h2 l1 hi fun h' e tk hk he=>?_) (PySem.F.args_zip_next_1 _))))
 obtain ⟨o,ho,hc⟩:=he
 refine wpAny_bind (wpAny_isInstance (T:="StopIteration") (b:=true) ⟨o,ho,hc⟩ isSubtype_stop ?_)
 exact wpAny_pure (hQ _ _ hk)
end
def Sw (f g:Bool) (K:PySem.W.Frag) (a c:Addr):It :=
  ⟨fun i H=>∃ xs ys x y,mO f K H a xs/\mO g K H c ys/\xs[i]?=some x/\ys[i]?=some y,
   fun i H v H'=>∃ p x y,(∀ xs,mO f K H a xs->xs[i]?=some x)/\(∀ ys,mO g K H c ys->ys[i]?=some y)/\H p=none/\v=.ref p/\H'=upd H p (.tup [x,y]),
   fun i H=>∃ xs ys,mO f K H a xs/\mO g K H c ys/\i=min xs.length ys.length⟩
theorem Pj {f g:Bool} {h:Heap} {z TI TO i1 i2 a c:Addr} {f0 u v:Value} {k1 k2:Nat} {xs ys:Array Value} (hz:IsZip h z TI TO f0) (q:TI≠TO/\i1≠i2/\TO≠a/\TO≠c) (hTI:IsPair h TI (.ref i1) (.ref i2)) (hTO:IsPair h TO u v)
  (h1:lQ f h i1 a k1) (h2:lQ g h i2 c k2) (ha:j6 f h a xs) (hc:j6 g h c ys):Zp z TI TO i1 i2 [i1,a] [i2,c]:=by
 have iz:=fun {r:Bool} {i x:Addr} {k:Nat} (p:lQ r h i x k)=>let ⟨_,e,c,_⟩:=p.obj;iS e hz c rfl (by cases r <;> decide)
 have az:=fun {r:Bool} {x:Addr} {xs:Array Value} (p:j6 r h x xs)=>let ⟨_,_,e,c,_⟩:=p.obj;iS e hz c rfl (by cases r <;> decide)
 have ti:=fun {r:Bool} {i x t:Addr} {u v:Value} {k:Nat} (w:IsPair h t u v) (p:lQ r h i x k)=>let ⟨_,e,c,_⟩:=p.obj;iS w e rfl c (by cases r <;> decide)
 refine ⟨iS hTI hz rfl rfl (by decide),iS hTO hz rfl rfl (by decide),iz h1,iz h2,q.1,ti hTI h1,ti hTI h2,ti hTO h1,ti hTO h2,q.2.1,?_,?_,?_,?_,?_,?_⟩ <;> simp only [List.mem_cons,List.not_mem_nil,or_false,not_or]
 ·exact ⟨(iz h1).symm,(az ha).symm⟩
 ·exact ⟨(iz h2).symm,(az hc).symm⟩
 ·exact ⟨ti hTO h1,q.2.2.1⟩
 ·exact ⟨ti hTO h2,q.2.2.2⟩
 ·exact ⟨q.2.1,(hc.ne h1).symm⟩
 ·exact ⟨q.2.1.symm,(ha.ne h2).symm⟩
theorem OL {P:Program} {w:World} {K:PySem.W.Frag} {elts:List Expr} {kk:Nat} {pos:Pos} (f g:Bool) (a c z TI TO i1 i2:Addr) (q:TI≠TO/\i1≠i2/\TO≠a/\TO≠c) :
  Turn P w K (.Tuple elts kk pos) (Sw f g K a c) [z,TI,TO,i1,i2] z (fun i h=>IsZip h z TI TO .none/\IsPair h TI (.ref i1) (.ref i2)/\(∃ u v,IsPair h TO u v)/\lQ f h i1 a i/\lQ g h i2 c i) where
 mem:=by simp
 obj:=fun i h st b hb=>by
  obtain ⟨hz,hTI,⟨u,v,hTO⟩,h1,h2⟩:=st
  obtain ⟨o1,e1,c1,d1⟩:=h1.obj
  obtain ⟨o2,e2,c2,d2⟩:=h2.obj
  have:b=z\/b=TI\/b=TO\/b=i1\/b=i2:=by simpa using hb
  rcases this with rfl | rfl | rfl | rfl | rfl
  ·exact ⟨_,hz,fun v x=>by
    have x':Data.fields _=Data.cell v:=x
    cases x'⟩
  ·exact ⟨_,hTI,fun v x=>by
    have x':Data.seq _ _=Data.cell v:=x
    cases x'⟩
  ·exact ⟨_,hTO,fun v x=>by
    have x':Data.seq _ _=Data.cell v:=x
    cases x'⟩
  ·exact ⟨_,e1,fun v x=>by rw [d1] at x;cases x⟩
  ·exact ⟨_,e2,fun v x=>by rw [d2] at x;cases x⟩
 keep:=fun i h h' st k=>let ⟨hz,hTI,⟨u,v,hTO⟩,h1,h2⟩:=st
  ⟨k z (by simp) _ hz,k TI (by simp) _ hTI,⟨u,v,k TO (by simp) _ hTO⟩,h1.at fun o e=>k i1 (by simp) o e,h2.at fun o e=>k i2 (by simp) o e⟩
 item:=by
  intro X hP hw hK hc i pins s σ H E I hf st hg
  subst hP hw hK
  obtain ⟨hz,hTI,⟨u,v,hTO⟩,h1,h2⟩:=st
  obtain ⟨xs,ys,x,y,hqx,hqy,hx,hy⟩:=hg
  obtain ⟨its,rv,p,_⟩:=xA I hqx
  obtain ⟨its',rv',p',_⟩:=xA I hqy
  obtain ⟨x',hu,ru⟩:=rv.get hx
  obtain ⟨y',hu',ru'⟩:=rv'.get hy
  have Z:=Pj hz q hTI hTO h1 h2 p p'
  have n1:a≠i1:=p.ne h1
  have n2:c≠i2:=p'.ne h2
  have hd:X.A.in1.handled=none:=I.ok.hd hc
  have lt1:i < its.toArray.size:=by
   have:=(List.getElem?_eq_some_iff.mp hu).1
   simpa using this
  have lt2:i < its'.toArray.size:=by
   have:=(List.getElem?_eq_some_iff.mp hu').1
   simpa using this
  refine C6 Z (kE f hd i1 a n1 its.toArray) (kE g hd i2 c n2 its'.toArray) hz hTI hTO ⟨h1,p⟩ ⟨h2,p'⟩ lt1 lt2 fun x1 y1 h' tk px py hz' hTO' s1 s2 hT hk=>?_
  refine ⟨_,rfl,wpAny_letOwnedTupleGo_zip (s:={ s with heap:=h',toks:=tk }) hz' fun h'' hz'' hs''=>?_⟩
  have ex:x1=x':=by
   have h3:its[i]?=some x1:=by simpa using px
   rw [hu] at h3;exact (Option.some.inj h3).symm
  have ey:y1=y':=by
   have h3:its'[i]?=some y1:=by simpa using py
   rw [hu'] at h3;exact (Option.some.inj h3).symm
  subst ex ey
  have lt:∀ {b o},s.heap.get? b=some o->s.heap.objs.size≠b:=fun e=>Nat.ne_of_gt (Heap.lt_size e)
  have hTT:iC h'' s.heap.objs.size #[x1,y1]:=⟨_,hs''.extBut _ _ (lt hz) hT,rfl,rfl,_,rfl⟩
  refine ⟨.ref s.heap.objs.size,upd H s.heap.objs.size (.tup [x,y]),oK (s:=s) (h':=h'') (tk:=tk) (ch:=[z,TI,TO,i1,i2]) I hf (fun b o hb e=>?_) (Nat.le_refl _) ⟨by show 2<=sizeLine;decide,[x1,y1],.cons ru (.cons ru' .nil),hTT⟩,rfl,
   ⟨s.heap.objs.size,x,y,fun zs hz=>by rw [<- OZ I hqx hz];exact hx,fun zs hz=>by rw [<- OZ I hqy hz];exact hy,I.hok.fresh (Nat.le_refl _),rfl,rfl⟩,⟨hz'',?_,?_,?_,?_⟩,fun b hb=>?_⟩
  ·have hb':¬ (b=z\/b=TI\/b=TO\/b=i1\/b=i2):=by simpa using hb
   simp only [not_or] at hb'
   exact hs''.extBut _ _ hb'.1 (hk b o hb'.1 hb'.2.2.1 hb'.2.2.2.1 hb'.2.2.2.2 e)
  ·exact hs''.extBut _ _ Z.TIz (hk _ _ Z.TIz Z.TITO Z.TIi1 Z.TIi2 hTI)
  ·exact ⟨_,_,hs''.extBut _ _ Z.TOz hTO'⟩
  ·exact s1.1.at fun o e=>hs''.extBut _ _ Z.i1z e
  ·exact s2.1.at fun o e=>hs''.extBut _ _ Z.i2z e
  ·rw [bE (fun e=>?_)]
   ·exact (hf b hb).1
   ·have:b=z\/b=TI\/b=TO\/b=i1\/b=i2:=by simpa using hb
    obtain ⟨o1,e1,_⟩:=h1.obj
    obtain ⟨o2,e2,_⟩:=h2.obj
    rcases this with rfl | rfl | rfl | rfl | rfl
    ·exact lt hz e.symm
    ·exact lt hTI e.symm
    ·exact lt hTO e.symm
    ·exact lt e1 e.symm
    ·exact lt e2 e.symm
 done:=by
  intro X hP hw hK hc i pins s σ H E I hf st hg
  subst hP hw hK
  obtain ⟨hz,hTI,⟨u,v,hTO⟩,h1,h2⟩:=st
  obtain ⟨xs,ys,hqx,hqy,hi⟩:=hg
  obtain ⟨its,rv,p,_⟩:=xA I hqx
  obtain ⟨its',rv',p',_⟩:=xA I hqy
  have Z:=Pj hz q hTI hTO h1 h2 p p'
  have n1:a≠i1:=p.ne h1
  have n2:c≠i2:=p'.ne h2
  have hd:X.A.in1.handled=none:=I.ok.hd hc
  have hi':i=min its.toArray.size its'.toArray.size:=by rw [List.size_toArray,List.size_toArray,<- rv.length,<- rv'.length];exact hi
  refine EC Z (kE f hd i1 a n1 its.toArray) (kE g hd i2 c n2 its'.toArray) hz hTI hTO ⟨h1,p⟩ ⟨h2,p'⟩ (by omega) hi' fun h' tk hk=>⟨rfl,?_⟩
  have kk:∀ b o,b ∉ [z,TI,TO,i1,i2]->s.heap.get? b=some o->h'.get? b=some o:=fun b o hb e=>by
   have hb':¬ (b=z\/b=TI\/b=TO\/b=i1\/b=i2):=by simpa using hb
   simp only [not_or] at hb'
   exact hk b o hb'.1 hb'.2.2.1 hb'.2.2.2.1 hb'.2.2.2.2 e
  have:=I.call' (ch:=[z,TI,TO,i1,i2]) (H':=H) (s':={ s with heap:=h',toks:=tk }) rfl ⟨fun b u q n hb hx=>kk b u hx q,fun b u q n hb hx=>⟨u.slots,kk b u hx q⟩,fun b u q n hx=>n,fun b u q hx=>⟨u,kk b u hx q⟩,fun b xs q=>q,fun b u xs q=>q,fun b ps q=>⟨#[],by rw [q];simp⟩⟩
   (fun a u e'=>?_) I.bare fun b hb=>⟨(hf b hb).2.2.2.1,(hf b hb).2.1,(hf b hb).2.2.2.2.1,(hf b hb).2.2.2.2.2⟩
  ·exact this
  ·refine (I.hok a u e').stay (fun b z hb q=>kk b z (fun hc=>?_) q) (fun _ q=>q) fun _ _ q=>q
   have hnone:=(hf b hc).1
   rcases hb with rfl | hb
   ·rw [hnone] at e';cases e'
   ·rw [hnone] at hb;cases hb
 self:=fun _ _ _ _ _ st h=>wpAny_pyIter_zip st.1 h
abbrev O7 (f:Bool) (h:Heap) (a:Addr):Heap:=h.push { cls:=.type (wZ f),data:=.fields #[.ref a,.int 0 0] }
abbrev O3 (f g:Bool) (h:Heap) (a c:Addr):Heap:=(O7 f h a).push { cls:=.type (wZ g),data:=.fields #[.ref c,.int 0 0] }
abbrev O5 (f g:Bool) (h:Heap) (a c:Addr):Heap:=(O3 f g h a c).push { cls:=.type "tuple",data:=.seq #[.ref h.objs.size,.ref (O7 f h a).objs.size] }
abbrev Pp (f g:Bool) (h:Heap) (a c:Addr):Heap:=(O5 f g h a c).push { cls:=.type "tuple",data:=.seq #[.none,.none] }
abbrev Hl (f g:Bool) (h:Heap) (a c:Addr):Heap:=(Pp f g h a c).push { cls:=.type "zip",data:=.fields #[.none,.bool false,.bool false,.ref (O3 f g h a c).objs.size,.ref (O5 f g h a c).objs.size] }
theorem j6.push {f:Bool} {h:Heap} {a:Addr} {xs:Array Value} (p:j6 f h a xs) (o:Obj):j6 f (h.push o) a xs:=by
 obtain ⟨o',n,e,c,d⟩:=p.obj
 cases f <;> exact ⟨o',Heap.get?_push_of_some _ e,c,n,d⟩
theorem Mg {prog:Program} {w:World} {A:Around} {E:Value->Shared->Prop} {s:Shared} {f:Bool} {l:Addr} {items:Array Value} {Q:Value->Shared->Prop} (hl:j6 f s.heap l items)
  (hQ:Q (.ref s.heap.objs.size) { s with heap:=s.heap.push { cls:=.type (wZ f),data:=.fields #[.ref l,.int 0 0] } }):wpAny (model prog w) A (pyIter (.ref l)) Q E s:=by
 cases f
 ·exact wpAny_pyIter_tuple hl hQ
 ·exact wpAny_pyIter_list hl hQ
theorem JV (f g:Bool) (a c:Addr) (xs ys:Array Value) :
  Meets (Builtin.«zip.__new__» ⟨[.type "zip",.ref a,.ref c],[]⟩) (fun _ R s=>j6 f s.heap a xs/\j6 g s.heap c ys /\
   R (.ok (.ret (.ref (Pp f g s.heap a c).objs.size))) { s with heap:=Hl f g s.heap a c }) :=
 .of_wp fun prog w A R s h=>by
  obtain ⟨hp,g',d,tk,os⟩:=s;obtain ⟨h1,h2,h⟩:=h
  have hsub:=sub_zip
  have hL1:j6 f (Shared.heap ⟨hp,g',d,tk,os⟩) a xs:=h1
  have hL2:j6 g (Shared.heap ⟨hp.push { cls:=.type (wZ f),data:=.fields #[.ref a,.int 0 0] },g',d,tk,os⟩) c ys:=h2.push _
  wp_walk using Mg hL1,Mg hL2
  exact ⟨_,rfl,h⟩
theorem JZ {f g:Bool} {prog:Program} {w:World} {A:Around} {E:Value->Shared->Prop} {s:Shared} {a c:Addr} {xs ys:Array Value} {Q:Value->Shared->Prop} (h1:j6 f s.heap a xs) (h2:j6 g s.heap c ys)
  (h:∀ h',IsZip h' (s.heap.objs.size + 4) (s.heap.objs.size + 2) (s.heap.objs.size + 3) .none->IsPair h' (s.heap.objs.size + 2) (.ref s.heap.objs.size) (.ref (s.heap.objs.size + 1)) ->
   IsPair h' (s.heap.objs.size + 3) .none .none->lQ f h' s.heap.objs.size a 0->lQ g h' (s.heap.objs.size + 1) c 0 ->
   (∀ b o,s.heap.get? b=some o->h'.get? b=some o)->Q (.ref (s.heap.objs.size + 4)) { s with heap:=h' }) :
  wpAny (model prog w) A (call (.type "zip") [.ref a,.ref c]) Q E s:=by
 refine callType_new PySem.F.called_zip (by decide) (PySem.F.typeCall_zip_2 _ _) (PySem.F.newCall_zip_2 _ _) (fun obj=>PySem.F.args_object_init_3 obj _ _) PySem.F.entry_zip_new
  (JV f g a c xs ys) ⟨h1,h2,?_⟩
 have z1:(O7 f s.heap a).objs.size=s.heap.objs.size + 1:=Heap.size_push ..
 have z2:(O3 f g s.heap a c).objs.size=s.heap.objs.size + 2:=by rw [Heap.size_push,z1]
 have z3:(O5 f g s.heap a c).objs.size=s.heap.objs.size + 3:=by rw [Heap.size_push,z2]
 have z4:(Pp f g s.heap a c).objs.size=s.heap.objs.size + 4:=by rw [Heap.size_push,z3]
 have g5:(Hl f g s.heap a c).get? (Pp f g s.heap a c).objs.size=some _:=Heap.get?_push_size _ rfl
 have g4:(Hl f g s.heap a c).get? (O5 f g s.heap a c).objs.size=some _:=Heap.get?_push_of_some _ (Heap.get?_push_size _ rfl)
 have g3:(Hl f g s.heap a c).get? (O3 f g s.heap a c).objs.size=some _:=Heap.get?_push_of_some _ (Heap.get?_push_of_some _ (Heap.get?_push_size _ rfl))
 have g2:(Hl f g s.heap a c).get? (O7 f s.heap a).objs.size=some _:=Heap.get?_push_of_some _ (Heap.get?_push_of_some _ (Heap.get?_push_of_some _ (Heap.get?_push_size _ rfl)))
 have g1:(Hl f g s.heap a c).get? s.heap.objs.size=some _:=Heap.get?_push_of_some _ (Heap.get?_push_of_some _ (Heap.get?_push_of_some _ (Heap.get?_push_of_some _ (Heap.get?_push_size _ rfl))))
 show _/\_
 rw [z2,z3,z4] at g5
 rw [z1,z2] at g3
 rw [z3] at g4
 rw [z1] at g2
 rw [z4]
 exact ⟨⟨_,g5,rfl⟩,h _ g5 g3 g4 (.of g1 rfl rfl) (.of g2 rfl rfl) fun b o x =>
  Heap.get?_push_of_some _ (Heap.get?_push_of_some _ (Heap.get?_push_of_some _ (Heap.get?_push_of_some _ (Heap.get?_push_of_some _ x))))⟩
def Tp (f g:Bool) (K:PySem.W.Frag) (ta:TA):TI:=fun σ H R=>ta σ H fun vs H1=>∃ a c,vs=[.ref a,.ref c]/\(∃ xs,mO f K H1 a xs)/\(∃ ys,mO g K H1 c ys)/\R (Sw f g K a c) H1
theorem Vc {f g:Bool} {X:Cx} {elts:List Expr} {kk:Nat} {tpos:Pos} {a b:Expr} {ta:TA} {p pos:Pos} (hg:Gl X "zip") (hm:X.mg "zip"=none) (ha:PA X [a,b] ta) (hs:starEach [a,b] X.env=[(false,eval a X.env),(false,eval b X.env)]) (hs2:starEach [b] X.env=[(false,eval b X.env)]) :
  PI X (.Tuple elts kk tpos) (.Call (.Name "zip" p) [a,b] [] pos) (Tp f g X.K ta):=by
 intro pins s σ H R I h
 refine Call_ (nI I hg hm boot_zip (PyProof.Rows.callWith_type1 (bB (ha pos pins s σ H _ I h) fun us s1 ⟨vs,H1,I1,r1,q1⟩=>?_) (by rw [hs,hs2]) (by rw [hs2];rfl)))
 obtain ⟨a,c,e,⟨xs,hq⟩,⟨ys,hq'⟩,q⟩:=q1
 subst e
 cases r1 with
 | cons r rr =>
  cases rr with
  | cons r' rr =>
   cases rr
   cases r
   cases r'
   obtain ⟨its,rv,p,hz⟩:=xA I1 hq
   obtain ⟨its',rv',p',hz'⟩:=xA I1 hq'
   have la:a < s1.heap.objs.size:=by obtain ⟨_,_,e,_⟩:=p.obj;exact Heap.lt_size e
   have lc:c < s1.heap.objs.size:=by obtain ⟨_,_,e,_⟩:=p'.obj;exact Heap.lt_size e
   refine JZ p p' fun h' hz hTI hTO h1 h2 hk=>?_
   refine wpAny_pyIter_zip (s:={ s1 with heap:=h' }) hz ?_
   have I2:L2.Inv X pins σ H1 { s1 with heap:=h',toks:=s1.toks }:=I1.kept hk
   refine ⟨_,_,_,_,H1,rfl,I2,OL f g a c (s1.heap.objs.size + 4) (s1.heap.objs.size + 2) (s1.heap.objs.size + 3) s1.heap.objs.size (s1.heap.objs.size + 1) ⟨Nat.ne_of_lt (Nat.lt_succ_self _),Nat.ne_of_lt (Nat.lt_succ_self _),Nat.ne_of_gt (Nat.lt_of_lt_of_le la (Nat.le_add_right _ _)),Nat.ne_of_gt (Nat.lt_of_lt_of_le lc (Nat.le_add_right _ _))⟩,⟨hz,hTI,⟨_,_,hTO⟩,h1,h2⟩,fun b hb=>?_,q⟩
   have le:s1.heap.objs.size<=b:=by
    have:b=s1.heap.objs.size + 4\/b=s1.heap.objs.size + 2\/b=s1.heap.objs.size + 3\/b=s1.heap.objs.size\/b=s1.heap.objs.size + 1:=by simpa using hb
    rcases this with e | e | e | e | e <;> rw [e]
    ·exact Nat.le_add_right _ _
    ·exact Nat.le_add_right _ _
    ·exact Nat.le_add_right _ _
    ·exact Nat.le_refl _
    ·exact Nat.le_add_right _ _
   exact I1.fpOk le (I1.hok.fresh le)
def gD:List U->List U->List U
 | u :: us,w :: ws=>.tup [u,w] :: gD us ws
 | _,_=>[]
theorem AW:∀ us ws:List U,(gD us ws).length=min us.length ws.length
 | [],ws=>by simp [gD]
 | _ :: _,[]=>by simp [gD]
 | u :: us,w :: ws=>by simp only [gD,List.length_cons,AW us ws];omega
theorem vB:∀ {us ws:List U} {i:Nat} {x:U},(gD us ws)[i]?=some x->∃ u w,us[i]?=some u/\ws[i]?=some w/\x=.tup [u,w]
 | [],ws,i,x,h=>by simp [gD] at h
 | _ :: _,[],i,x,h=>by simp [gD] at h
 | u :: us,w :: ws,0,x,h=>by simp [gD] at h;exact ⟨u,w,rfl,rfl,h.symm⟩
 | u :: us,w :: ws,i + 1,x,h=>by
  simp only [gD,List.getElem?_cons_succ] at h ⊢
  exact vB h
theorem Nq {f g:Bool} {K:PySem.W.Frag} {a c:Addr} {us ws:List U} {vs xs:List V} {H:Hp} {M:aF} (m:Hv f K H M a vs) (m':Hv g K H M c xs) (r:aI K H M us vs) (r':aI K H M ws xs):Walk K (Sw f g K a c) ⟨none,gD us ws⟩ H M:=by
 refine ⟨fun H1 M1 s rm _ i u e=>?_,fun H1 M1 s rm _=>⟨vs,xs,m _ _ s,m' _ _ s,by show (gD us ws).length=_;rw [AW,r.length,r'.length]⟩⟩
 obtain ⟨u,w,e1,e1',rfl⟩:=vB e
 obtain ⟨v,e2,ru⟩:=r.get e1
 obtain ⟨x,e2',ru'⟩:=r'.get e1'
 refine ⟨⟨vs,xs,v,x,m _ _ s,m' _ _ s,e2,e2'⟩,fun y H2 y'=>?_⟩
 obtain ⟨p,v',x',y1,y2,hp,rfl,rfl⟩:=y'
 have:=y1 vs (m _ _ s)
 rw [e2] at this;cases this
 have:=y2 xs (m' _ _ s)
 rw [e2'] at this;cases this
 have st:=aX.laid (o:=.tup [v,x]) rm hp
 have rr:aI K H1 M1 [u,w] [v,x]:=by
  simp only [aI]
  exact ⟨_,_,rfl,ru.stp s,_,_,rfl,ru'.stp s,rfl⟩
 exact ⟨st,rm.laid hp,wR (rm.no hp) bT (rr.stp st)⟩
def aK (ta:UA):UI:=fun τ M R=>ta τ M fun us M1=>match us with
 | [.tup us,.tup ws]=>R ⟨none,gD us ws⟩ M1
 | _=>False
theorem Ro {K:PySem.W.Frag} {ta:TA} {ta':UA} (h:mN K ta ta'):v3 K (Tp false false K ta) (aK ta'):=fun σ τ H M R' rs rm q R c=>h σ τ H M _ rs rm q _ fun us vs M1 H1 s1 rm1 ru h1=>by
 split at h1
 ·obtain ⟨v,vs',rfl,a,b⟩:=ru.inv_cons
  obtain ⟨v2,rfl,a2⟩:=b.one
  simp only [aP] at a a2
  obtain ⟨a,vs,rfl,m,r⟩:=a
  obtain ⟨a',vs',rfl,m',r'⟩:=a2
  exact ⟨a,a',rfl,⟨vs,Mp m _ _ (aX.refl _ _)⟩,⟨vs',Mp m' _ _ (aX.refl _ _)⟩,c _ _ M1 H1 s1 rm1 (Nq (Mp m) (Mp m') r r') h1⟩
 ·exact h1.elim
theorem Up {D:Dat} {elts:List Expr} {kk:Nat} {tpos:Pos} {a b:Expr} {p pos:Pos} {ta:UA} (hm:D.mg "zip"=none) (ha:kS D [a,b] ta) (hg:D.sc.names.lookup ("zip":Str)=some .globalImplicit:=by rfl) (hs:∀ env,starEach [a,b] env=[(false,eval a env),(false,eval b env)]:=by intro _;rfl) (hs2:∀ env,starEach [b] env=[(false,eval b env)]:=by intro _;rfl):Bw D (.Tuple elts kk tpos) (.Call (.Name "zip" p) [a,b] [] pos) (aK ta):=by
 obtain ⟨_,q,s⟩:=ha
 exact ⟨_,fun X h=>h.K ▸ Vc (by show X.env.scope.names.lookup _=_;rw [h.sc];exact hg) (by rw [h.mg];exact hm) (q X h) (hs _) (hs2 _),Ro s⟩
def iF (ta:UA):UI:=fun τ M R=>ta τ M fun us M1=>match us with
 | [.tup us,.lst ws]=>R ⟨none,gD us ws⟩ M1
 | _=>False
end U2
namespace U2
open PySem PySem.Spec PyProof.Rows L2
theorem CW (l:Addr) (items:Array Value) (n:Nat) (b:Addr) (items2:Array Value) (n2:Nat) (dd:Option Addr) (sl:Array (Option Value)) (hc0:¬(!items.isEmpty && Builtin.List.listTooLong (items.size + items2.size))=true) (hc1:items.size<=sizeLine) (hs2:items.size + items2.size<=sizeLine + 1) :
  Meets (Builtin.«list.extend» ⟨[.ref l,.ref b],[]⟩) (fun _ R s=>s.heap.get? l=some { cls:=.type "list",dict:=none,data:=.seq items n,slots:=#[] }/\s.heap.get? b=some { cls:=.type "list",dict:=dd,data:=.seq items2 n2,slots:=sl }/\R (.ok (.ret Value.none)) { s with heap:=s.heap.update l (Obj.mapSeq fun x=>x++items2),toks:=s.toks }) :=
 .of_wp fun prog w A R s h=>by
  obtain ⟨hp,g,d,tk,os⟩:=s;obtain ⟨hl,hb,h⟩:=h
  have f1:=PySem.AutoSeq1.idx_int;have f2:=PySem.AutoSeq1.sub_tuple_tuple;have f3:=PySem.AutoSeq1.sub_list_list;have f4:=PySem.AutoSeq1.sub_tuple_list;have f5:=PySem.AutoSeq1.sub_list_tuple
  have hz':(items++items2).size<=sizeLine + 1:=by rw [Array.size_append];exact hs2
  wp_walk using (wpAny_updateSeq hl rfl (hz:=hc1) (_hz':=hz')),wpAny_loadPart' hl,wpAny_loadPart' hb
  exact ⟨_,rfl,h⟩
theorem JO {X:Cx}:GY X "list.extend" (E6 X.K):=by
 intro pins s σ H x vs v us Q I rx rv h
 obtain ⟨l,b,xs,zs,rfl,rfl,hH,hB,hz,q⟩:=h
 cases rx
 obtain ⟨u,rfl,ru⟩:=rv.one
 cases ru
 obtain ⟨z,its,n,r,hl,e⟩:=I.lstM hH
 obtain ⟨its2,r2,⟨⟨oc,od,odt,osl⟩,n2,e2,hc,hd,hdt⟩,hl2⟩:=I.list hB
 have hc':oc=.type "list":=hc
 have hdt':odt=.seq its2.toArray n2:=hdt
 subst hc' hdt'
 have l2:=r2.length
 have hsz:its.toArray.size + its2.toArray.size<=sizeLine:=by rw [List.size_toArray,List.size_toArray];omega
 have hlong:¬ (!its.toArray.isEmpty && Builtin.List.listTooLong (its.toArray.size + its2.toArray.size))=true:=by
  rw [DY hsz,Bool.and_false]
  exact Bool.false_ne_true
 refine call_meets PySem.F.slot_list_extend ⟨_,e,rfl⟩ PySem.F.entry_list_extend (PySem.F.args_list_extend_2 _ _)
  (CW l its.toArray n b its2.toArray n2 od osl hlong (by rw [List.size_toArray];omega) (by omega)) ⟨e,e2,?_⟩
 refine ⟨.non,_,I.lset (its':=its++its2) hH e (by simp) (r.append r2) ?_,rfl,q⟩
 rw [List.length_append]
 omega
variable {D:Dat} {o e:Expr} {ta:UE} {tas:UA} {pos:Pos}
theorem CA {apos:Pos} (ho:bC D o ta) (ha:kS D [e] tas) (hbase:∀ env,attributeBase o "extend" env (eval o env)=eval o env:=by intro _;rfl)
  (hfew:∀ env,((backTo pos (starEach [e] env)).all (fun x=>!x.1) && (backToKw pos (keywordEach [] env)).all (fun x=>x.1.isSome) && decide ([e].length + ([]:List Keyword).length + (if ([]:List Keyword).isEmpty then 0 else 1) < 30))=true:=by intro _;rfl)
  (hline:(apos.endLine == pos.line)=true:=by rfl) (hs:∀ env,starEach [e] env=[(false,eval e env)]:=by intro _;rfl):bC D (.Call (.Attribute o "extend" apos) [e] [] pos) (Ao kA ta tas):=by
 obtain ⟨_,p,s⟩:=ho;obtain ⟨_,q,r⟩:=ha
 refine ⟨_,fun X h=>?_,LD II s r⟩
 have:=zV (cpos:=pos) (apos:=apos) PySem.F.plainAttrs_list PySem.F.slot_list_extend PySem.F.type_list_extend JO (p X h) (q X h) (hbase _) (hfew _) hline (hs _) (by rfl)
 rw [h.K] at this
 exact this
end U2
namespace U2
open PySem PySem.Spec PyProof.Rows L2
def intsOf:List U->Option (List Int)
 | []=>some []
 | .int i :: us=>(intsOf us).map (i :: ·)
 | _ :: _=>none
theorem v8 {K:PySem.W.Frag} {H:Hp} {M:aF}:∀ {us:List U} {vs:List V} {xs:List Int},aI K H M us vs->intsOf us=some xs->vs=xs.map V.int
 | [],vs,xs,r,e=>by cases e;exact r.inv_nil
 | u :: us,vs,xs,r,e=>by
  obtain ⟨v,vs',rfl,a,b⟩:=r.inv_cons
  cases u with
  | int i =>
   simp only [intsOf] at e
   cases e2:intsOf us with
   | none=>rw [e2] at e;cases e
   | some ys=>rw [e2] at e;cases e;rw [a.int,v8 b e2];rfl
  | _=>cases e
def wU:eC:=fun x y M Q=>match x,y with
 | .int i,.int j=>Q (.bl (decide (i < j))) M
 | .tup us,.tup ws=>∃ xs ys,intsOf us=some xs/\intsOf ws=some ys/\Q (.bl (HT.lexLt xs ys)) M
 | _,_=>False
variable {D:Dat}
theorem sN:pR D .Lt wU:=⟨⟨_,fun X h=>h.K ▸ Wl.or (SG h.room.units0),fun x y u w H M Q' rm ru rw h Q c=>by
 unfold wU at h
 split at h
 ·rename_i i j
  exact .inl (xY (f:=fun i j=>decide (i < j)) x y (.int i) (.int j) H M Q' rm ru rw h Q c)
 ·rename_i us ws
  obtain ⟨xs,ys,e1,e2,q⟩:=h
  obtain ⟨a,vs,rfl,s1,r1⟩:=ru.tup
  obtain ⟨a',vs',rfl,s2,r2⟩:=rw.tup
  cases v8 r1 e1
  cases v8 r2 e2
  exact .inr ⟨a,a',xs,ys,rfl,rfl,s1,s2,c.here rm cY q⟩
 ·exact h.elim⟩⟩
end U2
namespace U2
open PySem PySem.Spec PyProof.Rows L2
def SK:Int->List Int->Int
 | m,[]=>m
 | m,n :: ns=>SK (if n > m then n else m) ns
section
variable {X:Cx}
def AA:List U->aF->UK->Prop:=fun us M Q=>match us with
 | [x]=>match view M x with
  | .lst ws=>∃ ns,intsOf ws=some ns/\PySem.SumFits ns/\Q (.int ns.sum) M
  | _=>False
 | _=>False
def Au:List U->aF->UK->Prop:=fun us M Q=>match us with
 | [.int i,.int j]=>Q (.int (if j > i then j else i)) M
 | [x]=>match view M x with
  | .lst ws=>∃ m ns,intsOf ws=some (m :: ns)/\Q (.int (SK m ns)) M
  | _=>False
 | _=>False
end
end U2
namespace U2
open PySem PySem.Spec PyProof.Rows L2
section
variable {D:Dat} {a b c e o i:Expr} {ta tb tc te to ti:UE} {pos p:Pos} {es:List Expr} {tas:UA} {x:Str}
def DE (te to ti:UE):US:=fun D τ M=>te τ M fun v M1=>to τ M1 fun x M2=>ti τ M2 fun y M3=>match x,y with
 | .ref a,.int k=>match M3 a with
  | some (.lst us)=>∃ j,w9 us.length k=some j/\D.nx τ (mup M3 a (.lst (us.set j v)))
  | _=>False
 | _,_=>False
theorem Hs {tpos:Pos} (he:bC D e te) (ho:bC D o to) (hi:bC D i ti) (hs:∀ env,swapsWithSole [.Subscript o i tpos] e pos.line env=pure false:=by intro _;rfl) (hw:∀ env,swappedStores [.Subscript o i tpos] e env=pure none:=by intro _;rfl)
  (h1:∀ env,(assignEach [.Subscript o i tpos] env).map (·.2)=[assign (.Subscript o i tpos) env]:=by intro _;rfl)
  (ha:∀ env v,assign (.Subscript o i tpos) env v=(do
   let ov <- holding [v] (eval o env)
   let iv <- holding [v,ov] (eval i env)
   standAt tpos
   holding [v,ov,iv] (setItem ov iv v)
   release [v,ov,iv] []):=by intro _ _;rfl):tH D (.Assign [.Subscript o i tpos] e pos) (DE te to ti):=by
 obtain ⟨_,p1,s1⟩:=he;obtain ⟨_,p2,s2⟩:=ho;obtain ⟨_,p3,s3⟩:=hi
 refine ⟨_,fun X h=>K8 (p1 X h) (Sj (p2 X h) (p3 X h) set_list (ha _)) (hs _) (hw _) (h1 _),fun σ τ H M D' rs rm h EE d=>?_⟩
 refine s1 σ τ H M _ rs rm h _ fun v vv M1 H1 st1 rm1 rv h1=>?_
 refine s2 σ τ H1 M1 _ (rs.stp st1) rm1 h1 _ fun x vx M2 H2 st2 rm2 rx h2=>?_
 refine s3 σ τ H2 M2 _ ((rs.stp st1).stp st2) rm2 h2 _ fun y vy M3 H3 st3 rm3 ry h3=>?_
 split at h3
 ·rename_i a k
  split at h3
  ·rename_i us e
   obtain ⟨j,hj,q⟩:=h3
   cases (rx.stp st3).ref
   cases ry.int
   obtain ⟨vs,hv,rus⟩:=rm3 a _ e
   have rv3:=(rv.stp st2).stp st3
   have st4:aX H3 M3 (upd H3 a (.lst (vs.set j vv))) (mup M3 a (.lst (us.set j v))):=aX.write e
   have rnew:RelM D.K (upd H3 a (.lst (vs.set j vv))) (mup M3 a (.lst (us.set j v))):=rm3.put st4 ⟨_,bT,(aI.set rv3 j rus).stp st4⟩
   refine ⟨a,vs,k,j,rfl,rfl,hv,by rw [<- rus.length];exact hj,?_⟩
   exact d.nx _ _ _ _ (((st1.trans st2).trans st3).trans st4) rnew ((((rs.stp st1).stp st2).stp st3).stp st4) q
  ·exact h3.elim
 ·exact h3.elim
def xT:U->List U->aF->UK->Prop:=fun x ws M Q=>match x,ws with
 | .ref a,[.int i]=>match M a with
  | some (.lst us)=>-(2 ^ 63)<=i/\i < 2 ^ 63/\∃ k y,seqIndex? i us.length=some k/\us[k]?=some y/\Q y (mup M a (.lst (us.eraseIdx k)))
  | _=>False
 | _,_=>False
def Fx:List U->aF->UK->Prop:=fun us M Q=>match us with
 | [.int i]=>Q (.int i) M
 | [.bl k]=>Q (.int (if k then 1 else 0)) M
 | _=>False
def vK (i j:Int):Prop:=Nm i j\/(Builtin.Int.intBits i<=60000000/\Builtin.Int.intBits j<=60000000)
theorem vK.ok {i j:Int} (h:vK i j):IntMulOk i j:=by
 rcases h with h | ⟨h1,h2⟩
 ·exact h.ok
 ·exact IntMulOk.of_le h1 h2 (by decide)
theorem RJ {X:Cx}:cZ X (binaryOp .Mult) (rI vK fun i j=>.int (i * j)):=O4 fun _ _ _ _ _ _ _ hc q=>mul_int q hc.ok
def BN (z:Str) (n:Int):Str:=if n < 1 then Str.empty else if (n == 1 || z.length == 0)=true then z else ⟨(List.replicate n.toNat z.cps).foldl (·++·) #[]⟩
theorem Qs {X:Cx}:cZ X (binaryOp .Mult) (fun x y H Q=>∃ z n,x=.str z/\y=.int n/\-(2 ^ 63)<=n/\n < 2 ^ 20/\z.length<=2 ^ 20/\z.length * n.toNat<=100000/\Q (.str (BN z n)) H):=by
 intro pins s σ H x y v u Q I rx ry h
 obtain ⟨z,n,rfl,rfl,h1,h2,h3,h4,q⟩:=h
 obtain ⟨t,rfl⟩:=rx
 obtain ⟨t',rfl⟩:=ry
 have e1:(decide (n < -(2 ^ 63:Int)) || decide (n ≥ 2 ^ 63))=false:=by
  rw [decide_eq_false (by omega),decide_eq_false (by omega)];rfl
 refine PySem.P.mul_str e1 (fun g1 g2=>?_) (fun g1 g2=>?_) ?_
 ·intro hh
  have hn:(1:Int)<=n:=by omega
  have e3:(z.length:Int) * n=((z.length * n.toNat:Nat):Int):=by
   rw [Int.natCast_mul,Int.toNat_of_nonneg (by omega)]
  have:=Int.le_ediv_of_mul_le (show (0:Int) < n by omega) (show (z.length:Int) * n<=2 ^ 63 - 1 by rw [e3];omega)
  omega
 ·unfold Builtin.Str.tooLong sizeLine
  exact decide_eq_false (by omega)
 ·have hq:∀ (t2:Tok) k,EP X pins σ Q (.str (BN z n) t2) { s with toks:=k }:=fun t2 k=>⟨.str (BN z n),H,I.tok k,⟨t2,rfl⟩,q⟩
  unfold BN at hq
  by_cases g1:n < 1
  ·rw [if_pos g1]
   simp only [if_pos g1] at hq
   exact ⟨by decide,hq _ _⟩
  ·rw [if_neg g1]
   simp only [if_neg g1] at hq
   by_cases g2:(n == 1 || z.length == 0)=true
   ·rw [if_pos g2]
    simp only [if_pos g2] at hq
    exact hq t s.toks
   ·rw [if_neg g2]
    simp only [if_neg g2] at hq
    refine ⟨?_,hq _ _⟩
    have hsz:∀ (k:Nat) (acc:Array Nat),((List.replicate k z.cps).foldl (·++·) acc).size=acc.size + k * z.cps.size:=by
     intro k
     induction k with
     | zero=>intro acc;simp
     | succ k ih=>intro acc;rw [List.replicate_succ,List.foldl_cons,ih,Array.size_append,Nat.succ_mul];omega
    show ((List.replicate n.toNat z.cps).foldl (·++·) #[]).size<=sizeLine
    rw [hsz]
    have h5:n.toNat * z.cps.size<=100000:=by rw [Nat.mul_comm];exact h4
    have:(100000:Nat)<=sizeLine:=by decide
    simp only [Array.size_empty,Nat.zero_add]
    omega
def xX (o:Bool):eC:=fun x y M Q=>match x,y with
 | .int i,.int j=>vK i j/\Q (.int (i * j)) M
 | .str z,.int n=>-(2 ^ 63)<=n/\n < 2 ^ 20/\z.length<=2 ^ 20/\z.length * n.toNat<=100000/\Q (.str (BN z n)) M
 | .ref a,.int k=>match M a with
  | some (.lst us)=>-(2 ^ 63)<=k/\k < 2 ^ 63/\us.length * k.toNat<=sizeLine/\kZ o (List.replicate k.toNat us).flatten M Q
  | _=>False
 | _,_=>False
theorem aI.rep {K:PySem.W.Frag} {H:Hp} {M:aF} {us:List U} {vs:List V} (r:aI K H M us vs):∀ k:Nat,aI K H M (List.replicate k us).flatten (List.replicate k vs).flatten
 | 0=>by simp only [List.replicate_zero,List.flatten_nil];exact .nil
 | k + 1=>by simp only [List.replicate_succ,List.flatten_cons];exact r.append (aI.rep r k)
theorem Qq {K:PySem.W.Frag} {o:Bool}:fE K (fun x y H Q=>rI vK (fun i j=>.int (i * j)) x y H Q\/((∃ z n,x=.str z/\y=.int n/\-(2 ^ 63)<=n/\n < 2 ^ 20/\z.length<=2 ^ 20/\z.length * n.toNat<=100000/\Q (.str (BN z n)) H)\/Sd x y H Q)) (xX o):=fun x y u w H M Q' rm ru rw h Q c=>by
 unfold xX at h
 split at h
 ·rename_i i j
  exact .inl (sO (C:=vK) (f:=fun i j=>i * j) x y (.int i) (.int j) H M Q' rm ru rw h Q c)
 ·rename_i z n
  cases ru.str;cases rw.int
  exact .inr (.inl ⟨z,n,rfl,rfl,h.1,h.2.1,h.2.2.1,h.2.2.2.1,c.here rm fZ h.2.2.2.2⟩)
 ·rename_i a k
  split at h
  ·rename_i us e
   obtain ⟨vs,hv,r⟩:=rm a _ e
   cases ru.ref;cases rw.int
   exact .inr (.inr ⟨a,k,vs,rfl,rfl,hv,h.1,h.2.1,by rw [<- r.length];exact h.2.2.1,fun p hp=>c.lst rm (r.rep k.toNat) hp h.2.2.2⟩)
  ·exact h.elim
 ·exact h.elim
theorem BU (own:Bool:=false) (ha:bC D a ta) (hb:bC D b tb):bC D (.BinOp a .Mult b pos) (gF (xX own) ta tb):=y8 (fun _ _=>RJ.or (Qs.or SQ)) Qq ha hb
def Js (_ j:Int):Prop:=0 < j/\j < 2 ^ 64
theorem Ol {X:Cx}:cZ X (binaryOp .FloorDiv) (rI Js fun i j=>.int (i / j)):=O4 fun i j _ _ _ _ _ hc q=>by
 have h1:(0:Int) < j:=hc.1
 have h2:j.natAbs.log2 < 9000:=by
  have h3:j.natAbs < 2 ^ 64:=by have:=hc.2;omega
  by_cases h:j.natAbs=0
  ·rw [h];decide
  ·have:=(Nat.log2_lt h).mpr h3
   omega
 exact floordiv_int (by omega) (by rw [Int.fdiv_eq_ediv_of_nonneg i (by omega)];exact q) (.inl (PyProof.noPylong_of_log2 h2))
theorem kG (ha:bC D a ta) (hb:bC D b tb):bC D (.BinOp a .FloorDiv b pos) (gF (uI Js fun i j=>.int (i / j)) ta tb):=y8 (fun _ _=>Ol) sO ha hb
end
end U2
namespace HT
open PySem PySem.Spec PyProof.Rows L2
variable {prog:Program} {w:World} {A:Around} {E:Value->Shared->Prop} {s:Shared}
theorem xH {t sl:Addr} {items:Array Value} {vl vu:Value} {lo hi:Option Int} {Q:Value->Shared->Prop} (ht:IsTup s.heap t items) (hs:s.heap.IsSliceOf sl vl vu .none) (pl:IsPart vl lo) (pu:IsPart vu hi)
  (hw:bS items.size 0 lo=0/\bS items.size items.size hi=items.size)
  (h:Q (.ref t) s):wpAny (model prog w) A (getItem (.ref t) (.ref sl)) Q E s:=by
 obtain ⟨os,hos,hcs,hds⟩:=id hs
 have hTs:s.TypeIs (.ref sl) "slice":=⟨os,hos,hcs⟩
 unfold getItem
 try with_reducible refine wpAny_holding ?_
 first | refine wpAny_bind (wpAny_pure ?_) | skip
 refine wpAny_bind (wpAny_sequenceKey ht.typeIs (by decide) ?_)
 refine wpAny_bind (wpAny_callSpecial?_slot (name:=Str.ofString "__getitem__") ht.typeIs PyProof.Rows.slot_tuple_getitem
  (wpAny_call_entry PyProof.Rows.slot_tuple_getitem ht.typeIs entry_tuple_getitem ?_ (args_tuple_getitem _ _)))
 show wpAny _ _ (Builtin.Tuple.tupleItemsOf (.ref t) >>= _) _ _ s
 refine wpAny_bind (tupleItemsOf_ ht ?_)
 refine wpAny_bind (wpAny_typeOf hTs ?_)
 rw [if_pos (by decide)]
 refine wpAny_bind (rZ hs pl pu ?_)
 have hyes:((((bS items.size 0 lo:Nat):Int) == 0 && (1:Int) == 1 && (bS items.size items.size hi - bS items.size 0 lo) == items.size)=true):=by
  rw [hw.1,hw.2];simp
 show wpAny _ _ (if (((bS items.size 0 lo:Nat):Int) == 0 && (1:Int) == 1 && (bS items.size items.size hi - bS items.size 0 lo) == items.size)=true then _ else _) _ _ s
 rw [if_pos hyes]
 unfold Builtin.Tuple.tupleIsExact
 refine wpAny_bind (wpAny_bind (wpAny_typeOf ht.typeIs (wpAny_pure ?_)))
 rw [if_pos (by decide)]
 refine wpAny_bind (wpAny_rule ?_)
 exact wpAny_pure ⟨_,rfl,wpAny_pure h⟩
end HT
namespace U2
open PySem PySem.Spec PyProof.Rows L2
def Vh (K:PySem.W.Frag):V->Option Int->Option Int->Hp->VK->Prop:=fun x lo hi H Q=>∃ a xs,x=.ref a/\gI K H a xs/\(HT.bS xs.length 0 lo=0/\HT.bS xs.length xs.length hi=xs.length)/\Q (.ref a) H
theorem Rj {X:Cx}:Ak X (Vh X.K):=by
 intro pins s σ H x v vl vu lo hi sl Q I rx hs pl pu h
 obtain ⟨a,xs,rfl,hx,hw,q⟩:=h
 cases rx
 obtain ⟨its,r,ht,hz⟩:=I.tuple hx
 have hlen:its.toArray.size=xs.length:=by rw [List.size_toArray];exact r.length.symm
 refine ⟨"tuple",_,PyProof.Rows.slot_tuple_getitem.lookup,ht.typeIs,?_⟩
 refine HT.xH ht hs pl pu (by rw [hlen];exact hw) ⟨.ref a,H,I,rfl,q⟩
def rE (o:Bool) (te:UE) (tl th:UO):UE:=fun τ M Q=>te τ M fun x M1=>tl τ M1 fun l M2=>th τ M2 fun h M3=>match view M3 x with
 | .lst us=>kZ o (pW us l h) M3 Q
 | .tup us=>Q (.tup (pW us l h)) M3
 | .str z=>z.length<=sizeLine/\Q (.str (Txt.slice z l h)) M3
 | _=>False
theorem Q5 {K:PySem.W.Frag} {o:Bool} {te:TE} {te':UE} {tl th:TO} {tl' th':UO} (h0:bV K te te') (h1:EW K tl tl') (h2:EW K th th'):bV K (Ww (fun x lo hi H Q=>Th K x lo hi H Q\/Vh K x lo hi H Q) te tl th) (rE o te' tl' th'):=fun σ τ H M Q' rs rm q Q c =>
 h0 σ τ H M _ rs rm q _ fun u v M1 H1 s1 rm1 ru q1=>h1 σ τ H1 M1 _ (rs.stp s1) rm1 q1 _ fun lo M2 H2 s2 rm2 q2=>h2 σ τ H2 M2 _ ((rs.stp s1).stp s2) rm2 q2 _ fun hi M3 H3 s3 rm3 q3=>by
  have c3:=cK.stp c ((s1.trans s2).trans s3)
  have ru3:=ru.stp (s2.trans s3)
  split at q3
  ·rename_i us e
   obtain ⟨a,xs,rfl,r1,r2⟩:=jE rm3 ru3 e
   exact .inl (.inl ⟨a,xs,rfl,r1,fun p hp=>c3.lst rm3 (GW r2 lo hi) hp q3⟩)
  ·rename_i us e
   have e':=vL e
   subst e'
   obtain ⟨a,xs,rfl,r1,r2⟩:=ru3.tup
   by_cases hw:HT.bS xs.length 0 lo=0/\HT.bS xs.length xs.length hi=xs.length
   ·refine .inr ⟨a,xs,rfl,r1,hw,c3 _ _ M3 H3 (aX.refl _ _) rm3 ?_ q3⟩
    have e4:pW us lo hi=us:=by
     unfold pW
     rw [r2.length,hw.1,hw.2,List.drop_zero,Nat.sub_zero,<- r2.length,List.take_length]
    rw [e4]
    exact ru3
   ·exact .inl (.inr (.inl ⟨a,xs,rfl,r1,hw,fun p hp=>c3.tup rm3 (GW r2 lo hi) hp q3⟩))
  ·rename_i z e
   have e':=Aw e
   subst e'
   exact .inl (.inr (.inr ⟨z,ru3.str,q3.1,c3 _ _ M3 H3 (aX.refl _ _) rm3 fZ q3.2⟩))
  ·exact q3.elim
theorem lW {D:Dat} {a:Expr} {ta:UE} {pos:Pos} (own:Bool:=false) {lo hi:Option Expr} {tl th:UO} {p2:Pos} (ha:bC D a ta) (hl:PV D lo tl) (hh:PV D hi th):bC D (.Subscript a (.Slice lo hi none p2) pos) (rE own ta tl th):=by
 obtain ⟨_,p,s⟩:=ha;obtain ⟨_,q,r⟩:=hl;obtain ⟨_,u,v⟩:=hh
 refine ⟨_,fun X h=>?_,Q5 s r v⟩
 have:=OJ (pos:=pos) (p2:=p2) (So.or Rj) (p X h) (q X h) (u X h)
 rw [h.K] at this
 exact this
end U2
namespace Att
open PySem PySem.Spec PyProof.Rows PySem.W Calls
theorem HM (m:Int):(WData.int m).weight=Builtin.Int.intBits m:=by
 unfold WData.weight Builtin.Int.intBits;rfl
theorem F1 (ns:List Int):∀ m∈ns,Builtin.Int.intBits m<=WData.weightAll (ns.map WData.int):=by
 induction ns with
 | nil=>intro m hm;cases hm
 | cons k r ih =>
  intro m hm
  have e:WData.weightAll ((k :: r).map WData.int)=Builtin.Int.intBits k + 1 + WData.weightAll (r.map WData.int):=by
   rw [List.map_cons]
   conv=>lhs;unfold WData.weightAll
   rw [HM]
  rw [e]
  rcases List.mem_cons.mp hm with rfl | h
  ·omega
  ·have:=ih m h;omega
theorem RF {ns:List Int} (h:WData.layableAll [WData.list (ns.map WData.int)]=true):∀ m∈ns,Builtin.Int.intBits m<=2 ^ 20:=by
 intro m hm
 have h1:(WData.list (ns.map WData.int)).layable=true:=layableW_arg h _ (List.mem_singleton.mpr rfl)
 have h2:(WData.list (ns.map WData.int)).weight<=2 ^ 20:=of_decide_eq_true (Bool.and_eq_true_iff.mp h1).2
 have h3:(WData.list (ns.map WData.int)).weight=WData.weightAll (ns.map WData.int):=by
  conv=>lhs;unfold WData.weight
 rw [h3] at h2
 exact Nat.le_trans (F1 ns m hm) h2
theorem attach_callB {l:OpenLaw} {n:Nat} {q:Program} {loose:List Str} {XP:(Str->Option Value)->Heap->Prop} {YP:World->Heap->Prop} {d:DefRec}
  (hn:l.most=some n) (hdf:d.params.defaults=[])
  (call:∀ (w:World) (s₀ s₁:Shared) (mg mb:Str->Option Value) (fa:Addr) (o:Obj) (pm cd doc:Value) (a:Addr) (vs:List Value) (ns:List Int),
   Ground q loose [] XP w s₀ mg mb s₁.heap->YP w s₁.heap ->
   s₁.heap.get? fa=some o->o.data=.func (docDef d.name d.params d.body d.scope pm cd doc)->s₁.heap.CodeRec cd d.name->mg d.name=some (.ref fa) ->
   s₁.heap.get? a=some { cls:=.type "list",data:=.seq vs.toArray }->IntsAre vs ns->ns.length<=n->s₁.gens=#[]->(∀ m∈ns,Builtin.Int.intBits m<=2 ^ 20) ->
   codeAny (model l.prog w) callerA (.call (.ref fa) ⟨[.ref a],[]⟩) (fun r s'=>r=.ok (.ret (.bool true))/\OldK s₁.heap s'.heap/\s'.os=s₁.os/\AllBare s'.gens) s₁) :
  WalkO q loose XP YP l.row.toRowW d [] (fun f vs=>PySem.call f vs):=by
 intro w s₀ s₁ mg mb G Y fa o pm cd doc dV kV ho hd hcd hD hmg hg args vals as hpre hlay hrd hwl hlo
 obtain rfl:dV=.none:=Dflts.none hD hdf
 obtain rfl:kV=.none:=Dflts.noKw hD
 obtain ⟨a,vs,ns,rfl,rfl,hobj,hints,hlen⟩:=L9 hn hpre hwl
 refine enter_call (codeAny_mono (call w s₀ s₁ mg mb fa o pm cd doc a vs ns G Y ho (fd_plain hd) hcd hmg hobj hints hlen hg (RF hlay)) fun r s' hq=>?_)
 obtain ⟨rfl,h2,h3,h4⟩:=hq
 exact ⟨.inl ⟨.bool true,.bool true,[],rfl,fun _=>rfl,.bool true,LJ l _,fun _=>⟨List.Pairwise.nil,fun _ hm=>(nomatch hm)⟩⟩,h2,h3,h4⟩
end Att
namespace L2
open PySem PySem.Spec PyProof.Rows
end L2
namespace U2
open PySem PySem.Spec PyProof.Rows L2
def mK (ta:UA):UI:=fun τ M R=>ta τ M fun us M1=>match us with
 | [.lst us]=>R ⟨none,us.reverse⟩ M1
 | _=>False
end U2
namespace U2
open PySem PySem.Spec PyProof.Rows L2
section
variable {prog:Program} {w:World} {A:Around} {E:Value->Shared->Prop} {s:Shared}
end
def dU (o:Bool) (ta:UA):UE:=fun τ M Q=>ta τ M fun us M1=>match us with
 | [x]=>match view M1 x with
  | .lst us=>kZ o us.reverse M1 Q
  | _=>False
 | _=>False
end U2
namespace U2
open PySem PySem.Spec PyProof.Rows L2
section
variable {prog:Program} {w:World} {A:Around} {E:Value->Shared->Prop} {s:Shared}
end
end U2
namespace U2
open PySem PySem.Spec PyProof.Rows L2
end U2
namespace U2
open PySem PySem.Spec PyProof.Rows L2
theorem dM.len {K:PySem.W.Frag} {H:Hp}:∀ {ds:List PyData} {vs:List V},dM K H ds vs->ds.length=vs.length
 | [],vs,h=>by simp only [dM] at h;subst h;rfl
 | d :: ds,vs,h=>by
  simp only [dM] at h
  obtain ⟨v,vs',rfl,_,h2⟩:=h
  simp only [List.length_cons,dM.len h2]
theorem dM.at {X:Cx} {pins:List (Addr × Obj)} {σ:L2.St} {H:Hp} {s:Shared} (I:L2.Inv X pins σ H s):∀ {ds:List PyData} {vs:List V} {us:List Value},dM X.K H ds vs->Vals vs us->∀ (j:Nat) (d:PyData) (u:Value),ds[j]?=some d->us[j]?=some u->∃ as,Reads s.heap u d as
 | [],vs,us,h,r,j,d,u,e,_=>by cases e
 | d0 :: ds,vs,us,h,r,j,d,u,e,e'=>by
  simp only [dM] at h
  obtain ⟨v,vs',rfl,h1,h2⟩:=h
  cases r with
  | cons r rr =>
   cases j with
   | zero=>cases e;cases e';exact h1.reads I r
   | succ j=>exact dM.at I h2 rr j d u e e'
def OX (K:PySem.W.Frag) (neg:Bool):R2:=fun x y H Q=>∃ a xs ds d,y=.ref a/\(fB K H a xs\/gI K H a xs)/\dM K H ds xs/\gJ K H d x/\PyData.canLayAll0 ds=true/\d.canLay0=true/\d.depth<=60/\Q (.bl (if neg then !ds.any (fun e=>PyData.eqv e d) else ds.any (fun e=>PyData.eqv e d))) H
theorem GH:∀ {ds:List PyData},PyData.canLayAll0 ds=true->∀ d∈ds,d.canLay0=true
 | [],_,d,h=>by cases h
 | a :: ds,hh,d,h=>by
  simp only [PyData.canLayAll0,Bool.and_eq_true] at hh
  rcases List.mem_cons.mp h with rfl | h
  ·exact hh.1
  ·exact GH hh.2 d h
open Classical in
theorem zN {X:Cx} {k:Nat} (hr:cX k X.A) {pins:List (Addr × Obj)} {σ:L2.St} {H:Hp} {s:Shared} (I:L2.Inv X pins σ H s) {ds:List PyData} {vs:List V} {its:List Value} (h:dM X.K H ds vs) (r:Vals vs its) {d:PyData} {x:V} {v:Value} (hd:gJ X.K H d x) (rx:RelV x v) (c1:PyData.canLayAll0 ds=true) (c2:d.canLay0=true) (hdep:d.depth<=60) :
  ∃ e:Value->Bool,(∀ y∈its,SeqAt.EqAt X.A.in1 s y v (e y))/\its.any e=ds.any fun d'=>PyData.eqv d' d:=by
 have hl:ds.length=its.length:=by rw [h.len,r.length]
 obtain ⟨bs,rb⟩:=hd.reads I rx
 have key:∀ (j:Nat) (d':PyData) (u:Value),ds[j]?=some d'->its[j]?=some u->SeqAt.EqAt X.A.in1 s u v (PyData.eqv d' d):=fun j d' u e1 e2=>by
  obtain ⟨as,ra⟩:=dM.at I h r j d' u e1 e2
  exact SeqAt.eqAt_reads d' d _ _ _ _ _ _ ra rb (GH c1 d' (List.mem_of_getElem? e1)) c2 (by have:=hr.units;show X.A.units + 1 + _ < _;omega)
 refine ⟨fun u=>decide (∃ (j:Nat) (d':PyData),ds[j]?=some d'/\its[j]?=some u/\PyData.eqv d' d=true),fun y hy=>?_,?_⟩
 ·obtain ⟨j,hj⟩:=List.getElem?_of_mem hy
  have hjl:j < ds.length:=by rw [hl];exact (List.getElem?_eq_some_iff.mp hj).1
  have hdj:ds[j]?=some ds[j]:=List.getElem?_eq_getElem hjl
  dsimp only
  by_cases hh:∃ (j:Nat) (d':PyData),ds[j]?=some d'/\its[j]?=some y/\PyData.eqv d' d=true
  ·rw [decide_eq_true hh]
   obtain ⟨i,d',e1,e2,e3⟩:=hh
   rw [<- e3];exact key i d' y e1 e2
  ·rw [decide_eq_false hh]
   have hf:PyData.eqv ds[j] d=false:=by
    cases hc:PyData.eqv ds[j] d with
    | false=>rfl
    | true=>exact absurd ⟨j,ds[j],hdj,hj,hc⟩ hh
   rw [<- hf];exact key j ds[j] y hdj hj
 ·rw [Bool.eq_iff_iff,List.any_eq_true,List.any_eq_true]
  constructor
  ·rintro ⟨u,hu,he⟩
   obtain ⟨j,d',e1,e2,e3⟩:=of_decide_eq_true he
   exact ⟨d',List.mem_of_getElem? e1,e3⟩
  ·rintro ⟨d',hd',he⟩
   obtain ⟨j,hj⟩:=List.getElem?_of_mem hd'
   have hjl:j < its.length:=by rw [<- hl];exact (List.getElem?_eq_some_iff.mp hj).1
   have hij:its[j]?=some its[j]:=List.getElem?_eq_getElem hjl
   exact ⟨its[j],List.getElem_mem hjl,decide_eq_true ⟨j,d',hj,hij,he⟩⟩
theorem Ub {X:Cx} {k:Nat} (hr:cX k X.A):cZ X (compareOp .In) (OX X.K false):=by
 intro pins s σ H x y v u Q I rx ry h
 obtain ⟨p,xs,ds,d,rfl,hq,hds,hd,c1,c2,hdep,q⟩:=h
 cases ry
 rcases hq with hq | hq
 ·obtain ⟨its,r,pl,hz⟩:=I.list hq
  obtain ⟨e,he,hany⟩:=zN hr I hds r hd rx c1 c2 hdep
  refine SeqAt.in_listAt e pl.isList (fun w hw=>he w (by simpa using hw)) ⟨.bl _,H,I,rfl,?_⟩
  rw [show its.toArray.any e=its.any e by simp,hany]
  exact q
 ·obtain ⟨its,r,pl,hz⟩:=I.tuple hq
  obtain ⟨e,he,hany⟩:=zN hr I hds r hd rx c1 c2 hdep
  refine SeqAt.in_tupleAt e pl (fun w hw=>he w (by simpa using hw)) ⟨.bl _,H,I,rfl,?_⟩
  rw [show its.toArray.any e=its.any e by simp,hany]
  exact q
theorem LR {X:Cx} {k:Nat} (hr:cX k X.A):cZ X (compareOp .NotIn) (OX X.K true):=by
 intro pins s σ H x y v u Q I rx ry h
 obtain ⟨p,xs,ds,d,rfl,hq,hds,hd,c1,c2,hdep,q⟩:=h
 cases ry
 rcases hq with hq | hq
 ·obtain ⟨its,r,pl,hz⟩:=I.list hq
  obtain ⟨e,he,hany⟩:=zN hr I hds r hd rx c1 c2 hdep
  refine SeqAt.notIn_listAt e pl.isList (fun w hw=>he w (by simpa using hw)) ⟨.bl _,H,I,rfl,?_⟩
  rw [show its.toArray.any e=its.any e by simp,hany]
  exact q
 ·obtain ⟨its,r,pl,hz⟩:=I.tuple hq
  obtain ⟨e,he,hany⟩:=zN hr I hds r hd rx c1 c2 hdep
  refine SeqAt.notIn_tupleAt e pl (fun w hw=>he w (by simpa using hw)) ⟨.bl _,H,I,rfl,?_⟩
  rw [show its.toArray.any e=its.any e by simp,hany]
  exact q
def JU (neg:Bool):eC:=fun x y M Q=>∃ us ds d,items M y=some us/\dR us=some ds/\wG M x=some d/\PyData.canLayAll0 ds=true/\d.canLay0=true/\d.depth<=60/\Q (.bl (if neg then !ds.any (fun e=>PyData.eqv e d) else ds.any (fun e=>PyData.eqv e d))) M
theorem G0 {K:PySem.W.Frag} {neg:Bool}:fE K (OX K neg) (JU neg):=fun x y u w H M Q' rm ru rw h Q c=>by
 obtain ⟨us,ds,d,e1,e2,e3,c1,c2,hdep,q⟩:=h
 obtain ⟨p,xs,rfl,hs,rs⟩:=yP rm rw e1
 exact ⟨p,xs,ds,d,rfl,hs,rN rs e2,AK rm ru e3,c1,c2,hdep,c.here rm cY q⟩
theorem Vz {D:Dat}:pR D .In (JU false):=⟨⟨_,fun X h=>h.K ▸ Ub h.room,G0⟩⟩
theorem Nt {D:Dat}:pR D .NotIn (JU true):=⟨⟨_,fun X h=>h.K ▸ LR h.room,G0⟩⟩
end U2
namespace U2
open PySem PySem.Spec PyProof.Rows L2
def strsOf:List U->Option (List Str)
 | []=>some []
 | .str x :: r=>(strsOf r).map (x :: ·)
 | _=>none
theorem Jb:∀ ss:List Str,strsOf (ss.map U.str)=some ss
 | []=>rfl
 | s :: ss=>by simp only [List.map_cons,strsOf,Jb ss];rfl
theorem Jy {K:PySem.W.Frag} {H:Hp} {M:aF}:∀ {us:List U} {vs:List V} {ss:List Str},aI K H M us vs->strsOf us=some ss->vs=ss.map V.str
 | [],vs,ss,r,e=>by cases e;exact r.inv_nil
 | u :: us,vs,ss,r,e=>by
  obtain ⟨v,vs',rfl,a,b⟩:=r.inv_cons
  cases u with
  | str x =>
   simp only [strsOf] at e
   cases e2:strsOf us with
   | none=>rw [e2] at e;cases e
   | some ss' =>
    rw [e2] at e;cases e
    rw [a.str,Jy b e2];rfl
  | _=>cases e
theorem wF {K:PySem.W.Frag} {H:Hp} {M:aF}:∀ ss:List Str,aI K H M (ss.map U.str) (ss.map V.str)
 | []=>.nil
 | s :: ss=>.cons fZ (wF ss)
end U2
namespace U2
open PySem PySem.Spec PyProof.Rows L2
end U2
namespace U2
open PySem PySem.Spec PyProof.Rows L2
abbrev HG (qual:Str) (scope:Scope) (L f c:Addr) (cl:List (Str × Addr)):Env:=PySem.W.envX qual scope L f (.ref c) cl
def DA (P:Program) (w:World) (K:PySem.W.Frag) (mg:Str->Option Value) (base:Heap) (N:List Str) (qual:Str) (scope:Scope) (f c:Addr) (cl:List (Str × Addr)) (A:Around) (outer:List Env) (s:Shared) (H:Hp):Cx where
 prog:=P
 w:=w
 K:=K
 mg:=mg
 base:=base
 A:=A.deeper (HG qual scope s.heap.objs.size f c cl)
 N:=N
 s₀:=s
 H₀:=H
 env:=HG qual scope s.heap.objs.size f c cl
 outer:=outer
 stack:=HG qual scope s.heap.objs.size f c cl :: outer
 ex:=[]
 calm:=true
 fn:=fun _=>false
 pn:=[]
 xe:=fun _ _=>False
structure Ey (N ps:List Str) (sc:Scope):Prop where
 kind:sc.kind=.function
 co:sc.isCoroutine=false
 gen:sc.isGenerator=false
 nd:N.Nodup
 pre:N.take ps.length=ps
 par:∀ x∈ps,sc.names.lookup x=some .local
 cells:∀ y∈sc.names,y.2≠.cell
 cap:∀ x∈N.drop ps.length,sc.names.lookup x=some .free
theorem BG:∀ {ps:List Str} {us:List Value} {i:Nat} {x:Str} {u:Value},ps.Nodup->ps[i]?=some x->us[i]?=some u->(ps.zip us).reverse.lookup x=some u
 | [],_,i,_,_,_,h,_=>by simp at h
 | _ :: _,[],i,_,_,_,_,h=>by simp at h
 | p :: ps,v :: us,i,x,u,nd,h1,h2=>by
  rw [List.zip_cons_cons,List.reverse_cons,List.lookup_append]
  cases i with
  | zero =>
   have e1:p=x:=by simpa using h1
   have e2:v=u:=by simpa using h2
   subst e1;subst e2
   have hn:(ps.zip us).reverse.lookup p=none:=by
    rw [List.lookup_eq_none_iff]
    intro q hq
    have hq':=List.mem_reverse.mp hq
    have:=(List.of_mem_zip hq').1
    have hne:p≠q.1:=fun z=>(List.nodup_cons.mp nd).1 (by rw [z];exact this)
    simpa using hne
   rw [hn]
   simp [List.lookup_cons]
  | succ i =>
   have:=BG (i:=i) (x:=x) (u:=u) (List.nodup_cons.mp nd).2 (by simpa using h1) (by simpa using h2)
   rw [this];rfl
theorem Ud {P:Program} {w:World} {K:PySem.W.Frag} {mg:Str->Option Value} {base:Heap} {k:Nat} {fl c:Addr} {name qual:Str} {params:Arguments} {body:Expr} {scope:Scope} {cl:List (Str × Addr)} {pm ctv:Value} {N ps:List Str} {caps:List (Option V)} {sp:Sp}
  (ho:base.get? fl=some (PySem.W.kla_obj name qual params body scope cl pm c ctv)) (hc:base.CodeRec (.ref c) qual) (S:Ey N ps scope)
  (inj:∀ x y a,cl.lookup x=some a->cl.lookup y=some a->x=y) (has:∀ x,scope.names.lookup x=some .free->∃ a,cl.lookup x=some a) (cel:∀ x a,cl.lookup x=some a->∃ v,base.IsCell a v)
  (cap:∀ (j:Nat) x v,N[ps.length + j]?=some x->caps[j]?=some (some v)->∃ a u,cl.lookup x=some a/\base.IsCell a (some u)/\RelV v u) (hlN:N.length=ps.length + caps.length)
  (len:∀ vs H Q E,sp vs H Q E->vs.length=ps.length)
  (hbody:∀ (A:Around) (outer:List Env) (s:Shared) (H:Hp) (vs:List V) (Q:VK) (E:XK),cX k (A.deeper (HG qual scope s.heap.objs.size fl c cl))->sp vs H Q E ->
   ∃ t,PE (DA P w K mg base N qual scope fl c cl A outer s H) body t/\t (vs.map some++caps) H Q) :
  fJ P w K mg base jF (k + 1) fl (PySem.W.kla_fn name qual params body scope cl pm (.ref c) ctv) ps sp:=by
 refine ⟨len,fun A outer s H args us vs Q E hr e0 hb r hsp=>?_⟩
 have hl:=len _ _ _ _ hsp
 have lim:s.heap.NoLimit:=e0.mod.nolimit.keeps fun b o e=>(e0.bs b o e).1
 have hloc:∀ y∈ps.zip us,scope.names.lookup y.1=some .local:=fun ⟨n,v⟩ hy=>S.par n (List.of_mem_zip hy).1
 refine PySem.W.kla_callFunE hr.depth (e0.bs _ _ ho).1 rfl S.co S.gen rfl (hc.keeps fun b o e=>(e0.bs b o e).1) (hb _ _ _ _ ?_)
 refine wpAny_newFunctionEnv S.cells hloc (fun h₁ hns hsb=>⟨lim.fresh _ hsb,PySem.W.kla_codeExpr ?_⟩) S.kind
 have keep:∀ b o,s.heap.get? b=some o->h₁.get? b=some o:=fun b o e=>hsb.extBut b o (Nat.ne_of_lt (Heap.lt_size e)) (Heap.get?_push_of_some _ e)
 obtain ⟨t,ht,hq⟩:=hbody A outer s H vs Q E (hr.deeper _) hsp
 have I:L2.Inv (DA P w K mg base N qual scope fl c cl A outer s H) [] (vs.map some++caps) H { s with heap:=h₁,toks:=s.toks + (ps.zip us).length }:=by
  have noA:∀ b:Addr,b ∉ (DA P w K mg base N qual scope fl c cl A outer s H).ex:=fun b z=>absurd (show b∈([]:List Addr) from z) (by simp)
  refine ⟨⟨e0.mod,S.kind,rfl,rfl,Nat.le_refl _,inj,fun y hy=>?_,fun y a z=>(by cases z),fun _=>hr.hd,Around.frames_deeper e0.frames,.inr ⟨rfl,rfl⟩,fun b z=>absurd z (noA b),e0.bs,e0.bsz,fun b _ _=>noA b,fun b z=>absurd z (noA b),e0.funs,e0.frf⟩,
   rfl,e0.bare,Un.kept keep,⟨_,hns,fun i y v h1 h2 h3=>?_⟩,fun y a h=>?_,e0.hok.fresh (Nat.le_refl _),fun y a h=>?_,fun p hp=>absurd (show p∈([]:List (Addr × Obj)) from hp) (by simp),e0.hok.kept keep,?_⟩
  ·have hy:scope.names.lookup y=some .cell\/scope.names.lookup y=some .free:=hy
   rcases hy with hy | hy
   ·exact absurd rfl (S.cells _ (PySem.mem_of_lookup hy))
   ·exact has y hy
  ·have hlen:(vs.map some).length=ps.length:=by rw [List.length_map,hl]
   by_cases hi:i < ps.length
   ·have ha:vs[i]?=some v:=by
     rw [List.getElem?_append_left (by rw [hlen];exact hi),List.getElem?_map] at h2
     cases e:vs[i]? with
     | none=>rw [e] at h2;cases h2
     | some a=>rw [e] at h2;cases h2;rfl
    obtain ⟨u,hu,rv⟩:=r.get ha
    have hp:ps[i]?=some y:=by rw [<- S.pre,List.getElem?_take_of_lt hi];exact h1
    have ndP:ps.Nodup:=by rw [<- S.pre];exact S.nd.sublist (List.take_sublist _ _)
    exact ⟨u,rv,.inl ⟨S.par y (List.mem_of_getElem? hp),BG ndP hp hu⟩⟩
   ·obtain ⟨j,rfl⟩:∃ j,i=ps.length + j:=⟨i - ps.length,by omega⟩
    rw [List.getElem?_append_right (by rw [hlen];omega),hlen,Nat.add_sub_cancel_left] at h2
    obtain ⟨a,u,e1,e2,e3⟩:=cap j y v h1 h2
    have hk:scope.names.lookup y=some .free:=S.cap y (List.mem_of_getElem? (i:=j) (by rw [List.getElem?_drop];exact h1))
    exact ⟨u,e3,.inr ⟨.inr hk,a,e1,e2.keeps fun b o e=>keep b o (e0.bs b o e).1⟩⟩
  ·obtain ⟨v,hv⟩:=cel y a h
   exact ⟨v,hv.keeps fun b o e=>keep b o (e0.bs b o e).1⟩
  ·obtain ⟨v,o,hv,_⟩:=cel y a h
   exact (e0.bs _ _ hv).2
  ·rw [List.length_append,List.length_map,hl];exact hlN.symm
 refine wpAny_mono (ht [] _ _ H Q I hq) (fun u s' hs=>?_) fun e s' hs=>hs.elim
 obtain ⟨v,H',J,rv,q⟩:=hs
 exact ⟨v,H',J.os,J.bare,J.base,J.hok,rv,q⟩
end U2
namespace U2
open PySem PySem.Spec PyProof.Rows L2
structure Kc where
 params:Arguments
 body:Expr
 scope:Scope
def IA (X:Cx) (s:Shared) (H:Hp) (M:aF) (q:Str) (l:Kc) (fl:Addr):Prop :=
 ∃ cl pm ctv c oc vs t,closureFor l.scope X.env=pure cl/\(s.heap.get? fl=some (PySem.W.kla_obj "<lambda>" q l.params l.body l.scope cl pm c ctv)/\H fl=none/\fl≠X.env.locals/\fl ∉ X.fs)/\H c=some (.frz oc (.own 0))/\M c=none/\oc.data=.fields vs/\vs[1]?=some (.str q t)
abbrev yL:=SU->aF->(List U->List Addr->aF->Prop)->Prop
def Ax (D:Dat) (q:Str) (es:List Expr) (ls:List Kc) (t:yL):Prop :=
 ∀ X,kN D X->∀ (pos:Pos) (pins:List (Addr × Obj)) (s:Shared) (σ:L2.St) (H:Hp) (τ:SU) (M:aF) (Q:List U->List Addr->aF->Prop),L2.Inv X pins σ H s->cL D.K H M σ τ->RelM D.K H M->t τ M Q ->
  wpAny (model X.prog X.w) X.A (spliced (backTo pos (starEach es X.env))) (fun us s'=>∃ ws vs fs M' H',L2.Inv X pins σ H' s'/\Vals vs us/\aX H M H' M'/\RelM D.K H' M'/\aI D.K H' M' ws vs/\Paired (IA X s' H' M' q) ls fs/\Q ws fs M') X.xe s
def i4:yL:=fun _ M Q=>Q [] [] M
def fK (te:UE) (t:yL):yL:=fun τ M Q=>te τ M fun u M1=>t τ M1 fun us fs M2=>Q (u :: us) fs M2
def iR (P:Addr) (q:Str) (t:yL):yL:=fun τ M Q=>M P=some (.tbl q)/\∀ fl,t τ M fun us fs M2=>Q (.ref fl :: us) (fl :: fs) M2
theorem T8 {D:Dat} {q:Str}:Ax D q [] [] i4:=fun X h pos pins s σ H τ M Q I rs rm ht=>Calls.spliced_nil ⟨[],[],[],M,H,I,.nil,aX.refl H M,rm,.nil,.nil,ht⟩
theorem B1 {D:Dat} {q:Str} {e:Expr} {es:List Expr} {ls:List Kc} {te:UE} {t:yL} (ha:bC D e te) (hr:Ax D q es ls t) (hs:∀ env,starEach (e :: es) env=(false,eval e env) :: starEach es env:=by intro _;rfl):Ax D q (e :: es) ls (fK te t):=by
 obtain ⟨t0,p,sim⟩:=ha
 intro X h pos pins s σ H τ M Q I rs rm ht
 rw [hs]
 show wpAny _ _ (spliced ((false,eval e X.env) :: backTo pos (starEach es X.env))) _ _ s
 refine Calls.spliced_cons (bB (p X h pins s σ H (fun v H1=>∃ u M1,aX H M H1 M1/\RelM D.K H1 M1/\aP D.K H1 M1 u v/\t τ M1 fun us fs M2=>Q (u :: us) fs M2) I (sim σ τ H M _ rs rm ht _ fun u v M1 H1 st rm1 ru q=>⟨u,M1,st,rm1,ru,q⟩)) fun uu s1 ⟨v,H1,I1,r1,u,M1,st,rm1,ru,q⟩=>?_)
 exact bB (hr X h pos pins s1 σ H1 τ M1 _ I1 (rs.stp st) rm1 q) fun us s2 ⟨ws,vs,fs,M2,H2,I2,rv,st2,rm2,rus,pl,q2⟩ =>
  ⟨u :: ws,v :: vs,fs,M2,H2,I2,.cons r1 rv,st.trans st2,rm2,.cons (ru.stp st2) rus,pl,q2⟩
def kJ (base:Heap) (mg:Str->Option Value):Prop:=∃ bm o,mg "__builtins__"=some (.ref bm)/\bm≠builtinsNs/\bm≠mainGlobals/\base.get? bm=some o/\o.cls=.type "module"/\o.dict=some builtinsNs/\o.data=.plain
theorem HJ {pos:Pos} {a b:Int} {c v:Value}:∀ (l:List Value),TriplesOk l->codeAmong pos (l++[rawInt a,rawInt b,c])=some v->codeAmong pos l=some v\/v=c:=fun l h=>by
 fun_induction TriplesOk l with
 | case1 =>
  intro e
  simp only [List.nil_append,codeAmong,rawInt] at e
  split at e
  ·cases e;exact .inr rfl
  ·cases e
 | case2 a' t b' u x rest ih =>
  intro e
  simp only [List.cons_append,codeAmong] at e ⊢
  split at e
  ·rename_i hc;rw [if_pos hc];exact .inl e
  ·rename_i hc;rw [if_neg hc];exact ih h e
 | case3 l h1 h2=>exact h.elim
theorem Inv.addPin {X:Cx} {pins:List (Addr × Obj)} {σ:L2.St} {H:Hp} {s:Shared} {a:Addr} {o:Obj} (I:L2.Inv X pins σ H s) (h:s.heap.get? a=some o/\H a=none/\a≠X.env.locals/\a ∉ X.fs/\∀ v,o.data≠.cell v):L2.Inv X ((a,o) :: pins) σ H s :=
 ⟨I.ok,I.os,I.bare,I.base,I.loc,I.cell,I.free,I.freeC,fun p hp=>by
  rcases List.mem_append.mp hp with hp | hp
  ·exact I.pin p (List.mem_append_left _ hp)
  ·rcases List.mem_cons.mp hp with rfl | hp
   ·exact h
   ·exact I.pin p (List.mem_append_right _ hp),I.hok,I.len⟩
theorem Inv.unPin {X:Cx} {pins:List (Addr × Obj)} {σ:L2.St} {H:Hp} {s:Shared} {a:Addr} {o:Obj} (I:L2.Inv X ((a,o) :: pins) σ H s):L2.Inv X pins σ H s :=
 ⟨I.ok,I.os,I.bare,I.base,I.loc,I.cell,I.free,I.freeC,fun p hp=>I.pin p (by
  rcases List.mem_append.mp hp with hp | hp
  ·exact List.mem_append_left _ hp
  ·exact List.mem_append_right _ (List.mem_cons_of_mem _ hp)),I.hok,I.len⟩
theorem Ua {D:Dat} {q:Str} {es:List Expr} {ls:List Kc} {t:yL} {params:Arguments} {body:Expr} {scope:Scope} {lpos:Pos} {c0 P:Addr} (hK:PySem.W.codeHdIn D.K c0 P=true) (hB:kJ D.base D.mg) (hr:Ax D q es ls t) (hcod:D.cod=.ref c0:=by rfl) (hq:D.qual++"<lambda>"=q:=by rfl)
  (hfree:∀ y∈scope.names,y.2=.free->D.sc.names.lookup y.1=some .cell\/D.sc.names.lookup y.1=some .free:=by first | decide +kernel | (dsimp only;decide +kernel)) (hs:∀ env,starEach (.Lambda params body scope lpos :: es) env=(false,eval (.Lambda params body scope lpos) env) :: starEach es env:=by intro _;rfl) (hdef:∀ env,defaultsOf params env=([],[]):=by intro _;rfl) :
  Ax D q (.Lambda params body scope lpos :: es) (⟨params,body,scope⟩ :: ls) (iR P q t):=by
 intro X h pos pins s σ H τ M Q I rs rm ⟨hMP,ht⟩
 obtain ⟨huniq,ps,hHP,htr,hcodes⟩:=rm P _ hMP
 have hPg:s.heap.get? P=some (PySem.W.tabObj ps):=I.hok P _ hHP
 obtain ⟨e1,e2⟩:=h.cod (by rw [hcod];simp)
 rw [hcod] at e1
 obtain ⟨cl,hclos,hcl,hcl2⟩:=wO (env:=X.env) (scope:=scope) (fun x hx e=>I.ok.has x.1 (by show X.env.scope.names.lookup _=_\/X.env.scope.names.lookup _=_;rw [h.sc];exact hfree x hx e))
 have C:PySem.W.CodeHd s.heap c0 P:=PySem.W.codeHd_of_K I.kIn (by rw [h.K];exact hK)
 have hg:s.heap.Ns mainGlobals X.mg:=I.mod.glob.keeps I.bk
 have noP:∀ b o,X.base.get? b=some o->b≠P:=fun b o e z=>by
  have:=(I.bs b o e).2
  rw [z,hHP] at this;cases this
 have hgP:mainGlobals≠P:=by
  obtain ⟨o,es,ep,e,_⟩:=I.mod.glob
  exact noP _ _ e
 have hb:s.heap.BuiltinsAt X.mg P:=by
  obtain ⟨bm,o,b1,b2,b3,b4,b5⟩:=hB
  rw [<- h.base] at b4
  rw [<- h.mg] at b1
  exact ⟨bm,o,b1,b2,b3,noP _ _ b4,I.bk _ _ b4,b5⟩
 rw [hs]
 show wpAny _ _ (spliced ((false,eval (.Lambda params body scope lpos) X.env) :: backTo pos (starEach es X.env))) _ _ s
 refine Calls.spliced_cons (PySem.W.kla_eval (hdef _) ?_)
 rw [e2,hq]
 have done:∀ (H1:Hp) (s1:Shared) (fl c:Addr) (oc:Obj) (vs:Array Value) (tk:Tok) (pm ctv:Value),L2.Inv X pins σ H1 s1->s1.heap.get? fl=some (PySem.W.kla_obj "<lambda>" q params body scope cl pm c ctv)->H1 fl=none->fl≠X.env.locals->fl ∉ X.fs->aX H M H1 M->RelM D.K H1 M->H1 c=some (.frz oc (.own 0))->M c=none->oc.data=.fields vs->vs[1]?=some (.str q tk) ->
   wpAny (model X.prog X.w) X.A (spliced (backTo pos (starEach es X.env))) (fun us s'=>∃ ws vs fs M' H',L2.Inv X pins σ H' s'/\Vals vs (.ref fl :: us)/\aX H M H' M'/\RelM D.K H' M'/\aI D.K H' M' ws vs/\Paired (IA X s' H' M' q) (⟨params,body,scope⟩ :: ls) fs/\Q ws fs M') X.xe s1:=by
  intro H1 s1 fl c oc vs tk pm ctv I1 hfl hH1 hne hnf st rm1 hc hMc hd hv
  have Ip:=Inv.addPin I1 ⟨hfl,hH1,hne,hnf,fun v z=>by cases z⟩
  refine bB (hr X h pos _ s1 σ H1 τ M _ Ip (rs.stp st) rm1 (ht fl)) fun us s2 ⟨ws,vs',fs,M2,H2,I2,rv,st2,rm2,rus,pl,q2⟩=>?_
  obtain ⟨p1,p2,p3,p4,_⟩:=I2.pin (fl,_) (List.mem_append_right _ List.mem_cons_self)
  exact ⟨.ref fl :: ws,.ref fl :: vs',fl :: fs,M2,H2,Inv.unPin I2,.cons rfl rv,st.trans st2,rm2,.cons rQ rus,.cons ⟨cl,pm,ctv,c,oc,vs,tk,hclos,⟨p1,p2,p3,p4⟩,(st2.to hc hMc).1,(st2.to hc hMc).2,hd,hv⟩ pl,q2⟩
 have hLs:X.env.locals < s.heap.objs.size:=I.lt
 cases hf:codeAmong lpos ps.toList with
 | some cv =>
  obtain ⟨c,oc,vs,tk,rfl,hHc,hMc,hd,hv⟩:=hcodes _ _ hf
  refine PySem.W.kla_makeFunctionHit (mg:=X.mg) hclos I.ok.glob hg e1 C hPg htr hf hb fun ctv h' tk' hk hsz=>?_
  have keep:∀ b o,s.heap.get? b=some o->(h'.push (PySem.W.kla_obj "<lambda>" q params body scope cl ((X.mg "__name__").getD .none) c ctv)).get? b=some o:=fun b o e=>Heap.get?_push_of_some _ (hk b o e)
  exact done H _ h'.objs.size c oc vs tk _ ctv (I.kept (t':=tk') keep) (Heap.get?_push_size _ rfl) (I.hok.fresh hsz) (Nat.ne_of_gt (Nat.lt_of_lt_of_le hLs hsz)) (I.nofs hsz) (aX.refl H M) rm hHc hMc hd hv
 | none =>
  refine PySem.W.kla_makeFunction (mg:=X.mg) hclos I.ok.glob hg e1 C hPg htr hf hgP hb fun c ctv h' tk' hx hge hlt hrec htb=>?_
  obtain ⟨c₂,oc,vs,tk,e2,hoc,hd,hv⟩:=hrec
  cases e2
  have hHc:H c=none:=I.hok.fresh hge
  have hcP:c≠P:=fun z=>by rw [z,hHP] at hHc;cases hHc
  have hsz:s.heap.objs.size<=h'.objs.size:=by omega
  generalize hps:ps++#[rawInt lpos.line,rawInt lpos.col,.ref c]=ps' at htb
  generalize hobj:PySem.W.kla_obj "<lambda>" q params body scope cl ((X.mg "__name__").getD .none) c ctv=obj
  have keep:∀ b o,b≠P->s.heap.get? b=some o->(h'.push obj).get? b=some o:=fun b o n e=>Heap.get?_push_of_some _ (hx b o n e)
  have hH1c:upd (upd H c (.frz oc (.own 0))) P (.tbl ps') c=some (.frz oc (.own 0)):=by rw [bE hcP,bT]
  have hH1:∀ b,b≠P->b≠c->upd (upd H c (.frz oc (.own 0))) P (.tbl ps') b=H b:=fun b n1 n2=>by rw [bE n1,bE n2]
  have hH1P:upd (upd H c (.frz oc (.own 0))) P (.tbl ps') P=some (.tbl ps'):=bT
  generalize hHH:upd (upd H c (.frz oc (.own 0))) P (.tbl ps')=H1 at hH1c hH1 hH1P
  have nc:∀ b o,H b=some o->b≠c:=fun b o e z=>by rw [z,hHc] at e;cases e
  have lt:∀ b o,s.heap.get? b=some o->b≠c:=fun b o e=>Nat.ne_of_lt (Nat.lt_of_lt_of_le (Heap.lt_size e) hge)
  have un:Un X.fs [] H H1 s.heap (h'.push obj):=by
   refine ⟨fun b o e n _ _=>keep b o (fun z=>by rw [z,hHP] at n;cases n) e,fun b o e n _ _=>⟨o.slots,keep b o (fun z=>by rw [z,hHP] at n;cases n) e⟩,fun b o e n _=>?_,fun b o e _=>?_,fun b xs e=>?_,fun b o u e=>?_,fun b qs e=>?_⟩
   ·rw [hH1 b (fun z=>by rw [z,hHP] at n;cases n) (lt b o e)];exact n
   ·by_cases hbP:b=P
    ·subst hbP;exact ⟨_,Heap.get?_push_of_some _ htb⟩
    ·exact ⟨o,keep b o hbP e⟩
   ·rw [hH1 b (fun z=>by rw [z,hHP] at e;cases e) (nc b _ e)];exact e
   ·rw [hH1 b (fun z=>by rw [z,hHP] at e;cases e) (nc b _ e)];exact e
   ·by_cases hbP:b=P
    ·subst hbP
     rw [hHP] at e;cases e
     exact ⟨_,by rw [hH1P,<- hps]⟩
    ·exact ⟨#[],by rw [hH1 b hbP (nc b _ e),e];simp⟩
  have hok:eG X.prog X.w H1 (h'.push obj):=by
   intro b o e
   by_cases hbP:b=P
   ·subst hbP;rw [hH1P] at e;cases e;exact Heap.get?_push_of_some _ htb
   ·by_cases hbc:b=c
    ·subst hbc;rw [hH1c] at e;cases e;exact ⟨Heap.get?_push_of_some _ hoc,_,Heap.get?_push_of_some _ hoc⟩
    ·rw [hH1 b hbP hbc] at e
     refine (I.hok b o e).stay (fun a u ha ea=>keep a u (fun z=>?_) ea) (fun a ea=>?_) (fun a xs ea=>?_)
     ·rcases ha with ha | ha
      ·exact hbP (ha.symm.trans z)
      ·rw [z,hHP] at ha;cases ha
     ·rw [hH1 a (fun z=>by rw [z,hHP] at ea;cases ea) (nc a _ ea)];exact ea
     ·rw [hH1 a (fun z=>by rw [z,hHP] at ea;cases ea) (nc a _ ea)];exact ea
  have hMc:M c=none:=rm.no hHc
  have st:aX H M H1 M:=.by' fun b o e m=>⟨by rw [hH1 b (fun z=>by rw [z,hMP] at m;cases m) (nc b o e)];exact e,m⟩
  have rm1:RelM D.K H1 M:=fun a mo e=>by
   by_cases haP:a=P
   ·subst haP
    rw [hMP] at e;cases e
    refine ⟨huniq,ps',hH1P,by rw [<- hps];simpa using TriplesOk_snoc _ _ _ _ htr,fun pos' v hv'=>?_⟩
    rw [<- hps] at hv'
    have hv2:codeAmong pos' (ps.toList++[rawInt lpos.line,rawInt lpos.col,.ref c])=some v:=by simpa using hv'
    rcases HJ ps.toList htr hv2 with z | rfl
    ·obtain ⟨c',oc',vs',t',y1,y2,y3,y4⟩:=hcodes _ _ z
     exact ⟨c',oc',vs',t',y1,(st.to y2 y3).1,y3,y4⟩
    ·exact ⟨c,oc,vs,tk,rfl,hH1c,hMc,hd,hv⟩
   ·have hac:a≠c:=fun z=>by subst z;rw [hMc] at e;cases e
    exact (rm a mo e).stp (fun _ _ z=>z) st (hH1 a haP hac)
  have I1:=I.un (t':=tk') un hok
  refine done H1 _ h'.objs.size c oc vs tk _ ctv I1 (by rw [<- hobj];exact Heap.get?_push_size _ rfl) (by rw [hH1 _ (Nat.ne_of_gt (Nat.lt_of_lt_of_le (Heap.lt_size hPg) hsz)) (Nat.ne_of_gt hlt)];exact I.hok.fresh hsz) (Nat.ne_of_gt (Nat.lt_of_lt_of_le hLs hsz)) (I.nofs hsz) st rm1 hH1c hMc hd hv
end U2
namespace U2
open PySem PySem.Spec PyProof.Rows L2
structure oJ (P:Program) (w:World) (K:PySem.W.Frag) (mg:Str->Option Value) (base:Heap) (j:Nat) (f:Addr) (sp:cH):Prop where
 ex:∃ fd ps,fJ P w K mg base jF j f fd ps (gE K sp)/\(PySem.W.keepIn K (.ref f)=true\/∃ o fd',base.get? f=some o/\o.data=.func fd')/\Binds K fd ps []
theorem LG {X:Cx} {x:Str} {p pos:Pos} {e:Expr} {es:List Expr} {i k:Nat} {f:Addr} {fd:FuncData} {ps:List Str} {sp:Sp} {t:TA} (hN:X.N[i]?=some x) (hv:A7 X.env.scope x) (F:fJ X.prog X.w X.K X.mg X.base jF k f fd ps sp) (hr:cX k X.A) (hk:PySem.W.keepIn X.K (.ref f)=true\/∃ o fd',X.base.get? f=some o/\o.data=.func fd') (hb:Binds X.K fd ps [])
  (ha:PA X (e :: es) t) (hd:(x == ("__debug__":Str))=false) (hcd:(x == ("__classdict__":Str))=false) (he:starEach (e :: es) X.env=(false,eval e X.env) :: starEach es X.env) (hpl:(backTo pos (starEach es X.env)).any (·.1)=false) :
  PE X (.Call (.Name x p) (e :: es) [] pos) (Lb i f sp t):=by
 intro pins s σ H Q I h
 refine wpAny_Call_Name_kw (bB (nH (i:=i) hN hv hd hcd pins s σ H _ I h) fun v s1 ⟨x',H1,I1,r1,e1,q1⟩=>?_)
 subst e1
 cases r1
 rcases hk with hk | ⟨o,fd',ho,hof⟩
 ·refine PySem.W.callWith_K (h₀:=X.base) I1.ok.mod.kin hk (bB (ha pos pins s1 σ H1 _ I1 q1) fun us s2 ⟨vs,H2,I2,r,q⟩=>⟨I2.kIn,?_⟩) he hpl
  exact Fp (dvs:=[]) F hr hb .nil Jc I2 r (by rw [List.append_nil];exact q)
 ·have ha':=ha pos pins s1 σ H1 _ I1 q1
  rw [he] at ha' ⊢
  refine PySem.W.callWith_of (P:=fun h=>h.get? f=some o) (by show ((false || (backTo pos (starEach es X.env)).any (·.1)) || false)=false;rw [hpl];rfl) (fun h0 hh=>?_) (Calls.evalArgs_plain (bB ha' fun us s2 ⟨vs,H2,I2,r,q⟩=>⟨I2.bk _ _ ho,?_⟩))
  ·refine ⟨.frame,.inl rfl,(PySem.W.Looks.ld (part:=none) hh).andThen ?_⟩
   obtain ⟨oc,od,odt,osl⟩:=o
   have:odt=.func fd':=hof
   subst this
   exact .now
  ·exact Fp (dvs:=[]) F hr hb .nil Jc I2 r (by rw [List.append_nil];exact q)
section
variable {D:Dat}
theorem OY (i:Nat) {x:Str} {p pos:Pos} {e:Expr} {es:List Expr} {j:Nat} {f:Addr} {sp:cH} {tas:UA} (F:oJ D.prog D.w D.K D.mg D.base j f sp) (ha:kS D (e :: es) tas) (hN:D.N[i]?=some x:=by rfl) (hv:A7 D.sc x:=by first | exact Or.inl rfl | exact Or.inr (Or.inl rfl) | exact Or.inr (Or.inr rfl))
  (hj:j<=D.k:=by first | exact Nat.le_refl _ | (dsimp only;omega) | omega | (dsimp only [cP];omega)) (hd:(x == ("__debug__":Str))=false:=by decide) (hcd:(x == ("__classdict__":Str))=false:=by decide)
  (he:∀ env,starEach (e :: es) env=(false,eval e env) :: starEach es env:=by intro _;rfl) (hpl:∀ env,(backTo pos (starEach es env)).any (·.1)=false:=by intro _;rfl):bC D (.Call (.Name x p) (e :: es) [] pos) (pF i f sp tas):=by
 obtain ⟨fd,ps,F,kp,hb⟩:=F.ex
 obtain ⟨t,q,s⟩:=ha
 refine ⟨Lb i f (gE D.K sp) t,fun X h=>?_,fun σ τ H M Q' rs rm h Q c=>?_⟩
 ·have F':fJ X.prog X.w X.K X.mg X.base jF j f fd ps (gE D.K sp):=by rw [h.prog,h.w,h.K,h.mg,h.base];exact F
  exact LG (by rw [h.N];exact hN) (by rw [h.sc];exact hv) F' (h.room.mono hj) (by rw [h.K,h.base];exact kp) (by rw [h.K];exact hb) (q X h) hd hcd (he _) (hpl _)
 ·refine y7 i σ τ H M _ rs rm h _ fun u v M1 H1 s1 rm1 ru h1=>?_
  obtain ⟨rfl,h1⟩:=h1
  refine ⟨ru.ref,s σ τ H1 M1 _ (rs.stp s1) rm1 h1 _ fun us vs M2 H2 s2 rm2 rus h2=>?_⟩
  exact ⟨us,M2,Q',rm2,rus,h2,cK.stp c (s1.trans s2)⟩
end
def EN (H:Hp) (M:aF) (H1:Hp) (M1:aF):Prop:=∀ b o,H b=some o->M b=none->(∀ oc,o≠.frz oc (.own 0))->(∀ ps,o≠.tbl ps)->H1 b=some o/\M1 b=none
mutual
theorem aP.stq {K:PySem.W.Frag} {H H1:Hp} {M M1:aF} (st:EN H M H1 M1):∀ {u:U} {v:V},aP K H M u v->aP K H1 M1 u v
 | .non,_,h=>by simpa only [aP] using h
 | .bl _,_,h=>by simpa only [aP] using h
 | .int _,_,h=>by simpa only [aP] using h
 | .str _,_,h=>by simpa only [aP] using h
 | .ty _,_,h=>by simpa only [aP] using h
 | .ref _,_,h=>by simpa only [aP] using h
 | .tup us,_,h=>by
  simp only [aP] at h ⊢
  obtain ⟨a,vs,e,h1,h2⟩:=h
  refine ⟨a,vs,e,?_,aI.stq st h2⟩
  obtain ⟨m,r⟩:=h1
  have q:=st a _ r m (by simp) (by simp)
  exact ⟨q.2,q.1⟩
 | .dic ks tk us,_,h=>by
  simp only [aP] at h ⊢
  obtain ⟨a,vs,e,m,h1,h2⟩:=h
  refine ⟨a,vs,e,?_,?_,aI.stq st h2⟩
  ·cases tk with
   | true=>obtain ⟨ws,e | ⟨o,e⟩,r⟩:=h1 <;> exact (st a _ e m (by intro oc z;cases z) (by simp)).2
   | false=>obtain ⟨ws,e | ⟨o,e⟩,r⟩:=h1 <;> exact (st a _ e m (by intro oc z;cases z) (by simp)).2
  ·cases tk with
   | true=>obtain ⟨ws,e | ⟨o,e⟩,r⟩:=h1;exact ⟨ws,.inl (st a _ e m (by simp) (by simp)).1,r⟩;exact ⟨ws,.inr ⟨o,(st a _ e m (by intro oc z;cases z) (by simp)).1⟩,r⟩
   | false=>obtain ⟨ws,e | ⟨o,e⟩,r⟩:=h1;exact ⟨ws,.inl (st a _ e m (by simp) (by simp)).1,r⟩;exact ⟨ws,.inr ⟨o,(st a _ e m (by intro oc z;cases z) (by simp)).1⟩,r⟩
 | .lst us,_,h=>by
  simp only [aP] at h ⊢
  obtain ⟨a,vs,e,h1,h2⟩:=h
  refine ⟨a,vs,e,?_,aI.stq st h2⟩
  rcases h1 with ⟨m,r⟩ | k
  ·rcases r with r | ⟨o,r⟩
   ·have q:=st a _ r m (by simp) (by simp)
    exact .inl ⟨q.2,.inl q.1⟩
   ·have q:=st a _ r m (by intro oc z;cases z) (by simp)
    exact .inl ⟨q.2,.inr ⟨o,q.1⟩⟩
  ·exact .inr k
theorem aI.stq {K:PySem.W.Frag} {H H1:Hp} {M M1:aF} (st:EN H M H1 M1):∀ {us:List U} {vs:List V},aI K H M us vs->aI K H1 M1 us vs
 | [],_,h=>by simpa only [aI] using h
 | u :: us,_,h=>by
  simp only [aI] at h ⊢
  obtain ⟨v,vs',e,h1,h2⟩:=h
  exact ⟨v,vs',e,aP.stq st h1,aI.stq st h2⟩
end
theorem n6.stq {κ:Type} {K:PySem.W.Frag} {H H1:Hp} {M M1:aF} (st:EN H M H1 M1):∀ {us:List (κ × U)} {vs:List (κ × V)},n6 K H M us vs->n6 K H1 M1 us vs
 | _,_,.nil=>.nil
 | _,_,.cons h t=>.cons ⟨h.1,h.2.stq st⟩ (n6.stq st t)
def eB (q:Str) (o:Option HO):Prop:=∃ oc vs t,o=some (.frz oc (.own 0))/\oc.data=.fields vs/\vs[1]?=some (.str q t)
open Classical in
noncomputable def kI (q:Str) (H:Hp):Hp:=fun b=>if eB q (H b) then none else H b
open Classical in
noncomputable def oS (q:Str) (H H2:Hp):Hp:=fun b=>if eB q (H b) then H b else H2 b
def yQ (M:aF) (a:Addr):aF:=fun b=>if b=a then none else M b
theorem WE {M:aF} {a:Addr}:yQ M a a=none:=by unfold yQ;rw [if_pos rfl]
theorem W8 {M:aF} {a b:Addr} (h:b≠a):yQ M a b=M b:=by unfold yQ;rw [if_neg h]
theorem sX {q:Str} {H:Hp} {b:Addr} (h:eB q (H b)):kI q H b=none:=by unfold kI;exact if_pos h
theorem cS {q:Str} {H:Hp} {b:Addr} (h:¬ eB q (H b)):kI q H b=H b:=by unfold kI;exact if_neg h
theorem yI {q:Str} {H H2:Hp} {b:Addr} (h:eB q (H b)):oS q H H2 b=H b:=by unfold oS;exact if_pos h
theorem cW {q:Str} {H H2:Hp} {b:Addr} (h:¬ eB q (H b)):oS q H H2 b=H2 b:=by unfold oS;exact if_neg h
theorem dO {q:Str} {o:HO} (h:eB q (some o)):∃ oc,o=.frz oc (.own 0):=by
 obtain ⟨oc,_,_,e,_⟩:=h;cases e;exact ⟨oc,rfl⟩
theorem Bm {q:Str}:¬ eB q none:=fun ⟨_,_,_,e,_⟩=>by cases e
theorem P4 {q q':Str} {oc:Obj} {vs:Array Value} {t:Tok} (hd:oc.data=.fields vs) (hv:vs[1]?=some (.str q' t)) (h:eB q (some (.frz oc (.own 0)))):q=q':=by
 obtain ⟨oc',vs',t',e,h1,h2⟩:=h
 cases e
 rw [hd] at h1;cases h1
 rw [hv] at h2;cases h2;rfl
theorem Lp {q:Str} {H:Hp} {b:Addr} {o:HO} (h:kI q H b=some o):H b=some o/\¬ eB q (H b):=by
 by_cases hc:eB q (H b)
 ·rw [sX hc] at h;cases h
 ·rw [cS hc] at h;exact ⟨h,hc⟩
end U2
namespace U2
open PySem PySem.Spec PyProof.Rows L2
def Pw (n:Nat) (te:UE) (caps:SU):cH:=fun us M Q=>us.length=n/\te (us.map some++caps) M Q
structure xW where
 lam:Kc
 N:List Str
 ps:List Str
 ix:List Nat
 te:UE
def MH (D:Dat) (base:Heap) (k:Nat) (N:List Str) (sc:Scope):Dat:={ D with base:=base,N:=N,sc:=sc,k:=k,fn:=false,cod:=.none }
structure PM (D:Dat) (k:Nat) (L:xW):Prop where
 sc:Ey L.N L.ps L.lam.scope
 len:L.N.length=L.ps.length + L.ix.length
 ix:L.ix.map (fun i=>D.N[i]?)=(L.N.drop L.ps.length).map some
 free:∀ y∈L.lam.scope.names,y.2=.free->D.sc.names.lookup y.1=some .cell\/D.sc.names.lookup y.1=some .free
 cap:∀ x∈L.N.drop L.ps.length,D.sc.names.lookup x=some .cell\/D.sc.names.lookup x=some .free
 body:∀ base,kJ base D.mg->bC (MH D base k L.N L.lam.scope) L.lam.body L.te
 bind:∀ (q:Str) (cl:List (Str × Addr)) (pm cd ct:Value) (us:List Value),us.length=L.ps.length->bindArgs (PySem.W.kla_fn "<lambda>" q L.lam.params L.lam.body L.lam.scope cl pm cd ct) ⟨us,[]⟩=pure (L.ps.zip us)
def Jq:U->Prop
 | .tup _=>False
 | .lst _=>False
 | .dic _ _ _=>False
 | _=>True
def Fi (L:xW) (τ:SU):SU:=L.ix.map fun i=>(τ[i]?).getD none
def JJ (L:xW) (τ:SU):cH:=Pw L.ps.length L.te (Fi L τ)
def eE (G:SU->List U->List Addr->aF->UK->Prop) (t:yL):UE:=fun τ M Q=>t τ M fun us fs M1=>G τ us fs M1 Q
theorem NY {α:Type} {a b:α} (h:(pure a:Sem α)=pure b):a=b:=by
 have h':(Sem.pure a:Sem α)=Sem.pure b:=h
 injection h'
def rH (P:Addr) (q:Str) (L:xW) (sp:Addr->cH->cH):SU->List U->List Addr->aF->UK->Prop:=fun τ us fs M1 Q=>match fs with
 | [fl]=>M1 P=some (.tbl q)/\(∀ u,some u∈Fi L τ->Jq u)/\((∀ b,yQ M1 P b≠some (.tbl q))->sp fl (JJ L τ) us (yQ M1 P) fun u M2=>(∀ b,M2 b≠some (.tbl q))/\Q u (mup M2 P (.tbl q)))
 | _=>False
def rJ (P:Addr) (q:Str) (L L':xW) (sp:Addr->cH->Addr->cH->cH):SU->List U->List Addr->aF->UK->Prop:=fun τ us fs M1 Q=>match fs with
 | [fl,fl']=>M1 P=some (.tbl q)/\(∀ u,some u∈Fi L τ->Jq u)/\(∀ u,some u∈Fi L' τ->Jq u)/\((∀ b,yQ M1 P b≠some (.tbl q))->sp fl (JJ L τ) fl' (JJ L' τ) us (yQ M1 P) fun u M2=>(∀ b,M2 b≠some (.tbl q))/\Q u (mup M2 P (.tbl q)))
 | _=>False
end U2
namespace U2
open PySem PySem.Spec PyProof.Rows L2
section
variable {P:Program} {w:World} {K:PySem.W.Frag} {mg:Str->Option Value} {base:Heap}
theorem IL {x:Str} {st:Stmt} {f c0:Addr} {fd:FuncData} {N ps:List Str} {k:Nat} {sp:cH} {t:US} (F:cE K x x st f fd) (hfd:fd.code=.ref c0) (hm:mg x=some (.ref f)) (S:aV N ps (aD st))
  (bind:∀ (kV doc pm:Value) (an:Option Addr) (cdv ct:Value) (us:List Value),us.length=ps.length->bindArgs (PySem.W.fnOf x x (aY st) (aS st) (aD st) .none kV doc pm an cdv ct) ⟨us,[]⟩=pure (ps.zip us))
  (len:∀ us M Q,sp us M Q->us.length=ps.length)
  (h:oC ⟨P,w,K,mg,base,N,aD st,k,true,.ref c0,x++".<locals>."⟩ (aS st) t)
  (q:∀ us M Q,sp us M Q->t { nx:=fun _ M'=>iG Q .non M',rt:=iG Q } (dH N us) M):Callee P w K mg base (k + 1) x sp []:=by
 obtain ⟨t0,h1,h2⟩:=h
 have hb:=F.binds bind
 have kp:=F.kp
 obtain ⟨oc,od,kV,doc,pm,an,cdv,ct,osl,rfl,lk,hcd⟩:=F.ex
 have hfd':cdv=.ref c0:=hfd
 subst hfd'
 refine ⟨f,_,ps,[],[],PF lk hcd S (fun vs H Q E ⟨us,M,Q',_,r,hs,_⟩=>by rw [<- r.length];exact len us M Q' hs) (fun A outer s H vs Q E hr ⟨us,M,Q',rm,r,hs,c⟩=>?_),hm,kp,hb,.nil,fun H M=>.nil⟩
 refine ⟨t0,mZ.nox (h1 _ ⟨rfl,rfl,rfl,rfl,rfl,rfl,rfl,hr,rfl,rfl,fun _ _=>rfl,fun _=>⟨rfl,rfl⟩,fun _=>⟨rfl,rfl,rfl⟩⟩),?_⟩
 refine h2 _ (dH N us) H M _ (tB r) rm (q us M Q' hs) _ ⟨fun σ τ H1 M1 s1 rm1 rs1 q1=>?_,fun u v H1 M1 s1 rm1 ru q1=>iG.ok c s1 rm1 ru q1,fun _ _ _ _ _ _ _ z=>z.elim,fun _ _ _ _ _ _ _ z=>z.elim⟩
 exact iG.ok c s1 rm1 jZ q1
end
def JG (ts:List Addr) (H:Hp):Prop:=∀ b,H b=none\/(∃ o xs,H b=some (.frz o (.lst xs)))\/(b∈ts/\H b=some (.tbl #[]))
theorem Kz {P:Program} {w:World} {K:PySem.W.Frag} {mg mb:Str->Option Value} {k:Nat} {fa a:Addr} {fd:FuncData} {x:Str} {sp:Sp} {s₁:Shared} {vs:List Value} {ns:List Int} {ts:List Addr}
  (KX:K.In s₁.heap) (hns:s₁.heap.Ns mainGlobals mg) (hb:s₁.heap.Ns builtinsNs mb) (hbb:∀ x:Str,x≠"__name__"->mb x=bootBuiltins x) (hlim:s₁.heap.NoLimit) (hg:s₁.gens=#[])
  (hB:kJ s₁.heap mg) (hT:∀ p∈ts,s₁.heap.get? p=some (PySem.W.tabObj #[])/\K.lookup p=none/\isCodeTable s₁.heap p)
  (ha:s₁.heap.get? a=some { cls:=.type "list",data:=.seq vs.toArray }) (hi:IntsAre vs ns) (hl:ns.length<=sizeLine) (hr:cX k callerA)
  (F:∀ base:Heap,K.In base->base.Ns mainGlobals mg->kJ base mg->fJ P w K mg base jF k fa fd [x] sp) (hbind:∀ (s:Shared) (u:Value),BindsTo s fd ⟨[u],[]⟩ [(x,u)])
  (hsp:∀ H:Hp,JG ts H->fB K H a (ns.map V.int)->(∀ p∈ts,H p=some (.tbl #[]))->sp [.ref a] H (fun v _=>v=.bl true) fun _ _ _=>False) :
  codeAny (model P w) callerA (.call (.ref fa) ⟨[.ref a],[]⟩) (fun r s'=>r=.ok (.ret (.bool true))/\OldK s₁.heap s'.heap/\s'.os=s₁.os/\AllBare s'.gens) s₁:=by
 have rv:=Cr hi
 have lenV:=hi.length
 have haT:a ∉ ts:=fun z=>by
  have:=(hT a z).1
  rw [ha] at this;cases this
 have core:∀ H:Hp,JG ts H->fB K H a (ns.map V.int)->(∀ p∈ts,H p=some (.tbl #[]))->eG P w H s₁.heap->(∀ b,H b≠none->b=a\/b∈ts)->(H a≠none->K.lookup a=none) ->
   codeAny (model P w) callerA (.call (.ref fa) ⟨[.ref a],[]⟩) (fun r s'=>r=.ok (.ret (.bool true))/\OldK s₁.heap s'.heap/\s'.os=s₁.os/\AllBare s'.gens) s₁:=by
  intro H hO hS hTb hok hA hK
  have base_of:∀ {b:Addr} {o:Obj},s₁.heap.get? b=some o->H b=none->(gL s₁.heap H).get? b=some o:=fun e n=>q8 e n
  have noD:∀ {b:Addr} {o:Obj},s₁.heap.get? b=some o->(∀ xs n,o.data≠.seq xs n)->(∀ vs,o.data≠.fields vs)->H b=none:=fun {b o} e d1 d2=>by
   cases q:H b with
   | none=>rfl
   | some u =>
    rcases hA b (by rw [q];simp) with e' | e'
    ·subst e'
     rw [ha] at e;cases e
     exact absurd rfl (d1 _ _)
    ·rw [(hT b e').1] at e;cases e
     exact absurd rfl (d2 _)
  have noA:∀ {b:Addr} {o:Obj} {es:Array DictEntry} {ep:Nat},s₁.heap.get? b=some o->o.data=.dict es ep->H b=none:=fun {b o es ep} e d=>noD e (fun xs n z=>by rw [d] at z;cases z) (fun vs z=>by rw [d] at z;cases z)
  have nsK:∀ {b:Addr} {m:Str->Option Value},s₁.heap.Ns b m->(gL s₁.heap H).Ns b m:=fun {b m} ⟨o,es,ep,e,d,r⟩=>⟨o,es,ep,base_of e (noA e d),d,r⟩
  have hKb:K.In (gL s₁.heap H):=fun b o e=>base_of (KX b o e) (by
   cases q:H b with
   | none=>rfl
   | some u =>
    rcases hA b (by rw [q];simp) with e' | e'
    ·subst e'
     rw [hK (by rw [q];simp)] at e;cases e
    ·rw [(hT b e').2.1] at e;cases e)
  have hBb:kJ (gL s₁.heap H) mg:=by
   obtain ⟨bm,o,b1,b2,b3,b4,b5,b6,b7⟩:=hB
   exact ⟨bm,o,b1,b2,b3,base_of b4 (noD b4 (fun xs n z=>by rw [b7] at z;cases z) (fun vs z=>by rw [b7] at z;cases z)),b5,b6,b7⟩
  have hM:Mod K mg (gL s₁.heap H):=⟨hKb,nsK hns,⟨mb,nsK hb,hbb⟩,let ⟨mc,h1,h2⟩:=hlim;⟨mc,nsK h1,h2⟩⟩
  have e0:tU P w K mg (gL s₁.heap H) callerA [] s₁ H:=⟨rfl,hM,fun b o e=>BZ e,Nat.le_of_eq (Ce _ _),trivial,fun b hb=>absurd (show b∈([]:List Addr) from hb) (by simp),hok,.of_eq hg⟩
  refine codeAny_mono ((F _ hKb (nsK hns) hBb).run callerA [] s₁ H ⟨[.ref a],[]⟩ [.ref a] [.ref a] _ _ hr e0 (hbind s₁ (.ref a)) (.cons rfl .nil) (hsp H hO hS hTb)) fun r s' h=>?_
  cases r with
  | error e=>exact h.elim
  | ok fl =>
   cases fl with
   | next=>exact False.elim h
   | brk=>exact False.elim h
   | cont=>exact False.elim h
   | ret u =>
    obtain ⟨v,H',os,bare,un,hok',r',q⟩:=h
    have q':v=.bl true:=q
    subst q'
    obtain rfl:u=Value.bool true:=r'
    have kept:∀ b o,s₁.heap.get? b=some o->b ∉ ts->s'.heap.get? b=some o:=fun b o e hbt=>by
     cases q:H b with
     | none=>exact un.keep b o e q (by intro z;exact absurd (show b∈([]:List Addr) from z) (by simp)) (by simp)
     | some u =>
      rcases hO b with z | ⟨ob,xs,z⟩ | ⟨z,_⟩
      ·rw [q] at z;cases z
      ·have z2:=un.frzs b ob _ z
       obtain ⟨e1,_⟩:=hok b _ z
       obtain ⟨e2,_⟩:=hok' b _ z2
       rw [e] at e1;cases e1
       exact e2
      ·exact absurd z hbt
    refine ⟨rfl,⟨fun b o e=>?_,fun b o e=>?_⟩,os,bare⟩
    ·by_cases hbt:b∈ts
     ·obtain ⟨h1,_,h3⟩:=hT b hbt
      rw [h1] at e;cases e
      obtain ⟨more,hm⟩:=un.tbls b _ (hTb b hbt)
      have:=hok' b _ hm
      exact .inr (.inl ⟨h3,rfl,#[],more,rfl,this⟩)
     ·exact .inl (kept b o e hbt)
    ·by_cases hbt:b∈ts
     ·obtain ⟨more,hm⟩:=un.tbls b _ (hTb b hbt)
      exact ⟨_,hok' b _ hm⟩
     ·exact ⟨o,kept b o e hbt⟩
 have tOk:∀ (H:Hp) b,b∈ts->dI P w H s₁.heap b (.tbl #[]):=fun H b hb=>(hT b hb).1
 open Classical in
 cases hk:K.lookup a with
 | some o =>
  have e:=KX a o hk
  rw [ha] at e
  cases e
  refine core (fun b=>if b∈ts then some (.tbl #[]) else none) (fun b=>?_) (.inr ⟨_,vs.toArray,_,hk,rfl,rfl,rfl,by rw [List.size_toArray,lenV];exact hl,by simpa using rv⟩) (fun p hp=>if_pos hp) (fun b u z=>?_) (fun b z=>?_) (fun z=>absurd (if_neg haT) z)
  ·by_cases hb:b∈ts
   ·exact .inr (.inr ⟨hb,if_pos hb⟩)
   ·exact .inl (if_neg hb)
  ·by_cases hb:b∈ts
   ·have z':=(if_pos hb).symm.trans z
    cases z'
    exact tOk _ b hb
   ·have z':=(if_neg hb).symm.trans z
    cases z'
  ·by_cases hb:b∈ts
   ·exact .inr hb
   ·exact absurd (if_neg hb) z
 | none =>
  refine core (fun b=>if b=a then some (.frz { cls:=.type "list",data:=.seq vs.toArray } (.lst (ns.map V.int))) else if b∈ts then some (.tbl #[]) else none) (fun b=>?_) (.inl (.inr ⟨{ cls:=.type "list",data:=.seq vs.toArray },if_pos rfl⟩)) (fun p hp=>?_) (fun b u z=>?_) (fun b z=>?_) fun _=>hk
  ·by_cases hb:b=a
   ·exact .inr (.inl ⟨_,_,if_pos hb⟩)
   ·by_cases hbt:b∈ts
    ·exact .inr (.inr ⟨hbt,(if_neg hb).trans (if_pos hbt)⟩)
    ·exact .inl ((if_neg hb).trans (if_neg hbt))
  ·exact (if_neg (fun z:p=a=>haT (z ▸ hp))).trans (if_pos hp)
  ·by_cases hb:b=a
   ·have z':=(if_pos hb).symm.trans z
    cases z'
    subst hb
    exact ⟨ha,by rw [List.length_map];exact hl,vs,_,rv,ha⟩
   ·by_cases hbt:b∈ts
    ·have z':=((if_neg hb).trans (if_pos hbt)).symm.trans z
     cases z'
     exact tOk _ b hbt
    ·have z':=((if_neg hb).trans (if_neg hbt)).symm.trans z
     cases z'
  ·by_cases hb:b=a
   ·exact .inl hb
   ·by_cases hbt:b∈ts
    ·exact .inr hbt
    ·exact absurd ((if_neg hb).trans (if_neg hbt)) z
end U2
namespace U2
open PySem PySem.Spec PyProof.Rows L2
section
variable {D:Dat} {x:Str} {p pos:Pos} {e:Expr} {es:List Expr} {f P:Addr} {q:Str} {j:Nat}
end
end U2
namespace U2
open PySem PySem.Spec PyProof.Rows L2
def yK (P:Addr) (ps:Array Value) (vs:List V) (cs:List U) (L:xW):cH:=fun us M Q=>M P=some (.cap ps vs cs)/\Pw L.ps.length L.te (cs.map some) us M Q
def JF (P:Addr) (q:Str) (L:xW) (sp:Addr->cH->cH):SU->List U->List Addr->aF->UK->Prop:=fun τ us fs M1 Q=>match fs with
 | [fl]=>M1 P=some (.tbl q)/\∃ cs,Fi L τ=cs.map some/\∀ ps vs,(∀ b,mup M1 P (.cap ps vs cs) b≠some (.tbl q))->sp fl (yK P ps vs cs L) us (mup M1 P (.cap ps vs cs)) fun u M2=>(∀ b,M2 b≠some (.tbl q))/\M2 P=some (.cap ps vs cs)/\Q u (mup M2 P (.tbl q))
 | _=>False
theorem OH {K:PySem.W.Frag} {H:Hp} {M:aF} {P:Addr} {q:Str} {vs:List V} {cs:List U} (rm:RelM K H M) (hP:M P=some (.tbl q)) (rc:aI K H M cs vs):∃ ps,H P=some (.tbl ps)/\EN H M (kI q H) (mup M P (.cap ps vs cs))/\RelM K (kI q H) (mup M P (.cap ps vs cs)):=by
 obtain ⟨un,ps,hHP,htr,hcodes⟩:=rm P _ hP
 have nP:¬ eB q (H P):=fun z=>by rw [hHP] at z;obtain ⟨oc,z⟩:=dO z;cases z
 have sq:EN H M (kI q H) (mup M P (.cap ps vs cs)):=fun b o e m n1 n2=>by
  refine ⟨?_,?_⟩
  ·rw [cS (fun z=>by rw [e] at z;obtain ⟨oc,z⟩:=dO z;exact n1 oc z)];exact e
  ·have hb:b≠P:=fun z=>by rw [z,hP] at m;cases m
   rw [cB hb];exact m
 refine ⟨ps,hHP,sq,fun a mo e=>?_⟩
 by_cases ha:a=P
 ·subst ha
  rw [bO] at e;cases e
  exact ⟨by rw [cS nP];exact hHP,rc.stq sq⟩
 rw [cB ha] at e
 have h:=rm a mo e
 cases mo with
 | lst us=>obtain ⟨vs,x,y⟩:=h;exact ⟨vs,by rw [cS (fun z=>by rw [x] at z;obtain ⟨oc,z⟩:=dO z;cases z)];exact x,y.stq sq⟩
 | dK us=>obtain ⟨vs,x,y⟩:=h;exact ⟨vs,by rw [cS (fun z=>by rw [x] at z;obtain ⟨oc,z⟩:=dO z;cases z)];exact x,y.stq sq⟩
 | dT us=>obtain ⟨vs,x,y⟩:=h;exact ⟨vs,by rw [cS (fun z=>by rw [x] at z;obtain ⟨oc,z⟩:=dO z;cases z)];exact x,y.stq sq⟩
 | dN us=>obtain ⟨vs,x,y⟩:=h;exact ⟨vs,by rw [cS (fun z=>by rw [x] at z;obtain ⟨oc,z⟩:=dO z;cases z)];exact x,y.stq sq⟩
 | cap ps vs us=>exact ⟨by rw [cS (fun z=>by rw [h.1] at z;obtain ⟨oc,z⟩:=dO z;cases z)];exact h.1,h.2.stq sq⟩
 | tbl q' =>
  obtain ⟨un',ps',x,y,z⟩:=h
  have hq:q'≠q:=fun w=>by subst w;exact ha (un' P hP).symm
  refine ⟨fun b hb=>un' b (by by_cases hbP:b=P;rw [hbP,bO] at hb;cases hb;rw [cB hbP] at hb;exact hb),ps',by rw [cS (fun z=>by rw [x] at z;obtain ⟨oc,z⟩:=dO z;cases z)];exact x,y,fun pos c hc=>?_⟩
  obtain ⟨c',oc,vs,t,h1,h2,h3,h4,h5⟩:=z pos c hc
  refine ⟨c',oc,vs,t,h1,?_,?_,h4,h5⟩
  ·rw [cS (fun z=>by rw [h2] at z;exact hq (P4 h4 h5 z).symm)];exact h2
  ·have hb:c'≠P:=fun z=>by rw [z,hHP] at h2;cases h2
   rw [cB hb];exact h3
theorem MU {K:PySem.W.Frag} {H H2:Hp} {M M2:aF} {P:Addr} {q:Str} {ps:Array Value} {vs:List V} {cs:List U} (rm:RelM K H M) (hP:M P=some (.tbl q)) (hHP:H P=some (.tbl ps)) (st:aX (kI q H) (mup M P (.cap ps vs cs)) H2 M2) (rm2:RelM K H2 M2) (hM2:M2 P=some (.cap ps vs cs)) (hn:∀ b,eB q (H b)->H2 b=none) (hu:∀ b,M2 b≠some (.tbl q)) :
  aX H M (oS q H H2) (mup M2 P (.tbl q))/\EN H2 M2 (oS q H H2) (mup M2 P (.tbl q))/\RelM K (oS q H H2) (mup M2 P (.tbl q)):=by
 obtain ⟨un,ps0,hHP0,htr,hcodes⟩:=rm P _ hP
 rw [hHP] at hHP0;cases hHP0
 have nP:¬ eB q (H P):=fun z=>by rw [hHP] at z;obtain ⟨oc,z⟩:=dO z;cases z
 have h2P:H2 P=some (.tbl ps):=(rm2 P _ hM2).1
 have S1:aX H M (oS q H H2) (mup M2 P (.tbl q)):=fun b o e m=>by
  have hb:b≠P:=fun z=>by rw [z,hP] at m;cases m
  by_cases hc:eB q (H b)
  ·exact ⟨.inl (by rw [yI hc];exact e),by rw [cB hb];exact rm2.no (hn b hc)⟩
  ·obtain ⟨a1,a2⟩:=st b o (by rw [cS hc];exact e) (by rw [cB hb];exact m)
   exact ⟨by rw [cW hc];exact a1,by rw [cB hb];exact a2⟩
 have S2:EN H2 M2 (oS q H H2) (mup M2 P (.tbl q)):=fun b o e m n1 n2=>by
  have hb:b≠P:=fun z=>by rw [z,hM2] at m;cases m
  have hc:¬ eB q (H b):=fun z=>by rw [hn b z] at e;cases e
  exact ⟨by rw [cW hc];exact e,by rw [cB hb];exact m⟩
 refine ⟨S1,S2,fun a mo e=>?_⟩
 by_cases ha:a=P
 ·subst ha
  rw [bO] at e;cases e
  refine ⟨fun b hb=>?_,ps,by rw [cW nP];exact h2P,htr,fun pos c hc=>?_⟩
  ·by_cases hba:b=a
   ·exact hba
   ·rw [cB hba] at hb;exact (hu b hb).elim
  ·obtain ⟨c',oc,vs,t,h1,h2,h3,h4⟩:=hcodes pos c hc
   obtain ⟨a1,a2⟩:=S1.to h2 h3
   exact ⟨c',oc,vs,t,h1,a1,a2,h4⟩
 ·rw [cB ha] at e
  have h:=rm2 a mo e
  obtain ⟨o,ho⟩:=rm2.ex e
  have hc:¬ eB q (H a):=fun z=>by rw [hn a z] at ho;cases ho
  cases mo with
  | lst us=>obtain ⟨vs,x,y⟩:=h;exact ⟨vs,by rw [cW hc];exact x,y.stq S2⟩
  | dK us=>obtain ⟨vs,x,y⟩:=h;exact ⟨vs,by rw [cW hc];exact x,y.stq S2⟩
  | dT us=>obtain ⟨vs,x,y⟩:=h;exact ⟨vs,by rw [cW hc];exact x,y.stq S2⟩
  | dN us=>obtain ⟨vs,x,y⟩:=h;exact ⟨vs,by rw [cW hc];exact x,y.stq S2⟩
  | cap ps vs us=>exact ⟨by rw [cW hc];exact h.1,h.2.stq S2⟩
  | tbl q' =>
   obtain ⟨un',ps',x,y,z⟩:=h
   have hqq:q'≠q:=fun w=>by subst w;exact hu a e
   refine ⟨fun b hb=>un' b (by by_cases hbP:b=P;subst hbP;rw [bO] at hb;exact absurd (by cases hb;rfl) hqq;rw [cB hbP] at hb;exact hb),ps',by rw [cW hc];exact x,y,fun pos c hcc=>?_⟩
   obtain ⟨c',oc,vs,t,h1,h2,h3,h4⟩:=z pos c hcc
   have hc':¬ eB q (H c'):=fun z=>by rw [hn c' z] at h2;cases h2
   refine ⟨c',oc,vs,t,h1,by rw [cW hc'];exact h2,?_,h4⟩
   by_cases hb:c'=P
   ·rw [hb,h2P] at h2;cases h2
   ·rw [cB hb];exact h3
theorem Es {K:PySem.W.Frag} {H:Hp} {M:aF} {σ:L2.St} {τ:SU} (rs:cL K H M σ τ):∀ (ix:List Nat) (cs:List U),ix.map (fun i=>(τ[i]?).getD none)=cs.map some->∃ vs,aI K H M cs vs/\ix.map (fun i=>(σ[i]?).getD none)=vs.map some
 | [],[],_=>⟨[],.nil,rfl⟩
 | [],c :: cs,h=>by cases h
 | i :: ix,[],h=>by cases h
 | i :: ix,c :: cs,h=>by
  simp only [List.map_cons,List.cons.injEq] at h
  obtain ⟨vs,h1,h2⟩:=Es rs ix cs h.2
  have eτ:τ[i]?=some (some c):=by
   cases hz:τ[i]? with
   | none=>rw [hz] at h;cases h.1
   | some o=>rw [hz] at h;simp only [Option.getD_some] at h;rw [h.1]
  obtain ⟨v,hv,rv⟩:=rs.2 i c eτ
  exact ⟨v :: vs,.cons rv h1,by simp only [List.map_cons,hv,Option.getD_some,h2]⟩
open Classical in
theorem J4 {D:Dat} {x:Str} {p pos:Pos} {e:Expr} {es:List Expr} {f P:Addr} {q:Str} {j:Nat} (k:Nat) (L:xW) {sp:Addr->cH->cH} {t:yL} (hm:D.mg x=some (.ref f)) (hk:PySem.W.keepIn D.K (.ref f)=true)
  (F:∀ (base:Heap) (fl:Addr) (s:cH),kJ base D.mg->oJ D.prog D.w D.K D.mg base (k + 1) fl s->Callee D.prog D.w D.K D.mg base j x (sp fl s) []) (hB:kJ D.base D.mg) (hL:PM D k L) (ha:Ax D q (e :: es) [L.lam] t)
  (hj:j<=D.k:=by first | exact Nat.le_refl _ | (dsimp only;omega) | omega) (hfn:D.fn=true:=by rfl) (hg:D.sc.names.lookup x=some .globalImplicit:=by rfl) (hdb:(x == ("__debug__":Str))=false:=by decide)
  (he:∀ env,starEach (e :: es) env=(false,eval e env) :: starEach es env:=by intro _;rfl) (hpl:∀ env,(backTo pos (starEach es env)).any (·.1)=false:=by intro _;rfl):bC D (.Call (.Name x p) (e :: es) [] pos) (eE (JF P q L sp) t):=by
 refine ⟨fun σ H Q=>∃ τ M Q',cL D.K H M σ τ/\RelM D.K H M/\eE (JF P q L sp) t τ M Q'/\cK D.K H M Q' Q,fun X h=>?_,fun σ τ H M Q' rs rm ht Q c=>⟨τ,M,Q',rs,rm,ht,c⟩⟩
 intro pins s σ H Q I ⟨τ,M,Q',rs,rm,ht,cont⟩
 refine wpAny_Call_Name_kw (lK I (by show X.env.scope.names.lookup x=_;rw [h.sc];exact hg) (by rw [h.mg];exact hm) ?_ hdb)
 refine PySem.W.callWith_K (h₀:=X.base) I.ok.mod.kin (by rw [h.K];exact hk) (bB (ha X h pos pins s σ H τ M _ I rs rm ht) fun us s1 ⟨ws,vs,fs,M1,H1,I1,rv,st1,rm1,rus,pl,q0⟩=>⟨I1.kIn,?_⟩) (he _) (hpl _)
 obtain ⟨fl0,rfl⟩:∃ fl,fs=[fl]:=by
  cases pl with
  | cons _ h2=>cases h2;exact ⟨_,rfl⟩
 obtain ⟨hMP,cs,hcs,q1⟩:=q0
 obtain ⟨huniq,_⟩:=rm1 P _ hMP
 obtain ⟨cvs0,rc0,hcv⟩:=Es (rs.stp st1) L.ix cs hcs
 obtain ⟨ps0,hHP,sq,rmH⟩:=OH rm1 hMP rc0
 have hno:∀ b,mup M1 P (.cap ps0 cvs0 cs) b≠some (.tbl q):=fun b z=>by
  by_cases hb:b=P
  ·rw [hb,bO] at z;cases z
  ·rw [cB hb] at z;exact hb (huniq b z)
 let Hh:Hp:=fun b=>if b∈gG X.stack then some (.own 0) else kI q H1 b
 have hHh:∀ b,b ∉ gG X.stack->kI q H1 b=none->Hh b=none:=fun b h1 h2=>by show (if b∈gG X.stack then some (.own 0) else kI q H1 b)=none;rw [if_neg h1];exact h2
 have hHn:∀ b,Hh b=none->b ∉ gG X.stack/\kI q H1 b=none:=fun b hb=>by
  have hb':(if b∈gG X.stack then some (HO.own 0) else kI q H1 b)=none:=hb
  by_cases hm:b∈gG X.stack
  ·rw [if_pos hm] at hb';cases hb'
  ·rw [if_neg hm] at hb';exact ⟨hm,hb'⟩
 have nofr:∀ b o,X.base.get? b=some o->b ∉ gG X.stack:=fun b o e hb=>by
  have:=(I1.stack.mem hb).1
  rw [e] at this;cases this
 have hid0:∀ b,H1 b=none->kI q H1 b=none:=fun b e=>by rw [cS (by rw [e];exact Bm)];exact e
 have up:∀ b o,X.base.get? b=some o->(gL s1.heap Hh).get? b=some o:=fun b o e=>q8 (I1.bk b o e) (hHh b (nofr b o e) (hid0 b (I1.bs b o e).2))
 have hBm:kJ (gL s1.heap Hh) D.mg:=by
  obtain ⟨bm,o,b1,b2,b3,b4,b5⟩:=hB
  rw [<- h.base] at b4
  exact ⟨bm,o,b1,b2,b3,up _ _ b4,b5⟩
 have e0:tU X.prog X.w X.K X.mg (gL s1.heap Hh) X.A X.stack s1 (kI q H1):=by
  have m:=I1.ok.mod
  refine ⟨I1.ok.frames,⟨m.kin.keeps up,m.glob.keeps up,let ⟨mb,a,b⟩:=m.blt;⟨mb,a.keeps up,b⟩,m.nolimit.keeps up⟩,fun b o e=>?_,Nat.le_of_eq (Ce _ _),?_,fun b hb=>hid0 b (I1.stkFree b hb),fun b o e=>?_,I1.bare⟩
  ·obtain ⟨a,b2⟩:=BZ e
   exact ⟨a,(hHn b b2).2⟩
  ·have:∀ l:List Env,(∀ b∈gG l,b∈gG X.stack)->s1.heap.FunFrames X.base l->s1.heap.FunFrames (gL s1.heap Hh) l:=by
    intro l
    induction l with
    | nil=>intro _ _;trivial
    | cons env rest ih =>
     intro hs ⟨hk,⟨L,o,hf,hn,ho,hd⟩,hr⟩
     refine ⟨hk,⟨L,o,hf,?_,ho,hd⟩,ih (fun b hb=>hs b (by unfold gG at hb ⊢;rw [List.filterMap_cons,hf];exact List.mem_cons_of_mem _ hb)) hr⟩
     cases hq:(gL s1.heap Hh).get? L with
     | none=>rfl
     | some o'=>exact absurd (hs L (by unfold gG;rw [List.filterMap_cons,hf];exact List.mem_cons_self)) (hHn L (BZ hq).2).1
   exact this X.stack (fun _ hb=>hb) I1.stack
  ·obtain ⟨e1,e2⟩:=Lp e
   refine (I1.hok b o e1).stay (fun _ _ _ z=>z) (fun a ea=>?_) (fun a xs ea=>?_)
   ·rw [cS (fun z=>by rw [ea] at z;obtain ⟨_,z⟩:=dO z;cases z)];exact ea
   ·rw [cS (fun z=>by rw [ea] at z;obtain ⟨_,z⟩:=dO z;cases z)];exact ea
 have one:∀ (fl:Addr),PM D k L->IA X s1 H1 M1 q L.lam fl->oJ D.prog D.w D.K D.mg (gL s1.heap Hh) (k + 1) fl (yK P ps0 cvs0 cs L):=by
  intro fl ok la
  obtain ⟨cl,pm,ctv,c,oc,cvs,tk,hclos,⟨ho,hf0,hf1,hf2⟩,hc,hMc,hd,hv⟩:=la
  obtain ⟨cl',hclos',hcl,hcl2⟩:=wO (env:=X.env) (scope:=L.lam.scope) (fun y hy e=>I1.ok.has y.1 (by show X.env.scope.names.lookup _=_\/X.env.scope.names.lookup _=_;rw [h.sc];exact ok.free y hy e))
  have ecl:cl'=cl:=NY (hclos'.symm.trans hclos)
  subst ecl
  have nst:∀ b,b≠X.env.locals->b ∉ X.fs->b ∉ gG X.stack:=fun b n1 n2 hb=>by
   rcases List.mem_cons.mp (I1.stkSub b hb) with z | z
   ·exact n1 z
   ·exact n2 z
  have bfl:(gL s1.heap Hh).get? fl=some (PySem.W.kla_obj "<lambda>" q L.lam.params L.lam.body L.lam.scope cl' pm c ctv):=q8 ho (hHh fl (nst fl hf1 hf2) (hid0 fl hf0))
  have hoc:s1.heap.get? c=some oc:=(I1.hok c _ hc).1
  have bc:(gL s1.heap Hh).get? c=some oc:=q8 hoc (hHh c (fun hb=>by rw [I1.stkFree c hb] at hc;cases hc) (sX ⟨oc,cvs,tk,hc,hd,hv⟩))
  have hold:∀ y a,cl'.lookup y=some a->∀ o,s1.heap.get? a=some o->(gL s1.heap Hh).get? a=some o:=fun y a e o eo=>by
   have ec:=hcl y a e
   refine q8 eo (hHh a (nst a (I1.cne y a ec) (fun hb=>?_)) (hid0 a (I1.freeC y a ec)))
   have h1:=I1.ok.cab y a (h.fn hfn y) ec
   obtain ⟨_,o',ho',_⟩:=I1.ok.funs.mem hb
   exact absurd (Heap.lt_size ho') (Nat.not_lt.mpr h1)
  have cells:∀ y a v,cl'.lookup y=some a->s1.heap.IsCell a v->(gL s1.heap Hh).IsCell a v:=fun y a v e ⟨o,ho,hd⟩=>⟨o,hold y a e o ho,hd⟩
  obtain ⟨m,hns,hloc⟩:=I1.loc
  refine ⟨PySem.W.kla_fn "<lambda>" q L.lam.params L.lam.body L.lam.scope cl' pm (.ref c) ctv,L.ps,?_,.inr ⟨_,_,bfl,rfl⟩,.all fun us hl=>ok.bind q cl' pm _ _ us hl⟩
  have capV:∃ caps:List (Option V),caps=L.ix.map (fun i=>(σ[i]?).getD none):=⟨_,rfl⟩
  obtain ⟨caps,hcaps⟩:=capV
  refine Ud (N:=L.N) (caps:=caps) bfl ⟨c,oc,cvs,tk,rfl,bc,hd,hv⟩ ok.sc (fun y z a e1 e2=>I1.ok.inj y z a (hcl y a e1) (hcl z a e2)) (fun y hy=>hcl2 y (PySem.mem_of_lookup hy)) (fun y a e=>?_) (fun jj y v e1 e2=>?_) (by rw [hcaps,List.length_map];exact ok.len) (fun vs H Q E ⟨us,M,Q',_,r,hs,_⟩=>by rw [<- r.length];exact hs.2.1) ?_
  ·obtain ⟨v,hv⟩:=I1.cell y a (hcl y a e)
   exact ⟨v,cells y a v e hv⟩
  ·
   rw [hcaps,List.getElem?_map] at e2
   cases hi:L.ix[jj]? with
   | none=>rw [hi] at e2;cases e2
   | some i =>
    rw [hi] at e2
    simp only [Option.map_some,Option.some.injEq] at e2
    have eN:D.N[i]?=some y:=by
     have h1:(L.ix.map fun i=>D.N[i]?)[jj]?=some (D.N[i]?):=by rw [List.getElem?_map,hi];rfl
     rw [ok.ix,List.getElem?_map,List.getElem?_drop,e1] at h1
     exact (Option.some.inj h1).symm
    have eσ:σ[i]?=some (some v):=by
     cases hz:σ[i]? with
     | none=>rw [hz] at e2;cases e2
     | some o=>rw [hz] at e2;simp only [Option.getD_some] at e2;rw [e2]
    have hmem:y∈L.N.drop L.ps.length:=List.mem_of_getElem? (i:=jj) (by rw [List.getElem?_drop];exact e1)
    have hkind:=ok.cap y hmem
    obtain ⟨u,ru,lk⟩:=hloc i y v (by rw [h.N];exact eN) eσ (by unfold A7;rw [h.sc];rcases hkind with z | z;exact .inr (.inl z);exact .inr (.inr z))
    rcases lk with ⟨k1,_⟩ | ⟨_,a,e3,e4⟩
    ·have k1':X.env.scope.names.lookup y=some .local:=k1
     rw [h.sc] at k1'
     rcases hkind with z | z <;> (rw [z] at k1';cases k1')
    ·obtain ⟨a',ea'⟩:=hcl2 y (PySem.mem_of_lookup (ok.sc.cap y hmem))
     have:a'=a:=by have:=hcl y a' ea';rw [e3] at this;cases this;rfl
     subst this
     exact ⟨a',u,ea',cells y a' _ ea' e4,ru⟩
  ·intro A outer s2 H2 vs2 Q2 E2 hr ⟨us2,M2,Q2',rm2,rus2,⟨hM2,hl2,hte⟩,c2⟩
   obtain ⟨tb,pb,sb⟩:=ok.body (gL s1.heap Hh) hBm
   refine ⟨tb,?_,?_⟩
   ·have hh:=pb (DA X.prog X.w X.K X.mg (gL s1.heap Hh) L.N q L.lam.scope fl c cl' A outer s2 H2) ⟨h.prog,h.w,h.K,h.mg,rfl,rfl,rfl,hr,rfl,rfl,(fun z=>by cases z),(fun z=>absurd rfl z),(fun z=>by cases z)⟩
    rw [h.prog,h.w,h.K,h.mg] at hh
    exact hh
   ·refine sb _ _ H2 M2 _ ?_ rm2 hte _ c2
    have rc2:aI D.K H2 M2 cs cvs0:=(rm2 P _ hM2).2
    rw [hcv] at hcaps
    refine ⟨by rw [List.length_append,List.length_append,List.length_map,List.length_map,rus2.length,hcaps,List.length_map,List.length_map,rc2.length],fun i u ei=>?_⟩
    have hlv:vs2.length=us2.length:=rus2.length.symm
    by_cases hi:i < us2.length
    ·rw [List.getElem?_append_left (by rw [List.length_map];exact hi),List.getElem?_map] at ei
     cases hu:us2[i]? with
     | none=>rw [hu] at ei;cases ei
     | some u' =>
      rw [hu] at ei
      simp only [Option.map_some,Option.some.injEq] at ei
      subst ei
      obtain ⟨v,hv,rv⟩:=rus2.get hu
      exact ⟨v,by rw [List.getElem?_append_left (by rw [List.length_map,hlv];exact hi),List.getElem?_map,hv];rfl,rv⟩
    ·rw [List.getElem?_append_right (by rw [List.length_map];omega),List.length_map] at ei
     rw [List.getElem?_map] at ei
     cases hj:cs[i - us2.length]? with
     | none=>rw [hj] at ei;cases ei
     | some u' =>
      rw [hj] at ei
      simp only [Option.map_some,Option.some.injEq] at ei
      subst ei
      obtain ⟨v,hv,rv⟩:=rc2.get hj
      refine ⟨v,?_,rv⟩
      rw [List.getElem?_append_right (by rw [List.length_map,hlv];omega),List.length_map,hlv,hcaps,List.getElem?_map,hv]
      rfl
 have lam1:oJ D.prog D.w D.K D.mg (gL s1.heap Hh) (k + 1) fl0 (yK P ps0 cvs0 cs L):=by
  cases pl with
  | cons h1 h2=>exact one _ hL h1
 obtain ⟨f',fd,ps,dvs,ds,FF,hm',_,hb',hvd,hrd⟩:=(F _ _ _ hBm lam1).ex
 rw [hm] at hm';cases hm'
 have edv:dvs=[]:=(hrd (fun _=>none) (fun _=>none)).inv_nil
 subst edv
 cases hvd
 have FF':fJ X.prog X.w X.K X.mg (gL s1.heap Hh) jF j f fd ps (gE D.K (sp fl0 (yK P ps0 cvs0 cs L))):=by rw [h.prog,h.w,h.K,h.mg];exact FF
 have hsp:gE D.K (sp fl0 (yK P ps0 cvs0 cs L)) vs (kI q H1) (fun v H2=>(∀ b,eB q (H1 b)->H2 b=none)->Q v (oS q H1 H2)) E0:=by
  refine ⟨ws,_,_,rmH,rus.stq sq,q1 ps0 cvs0 hno,fun u v M2 H2 st2 rm2 ru2 ⟨hn2,hP2,q2⟩ hcn=>?_⟩
  obtain ⟨S1,S2,rm3⟩:=MU rm1 hMP hHP st2 rm2 hP2 hcn hn2
  exact cont u v _ _ (st1.trans S1) rm3 (ru2.stq S2) q2
 have hl:us.length=ps.length:=by rw [<- rv.length];exact FF'.len _ _ _ _ hsp
 have hbK:Binds X.K fd ps []:=by rw [h.K];exact hb'
 have hbs:=hbK s1 us I1.kIn (by rw [List.append_nil];exact hl)
 rw [List.append_nil] at hbs
 refine wpAny_call (codeAny_mono (FF'.run X.A X.stack s1 (kI q H1) ⟨us,[]⟩ us vs _ E0 (h.room.mono hj) e0 hbs rv hsp) fun r s' hq=>?_)
 cases r with
 | error e=>exact hq.elim
 | ok fl =>
  cases fl with
  | next=>exact False.elim hq
  | brk=>exact False.elim hq
  | cont=>exact False.elim hq
  | ret u =>
   obtain ⟨v,H2,os,bare,un,hok2,rvu,q2⟩:=hq
   have cold:∀ b,eB q (H1 b)->∃ o,s1.heap.get? b=some o:=fun b ⟨oc,_,_,e,_⟩=>⟨oc,(I1.hok b _ e).1⟩
   have hcn:∀ b,eB q (H1 b)->H2 b=none:=fun b hb=>by
    obtain ⟨o,ho⟩:=cold b hb
    exact un.free b o ho (sX hb) (by simp)
   have nc:∀ {b o},H1 b=some o->(∀ oc,o≠.frz oc (.own 0))->¬ eB q (H1 b):=fun {b o} e n z=>by rw [e] at z;obtain ⟨oc,z⟩:=dO z;exact n oc z
   have un':Un (gG X.stack) [] H1 (oS q H1 H2) s1.heap s'.heap:=by
    refine ⟨fun b o e n a1 a2=>un.keep b o e (hid0 b n) a1 a2,fun b o e n a1 a2=>un.slot b o e (hid0 b n) a1 a2,fun b o e n a=>?_,fun b o e a=>un.there b o e a,fun b xs e=>?_,fun b o u e=>?_,fun b qs e=>?_⟩
    ·rw [cW (by rw [n];exact Bm)];exact un.free b o e (hid0 b n) a
    ·have hc:=nc e (by simp)
     rw [cW hc];exact un.tups b xs (by rw [cS hc];exact e)
    ·by_cases hc:eB q (H1 b)
     ·rw [yI hc];exact e
     ·rw [cW hc];exact un.frzs b o u (by rw [cS hc];exact e)
    ·have hc:=nc e (by simp)
     rw [cW hc];exact un.tbls b qs (by rw [cS hc];exact e)
   have hok':eG X.prog X.w (oS q H1 H2) s'.heap:=by
    intro b o e
    by_cases hc:eB q (H1 b)
    ·rw [yI hc] at e
     obtain ⟨oc,vs',t',e',_⟩:=hc
     rw [e] at e';cases e'
     have hb:=(I1.hok b _ e).1
     have hk':=un.keep b oc hb (sX ⟨oc,vs',t',e,by assumption⟩) (fun hb=>by rw [I1.stkFree b hb] at e;cases e) (by simp)
     exact ⟨hk',_,hk'⟩
    ·rw [cW hc] at e
     refine (hok2 b o e).stay (fun _ _ _ z=>z) (fun a ea=>?_) (fun a xs ea=>?_)
     ·rw [cW (fun z=>by rw [hcn a z] at ea;cases ea)];exact ea
     ·rw [cW (fun z=>by rw [hcn a z] at ea;cases ea)];exact ea
   have I2:L2.Inv X pins σ (oS q H1 H2) s':=Inv.call' (ch:=[]) I1 os un' hok' bare (fun b z=>absurd z (by simp))
   exact ⟨v,_,I2,rvu,q2 hcn⟩
section
variable {D:Dat} {x:Str} {p pos:Pos} {e:Expr} {es:List Expr} {f P:Addr} {q:Str} {j:Nat}
theorem Nb (k:Nat) (N ps:List Str) (ix:List Nat) {params:Arguments} {body:Expr} {scope:Scope} {te:UE} {sp:Addr->cH->cH} {t:yL} (hm:D.mg x=some (.ref f)) (hk:PySem.W.keepIn D.K (.ref f)=true)
  (F:∀ (base:Heap) (fl:Addr) (s:cH),kJ base D.mg->oJ D.prog D.w D.K D.mg base (k + 1) fl s->Callee D.prog D.w D.K D.mg base j x (sp fl s) []) (hB:kJ D.base D.mg) (ha:Ax D q (e :: es) [⟨params,body,scope⟩] t) (hb:∀ base,kJ base D.mg->bC (MH D base k N scope) body te)
  (s1:scope.kind=.function:=by rfl) (s2:scope.isCoroutine=false:=by rfl) (s3:scope.isGenerator=false:=by rfl) (s4:N.Nodup:=by decide +kernel) (s5:N.take ps.length=ps:=by rfl) (s6:∀ x∈ps,scope.names.lookup x=some .local:=by decide +kernel) (s7:∀ y∈scope.names,y.2≠.cell:=by decide +kernel) (s8:∀ x∈N.drop ps.length,scope.names.lookup x=some .free:=by decide +kernel)
  (s9:N.length=ps.length + ix.length:=by rfl) (s10:ix.map (fun i=>D.N[i]?)=(N.drop ps.length).map some:=by rfl) (s11:∀ y∈scope.names,y.2=.free->D.sc.names.lookup y.1=some .cell\/D.sc.names.lookup y.1=some .free:=by first | decide +kernel | (dsimp only;decide +kernel)) (s12:∀ x∈N.drop ps.length,D.sc.names.lookup x=some .cell\/D.sc.names.lookup x=some .free:=by first | decide +kernel | (dsimp only;decide +kernel))
  (s13:∀ (q:Str) (cl:List (Str × Addr)) (pm cd ct:Value) (us:List Value),us.length=ps.length->bindArgs (PySem.W.kla_fn "<lambda>" q params body scope cl pm cd ct) ⟨us,[]⟩=pure (ps.zip us):=by exact fun _ _ _ _ _ us hl=>(match us,hl with | [_],_=>rfl))
  (hj:j<=D.k:=by first | exact Nat.le_refl _ | (dsimp only;omega) | omega) (hfn:D.fn=true:=by rfl) (hg:D.sc.names.lookup x=some .globalImplicit:=by rfl) (hdb:(x == ("__debug__":Str))=false:=by decide)
  (he:∀ env,starEach (e :: es) env=(false,eval e env) :: starEach es env:=by intro _;rfl) (hpl:∀ env,(backTo pos (starEach es env)).any (·.1)=false:=by intro _;rfl):bC D (.Call (.Name x p) (e :: es) [] pos) (eE (JF P q ⟨⟨params,body,scope⟩,N,ps,ix,te⟩ sp) t) :=
 J4 k ⟨⟨params,body,scope⟩,N,ps,ix,te⟩ hm hk F hB ⟨⟨s1,s2,s3,s4,s5,s6,s7,s8⟩,s9,s10,s11,s12,hb,s13⟩ ha hj hfn hg hdb he hpl
end
end U2
namespace L2
open PySem PySem.Spec PyProof.Rows
section
variable {M:Model} {A:Around} {E:Value->Shared->Prop} {s:Shared} {base:Heap} {env:Env} {outer:List Env} {L e:Addr} {oe:Obj} {vs:Array Value}
def Xg (e:Addr) (l:List Env) (h h':Heap):Prop:=∀ b o,h.get? b=some o->b≠e->(b ∉ gG l->h'.get? b=some o)/\∃ sl,h'.get? b=some { o with slots:=sl }
theorem Eu {head:Value} {hadNext:Bool} {Q:Unit->Shared->Prop} (hfr:A.frames=some (env :: outer)) (hl:s.heap.FunFrames base (env :: outer)) (hf:env.frame=some L)
  (he:s.heap.get? e=some oe) (hd:oe.data=.fields vs) (hsz:1 < vs.size)
  (h:∀ h' T oT ts,Xg e (env :: outer) s.heap h'->h'.get? e=some (oe.mapFields (·.setIfInBounds 1 (.ref T)))->s.heap.objs.size<=T->h'.get? T=some oT->oT.data=.fields ts->ts[3]?=some (rawInt L)->Q () { s with heap:=h' }) :
  wpAny M A (do let a <- frameOf env;let pl <- entryPlaceOf L hadNext;let b <- EntryCells.newEntry head a .none (rawInt L) .none pl;setField (.ref e) 1 b) Q E s:=by
 have hene:e ∉ (env :: outer).filterMap (·.frame):=fun hm=>by
  obtain ⟨_,o,ho,hnf⟩:=hl.mem hm
  rw [he] at ho;injection ho with ho;subst ho;exact hnf vs hd
 refine wpAny_bind (wpAny_frameOf_fun hfr hl hf fun h₁ hs₁=>?_)
 refine wpAny_bind (wpAny_entryPlaceOf fun pl hpl=>?_)
 unfold EntryCells.newEntry newFields
 refine wpAny_bind (wpAny_newObj_type ?_ (hpl.sizeOk5 _ _ _ _ _))
 have he₁:h₁.get? e=some oe:=(hs₁.2.1 e hene).trans he
 have he₂:=Heap.get?_push_of_some (h:=h₁) { cls:=.type "traceback",dict:=none,data:=.fields ([head,.ref L,.none,rawInt L,.none]++(if pl.isEmpty then List.replicate 6 Value.none else pl)).toArray } he₁
 refine wpAny_setField he₂ hd hsz ?_
 have hTe:h₁.objs.size≠e:=Nat.ne_of_gt (Heap.lt_size he₁)
 have hd₃:=Obj.data_mapFields hd (·.setIfInBounds 1 (Value.ref h₁.objs.size))
 have he₃:=Heap.get?_update_self (Obj.mapFields (·.setIfInBounds 1 (Value.ref h₁.objs.size))) he₂ (Obj.isFreed_of_fields hd₃)
 have hT₃:=(Heap.get?_update_other (h₁.push { cls:=.type "traceback",dict:=none,data:=.fields ([head,.ref L,.none,rawInt L,.none]++(if pl.isEmpty then List.replicate 6 Value.none else pl)).toArray })
  (Obj.mapFields (·.setIfInBounds 1 (Value.ref h₁.objs.size))) (Ne.symm hTe)).trans (Heap.get?_push_size h₁ rfl)
 have keep:∀ b o,b≠e->h₁.get? b=some o ->
   ((h₁.push { cls:=.type "traceback",dict:=none,data:=.fields ([head,.ref L,.none,rawInt L,.none]++(if pl.isEmpty then List.replicate 6 Value.none else pl)).toArray }).update e (Obj.mapFields (·.setIfInBounds 1 (Value.ref h₁.objs.size)))).get? b=some o:=fun b o hbe hb=>by
  rw [Heap.get?_update_other _ _ (Ne.symm hbe)]
  exact Heap.get?_push_of_some _ hb
 refine h _ h₁.objs.size _ _ (fun b o hb hbe=>⟨fun hnf=>keep b o hbe ((hs₁.2.1 b hnf).trans hb),?_⟩) he₃ (by rw [hs₁.1];exact Nat.le_refl _) hT₃ rfl ?_
 ·obtain ⟨sl,hs⟩:=hs₁.2.2 b o hb
  exact ⟨sl,keep b _ hbe hs⟩
 ·simp
def KR (fl:Value->Prop) (h:Heap) (e:Addr) (vs:Array Value) (T:Option Addr):Prop:=match T with
 | none=>vs[1]?=some .none
 | some T=>vs[1]?=some (.ref T)/\T≠e/\∃ oT ts v,h.get? T=some oT/\oT.data=.fields ts/\ts[3]?=some v/\fl v
end
end L2
namespace L2
open PySem PySem.Spec
section
variable {prog:Program} {w:World} {A:Around} {E:Value->Shared->Prop} {h:Heap} {g:Array GenState} {d:Drawn} {t:Nat} {os:OsState}
variable {nm q:Str} {C N:Addr} {bs bm:List Value} {hdct:Bool} {sn:List Str} {sub:List Value} {ab:Bool} {col:Option Bool} {dd:Option Addr} {k0 k1 k2 k3 k5:Option Value}
def WC:List Value:=[.type "ValueError",.type "Exception",.type "BaseException",.type "object"]
theorem vF:ExcBaseFacts "ValueError" "ValueError.__new__" "ValueError.__init__" WC:=PySem.F.excBase_ValueError
structure yY (bm:List Value):Prop where
 v:bm.contains (.type "ValueError")=true
 a:bm.contains (.type "AttributeError")=false
 n:bm.contains (.type "NameError")=false
 b:bm.contains (.type "BaseException")=true
theorem NW (V:yY bm) {M:Model} {rest:List Value} {Q:Unit->Shared->Prop} (hC:h.get? C=some (excClassObj nm q C N bs bm hdct sn sub ab col dd k0 k1 k2 k3 k5 "ValueError.__new__"))
  (hq:Q () ⟨h,g,d,t,os⟩):wpAny M A (checkBuiltinCall "ValueError.__new__" ⟨.ref C :: rest,[]⟩) Q E ⟨h,g,d,t,os⟩:=by
 have hcont:(Value.ref C :: bm).contains (.type "ValueError")=true:=by rw [List.contains_cons,V.v,Bool.or_true]
 have hstar:=vF.noStar
 simp only [checkBuiltinCall,vF.newKind,vF.newSplit,vF.newRow]
 repeat (first | refine wpAny_loadPart_at hC ?_ | (refine wpAny_isSubtype_exc hC ?_;rw [hcont]) | refine wpAny_staticBase_exc hC ?_ | refine wpAny_madeBy_exc hC ?_ | simp only [bne_self_eq_false,Bool.false_eq_true,if_false] | wp_step)
 exact hq
theorem VU (V:yY bm) {R:Result->Shared->Prop} {rest:List Value} (hC:h.get? C=some (excClassObj nm q C N bs bm hdct sn sub ab col dd k0 k1 k2 k3 k5 "ValueError.__new__"))
  (hq:R (.ok (.ret (.ref (h.objs.size + 1)))) ⟨(h.push { cls:=.type "tuple",data:=.seq rest.toArray }).push
   { cls:=.ref C,data:=.fields #[.ref h.objs.size,.none,.none,.none,.bool false,.none] },g,d,t,os⟩) (hrest:rest.length<=sizeLine) :
  codeAny (model prog w) A (.builtin "ValueError.__new__" ⟨.ref C :: rest,[]⟩) R ⟨h,g,d,t,os⟩:=by
 have hends:=vF.ends
 have hcB:(Value.ref C :: bm).contains (.type "ValueError")=true:=by rw [List.contains_cons,V.v,Bool.or_true]
 have hcA:(Value.ref C :: bm).contains (.type "AttributeError")=false:=by rw [List.contains_cons,V.a];rfl
 have hcN:(Value.ref C :: bm).contains (.type "NameError")=false:=by rw [List.contains_cons,V.n];rfl
 refine codeAny_builtinAt vF.entry ?_
 unfold Builtin.«BaseException.__new__»
 refine wpAt_bind ?_
 show wpAt _ _ _ (stack >>= _) _ _ _
 refine wpAt_bind (wpAt_stack fun p below=>wpAt_of_wpAny ?_)
 wp_walk
 refine wpAt_of_wpAny ?_
 rw [vF.owner]
 repeat (first | with_reducible refine wpAny_madeHere_exc vF.canon hC ?_ | with_reducible refine wpAny_loadPart_at hC ?_ | (with_reducible refine wpAny_isSubtype_exc hC ?_;first | rw [hcB] | rw [hcA] | rw [hcN]) | wp_step)
 show R _ _
 rw [Heap.size_push]
 exact hq
def oZ (h:Heap) (C:Addr) (us:List Value):Heap:=(h.push { cls:=.type "tuple",data:=.seq us.toArray }).push { cls:=.ref C,data:=.fields #[.ref h.objs.size,.none,.none,.none,.bool false,.none] }
theorem Ci (h:Heap) (C:Addr) (us:List Value):(oZ h C us).get? (h.objs.size + 1)=some { cls:=.ref C,data:=.fields #[.ref h.objs.size,.none,.none,.none,.bool false,.none] }:=by
 unfold oZ;heap_get
theorem lM (h:Heap) (C:Addr) (us:List Value):∀ b o,h.get? b=some o->(oZ h C us).get? b=some o:=fun b o e=>Heap.get?_push_of_some _ (Heap.get?_push_of_some _ e)
theorem IC (V:yY bm) {K:PySem.W.Frag} {rest:List Value} {fI:Addr} {oI:Obj} {Q:Fin->Shared->Prop} (KX:K.In h)
  (hC:h.get? C=some (excClassObj nm q C N bs bm hdct sn sub ab col dd k0 k1 k2 k3 k5 "ValueError.__new__")) (hi:PySem.W.findIn K (.ref C) "__init__"=some (some (.ref fI)))
  (hfI:h.get? fI=some oI) (hfc:oI.cls=.type "function")
  (hq:wpAny (model prog w) A (call (.ref fI) (.ref (h.objs.size + 1) :: rest)) (fun r s'=>r=.none/\Q (.done (.ret (.ref (h.objs.size + 1)))) s') E ⟨oZ h C rest,g,d,t,os⟩) (hrest:rest.length<=sizeLine) :
  wpAny (model prog w) A (Builtin.«type.__call__» ⟨.ref C :: rest,[]⟩) Q E ⟨h,g,d,t,os⟩:=by
 repeat (first | with_reducible refine wpAny_loadPart_at hC ?_ | with_reducible refine wpAny_madeBy_exc hC ?_ | wp_step)
 refine codeAny_call_builtin_code (Code.quiet_builtin _ vF.quiet) (NW V hC ?_)
 refine VU V hC ?_ hrest
 show wpAny _ _ _ _ _ _
 have hk:=lM h C rest
 have hC₁:=hk _ _ hC
 have hfI₁:=hk _ _ hfI
 have KX₁:=KX.keeps hk
 have hget:=Ci h C rest
 have hcC:(Value.ref C :: bm).contains (.ref C)=true:=by simp
 show wpAny _ _ _ _ _ (⟨oZ h C rest,g,d,t,os⟩:Shared)
 unfold isInstance
 repeat (first | with_reducible refine wpAny_loadPart_at hget ?_ | (with_reducible refine wpAny_isSubtype_exc hC₁ ?_;rw [hcC]) | wp_step)
 show wpAny _ _ (typeLookup (.ref C) _) _ _ _
 refine (PySem.W.looks_findIn KX₁ hi).here ?_
 refine wpAny_holding (wpAny_bind ?_)
 unfold bindSpecial
 refine wpAny_bind (wpAny_typeOf (T:="function") ⟨_,hfI₁,hfc⟩ ?_)
 rw [if_pos (by decide)]
 refine wpAny_pure (wpAny_bind (wpAny_mono hq (fun r s' hr=>?_) fun _ _ x=>x))
 obtain ⟨rfl,hQ⟩:=hr
 wp_walk
 exact hQ
theorem TR (V:yY bm) {K:PySem.W.Frag} {rest:List Value} {fI:Addr} {oI:Obj} {Q:Value->Shared->Prop} (KX:K.In h)
  (hC:h.get? C=some (excClassObj nm q C N bs bm hdct sn sub ab col dd k0 k1 k2 k3 k5 "ValueError.__new__")) (hi:PySem.W.findIn K (.ref C) "__init__"=some (some (.ref fI)))
  (hfI:h.get? fI=some oI) (hfc:oI.cls=.type "function")
  (hq:wpAny (model prog w) (A.under (.builtin "type.__call__" ⟨.ref C :: rest,[]⟩)) (call (.ref fI) (.ref (h.objs.size + 1) :: rest)) (fun r s'=>r=.none/\Q (.ref (h.objs.size + 1)) s') E ⟨oZ h C rest,g,d,t,os⟩) (hrest:rest.length<=sizeLine) :
  wpAny (model prog w) A (call (.ref C) rest) Q E ⟨h,g,d,t,os⟩:=by
 have f1:=tc_lookup
 have f2:=tc_bind (.ref C)
 have hT:(⟨h,g,d,t,os⟩:Shared).TypeIs (.ref C) "type":=⟨_,hC,rfl⟩
 refine wpAny_call (codeAny_of_tree ?_)
 show wpAny _ _ (callAny (.ref C) _) _ _ _
 repeat (any_goals (first | assumption | with_reducible refine wpAny_loadPart_at hC ?_ | wp_step))
 refine ⟨rfl,?_⟩
 refine codeAny_call_builtin_at (Code.quiet_builtin _ (by decide +kernel)) entry_typeCall (wpAny_check_type_call_sub hC (IC V KX hC hi hfI hfc ?_ hrest))
 exact hq
end
end L2
namespace L2
open PySem PySem.Spec
open Builtin Builtin.ObjectAttr
section
variable {prog:Program} {w:World} {A:Around} {E:Value->Shared->Prop} {h:Heap} {g:Array GenState} {d:Drawn} {t:Nat} {os:OsState}
variable {nm q:Str} {C N R x:Addr} {bs:List Value} {sn:List Str} {sub:List Value} {ab:Bool} {col:Option Bool} {dd:Option Addr} {k0 k1 k2 k3 k5:Option Value} {K:PySem.W.Frag} {name:Str} {v:Value}
abbrev pM (R:Addr):List Value:=.ref R :: WC
theorem UB (R:Addr):yY (pM R):=⟨rfl,rfl,rfl,rfl⟩
theorem Qp {M:Model} {o:Obj} {nameV:Value} {Q:Unit->Shared->Prop} (hC:h.get? C=some (excClassObj nm q C N bs (pM R) true sn sub ab col dd k0 k1 k2 k3 k5 "ValueError.__new__")) (hx:h.get? x=some o) (hc:o.cls=.ref C) (hq:Q () ⟨h,g,d,t,os⟩) :
  wpAny M A (checkBuiltinCall "object.__setattr__" ⟨[.ref x,nameV,v],[]⟩) Q E ⟨h,g,d,t,os⟩:=by
 have hcB:(Value.ref C :: pM R).contains (.type "object")=true:=by rw [List.contains_cons];rfl
 have SF:=PySem.F.store_ValueError
 have ha:=SF.args (.ref x) nameV v
 simp only [checkBuiltinCall,SF.kind,SF.split]
 refine wpAny_bind ?_
 ·unfold isInstance
  repeat (first | (with_reducible refine wpAny_loadPart_at hx ?_;rw [hc]) | (with_reducible refine wpAny_isSubtype_exc hC ?_;rw [hcB]) | wp_step)
  exact hq
theorem R9 {o:Obj} {Q:Unit->Shared->Prop} (KX:K.In h)
  (hC:h.get? C=some (excClassObj nm q C N bs (pM R) true sn sub ab col dd k0 k1 k2 k3 k5 "ValueError.__new__"))
  (hsa:PySem.W.findIn K (.ref C) "__setattr__"=some (some (.builtin "object.__setattr__"))) (hna:PySem.W.findIn K (.ref C) name=some none)
  (hx:h.get? x=some o) (hc:o.cls=.ref C) (hnc:∀ c,o.data≠.cls c) (hdn:o.dict=none)
  (hq:∀ h' tk',h'.Ns1 h.objs.size (fun y=>if y=name then some v else none)->h'.get? x=some { o with dict:=some h.objs.size }->(∀ b ob,b≠x->h.get? b=some ob->h'.get? b=some ob)->Q () ⟨h',g,d,tk',os⟩) :
  wpAny (model prog w) A (setAttr (.ref x) name v) Q E ⟨h,g,d,t,os⟩:=by
 have SF:=PySem.F.store_ValueError
 have f3:=SF.slot.bind (.ref x)
 have hpass:refuseLoop (.ref x) "__setattr__" (.ref C :: pM R)=pure ():=by rw [refuseLoop_ref,refuseLoop_ref];exact SF.passes (.ref x)
 have L1:∀ {h':Heap} {t':Nat} {A':Around} {Q':Option Value->Shared->Prop} {E':Value->Shared->Prop},(∀ b o,h.get? b=some o->h'.get? b=some o)->Q' (some (.builtin "object.__setattr__")) ⟨h',g,d,t',os⟩->wpAny (model prog w) A' (typeLookup (.ref C) "__setattr__") Q' E' ⟨h',g,d,t',os⟩ :=
  fun k z=>(PySem.W.looks_findIn (KX.keeps k) hsa).here z
 have L2':∀ {t':Nat} {A':Around} {Q':Option Value->Shared->Prop} {E':Value->Shared->Prop},Q' none ⟨h,g,d,t',os⟩->wpAny (model prog w) A' (typeLookup (.ref C) name) Q' E' ⟨h,g,d,t',os⟩ :=
  fun z=>(PySem.W.looks_findIn KX hna).here z
 have entry:∀ {tk:Tok} {t':Nat} {A':Around} {Q':Fin->Shared->Prop} {E':Value->Shared->Prop},
   (∀ h' tk',h'.Ns1 h.objs.size (fun y=>if y=name then some v else none)->h'.get? x=some { o with dict:=some h.objs.size }->(∀ b ob,b≠x->h.get? b=some ob->h'.get? b=some ob)->Q' (.done (.ret .none)) ⟨h',g,d,tk',os⟩) ->
   wpAny (model prog w) A' (Builtin.«object.__setattr__» ⟨[.ref x,.str name tk,v],[]⟩) Q' E' ⟨h,g,d,t',os⟩:=by
  intro tk t' A' Q' E' hq
  unfold Builtin.«object.__setattr__»
  repeat (first | rw [refuse_eq] | (rw [hpass]) | (with_reducible refine wpAny_loadPart_at hx ?_;rw [hc]) | with_reducible refine wpAny_mroOf_exc hC ?_ | (with_reducible refine L2' ?_) | wp_step)
  rw [hdn,if_neg (by simp [typeHasDict])]
  split
  ·rename_i hcd
   cases hcd
  split
  ·rename_i c hcd
   exact absurd hcd (hnc c)
  ·have hx₁:(h.push { cls:=.type "dict",data:=.dict #[] }).get? x=some o:=Heap.get?_push_of_some _ hx
   have hxs:x≠h.objs.size:=Nat.ne_of_lt (Heap.lt_size hx)
   refine wpAny_bind (wpAny_alloc' ?_)
   refine wpAny_bind (wpAny_update' hx₁ ?_)
   refine wpAny_pure ?_
   have hgd:((h.push { cls:=.type "dict",data:=.dict #[] }).update x fun o=>{ cls:=o.cls,dict:=some h.objs.size,data:=o.data,slots:=o.slots }).get? h.objs.size
     = some { cls:=.type "dict",data:=.dict #[] } :=
    (Heap.get?_update_ne _ _ _ _ hxs.symm).trans (Heap.get?_push_at rfl rfl)
   have hnd:((h.push { cls:=.type "dict",data:=.dict #[] }).update x fun o=>{ cls:=o.cls,dict:=some h.objs.size,data:=o.data,slots:=o.slots }).Ns h.objs.size (fun _=>none) :=
    ⟨_,#[],_,hgd,rfl,fun e he=>absurd he (by simp),fun _=>rfl⟩
   show wpAny _ _ (storeInDict h.objs.size (.str name tk) name v) _ _ _
   unfold storeInDict newKeyGuard
   refine wpAny_bind (wpAny_pure (wpAny_bind (wpAny_nsSet1 (Heap.Ns1.of_empty hnd) fun h' hn' hs=>?_)))
   obtain ⟨oD,esD,epD,hoD,hdD,hcD⟩:=hn'.count (Within.cons name v Within.nil)
   refine wpAny_bind (wpAny_lookBehind hoD (by rw [hdD];exact pastItsLine_dict (Nat.le_trans hcD (by rw [List.length_cons,List.length_nil,sizeLine_eq];omega))) ?_)
   wp_walk
   refine hq h' _ hn' ?_ (fun b ob hbx hb=>?_)
   ·refine (hs.2 x hxs).trans (Heap.get?_update_self _ hx₁ ?_)
    have hfr:=(Heap.get?_some_iff.mp hx).2
    obtain ⟨oc,od,odt,osl⟩:=o
    cases odt <;> first | rfl | exact hfr
   ·exact (hs.2 b (Nat.ne_of_lt (Heap.lt_size hb))).trans ((Heap.get?_update_ne _ _ _ _ hbx).trans (Heap.get?_push_of_some _ hb))
 unfold setAttr callSpecial? specialOf
 repeat (any_goals (first | assumption | (with_reducible refine wpAny_loadPart_at hx ?_;rw [hc]) | (with_reducible refine L1 (fun _ _ z=>z) ?_) | wp_step))
 refine codeAny_call_builtin SF.slot.plain SF.entry (Qp hC hx hc (entry fun h' tk' a1 a2 a3=>?_))
 repeat (any_goals (first | assumption | wp_step))
 exact hq h' tk' a1 a2 a3
def oB (C t:Addr) (dx:Option Addr):Obj:={ cls:=.ref C,dict:=dx,data:=.fields #[.ref t,.none,.none,.none,.bool false,.none] }
theorem Sq {t0:Addr} {rest:List Value} {Q:Value->Shared->Prop}
  (hC:h.get? C=some (excClassObj nm q C N bs (pM R) true sn sub ab col dd k0 k1 k2 k3 k5 "ValueError.__new__")) (hx:h.get? x=some (oB C t0 none)) (hrest:rest.length<=sizeLine)
  (hq:∀ h',h'.get? x=some (oB C h.objs.size none)->(∀ b ob,b≠x->h.get? b=some ob->h'.get? b=some ob)->Q .none ⟨h',g,d,t,os⟩) :
  wpAny (model prog w) A (call (.builtin "ValueError.__init__") (.ref x :: rest)) Q E ⟨h,g,d,t,os⟩:=by
 have hcB:(Value.ref C :: pM R).contains (.type "ValueError")=true:=by rw [List.contains_cons];rfl
 have hshort:=vF.noStar
 unfold oB at hx
 have chk:∀ {A':Around} {E':Value->Shared->Prop} {Q':Unit->Shared->Prop},Q' () ⟨h,g,d,t,os⟩->wpAny (model prog w) A' (checkBuiltinCall "ValueError.__init__" ⟨.ref x :: rest,[]⟩) Q' E' ⟨h,g,d,t,os⟩:=by
  intro A' E' Q' hq
  simp only [checkBuiltinCall,vF.initKind,vF.initSplit,vF.initRow]
  repeat (first | (with_reducible refine wpAny_loadPart_at hx ?_) | with_reducible refine wpAny_loadPart_at hC ?_ | (with_reducible refine wpAny_isSubtype_exc hC ?_;rw [hcB]) | wp_step)
  refine wpAny_onRaise ?_
  rw [show ∀ (a b:String) (n:Nat),Bind.check ⟨.positional,"*","ValueError",.self,[⟨"args",.varPos,false⟩]⟩ a b n (List.map (fun x=>x.fst) ({ pos:=Value.ref x :: rest }:Args).kw)=pure () from
   fun a b n=>check_star_args _ _ _ _ _ _]
  exact wpAny_pure hq
 refine wpAny_call (codeAny_call_builtin vF.init.plain vF.initEntry (chk ?_))
 have hx₁:=Heap.get?_push_of_some { cls:=.type "tuple",data:=.seq rest.toArray } hx
 unfold Builtin.«BaseException.__init__»
 wp_walk
 refine hq _ ?_ fun b ob hb e=>?_
 ·rw [Heap.get?_update_self _ hx₁ rfl];rfl
 ·rw [Heap.get?_update_other _ _ (Ne.symm hb)];exact Heap.get?_push_of_some _ e
end
end L2
namespace L2
open PySem PySem.Spec PyProof.Rows
structure mE (k:Nat) (A:Around):Prop where
 dp:A.depth + 3 * k + 5 < recursionLimit
 un:A.units + 16 * k + 200 < cLine
theorem cX.h {k:Nat} {A:Around} (r:cX k A):mE k A:=⟨r.dp,r.un⟩
theorem mE.mono {j k:Nat} {A:Around} (r:mE k A) (h:j<=k):mE j A:=⟨by have:=r.dp;omega,by have:=r.un;omega⟩
theorem mE.make {k:Nat} {A:Around} (r:mE (k + 1) A) (C:Addr) (us:List Value) (kw:List (Str × Value)):mE k (A.under (.builtin "type.__call__" ⟨.ref C :: us,kw⟩)) :=
 ⟨by have:=r.dp;rw [JB];omega,by have:=r.un;rw [JH];omega⟩
structure n5 (P:Program) (w:World) (K:PySem.W.Frag) (mg:Str->Option Value) (base:Heap) (CX:xC) (k:Nat) (f:Addr) (fd:FuncData) (ps:List Str) (sp:Sp):Prop where
 len:∀ vs H Q E,sp vs H Q E->vs.length=ps.length
 run:∀ (A:Around) (outer:List Env) (s:Shared) (H:Hp) (args:Args) (us:List Value) (vs:List V) (Q:VK) (E:XK),mE k A->tU P w K mg base A outer s H->BindsTo s fd args (ps.zip us)->Vals vs us->sp vs H Q E ->
  codeAny (model P w) A (.call (.ref f) args) (CR CX outer P w H s Q E) s
def Cx.unc (X:Cx):Cx:={ X with calm:=false }
def Around.ch (A:Around):Around:={ A with handled:=none }
theorem Sx {CX:xC} {P:Program} {w:World} {K:PySem.W.Frag} {mg:Str->Option Value} {base:Heap} {k:Nat} {f:Addr} {name qual:Str} {params:Arguments} {body:List Stmt} {scope:Scope} {dV kV doc pm cdv ct oc:Value} {an od:Option Addr}
  {osl:Array (Option Value)} {N ps:List Str} {sp:Sp} (lk:K.lookup f=some ⟨oc,od,.func (PySem.W.fnOf name qual params body scope dV kV doc pm an cdv ct),osl⟩) (hcd:PySem.W.codeIn K cdv qual=true) (S:aV N ps scope)
  (len:∀ vs H Q E,sp vs H Q E->vs.length=ps.length)
  (hbody:∀ (A:Around) (outer:List Env) (s:Shared) (H:Hp) (vs:List V) (Q:VK) (E:XK),sp vs H Q E ->
   ∃ t,mZ (kX CX P w K mg base N qual scope f cdv A outer s H E).unc body t/\t { nx:=fun _ H'=>Q .non H',rt:=Q } (start N vs) H) :
  n5 P w K mg base CX (k + 1) f (PySem.W.fnOf name qual params body scope dV kV doc pm an cdv ct) ps sp:=by
 refine ⟨len,fun A outer s H args us vs Q E hr e0 hb r hsp=>?_⟩
 have hl:=len _ _ _ _ hsp
 have KX:K.In s.heap:=e0.mod.kin.keeps fun b o e=>(e0.bs b o e).1
 have lim:s.heap.NoLimit:=e0.mod.nolimit.keeps fun b o e=>(e0.bs b o e).1
 have hkind:∀ y∈ps.zip us,scope.names.lookup y.1=some .local\/(scope.names.lookup y.1=some .cell/\((cellsFrom (s.heap.objs.size + 1) scope.names []).lookup y.1).isSome=true):=fun ⟨n,v⟩ hy=>by
  rcases S.par n (List.of_mem_zip hy).1 with q | q
  ·exact .inl q
  ·exact .inr ⟨q,PySem.W.cellsFrom_some _ _ _ (.inl q)⟩
 refine codeAny_call_function (by have:=hr.dp;omega) (KX _ _ lk) rfl S.co S.gen rfl (PySem.W.codeRec_of KX hcd) (hb _ _ _ _ ?_)
 refine wpAny_newFunctionEnv_cells S.kind hkind fun env he s1 x=>?_
 subst he
 refine ⟨lim.keeps x.toInCall.keep,codeAny_func ?_⟩
 obtain ⟨t,ht,hq⟩:=hbody A outer s H vs Q E hsp
 have e1:tU P w K mg base (Around.ch A) outer s H:=⟨e0.frames,e0.mod,e0.bs,e0.bsz,e0.funs,e0.frf,e0.hok,e0.bare⟩
 have I0:Inv (kX CX P w K mg base N qual scope f cdv (Around.ch A) outer s H E) [] (start N vs) H s1:=xK S rfl e1 hl r x
 have I:Inv (kX CX P w K mg base N qual scope f cdv A outer s H E).unc [] (start N vs) H s1 :=
  ⟨⟨I0.ok.mod,I0.ok.kind,I0.ok.glob,I0.ok.blt,I0.ok.above,I0.ok.inj,I0.ok.has,I0.ok.cab,(fun z=>nomatch z),I0.ok.frames,I0.ok.stk,I0.ok.exf,I0.ok.bs,I0.ok.bsz,I0.ok.noex,I0.ok.exfs,I0.ok.funs,I0.ok.frf⟩,I0.os,I0.bare,I0.base,I0.loc,I0.cell,I0.free,I0.freeC,I0.pin,I0.hok,I0.len⟩
 refine wpAny_mono (ht [] s1 (start N vs) H _ I hq) (fun fl s' hs=>?_) fun e s' hs=>hs
 have fin:∀ {σ':St} {H':Hp} {v:V} {u:Value},Inv (kX CX P w K mg base N qual scope f cdv A outer s H E).unc [] σ' H' s'->RelV v u->Q v H'->CE outer P w H s Q u s' :=
  fun {σ' H' v u} J rv q=>⟨v,H',J.os,J.bare,J.base,J.hok,rv,q⟩
 cases fl with
 | ret u =>
  obtain ⟨v,σ',H',J,rv,q⟩:=hs
  exact fin J rv q
 | next =>
  obtain ⟨σ',H',J,q⟩:=hs
  exact fin (v:=V.non) (u:=Value.none) J rfl q
 | brk =>
  obtain ⟨_,_,_,q⟩:=hs
  exact False.elim q
 | cont =>
  obtain ⟨_,_,_,q⟩:=hs
  exact False.elim q
theorem cE.okH {P:Program} {w:World} {K:PySem.W.Frag} {mg:Str->Option Value} {base:Heap} {x qual:Str} {st:Stmt} {f:Addr} {fd:FuncData} {N ps:List Str} {k:Nat} {sp:Sp} (F:cE K x qual st f fd) (S:aV N ps (aD st)) (len:∀ vs H Q E,sp vs H Q E->vs.length=ps.length)
  (hbody:∀ (cdv:Value) (A:Around) (outer:List Env) (s:Shared) (H:Hp) (vs:List V) (Q:VK) (E:XK),sp vs H Q E ->
   ∃ t,mZ (kX jF P w K mg base N qual (aD st) f cdv A outer s H E).unc.nox (aS st) t/\t { nx:=fun _ H'=>Q .non H',rt:=Q } (start N vs) H):n5 P w K mg base jF (k + 1) f fd ps sp:=by
 obtain ⟨oc,od,kV,doc,pm,an,cdv,ct,osl,rfl,lk,hcd⟩:=F.ex
 refine Sx lk hcd S len fun A outer s H vs Q E hsp=>?_
 obtain ⟨t,h,q⟩:=hbody cdv A outer s H vs Q E hsp
 exact ⟨t,h.nox,q⟩
end L2
namespace L2
open PySem PySem.Spec PyProof.Rows
def fC (a C:Addr) (dx:Option Addr) (h:Heap):Prop:=∃ t,h.get? a=some (oB C t dx)
theorem fC.obj {P:Program} {w:World} {H:Hp} {h:Heap} {a C:Addr} {dx:Option Addr} (x:fC a C dx h):dI P w H h a (.ext (fC a C dx)) :=
 ⟨x,let ⟨_,e⟩:=x;⟨_,e⟩,fun _ _ ⟨t,e⟩ k=>⟨t,k _ e⟩⟩
structure nA (K:PySem.W.Frag) (C R fI:Addr):Prop where
 obj:∃ nm q N bs sn sub ab col dd k0 k1 k2 k3 k5,K.lookup C=some (excClassObj nm q C N bs (pM R) true sn sub ab col dd k0 k1 k2 k3 k5 "ValueError.__new__")
 init:PySem.W.findIn K (.ref C) "__init__"=some (some (.ref fI))
 fn:PySem.W.isFn K (.ref fI)=true
 kp:PySem.W.keepIn K (.ref C)=true
 sa:PySem.W.findIn K (.ref C) "__setattr__"=some (some (.builtin "object.__setattr__"))
structure Ab (K:PySem.W.Frag) (R:Addr):Prop where
 rd:PySem.W.readsIn K R (.type "type")=true
 ini:PySem.W.findCls K (.ref R) (.type "type") "__init__"=some (.val (.builtin "ValueError.__init__"))
 sp:PySem.W.specialIn K (.ref R) "__getattribute__"=some (some (.builtin "type.__getattribute__"))
section
variable {P:Program} {w:World} {H:Hp} {h h':Heap} {a d:Addr} {o:HO}
theorem eG.add (x:eG P w H h) (n:H d=none) (new:dI P w (upd H d o) h d o):eG P w (upd H d o) h:=fun b u e=>by
 by_cases hb:b=d
 ·subst hb;rw [bT] at e;cases e;exact new
 ·rw [bE hb] at e
  exact (x b u e).stay (fun c v _ q=>q) (fun c q=>by rw [bE (bR q n)];exact q) fun c xs q=>by rw [bE (bR q n)];exact q
theorem Un.add {fs ex:List Addr} {H1:Hp} (u:Un fs ex H H1 h h') (hp:h.objs.size<=d) (n:H1 d=none):Un fs ex H (upd H1 d o) h h' where
 keep:=u.keep
 slot:=u.slot
 free:=fun b v q z hx=>by rw [bE (Nat.ne_of_lt (Nat.lt_of_lt_of_le (Heap.lt_size q) hp))];exact u.free b v q z hx
 there:=u.there
 tups:=fun b xs q=>by have:=u.tups b xs q;rw [bE (bR this n)];exact this
 frzs:=fun b v xs q=>by have:=u.frzs b v xs q;rw [bE (bR this n)];exact this
 tbls:=fun b ps q=>by obtain ⟨m,e⟩:=u.tbls b ps q;exact ⟨m,by rw [bE (bR e n)];exact e⟩
end
section
variable {X:Cx} {e1 e2:Expr} {t1 t2 ta tv:TE} {p pos apos pos':Pos} {r f:Str} {R:Addr}
def Wi (K:PySem.W.Frag) (R:Addr) (t1 t2:TE):TE:=fun σ H Q=>t1 σ H fun x H1=>t2 σ H1 fun y H2=>∃ a C fI,x=.ref a/\H2 a=some (.ext (fC a C none))/\nA K C R fI/\Q .non H2
theorem MY {H:Hp} {a:Addr} {o:HO} (h:H a=some o):upd H a o=H:=by
 funext b;unfold upd;split
 ·rename_i e;subst e;exact h.symm
 ·rfl
theorem Qd {pl:Sem Bool} (hg:Gl X r) (hm:X.mg r=some (.ref R)) (B:Ab X.K R) (h1:PE X e1 t1) (h2:PE X e2 t2) (hdb:(r == ("__debug__":Str))=false:=by decide)
  (hs1:starEach [e1,e2] X.env=[(false,eval e1 X.env),(false,eval e2 X.env)]:=by rfl) (hs2:starEach [e2] X.env=[(false,eval e2 X.env)]:=by rfl)
  (ht:eval (.Call (.Attribute (.Name r p) "__init__" apos) [e1,e2] [] pos) X.env=(do
   let ov <- eval (.Name r p) X.env
   standAt apos.atName
   let (f,first) <- holding [ov] (getMethod ov "__init__" pl)
   callWith pos f first (backTo pos (starEach [e1,e2] X.env)) (backToKw pos (keywordEach [] X.env))):=by rfl) :
  PE X (.Call (.Attribute (.Name r p) "__init__" apos) [e1,e2] [] pos) (Wi X.K R t1 t2):=by
 intro pins s σ H Q I h
 refine PySem.W.methodCall_KW (pl:=pl) (lK I hg hm ?_ hdb) ht
 refine PySem.W.method_cls I.kIn B.sp (PySem.W.cls_value I.kIn B.rd B.ini rfl ?_)
 have ha:PA X [e1,e2] (fun σ H Q=>t1 σ H fun x H1=>t2 σ H1 fun y H2=>Q [x,y] H2):=by
  have:=uH h1 (uH h2 Bp (by rw [hs2];rfl)) (by rw [hs1,hs2])
  intro pos pins s σ H Q I h
  exact this pos pins s σ H Q I h
 let Q1:List V->Hp->Prop:=fun vs H2=>match vs with | [x,y]=>(∃ a C fI,x=.ref a/\H2 a=some (.ext (fC a C none))/\nA X.K C R fI/\Q .non H2) | _=>False
 refine PyProof.Rows.callWith_builtin1 (bB (ha pos pins _ σ H Q1 (I.tok _) h) fun us s1 ⟨vs,H1,I1,rv,q⟩=>?_) (by rw [hs1,hs2]) (by rw [hs2];rfl)
 match vs,rv,q with
 | [x,y],rv,⟨a,C,fI,ex,ea,hK,q⟩ =>
  obtain ⟨u1,u2,rfl,r1,r2⟩:=vals2 rv
  subst ex
  obtain rfl:u1=Value.ref a:=r1
  obtain ⟨nm,qq,N,bs,sn,sub,ab,col,dd,k0,k1,k2,k3,k5,hC⟩:=hK.obj
  obtain ⟨⟨t0,ht0⟩,_,_⟩:=I1.hok a _ ea
  obtain ⟨hh,g,d,t,os⟩:=s1
  refine Sq (I1.kIn _ _ hC) ht0 (by show 1<=sizeLine;decide) fun h' e1 e2=>?_
  refine ⟨.non,H1,?_,rfl,q⟩
  have:=I1.write (h':=h') (t':=t) (x:=a) (e:=a) (o:=.ext (fC a C none)) (by rw [ea];trivial) (.inl rfl) e2 ⟨_,e1⟩ (fC.obj ⟨_,e1⟩)
  rw [MY ea] at this
  exact this
def VX (K:PySem.W.Frag) (ta tv:TE) (f:Str):TS:=fun D σ H=>tv σ H fun y H1=>ta σ H1 fun x H2=>∃ a C,x=.ref a/\H2 a=some (.ext (fC a C none))/\(∃ R fI,nA K C R fI/\uS K C f)/\∀ d,H2 d=none->d≠a->D.nx σ (upd (upd H2 a (.ext (fC a C (some d)))) d (.xd [(f,y)]))
theorem Qb {o value:Expr} (ha:PE X o ta) (hv:PE X value tv) (hs:swapsWith value (some (.Attribute o f pos')) pos.line X.env=pure false):PS X (.Assign [.Attribute o f pos'] value pos) (VX X.K ta tv f):=by
 intro pins s σ H D I h
 refine plainObj_wpAny_Assign_Attribute (bB (hv pins s σ H _ I h) fun u s1 ⟨y,H1,I1,ry,q⟩=>bB (ha pins s1 σ H1 _ I1 q) fun ov s2 ⟨x,H2,I2,rx,a,C,ex,ea,c,q2⟩=>?_) hs
 subst ex
 obtain rfl:ov=Value.ref a:=rx
 obtain ⟨R,fI,c,n⟩:=c
 obtain ⟨nm,qq,N,bs,sn,sub,ab,col,dd,k0,k1,k2,k3,k5,hC⟩:=c.obj
 obtain ⟨⟨t0,ht0⟩,_,_⟩:=I2.hok a _ ea
 obtain ⟨hh,g,d,t,os⟩:=s2
 have hlt:a < hh.objs.size:=Heap.lt_size ht0
 have hfr:H2 hh.objs.size=none:=I2.hok.fresh (Nat.le_refl _)
 refine R9 (o:=oB C t0 none) I2.kIn (I2.kIn _ _ hC) c.sa n ht0 rfl (fun c z=>by cases z) rfl fun h' tk' hn hx hk=>?_
 refine ⟨σ,_,?_,q2 hh.objs.size hfr (Nat.ne_of_gt hlt)⟩
 have mu:Ki (H2 a):=by rw [ea];trivial
 have nd:upd H2 a (.ext (fC a C (some hh.objs.size))) hh.objs.size=none:=by rw [bE (Nat.ne_of_gt hlt)];exact hfr
 have hok1:eG X.prog X.w (upd H2 a (.ext (fC a C (some hh.objs.size)))) h':=I2.hok.write mu (.inl rfl) hk ⟨_,hx⟩ (fC.obj ⟨_,hx⟩)
 have un1:Un X.fs [] H2 (upd H2 a (.ext (fC a C (some hh.objs.size)))) hh h':=Un.write mu (.inl rfl) hk ⟨_,hx⟩
 refine I2.un (t':=tk') (un1.add (Nat.le_refl _) nd) (hok1.add nd ⟨_,hn,fun f'=>?_⟩)
 by_cases hf:f'=f
 ·subst hf
  simp only [List.lookup,beq_self_eq_true,if_true]
  exact ry
 ·have:(f' == f)=false:=beq_eq_false_iff_ne.mpr hf
  simp only [List.lookup,this,if_neg hf]
  trivial
end
def lT (C:Addr) (attr:Str) (cond:V->Prop):Sp:=fun vs H Q E=>∃ a y,vs=[.ref a,y]/\H a=some (.ext (fC a C none))/\cond y/\∀ d,H d=none->d≠a->Q .non (upd (upd H a (.ext (fC a C (some d)))) d (.xd [(attr,y)]))
theorem Hi {P:Program} {w:World} {K:PySem.W.Frag} {mg:Str->Option Value} {base:Heap} {qual par attr rn:Str} {st:Stmt} {f C R:Addr} {fd:FuncData} {k:Nat} {e2:Expr} {cond:V->Prop} {t2:TE} {p1 p2 p3 p5 p6 p7 p8 p9 p10:Pos}
  (F:cE K "__init__" qual st f fd) (hm:mg rn=some (.ref R)) (B:Ab K R) (c:nA K C R f) (n:uS K C attr)
  (hb:aS st=[.Expr (.Call (.Attribute (.Name rn p1) "__init__" p2) [.Name "self" p3,e2] [] p5) p6,.Assign [.Attribute (.Name "self" p7) attr p8] (.Name par p9) p10])
  (S:aV ["self",par] ["self",par] (aD st)) (hg:(aD st).names.lookup rn=some .globalImplicit)
  (h2:∀ X:Cx,X.N=[("self":Str),par]->X.env.scope=aD st->X.mg=mg->PE X e2 t2) (ht2:∀ a y H Q,cond y->(∀ z,Q z H)->t2 [some (.ref a),some y] H Q)
  {pl:Env->Sem Bool} (ht:∀ env,eval (.Call (.Attribute (.Name rn p1) "__init__" p2) [.Name "self" p3,e2] [] p5) env=(do
   let ov <- eval (.Name rn p1) env
   standAt p2.atName
   let (f,first) <- holding [ov] (getMethod ov "__init__" (pl env))
   callWith p5 f first (backTo p5 (starEach [.Name "self" p3,e2] env)) (backToKw p5 (keywordEach [] env))):=by intro _;rfl)
  (hs1:∀ env,starEach [.Name "self" p3,e2] env=[(false,eval (.Name "self" p3) env),(false,eval e2 env)]:=by intro _;rfl) (hs2:∀ env,starEach [e2] env=[(false,eval e2 env)]:=by intro _;rfl)
  (hl1:(aD st).names.lookup ("self":Str)=some .local:=by rfl) (hl2:(aD st).names.lookup par=some .local:=by rfl) (hdb:(rn == ("__debug__":Str))=false:=by decide) (hpd:(par == ("__debug__":Str))=false:=by decide) (hpc:(par == ("__classdict__":Str))=false:=by decide)
  (hsw:∀ env,swapsWith (.Name par p9) (some (.Attribute (.Name "self" p7) attr p8)) p10.line env=pure false:=by intro _;rfl) :
  n5 P w K mg base jF (k + 1) f fd ["self",par] (lT C attr cond):=by
 refine F.okH S (fun vs H Q E ⟨a,y,e,_⟩=>by rw [e];rfl) fun cdv A outer s H vs Q E ⟨a,y,e,ha,hy,hq⟩=>?_
 subst e
 rw [hb]
 let X:Cx:=(kX jF P w K mg base ["self",par] qual (aD st) f cdv A outer s H E).unc.nox
 have ps:PE X (.Name "self" p3) (tL 0):=nH rfl (.inl hl1)
 have ps':PE X (.Name "self" p7) (tL 0):=nH rfl (.inl hl1)
 have pp:PE X (.Name par p9) (tL 1):=nH rfl (.inl hl2) hpd hpc
 refine ⟨_,Fg (Ha (Qd (X:=X) hg hm B ps (h2 X rfl rfl rfl) hdb (hs1 _) (hs2 _) (ht _)) ) (B2 (Qb ps' pp (hsw _))),?_⟩
 refine ⟨_,rfl,ht2 a y H _ hy fun z=>⟨a,C,f,rfl,ha,c,?_⟩⟩
 exact ⟨_,rfl,_,rfl,a,C,rfl,ha,⟨R,f,c,n⟩,fun d h1 h2=>hq d h1 h2⟩
end L2
namespace L2
open PySem PySem.Spec PyProof.Rows
structure xD (fl:Value->Prop) (sz:Nat) (nw:Addr->Prop) (h:Heap) (a C d:Addr) (fs:List (Str × V)):Prop where
 sa:sz<=a
 na:nw a
 nd:nw d
 ad:a≠d
 obj:∃ oe vs T,h.get? a=some oe/\oe.cls=.ref C/\oe.dict=some d/\oe.data=.fields vs/\KR fl h a vs T/\∀ T',T=some T'->sz<=T'/\nw T'/\T'≠d
 att:∃ mA,h.Ns1 d mA/\∀ f,E8 (fs.lookup f) (mA f)
 cx:fs.length=1->∀ oe vs,h.get? a=some oe->oe.data=.fields vs->vs[2]?=some .none
theorem KR.imp {fl fl':Value->Prop} {h:Heap} {e:Addr} {vs:Array Value} {T:Option Addr} (i:∀ v,fl v->fl' v) (t:KR fl h e vs T):KR fl' h e vs T:=by
 cases T with
 | none=>exact t
 | some T=>obtain ⟨h1,h2,oT,ts,v,h3,h4,h5,h6⟩:=t;exact ⟨h1,h2,oT,ts,v,h3,h4,h5,i v h6⟩
theorem xD.imp {fl fl':Value->Prop} {n n':Nat} {nw nw':Addr->Prop} {h:Heap} {a C d:Addr} {fs:List (Str × V)} (r:xD fl n nw h a C d fs) (hf:∀ v,fl v->fl' v) (hn:n'<=n) (i:∀ b,nw b->nw' b):xD fl' n' nw' h a C d fs :=
 ⟨Nat.le_trans hn r.sa,i _ r.na,i _ r.nd,r.ad,let ⟨oe,vs,T,h1,h2,h3,h4,h5,h6⟩:=r.obj;⟨oe,vs,T,h1,h2,h3,h4,h5.imp hf,fun T' e=>⟨Nat.le_trans hn (h6 T' e).1,i _ (h6 T' e).2.1,(h6 T' e).2.2⟩⟩,r.att,r.cx⟩
def qL (X:Cx) (pins:List (Addr × Obj)) (H:Hp) (b:Addr):Prop:=X.s₀.heap.get? b=none/\H b=none/\b≠X.env.locals/\∀ p∈X.pn++pins,p.1≠b
section
variable {X:Cx} {pins:List (Addr × Obj)} {σ:St} {H:Hp} {s:Shared} {a C d:Addr} {fs:List (Str × V)}
theorem qL.of (I:Inv X pins σ H s) (hx:X.ex=[]) {H':Hp} {b:Addr} (h:s.heap.get? b=none) (n:H' b=none):qL X pins H' b:=by
 refine ⟨?_,n,fun e=>?_,fun p hp e=>?_⟩
 ·cases q:X.s₀.heap.get? b with
  | none=>rfl
  | some o =>
   obtain ⟨o',e⟩:=I.base.there b o q (by rw [hx];simp)
   rw [h] at e;cases e
 ·obtain ⟨m,⟨o,es,ep,ho,r⟩,_⟩:=I.loc
  rw [<- e,h] at ho;cases ho
 ·have:=(I.pin p hp).1
  rw [e,h] at this;cases this
def WI (X:Cx) (v:Value):Prop:=v=.none\/v=rawInt X.env.locals
abbrev pU (X:Cx) (pins:List (Addr × Obj)) (H:Hp) (h:Heap) (a C d:Addr) (fs:List (Str × V)):Prop:=xD (WI X) X.s₀.heap.objs.size (qL X pins H) h a C d fs
theorem qL.nofs (I:Inv X pins σ H s) {b:Addr} (n:qL X pins H b):b ∉ gG X.stack:=fun hb=>by
 rcases List.mem_cons.mp (I.stkSub b hb) with e | e
 ·exact n.2.2.1 e
 ·obtain ⟨_,o,ho,_⟩:=I.ok.funs.mem e
  rw [n.1] at ho;cases ho
theorem Jm {M:Model} {E:Value->Shared->Prop} {Q:Unit->Shared->Prop} (I:Inv X pins σ H s) (hst:X.stack=X.env :: X.outer) (hf:X.env.frame=some X.env.locals) (hx:X.ex=[]) (r:pU X pins H s.heap a C d fs)
  (h:∀ s',s'.os=s.os->Inv X pins σ H s'->pU X pins H s'.heap a C d fs->(∃ oe vs T,s'.heap.get? a=some oe/\oe.data=.fields vs/\vs[1]?=some (.ref T))->Q () s') :
  wpAny M X.A (noteFrame (.ref a) X.env) Q E s:=by
 obtain ⟨oe,vs,T,e1,e2,e3,e4,e5,e6⟩:=r.obj
 obtain ⟨mA,n1,n2⟩:=r.att
 obtain ⟨od,esd,epd,f1,f2,f3⟩:=id n1
 have hsz:1 < vs.size:=by
  cases T with
  | none=>exact (Array.getElem?_eq_some_iff.mp (show vs[1]?=some .none from e5)).1
  | some T=>exact (Array.getElem?_eq_some_iff.mp e5.1).1
 by_cases hh:∃ T0,T=some T0/\∃ oT ts,s.heap.get? T0=some oT/\oT.data=.fields ts/\ts[3]?=some (rawInt X.env.locals)
 ·obtain ⟨T0,rfl,oT,ts,g1,g2,g3⟩:=hh
  unfold noteFrame
  simp only [hf]
  refine wpAny_bind (wpAny_field e1 e4 e5.1 ?_)
  rw [if_pos (show (Value.ref T0 != Value.none)=true from by simp)]
  refine wpAny_bind (wpAny_field g1 g2 g3 ?_)
  rw [if_pos (show (rawInt X.env.locals == rawInt X.env.locals)=true from by first | (simp;done) | exact beq_self_eq_true _)]
  exact wpAny_pure (h s rfl I r ⟨oe,vs,T0,e1,e4,e5.1⟩)
 have e5':KR (fun v=>v=.none) s.heap a vs T:=by
  cases T with
  | none=>exact e5
  | some T0 =>
   obtain ⟨h1,h2,oT,ts,v,h3,h4,h5,h6⟩:=e5
   rcases h6 with rfl | rfl
   ·exact ⟨h1,h2,oT,ts,_,h3,h4,h5,rfl⟩
   ·exact absurd ⟨T0,rfl,oT,ts,h3,h4,h5⟩ hh
 by_cases hT0:∃ T0,T=some T0/\False
 ·obtain ⟨_,_,z⟩:=hT0;exact z.elim
 have main:∀ h' T' oT ts,(∀ b o,s.heap.get? b=some o->b≠a->T≠some b->(b ∉ gG (X.env :: X.outer)->h'.get? b=some o)/\∃ sl,h'.get? b=some { o with slots:=sl })->h'.get? a=some (oe.mapFields (·.setIfInBounds 1 (.ref T')))->s.heap.objs.size<=T'->h'.get? T'=some oT->oT.data=.fields ts->ts[3]?=some (rawInt X.env.locals)->Q () { s with heap:=h' }:=by
  intro h' T' oT ts k1 k2 k3 k4 k5 k6
  rw [<- hst] at k1
  have nT:∀ T'',T=some T''->qL X pins H T'':=fun T'' e=>(e6 T'' e).2.1
  have kt:∀ b o,s.heap.get? b=some o->H b≠none->h'.get? b=some o:=fun b o e hb =>
   (k1 b o e (fun z=>hb (by rw [z];exact r.na.2.1)) (fun z=>hb (nT b z).2.1)).1 fun z=>hb (I.stkFree b z)
  have kd:h'.get? d=some od:=(k1 d od f1 (Ne.symm r.ad) (fun z=>(e6 d z).2.2 rfl)).1 (r.nd.nofs I)
  have un:Un (gG X.stack) (a :: T.toList) H H s.heap h':=by
   have hch:∀ b,b ∉ a :: T.toList->b≠a/\T≠some b:=fun b hb=>⟨fun z=>hb (by rw [z];exact List.mem_cons_self),fun z=>hb (by rw [z];exact List.mem_cons_of_mem _ List.mem_cons_self)⟩
   exact ⟨fun b o e _ hb hc=>(k1 b o e (hch b hc).1 (hch b hc).2).1 hb,fun b o e _ _ hc=>(k1 b o e (hch b hc).1 (hch b hc).2).2,fun _ _ _ n _=>n,
    fun b o e hc=>let ⟨sl,q⟩:=(k1 b o e (hch b hc).1 (hch b hc).2).2;⟨_,q⟩,fun _ _ q=>q,fun _ _ _ q=>q,fun _ ps q=>⟨#[],by rw [q];simp⟩⟩
  have hok:eG X.prog X.w H h':=fun b o e=>(I.hok b o e).stay (fun c u hc q=>kt c u q (by
   rcases hc with rfl | hc
   ·rw [e];exact fun z=>nomatch z
   ·rw [hc];exact fun z=>nomatch z) ) (fun _ q=>q) fun _ _ q=>q
  have ncell:∀ b:Addr,(∃ o vs,s.heap.get? b=some o/\o.data=.fields vs)->∀ x c,X.env.cells.lookup x=some c->c≠b:=fun b ⟨o,vs,q1,q2⟩ x c e z=>by
   obtain ⟨v,oc,g1,g2⟩:=I.cell x c e
   rw [z,q1] at g1;cases g1;rw [q2] at g2;cases g2
  have I':Inv X pins σ H { s with heap:=h' }:=I.call (g':=s.gens) (t':=s.toks) (d':=s.drawn) un hok I.bare fun b hb=>by
   rcases List.mem_cons.mp hb with rfl | hb
   ·exact ⟨.inr r.sa,r.na.2.2.1,ncell b ⟨_,_,e1,e4⟩,r.na.2.2.2⟩
   ·cases T with
    | none=>cases hb
    | some T =>
     obtain rfl:b=T:=by simpa using hb
     obtain ⟨_,_,oT0,ts0,v0,g1,g2,_⟩:=e5
     exact ⟨.inr (e6 b rfl).1,(nT b rfl).2.2.1,ncell b ⟨_,_,g1,g2⟩,(nT b rfl).2.2.2⟩
  have cx2:fs.length=1->∀ oe vs,h'.get? a=some oe->oe.data=.fields vs->vs[2]?=some .none:=fun hl oe2 vs2 q1 q2=>by
   rw [k2] at q1;cases q1
   rw [Obj.data_mapFields e4] at q2;cases q2
   have:=r.cx hl oe vs e1 e4
   rw [Array.getElem?_setIfInBounds_ne (by decide)]
   exact this
  refine h _ rfl I' ⟨r.sa,r.na,r.nd,r.ad,⟨_,_,some T',k2,?_,?_,Obj.data_mapFields e4 _,⟨?_,?_,oT,ts,_,k4,k5,k6,.inr rfl⟩,?_⟩,⟨mA,⟨od,esd,epd,kd,f2,f3⟩,n2⟩,cx2⟩ ⟨_,_,T',k2,Obj.data_mapFields e4 _,by simp [hsz]⟩
  ·rw [Obj.cls_mapFields];exact e2
  ·obtain ⟨oc,odi,odt,osl⟩:=oe
   cases odt <;> exact e3
  ·simp [hsz]
  ·exact fun z=>absurd (Heap.lt_size e1) (by rw [<- z];exact Nat.not_lt.mpr k3)
  ·intro T'' e
   cases e
   exact ⟨Nat.le_trans I.sz k3,qL.of I hx (Heap.get?_none_of_le k3) (I.hok.fresh k3),fun z=>absurd (Heap.lt_size f1) (by rw [<- z];exact Nat.not_lt.mpr k3)⟩
 cases T with
 | none =>
  have h1:vs[1]?=some .none:=e5
  unfold noteFrame
  simp only [hf]
  refine wpAny_bind (wpAny_field e1 e4 h1 ?_)
  rw [if_neg (by decide)]
  exact Eu (base:=X.base) (L:=X.env.locals) (by rw [<- hst];exact I.ok.frames) (by rw [<- hst];exact I.stack) hf e1 e4 hsz fun h' T' oT ts a1 a2 a3 a4 a5 a6=>main h' T' oT ts (fun b o q ne _=>a1 b o q ne) a2 a3 a4 a5 a6
 | some T0 =>
  obtain ⟨h1,hTe,oT,ts,v,hT,hdT,h3,rfl⟩:=e5'
  unfold noteFrame
  simp only [hf]
  refine wpAny_bind (wpAny_field e1 e4 h1 ?_)
  rw [if_pos (show (Value.ref T0 != Value.none)=true from by simp)]
  refine wpAny_bind (wpAny_field hT hdT h3 ?_)
  rw [if_neg (show ¬ ((Value.none == rawInt X.env.locals)=true) from by simp [rawInt])]
  refine wpAny_bind (wpAny_setField hT hdT (Array.getElem?_eq_some_iff.mp h3).1 ?_)
  have other:∀ b,b≠T0->(s.heap.update T0 (Obj.mapFields (·.setIfInBounds 3 Value.none))).get? b=s.heap.get? b:=fun b hb=>Heap.get?_update_other _ _ (Ne.symm hb)
  have noRecord:∀ b o,s.heap.get? b=some o->(∀ vs,o.data≠.fields vs)->b≠T0:=fun b o hb hnf q=>by
   rw [q,hT] at hb;injection hb with hb;subst hb;exact hnf ts hdT
  have hl:s.heap.FunFrames X.base (X.env :: X.outer):=by rw [<- hst];exact I.stack
  exact Eu (base:=X.base) (L:=X.env.locals) (by rw [<- hst];exact I.ok.frames) (hl.of_keeps fun b o hb hnf=>⟨o,(other b (noRecord b o hb hnf)).trans hb,rfl⟩) hf ((other a (Ne.symm hTe)).trans e1) e4 hsz
   fun h' T' oT' ts' a1 a2 a3 a4 a5 a6=>main h' T' oT' ts' (fun b o q ne nT=>a1 b o ((other b fun z=>nT (by rw [z])).trans q) ne) a2 (by rw [Heap.size_after_update] at a3;exact a3) a4 a5 a6
theorem x6 {M:Model} {A:Around} {E:Value->Shared->Prop} {Q:Unit->Shared->Prop} (fr:Option Addr) (I:Inv X pins σ H s) (hex:X.ex=[]) (r:pU X pins H s.heap a C d fs)
  (h:∀ s',Inv X pins σ H s'->xD (fun v=>v=fr.elim .none fun f=>rawInt f) X.s₀.heap.objs.size (qL X pins H) s'.heap a C d fs->Q () s'):wpAny M A (setFlight (.ref a) fr) Q E s:=by
 obtain ⟨oe,vs,T,e1,e2,e3,e4,e5,e6⟩:=r.obj
 obtain ⟨mA,n1,n2⟩:=r.att
 obtain ⟨od,esd,epd,f1,f2,f3⟩:=id n1
 cases T with
 | none =>
  unfold setFlight
  refine wpAny_bind (wpAny_field e1 e4 (show vs[1]?=some .none from e5) ?_)
  rw [if_neg (by decide)]
  exact wpAny_pure (h s I ⟨r.sa,r.na,r.nd,r.ad,⟨oe,vs,none,e1,e2,e3,e4,e5,e6⟩,r.att,r.cx⟩)
 | some T =>
  obtain ⟨t1,t2,oT,ts,v,t3,t4,t5,t6⟩:=e5
  obtain ⟨T1,T2,T3⟩:=e6 T rfl
  unfold setFlight
  refine wpAny_bind (wpAny_field e1 e4 t1 ?_)
  rw [if_pos (show (Value.ref T != Value.none)=true from by simp)]
  refine wpAny_setField t3 t4 (Array.getElem?_eq_some_iff.mp t5).1 ?_
  generalize hw:(fr.elim Value.none fun f=>rawInt f)=w
  have oth:∀ b,b≠T->(s.heap.update T (Obj.mapFields (·.setIfInBounds 3 w))).get? b=s.heap.get? b:=fun b hb=>Heap.get?_update_other _ _ (Ne.symm hb)
  have self:=Heap.get?_update_self (Obj.mapFields (·.setIfInBounds 3 w)) t3 (Obj.isFreed_of_fields (Obj.data_mapFields t4 _))
  have un:Un (gG X.stack) [T] H H s.heap (s.heap.update T (Obj.mapFields (·.setIfInBounds 3 w))):=by
   have ne:∀ b,b ∉ [T]->b≠T:=fun b hb z=>hb (by rw [z];exact List.mem_cons_self)
   exact ⟨fun b o e _ _ hc=>(oth b (ne b hc)).trans e,fun b o e _ _ hc=>⟨o.slots,(oth b (ne b hc)).trans e⟩,fun _ _ _ n _=>n,fun b o e hc=>⟨o,(oth b (ne b hc)).trans e⟩,fun _ _ q=>q,fun _ _ _ q=>q,fun _ ps q=>⟨#[],by rw [q];simp⟩⟩
  have hok:eG X.prog X.w H (s.heap.update T (Obj.mapFields (·.setIfInBounds 3 w))):=fun b o e=>(I.hok b o e).stay (fun c u hc q=>(oth c (by
   rintro rfl
   rcases hc with rfl | hc
   ·rw [T2.2.1] at e;cases e
   ·rw [T2.2.1] at hc;cases hc)).trans q) (fun _ q=>q) fun _ _ q=>q
  have I':Inv X pins σ H { s with heap:=s.heap.update T (Obj.mapFields (·.setIfInBounds 3 w)) }:=I.call (g':=s.gens) (t':=s.toks) (d':=s.drawn) un hok I.bare fun b hb=>by
   obtain rfl:b=T:=by simpa using hb
   have nc:∀ x c,X.env.cells.lookup x=some c->c≠b:=fun x c e z=>by
    obtain ⟨v,oc,g1,g2⟩:=I.cell x c e
    rw [z,t3] at g1;cases g1;rw [t4] at g2;cases g2
   exact ⟨.inr T1,T2.2.2.1,nc,T2.2.2.2⟩
  subst hw
  refine h _ I' ⟨r.sa,r.na,r.nd,r.ad,⟨oe,vs,some T,(oth a (Ne.symm t2)).trans e1,e2,e3,e4,⟨t1,t2,_,_,_,self,Obj.data_mapFields t4 _,?_,rfl⟩,fun T' e=>by cases e;exact ⟨T1,T2,T3⟩⟩,⟨mA,⟨od,esd,epd,(oth d (Ne.symm T3)).trans f1,f2,f3⟩,n2⟩,fun hl oe2 vs2 q1 q2=>r.cx hl oe2 vs2 ((oth a (Ne.symm t2)).symm.trans q1) q2⟩
  have:=(Array.getElem?_eq_some_iff.mp t5).1
  simp [this]
theorem Ig {M:Model} {E:Value->Shared->Prop} {Q:Unit->Shared->Prop} (I:Inv X pins σ H s) (hst:X.stack=X.env :: X.outer) (hf:X.env.frame=some X.env.locals) (hx:X.ex=[]) (r:pU X pins H s.heap a C d fs)
  (h:∀ s',Inv X pins σ H s'->xD (fun v=>v=.none) X.s₀.heap.objs.size (qL X pins H) s'.heap a C d fs->Q () s') :
  wpAny M X.A (noteFrame (.ref a) X.env) (fun _ s₂=>wpAny M X.A (setFlight (.ref a) none) Q E s₂) E s :=
 Jm I hst hf hx r fun s1 _ I1 r1 _=>x6 none I1 hx r1 fun s2 I2 r2=>h s2 I2 r2
theorem xD.any {X:Cx} {n:Nat} {nw:Addr->Prop} {h:Heap} {a C d:Addr} {fs:List (Str × V)} (r:xD (fun v=>v=.none) n nw h a C d fs):xD (WI X) n nw h a C d fs:=r.imp (fun _ e=>.inl e) (Nat.le_refl _) fun _ z=>z
end
end L2
namespace L2
open PySem PySem.Spec PyProof.Rows
def sZ (P:Program) (w:World):xC:=fun outer H s E e s'=>∃ a C d fs H',e=.ref a/\s'.os=s.os/\AllBare s'.gens/\Un (gG outer) [] H H' s.heap s'.heap/\eG P w H' s'.heap /\
 xD (fun v=>v=.none) s.heap.objs.size (fun b=>s.heap.get? b=none/\H' b=none) s'.heap a C d fs/\E (.ref C) (some d) (upd H' d (.xd fs))
abbrev XS:=Value->Option Addr->St->Hp->Prop
def XP (X:Cx) (pins:List (Addr × Obj)) (E:XS) (e:Value) (s':Shared):Prop:=∃ a C d fs σ' H',e=.ref a/\Inv X pins σ' H' s'/\pU X pins H' s'.heap a C d fs/\E (.ref C) (some d) σ' (upd H' d (.xd fs))
abbrev j5:=Ends->XS->St->Hp->Prop
abbrev Mo:=St->Hp->VK->XS->Prop
def xE (X:Cx) (e:Expr) (t:Mo):Prop :=
 ∀ (pins:List (Addr × Obj)) (s:Shared) (σ:St) (H:Hp) (Q:VK) (E:XS),Inv X pins σ H s->t σ H Q E->wpAny (model X.prog X.w) X.A (eval e X.env) (EP X pins σ Q) (XP X pins E) s
def uB (X:Cx) (st:Stmt) (t:j5):Prop :=
 ∀ (pins:List (Addr × Obj)) (s:Shared) (σ:St) (H:Hp) (D:Ends) (E:XS),Inv X pins σ H s->t D E σ H->wpAny (model X.prog X.w) X.A (exec st X.env) (SP X pins D) (XP X pins E) s
def lR (X:Cx) (st:List Stmt) (t:j5):Prop :=
 ∀ (pins:List (Addr × Obj)) (s:Shared) (σ:St) (H:Hp) (D:Ends) (E:XS),Inv X pins σ H s->t D E σ H->wpAny (model X.prog X.w) X.A (execs st X.env) (SP X pins D) (XP X pins E) s
section
variable {X:Cx} {e:Expr} {te:TE} {tx:Mo} {st:Stmt} {rest a b:List Stmt} {t u:TS} {t' u':j5} {pos:Pos}
abbrev sS (X:Cx):Prop:=X.xe=fun _ _=>False
theorem Vm (hx:sS X) (h:PS X st t):uB X st (fun D _ σ H=>t D σ H):=fun pins s σ H D E I q=>wpAny_mono (h pins s σ H D I q) (fun _ _ z=>z) fun _ _ z=>by rw [hx] at z;exact z.elim
theorem Rm (hx:sS X) (h:mZ X rest t):lR X rest (fun D _ σ H=>t D σ H):=fun pins s σ H D E I q=>wpAny_mono (h pins s σ H D I q) (fun _ _ z=>z) fun _ _ z=>by rw [hx] at z;exact z.elim
def WQ (t u:j5):j5:=fun D E σ H=>t { D with nx:=u D E } E σ H
theorem Mt (h1:uB X st t') (h2:lR X rest u'):lR X (st :: rest) (WQ t' u'):=by
 intro pins s σ H D E I h
 refine wpAny_execs_cons (bB (h1 pins s σ H { D with nx:=u' D E } E I h) fun f s1 q=>?_)
 cases f with
 | next =>
  obtain ⟨σ',H',I',q⟩:=q
  exact h2 pins s1 σ' H' D E I' q
 | ret v=>exact q
 | brk=>exact q
 | cont=>exact q
theorem EZ (h1:uB X st t'):lR X [st] t':=by
 intro pins s σ H D E I h
 refine wpAny_execs_cons (bB (h1 pins s σ H D E I h) fun f s1 q=>?_)
 cases f with
 | next=>exact wpAny_execs_nil q
 | ret v=>exact q
 | brk=>exact q
 | cont=>exact q
def Xi (c:TT) (t u:j5):j5:=fun D E σ H=>c σ H fun b H1=>if b=true then t D E σ H1 else u D E σ H1
theorem SD {c:Expr} {tc:TT} (hx:sS X) (hc:PT X c tc) (ha:lR X a t') (hb:lR X b u'):uB X (.If c a b pos) (Xi tc t' u'):=by
 intro pins s σ H D E I h
 refine wpAny_If (wpAny_mono (hc pins s σ H _ I h) (fun d s1 ⟨H1,I1,q1⟩=>?_) fun _ _ z=>by rw [hx] at z;exact z.elim)
 cases d with
 | true=>exact ha pins s1 σ H1 D E I1 q1
 | false=>exact hb pins s1 σ H1 D E I1 q1
theorem Ng (he:xE X e tx) (hs:swapsWith e none pos.line X.env=pure false:=by rfl):uB X (.Expr e pos) (fun D E σ H=>tx σ H (fun _ H1=>D.nx σ H1) E):=by
 intro pins s σ H D E I h
 exact wpAny_Expr_any (bB (he pins s σ H _ E I h) fun v s1 ⟨x,H1,I1,r1,q1⟩=>⟨σ,H1,I1,q1⟩) I.quiet hs
theorem Qt (he:xE X e tx):uB X (.Return (some e) pos) (fun D E σ H=>tx σ H D.rt E):=by
 intro pins s σ H D E I h
 exact wpAny_Return_some (bB (he pins s σ H _ E I h) fun v s1 ⟨x,H1,I1,r1,q1⟩=>⟨x,σ,H1,I1,r1,q1⟩)
theorem P7 {i:Nat} {x:Str} {pos':Pos} (hN:X.N.Nodup) (hi:X.N[i]?=some x) (hx:Loc X.env.scope x) (he:xE X e tx) (hs:swapsWith e (some (.Name x pos')) pos.line X.env=pure false:=by rfl) (hf:X.fn x=true\/X.env.scope.names.lookup x=some .local:=by first | exact .inl rfl | exact .inr rfl | assumption) :
  uB X (.Assign [.Name x pos'] e pos) (fun D E σ H=>tx σ H (fun v H1=>D.nx (σ.set i (some v)) H1) E):=by
 intro pins s σ H D E I h
 refine wpAny_Assign_Name (bB (he pins s σ H _ E I h) fun v s1 ⟨y,H1,I1,r1,q1⟩=>?_) hs
 exact vD I1 hN hi hx r1 (fun s2 I2=>⟨_,H1,I2,q1⟩) hf
def PX (sp:Sp) (dvs:List V) (t:TA):Mo:=fun σ H Q E=>t σ H fun vs H1=>sp (vs++dvs) H1 Q fun c d H2=>E c d σ H2
theorem GP {k:Nat} {f:Addr} {fd:FuncData} {ps:List Str} {sp:Sp} {dvs:List V} {ds:List Value} {pins:List (Addr × Obj)} {σ:St} {H:Hp} {s:Shared} {Q:VK} {E:XS} {us:List Value} {vs:List V}
  (hex:X.ex=[]) (F:fJ X.prog X.w X.K X.mg X.base (sZ X.prog X.w) k f fd ps sp) (hr:cX k X.A) (hb:Binds X.K fd ps ds) (hd:Vals dvs ds) (I:Inv X pins σ H s) (r:Vals vs us) (h:sp (vs++dvs) H Q fun c d H2=>E c d σ H2) :
  wpAny (model X.prog X.w) X.A (call (.ref f) us) (EP X pins σ Q) (XP X pins E) s:=by
 have r2:Vals (vs++dvs) (us++ds):=r.append hd
 have hl:(us++ds).length=ps.length:=by rw [<- r2.length];exact F.len _ _ _ _ h
 refine wpAny_call (codeAny_mono (F.run X.A X.stack s H ⟨us,[]⟩ (us++ds) (vs++dvs) Q (fun c d H2=>E c d σ H2) hr I.env0 (hb s us I.kIn hl) r2 h) fun r s' hq=>?_)
 cases r with
 | error e =>
  obtain ⟨a,C,d,fs,H',rfl,os,bare,un,hok,r,q⟩:=hq
  exact ⟨a,C,d,fs,σ,H',rfl,I.call' os un hok bare (fun b z=>absurd z (by simp)),r.imp (fun _ e=>.inl e) I.sz fun b z=>qL.of I hex z.1 z.2,q⟩
 | ok fl =>
  cases fl with
  | ret u=>exact I.after hq
  | next=>exact False.elim hq
  | brk=>exact False.elim hq
  | cont=>exact False.elim hq
theorem Nw {k:Nat} {f:Addr} {fd:FuncData} {ps:List Str} {sp:Sp} {dvs:List V} {ds:List Value} {x:Str} {p:Pos} {es:List Expr} {ta:TA} (hx:sS X) (hex:X.ex=[]) (F:fJ X.prog X.w X.K X.mg X.base (sZ X.prog X.w) k f fd ps sp) (hr:cX k X.A) (hg:Gl X x) (hm:X.mg x=some (.ref f)) (hk:PySem.W.keepIn X.K (.ref f)=true) (hb:Binds X.K fd ps ds) (hd:Vals dvs ds)
  (ha:PA X (e :: es) ta) (hdb:(x == ("__debug__":Str))=false:=by decide) (he:starEach (e :: es) X.env=(false,eval e X.env) :: starEach es X.env:=by rfl) (hpl:(backTo pos (starEach es X.env)).any (·.1)=false:=by rfl) :
  xE X (.Call (.Name x p) (e :: es) [] pos) (PX sp dvs ta):=by
 intro pins s σ H Q E I h
 refine wpAny_Call_Name_kw (lK I hg hm ?_ hdb)
 refine PySem.W.callWith_K (h₀:=X.base) I.ok.mod.kin hk (wpAny_mono (ha pos pins s σ H _ I h) (fun us s1 ⟨vs,H1,I1,r,q⟩=>⟨I1.kIn,?_⟩) fun _ _ z=>by rw [hx] at z;exact z.elim) he hpl
 exact GP hex F hr hb hd I1 r q
def Lc (K:PySem.W.Frag) (C:Addr) (attr:Str) (cond:V->Prop) (te:TE):j5:=fun _ E σ H=>te σ H fun y H1=>cond y/\∀ d,H1 d=none->E (.ref C) (some d) σ (upd H1 d (.xd [(attr,y)]))
theorem GI {nm q:Str} {C N R:Addr} {bs:List Value} {sn:List Str} {sub:List Value} {ab:Bool} {col:Option Bool} {dd:Option Addr} {k0 k1 k2 k3 k5:Option Value} {A:Around} {M:Model} {s:Shared} {E:Value->Shared->Prop} {env:Env} {x:Sem Value} {Q:Flow->Shared->Prop} (hh:A.handled=none)
  (h:wpAny M A x (fun v s₁=>∃ e t d,v=.ref e/\s₁.heap.get? C=some (excClassObj nm q C N bs (pM R) true sn sub ab col dd k0 k1 k2 k3 k5 "ValueError.__new__")/\s₁.heap.get? e=some (oB C t (some d))/\E (.ref e) s₁) E s) :
  wpAny M A (raiseStmt env (some x) none) Q E s:=by
 have hcB:(Value.ref C :: pM R).contains (.type "BaseException")=true:=by rw [List.contains_cons];rfl
 unfold raiseStmt
 refine wpAny_bind (wpAny_mono h (fun v s₁ h₁=>?_) fun _ _ x=>x)
 obtain ⟨e,t,d,rfl,hC,he,hE⟩:=h₁
 unfold oB at he
 obtain ⟨hp,g,d,tk,os⟩:=s₁
 repeat (first | with_reducible refine wpAny_loadPart_at he ?_ | with_reducible refine wpAny_loadPart_at hC ?_ | (with_reducible refine wpAny_isSubtype_exc hC ?_;rw [hcB]) | wp_step)
 exact wpAny_raiseNew_none hh hE
end
end L2
namespace L2
open PySem PySem.Spec PyProof.Rows
section
variable {X:Cx}
theorem eG.forget {P:Program} {w:World} {H H':Hp} {h:Heap} (x:eG P w H' h) (sub:∀ b o,H b=some o->H' b=some o) (back:∀ b o,H' b=some o->H b=some o\/(∀ y,o≠.own y)/\∀ xs,o≠.tup xs):eG P w H h:=fun b o e =>
 (x b o (sub b o e)).stay (fun _ _ _ q=>q) (fun c q=>(back c _ q).elim (fun z=>z) fun z=>absurd rfl (z.1 _)) fun c xs q=>(back c _ q).elim (fun z=>z) fun z=>absurd rfl (z.2 _)
theorem He {k:Nat} {C R fI:Addr} {fd:FuncData} {par attr:Str} {cond:V->Prop} {pins:List (Addr × Obj)} {σ:St} {H:Hp} {s:Shared} {u:Value} {y:V} {E:Value->Shared->Prop} (hex:X.ex=[]) (c:nA X.K C R fI)
  (F:n5 X.prog X.w X.K X.mg X.base jF k fI fd ["self",par] (lT C attr cond)) (hr:mE (k + 1) X.A) (hb:Binds X.K fd ["self",par] []) (I:Inv X pins σ H s) (r:RelV y u) (hy:cond y) :
  wpAny (model X.prog X.w) X.A (call (.ref C) [u]) (fun v s'=>∃ a t d,v=.ref a/\s'.heap.get? a=some (oB C t (some d))/\Inv X pins σ H s'/\pU X pins H s'.heap a C d [(attr,y)]) E s:=by
 obtain ⟨nm,qq,N,bs,sn,sub,ab,col,dd,k0,k1,k2,k3,k5,hC⟩:=c.obj
 have hfn:∃ oI,X.K.lookup fI=some oI/\oI.cls=.type "function":=by
  have:(X.K.lookup fI).map (·.cls)=some (.type "function"):=beq_iff_eq.mp c.fn
  cases q:X.K.lookup fI with
  | none=>rw [q] at this;cases this
  | some oI=>rw [q] at this;exact ⟨oI,rfl,by simpa using this⟩
 obtain ⟨oI,hoI,hoc⟩:=hfn
 obtain ⟨hh,g,d,t,os⟩:=s
 let A0:Addr:=hh.objs.size + 1
 have hn0:H A0=none:=I.hok.fresh (Nat.le_succ _)
 have I2:Inv X pins σ (upd H A0 (.ext (fC A0 C none))) ⟨oZ hh C [u],g,d,t,os⟩:=I.laid (t':=t) (lM hh C [u]) (Nat.le_succ _) (fC.obj ⟨_,Ci hh C [u]⟩)
 let H2:Hp:=upd H A0 (.ext (fC A0 C none))
 let Q1:VK:=fun v H'=>v=.non/\∃ d,H2 d=none/\d≠A0/\H'=upd (upd H2 A0 (.ext (fC A0 C (some d)))) d (.xd [(attr,y)])
 have hq:lT C attr cond [.ref A0,y] H2 Q1 E0:=⟨A0,y,rfl,bT,hy,fun d h1 h2=>⟨rfl,d,h1,h2,rfl⟩⟩
 have r2:Vals [V.ref A0,y] [Value.ref A0,u]:=.cons rfl (.cons r .nil)
 refine TR (UB R) I.kIn (I.kIn _ _ hC) c.init (I.kIn _ _ hoI) hoc ?_ (by show 1<=sizeLine;decide)
 refine wpAny_call (codeAny_mono (F.run _ X.stack _ H2 ⟨[Value.ref A0,u],[]⟩ [Value.ref A0,u] _ Q1 E0 (hr.make C [u] []) (I2.env0.make C [u] []) (by have:=hb ⟨oZ hh C [u],g,d,t,os⟩ [Value.ref A0,u] I2.kIn rfl;simpa using this) r2 hq) fun r s' hq'=>?_)
 cases r with
 | error e=>exact False.elim hq'
 | ok fl =>
  cases fl with
  | next=>exact False.elim hq'
  | brk=>exact False.elim hq'
  | cont=>exact False.elim hq'
  | ret v =>
   obtain ⟨v',H',eo,bare,un,hok,rv,rfl,d',h1,h2,rfl⟩:=hq'
   refine ⟨rv,A0,?_⟩
   have hd0:H d'=none:=by rw [<- bE (H:=H) (o:=.ext (fC A0 C none)) h2];exact h1
   have sz:∀ b o,H b=some o->b≠A0/\b≠d':=fun b o e=>⟨bR e hn0,bR e hd0⟩
   have hgd:(oZ hh C [u]).get? d'=none:=by
    cases q:(oZ hh C [u]).get? d' with
    | none=>rfl
    | some o =>
     have:=un.free d' o q h1 (by simp)
     rw [bT] at this;cases this
   have hgd0:hh.get? d'=none:=by
    cases q:hh.get? d' with
    | none=>rfl
    | some o=>rw [lM hh C [u] _ _ q] at hgd;cases hgd
   have lt:∀ b o,hh.get? b=some o->b≠A0/\b≠d':=fun b o e=>⟨Nat.ne_of_lt (Nat.lt_succ_of_lt (Heap.lt_size e)),fun z=>by rw [z,hgd0] at e;cases e⟩
   have up:∀ b,b≠A0->H2 b=H b:=fun b hb=>bE hb
   have un':Un (gG X.stack) [] H H hh s'.heap:=⟨fun b o e n hb hx=>un.keep b o (lM _ _ _ _ _ e) (by rw [up b (lt b o e).1];exact n) hb hx,
    fun b o e n hb hx=>un.slot b o (lM _ _ _ _ _ e) (by rw [up b (lt b o e).1];exact n) hb hx,fun _ _ _ n _=>n,fun b o e hx=>un.there b o (lM _ _ _ _ _ e) hx,fun _ _ q=>q,fun _ _ _ q=>q,fun _ ps q=>⟨#[],by rw [q];simp⟩⟩
   have hok':eG X.prog X.w H s'.heap:=hok.forget (fun b o e=>by rw [bE (sz b o e).2,bE (sz b o e).1,up b (sz b o e).1];exact e) fun b o e=>by
    by_cases hb:b=d'
    ·subst hb;rw [bT] at e;cases e;exact .inr ⟨fun _ z=>(nomatch z),fun _ z=>(nomatch z)⟩
    ·rw [bE hb] at e
     by_cases hb:b=A0
     ·subst hb;rw [bT] at e;cases e;exact .inr ⟨fun _ z=>(nomatch z),fun _ z=>(nomatch z)⟩
     ·rw [bE hb,up b hb] at e;exact .inl e
   have I3:Inv X pins σ H s':=I.call' (s:=⟨hh,g,d,t,os⟩) eo un' hok' bare (fun b z=>absurd z (by simp))
   have oa:=hok A0 (.ext (fC A0 C (some d'))) (by rw [bE (Ne.symm h2),bT])
   obtain ⟨⟨t0,e1⟩,_,_⟩:=oa
   obtain ⟨mA,n1,n2⟩:=hok d' (.xd [(attr,y)]) bT
   refine ⟨t0,d',rfl,e1,I3,Nat.le_trans I.sz (Nat.le_succ _),qL.of I hex (Heap.get?_none_of_le (Nat.le_succ _)) hn0,qL.of I hex hgd0 hd0,Ne.symm h2,⟨_,_,none,e1,rfl,rfl,rfl,rfl,fun T' z=>by cases z⟩,⟨mA,n1,n2⟩,fun _ oe2 vs2 q1 q2=>by rw [e1] at q1;cases q1;cases q2;rfl⟩
theorem Mm {k:Nat} {C R fI:Addr} {fd:FuncData} {par attr x:Str} {cond:V->Prop} {e:Expr} {te:TE} {np cpos pos:Pos} (hx:sS X) (hex:X.ex=[]) (hcalm:X.calm=true) (c:nA X.K C R fI)
  (F:n5 X.prog X.w X.K X.mg X.base jF k fI fd ["self",par] (lT C attr cond)) (hr:mE (k + 1) X.A) (hb:Binds X.K fd ["self",par] []) (hg:Gl X x) (hm:X.mg x=some (.ref C)) (he:PE X e te) (hdb:(x == ("__debug__":Str))=false:=by decide)
  (hs:starEach [e] X.env=[(false,eval e X.env)]:=by rfl):uB X (.Raise (some (.Call (.Name x np) [e] [] cpos)) none pos) (Lc X.K C attr cond te):=by
 intro pins s σ H D E I h
 obtain ⟨nm,qq,N,bs,sn,sub,ab,col,dd,k0,k1,k2,k3,k5,hC⟩:=c.obj
 rw [arm_exec_Raise]
 have ev:wpAny (model X.prog X.w) X.A (eval (.Call (.Name x np) [e] [] cpos) X.env) (fun v s'=>∃ a t d,v=.ref a/\s'.heap.get? C=some (excClassObj nm qq C N bs (pM R) true sn sub ab col dd k0 k1 k2 k3 k5 "ValueError.__new__")/\s'.heap.get? a=some (oB C t (some d))/\XP X pins E (.ref a) s') (XP X pins E) s:=by
  refine wpAny_Call_Name_kw (lK I hg hm ?_ hdb)
  have pa:PA X [e] (fun σ H Q=>te σ H fun y H1=>Q [y] H1):=uH he Bp (by rw [hs];rfl)
  let Q1:List V->Hp->Prop:=fun vs H1=>match vs with | [y]=>(cond y/\∀ d,H1 d=none->E (.ref C) (some d) σ (upd H1 d (.xd [(attr,y)]))) | _=>False
  refine PySem.W.callWith_K (h₀:=X.base) I.ok.mod.kin c.kp (wpAny_mono (pa cpos pins s σ H Q1 I h) (fun us s1 ⟨vs,H1,I1,r,q⟩=>⟨I1.kIn,?_⟩) fun _ _ z=>by rw [hx] at z;exact z.elim) (by rw [hs];rfl) rfl
  match vs,r,q with
  | [y],.cons r .nil,⟨q1,q2⟩ =>
   refine bB (He hex c F hr hb I1 r q1) fun v s' ⟨a,t,d,z1,z2,I2,z3⟩=>?_
   exact ⟨a,t,d,z1,I2.kIn _ _ hC,z2,a,C,d,_,σ,H1,rfl,I2,z3,q2 d z3.nd.2.1⟩
 have hh:X.A.handled=none:=I.ok.hd hcalm
 first
  | exact wpAny_bind (wpAny_standAt (GI hh (wpAny_bind (wpAny_mono ev (fun v s₁ h₁=>wpAny_bind (wpAny_standAt (wpAny_pure h₁))) fun _ _ x=>x))))
  | (simp only [evalOpt,Option.map];exact wpAny_bind (wpAny_standAt (GI hh (wpAny_bind (wpAny_mono ev (fun v s₁ h₁=>wpAny_bind (wpAny_standAt (wpAny_pure h₁))) fun _ _ x=>x)))))
end
end L2
namespace L2
open PySem PySem.Spec PyProof.Rows
theorem Ue {P:Program} {w:World} {K:PySem.W.Frag} {mg:Str->Option Value} {base:Heap} {k:Nat} {f:Addr} {name qual:Str} {params:Arguments} {body:List Stmt} {scope:Scope} {dV kV doc pm cdv ct oc:Value} {an od:Option Addr}
  {osl:Array (Option Value)} {N ps:List Str} {sp:Sp} (lk:K.lookup f=some ⟨oc,od,.func (PySem.W.fnOf name qual params body scope dV kV doc pm an cdv ct),osl⟩) (hcd:PySem.W.codeIn K cdv qual=true) (S:aV N ps scope)
  (len:∀ vs H Q E,sp vs H Q E->vs.length=ps.length)
  (hbody:∀ (A:Around) (outer:List Env) (s:Shared) (H:Hp) (vs:List V) (Q:VK) (E:XK),cX k (A.deeper (envOfC qual scope s.heap.objs.size f cdv))->sp vs H Q E ->
   ∃ t,lR (kX (sZ P w) P w K mg base N qual scope f cdv A outer s H E).nox body t/\t { nx:=fun _ H'=>Q .non H',rt:=Q } (fun c d _ H'=>E c d H') (start N vs) H) :
  fJ P w K mg base (sZ P w) (k + 1) f (PySem.W.fnOf name qual params body scope dV kV doc pm an cdv ct) ps sp:=by
 refine ⟨len,fun A outer s H args us vs Q E hr e0 hb r hsp=>?_⟩
 have hl:=len _ _ _ _ hsp
 have KX:K.In s.heap:=e0.mod.kin.keeps fun b o e=>(e0.bs b o e).1
 have lim:s.heap.NoLimit:=e0.mod.nolimit.keeps fun b o e=>(e0.bs b o e).1
 have hkind:∀ y∈ps.zip us,scope.names.lookup y.1=some .local\/(scope.names.lookup y.1=some .cell/\((cellsFrom (s.heap.objs.size + 1) scope.names []).lookup y.1).isSome=true):=fun ⟨n,v⟩ hy=>by
  rcases S.par n (List.of_mem_zip hy).1 with q | q
  ·exact .inl q
  ·exact .inr ⟨q,PySem.W.cellsFrom_some _ _ _ (.inl q)⟩
 refine codeAny_call_function hr.depth (KX _ _ lk) rfl S.co S.gen rfl (PySem.W.codeRec_of KX hcd) (hb _ _ _ _ ?_)
 refine wpAny_newFunctionEnv_cells S.kind hkind fun env he s1 x=>?_
 subst he
 refine ⟨lim.keeps x.toInCall.keep,codeAny_func ?_⟩
 obtain ⟨t,ht,hq⟩:=hbody A outer s H vs Q E (hr.deeper _) hsp
 have I:Inv (kX (sZ P w) P w K mg base N qual scope f cdv A outer s H E) [] (start N vs) H s1:=xK S hr.hd e0 hl r x
 refine wpAny_mono (ht [] s1 (start N vs) H _ _ (I.wish _) hq) (fun fl s' hs=>?_) fun e s' hs=>?_
 ·have fin:∀ {σ':St} {H':Hp} {v:V} {u:Value},Inv (kX (sZ P w) P w K mg base N qual scope f cdv A outer s H E).nox [] σ' H' s'->RelV v u->Q v H'->CE outer P w H s Q u s' :=
   fun {σ' H' v u} J rv q=>⟨v,H',J.os,J.bare,J.base,J.hok,rv,q⟩
  cases fl with
  | ret u =>
   obtain ⟨v,σ',H',J,rv,q⟩:=hs
   exact fin J rv q
  | next =>
   obtain ⟨σ',H',J,q⟩:=hs
   exact fin (v:=V.non) (u:=Value.none) J rfl q
  | brk =>
   obtain ⟨_,_,_,q⟩:=hs
   exact False.elim q
  | cont =>
   obtain ⟨_,_,_,q⟩:=hs
   exact False.elim q
 ·obtain ⟨a,C,d,fs,σ',H',rfl,J,r,q⟩:=hs
  show wpAny _ _ (leaving _ _) _ _ _
  unfold leaving
  refine wpAny_bind (Ig (X:=(kX (sZ P w) P w K mg base N qual scope f cdv A outer s H E).nox) J rfl rfl rfl r fun s'' J' r'=>?_)
  exact ⟨a,C,d,fs,H',rfl,J'.os,J'.bare,J'.base,J'.hok,r'.imp (fun _ e=>e) (Nat.le_refl _) fun b z=>⟨z.1,z.2.1⟩,q⟩
theorem cE.okX {P:Program} {w:World} {K:PySem.W.Frag} {mg:Str->Option Value} {base:Heap} {x qual:Str} {st:Stmt} {f:Addr} {fd:FuncData} {N ps:List Str} {k:Nat} {sp:Sp} (F:cE K x qual st f fd) (S:aV N ps (aD st)) (len:∀ vs H Q E,sp vs H Q E->vs.length=ps.length)
  (hbody:∀ (cdv:Value) (A:Around) (outer:List Env) (s:Shared) (H:Hp) (vs:List V) (Q:VK) (E:XK),cX k (A.deeper (envOfC qual (aD st) s.heap.objs.size f cdv))->sp vs H Q E ->
   ∃ t,lR (kX (sZ P w) P w K mg base N qual (aD st) f cdv A outer s H E).nox (aS st) t/\t { nx:=fun _ H'=>Q .non H',rt:=Q } (fun c d _ H'=>E c d H') (start N vs) H):fJ P w K mg base (sZ P w) (k + 1) f fd ps sp:=by
 obtain ⟨oc,od,kV,doc,pm,an,cdv,ct,osl,rfl,lk,hcd⟩:=F.ex
 exact Ue lk hcd S len fun A outer s H vs Q E hr hsp=>hbody cdv A outer s H vs Q E hr hsp
section
variable {X:Cx} {pins:List (Addr × Obj)} {σ:St} {H:Hp} {s:Shared}
theorem name_goes {M:Model} {A:Around} {E:Value->Shared->Prop} {i:Nat} {n:Str} {pos:Pos} {Q:Unit->Shared->Prop} (I:Inv X pins σ H s) (hN:X.N.Nodup) (hi:X.N[i]?=some n) (hk:X.env.scope.names.lookup n=some .local)
  (h:∀ s',Inv X pins (σ.set i none) H s'->Q () s'):wpAny M A (do bindName X.env n .none;unbindBehindTheSuite X.env n pos) Q E s:=by
 obtain ⟨m,hn,hl⟩:=id I.loc
 have hcls:(X.env.scope.kind == .class || (X.env.scope.kind == .module && X.env.locals != X.env.globals))=false:=by rw [I.ok.kind];rfl
 have hiσ:i < σ.length:=by rw [I.len];exact (List.getElem?_eq_some_iff.mp hi).1
 have cne:=I.cne
 refine wpAny_nameGoes_keeps hk hn hcls fun h' v hn' hs=>?_
 obtain ⟨oL,_,_,hoL,_⟩:=id hn
 have tracked:eG X.prog X.w H h':=fun b ob e=>by
  refine (I.hok b ob e).stay (fun c w' hc q=>(hs.2 c ?_).trans q) (fun _ q=>q) fun _ _ q=>q
  rintro rfl
  rcases hc with rfl | hc
  ·rw [I.free] at e;cases e
  ·rw [I.free] at hc;cases hc
 refine h _ ⟨I.ok,I.os,I.bare,⟨fun b o e n hb hx=>?_,fun b o e n hb hx=>?_,I.base.free,fun b o e hx=>?_,I.base.tups,I.base.frzs,I.base.tbls⟩,⟨_,hn',fun j y v' e1 e2 e3=>?_⟩,fun y c e=>?_,I.free,I.freeC,fun p hp=>?_,tracked,by simpa using I.len⟩
 ·exact (hs.2 b (Nat.ne_of_lt (Nat.lt_of_lt_of_le (Heap.lt_size e) I.ok.above))).trans (I.base.keep b o e n hb hx)
 ·obtain ⟨sl,e1⟩:=I.base.slot b o e n hb hx
  exact ⟨sl,(hs.2 b (Nat.ne_of_lt (Nat.lt_of_lt_of_le (Heap.lt_size e) I.ok.above))).trans e1⟩
 ·obtain ⟨o',e1⟩:=I.base.there b o e hx
  exact ⟨o',(hs.2 b (Nat.ne_of_lt (Nat.lt_of_lt_of_le (Heap.lt_size e) I.ok.above))).trans e1⟩
 ·by_cases hj:j=i
  ·subst hj
   rw [List.getElem?_set_self hiσ] at e2
   cases e2
  ·rw [List.getElem?_set_ne (Ne.symm hj)] at e2
   obtain ⟨u',r',q⟩:=hl j y v' e1 e2 e3
   refine ⟨u',r',?_⟩
   rcases q with ⟨k,e⟩ | ⟨k,c,e,z⟩
   ·refine .inl ⟨k,?_⟩
    have:y≠n:=fun e=>hj (Az hN e1 (e ▸ hi))
    simp [this,e]
   ·exact .inr ⟨k,c,e,z.sameBut hs (cne y c e)⟩
 ·obtain ⟨w',z⟩:=I.cell y c e
  exact ⟨w',z.sameBut hs (cne y c e)⟩
 ·obtain ⟨e,n,ne,nf,d⟩:=I.pin p hp
  exact ⟨(hs.2 p.1 ne).trans e,n,ne,nf,d⟩
end
end L2
namespace L2
open PySem PySem.Spec PyProof.Rows
structure AF (K:PySem.W.Frag) (C:Addr):Prop where
 ty:PySem.W.typeIn K (.ref C)=some (.type "type")
 cls:(PySem.W.clsIn K C).isSome=true
 ex:PySem.W.subIn K (.ref C) (.type "BaseException")=some true
theorem An {K:PySem.W.Frag} {M:Model} {A:Around} {E:Value->Shared->Prop} {s:Shared} {a C Cn:Addr} {oe:Obj} {b:Bool} {Q:Bool->Shared->Prop} (KX:K.In s.heap) (c:AF K Cn) (he:s.heap.get? a=some oe) (hc:oe.cls=.ref C) (hs:PySem.W.subIn K (.ref C) (.ref Cn)=some b)
  (hq:Q b s):wpAny M A (excMatches (.ref a) (.ref Cn)) Q E s:=by
 have L1:PySem.W.Looks M s.heap (typeOf (.ref Cn)) (.type "type"):=PySem.W.looks_typeIn KX c.ty
 have L2':PySem.W.Looks M s.heap (isSubtype (.ref Cn) (.type "BaseException")) true:=PySem.W.looks_subIn KX c.ex
 have L3:PySem.W.Looks M s.heap (isSubtype (.ref C) (.ref Cn)) b:=PySem.W.looks_subIn KX hs
 have L4:PySem.W.Looks M s.heap (isType (.ref Cn)) true:=by
  have z:=c.cls
  unfold PySem.W.clsIn at z
  split at z
  ·rename_i c' d' cd' sl' ho
   intro A' Q' E' s' k q
   unfold isType loadHead
   exact wpAny_bind (wpAny_loadPart (k _ _ (KX _ _ ho)) (wpAny_pure q))
  ·cases z
 have f:=tc_notTuple
 unfold excMatches isInstance isExcClass
 refine wpAny_bind (wpAny_bind (L1.here ?_))
 rw [f]
 refine wpAny_pure ?_
 simp only [Bool.false_eq_true,if_false]
 refine wpAny_bind (wpAny_pure ?_)
 obtain ⟨hp,g,d,tk,os⟩:=s
 have L4':∀ {Q':Bool->Shared->Prop} {E':Value->Shared->Prop},Q' true ⟨hp,g,d,tk,os⟩->wpAny M A (isType (.ref Cn)) Q' E' ⟨hp,g,d,tk,os⟩:=fun q=>L4.here q
 have L2'':∀ {Q':Bool->Shared->Prop} {E':Value->Shared->Prop},Q' true ⟨hp,g,d,tk,os⟩->wpAny M A (isSubtype (.ref Cn) (.type "BaseException")) Q' E' ⟨hp,g,d,tk,os⟩:=fun q=>L2'.here q
 have L3':∀ {Q':Bool->Shared->Prop} {E':Value->Shared->Prop},Q' b ⟨hp,g,d,tk,os⟩->wpAny M A (isSubtype (.ref C) (.ref Cn)) Q' E' ⟨hp,g,d,tk,os⟩:=fun q=>L3.here q
 repeat (first | with_reducible refine L4' ?_ | with_reducible refine L2'' ?_ | with_reducible refine L3' ?_ | (with_reducible refine wpAny_loadPart_at he ?_;rw [hc]) | wp_step)
 cases b <;> (wp_walk;exact hq)
def Cx.inX (X:Cx) (a:Addr) (pl:List (Addr × Obj)):Cx:={ X with A:=X.A.mark (some (.ref a)),calm:=false,pn:=X.pn++pl }
section
variable {X:Cx} {pins pl:List (Addr × Obj)} {σ:St} {H:Hp} {s:Shared} {a C d:Addr} {fs:List (Str × V)}
theorem Inv.inX (I:Inv X pins σ H s) (hp:∀ p∈pl,s.heap.get? p.1=some p.2/\H p.1=none/\p.1≠X.env.locals/\p.1 ∉ X.fs/\∀ v,p.2.data≠.cell v):Inv (X.inX a pl) pins σ H s :=
 ⟨⟨I.ok.mod,I.ok.kind,I.ok.glob,I.ok.blt,I.ok.above,I.ok.inj,I.ok.has,I.ok.cab,(fun z=>nomatch z),I.ok.frames,I.ok.stk,I.ok.exf,I.ok.bs,I.ok.bsz,I.ok.noex,I.ok.exfs,I.ok.funs,I.ok.frf⟩,I.os,I.bare,I.base,I.loc,I.cell,I.free,I.freeC,fun p h=>by
  rcases List.mem_append.mp h with h | h
  ·rcases List.mem_append.mp h with h | h
   ·exact I.pin p (List.mem_append_left _ h)
   ·exact hp p h
  ·exact I.pin p (List.mem_append_right _ h),I.hok,I.len⟩
theorem Inv.outX (ok:X.Ok) (I:Inv (X.inX a pl) pins σ H s):Inv X pins σ H s :=
 ⟨ok,I.os,I.bare,I.base,I.loc,I.cell,I.free,I.freeC,fun p h=>by
  rcases List.mem_append.mp h with h | h
  ·exact I.pin p (List.mem_append_left _ (List.mem_append_left _ h))
  ·exact I.pin p (List.mem_append_right _ h),I.hok,I.len⟩
def Dz (od:Obj) (fs:List (Str × V)):Prop:=∃ es ep,∃ mA:Str->Option Value,od.data=.dict es ep/\StrKeys es/\UniqKeys es/\(∀ name,nsFind es name=mA name)/\∀ f,E8 (fs.lookup f) (mA f)
theorem Bj (I:Inv X pins σ H s) (r:pU X pins H s.heap a C d fs):∃ oe od,oe.cls=.ref C/\oe.dict=some d/\(∃ vs,oe.data=.fields vs)/\Dz od fs/\∀ p∈[(a,oe),(d,od)],s.heap.get? p.1=some p.2/\H p.1=none/\p.1≠X.env.locals/\p.1 ∉ X.fs/\∀ v,p.2.data≠.cell v:=by
 obtain ⟨oe,vs,T,e1,e2,e3,e4,e5,e6⟩:=r.obj
 obtain ⟨mA,⟨od,esd,epd,f1,f2,f3,f4,f5⟩,n2⟩:=r.att
 have nofs:∀ b,qL X pins H b->b ∉ X.fs:=fun b n hb=>by
  obtain ⟨_,o,ho,_⟩:=I.ok.funs.mem hb
  rw [n.1] at ho;cases ho
 refine ⟨oe,od,e2,e3,⟨vs,e4⟩,⟨esd,epd,mA,f2,f3,f4,f5,n2⟩,fun p hp=>?_⟩
 rcases List.mem_cons.mp hp with rfl | hp
 ·exact ⟨e1,r.na.2.1,r.na.2.2.1,nofs _ r.na,fun v z=>by rw [e4] at z;cases z⟩
 ·obtain rfl:p=(d,od):=by simpa using hp
  exact ⟨f1,r.nd.2.1,r.nd.2.2.1,nofs _ r.nd,fun v z=>by rw [f2] at z;cases z⟩
def Vg (i:Nat) (Cn:Addr) (K:PySem.W.Frag) (tb:j5) (th:Addr->Addr->Addr->List (Str × V)->TS):TS:=fun D σ H=>tb D (fun c dx σ' H'=>∀ C d H1 fs,c=.ref C->dx=some d->H'=upd H1 d (.xd fs)->H1 d=none ->
 PySem.W.subIn K (.ref C) (.ref Cn)=some true/\∀ a,th a C d fs { nx:=fun σ H=>D.nx (σ.set i none) H,rt:=D.rt,bk:=fun σ H=>D.bk (σ.set i none) H,ct:=fun σ H=>D.ct (σ.set i none) H } (σ'.set i (some (.ref a))) H1) σ H
theorem S8 {i:Nat} {n cn:Str} {Cn:Addr} {body suite:List Stmt} {b₀:Stmt} {tb:j5} {th:Addr->Addr->Addr->List (Str × V)->TS} {cp hp pos:Pos} (hx:sS X) (hex:X.ex=[]) (hst:X.stack=X.env :: X.outer) (hf:X.env.frame=some X.env.locals) (hN:X.N.Nodup) (hi:X.N[i]?=some n) (hk:X.env.scope.names.lookup n=some .local)
  (hbody:lR X body tb) (hg:Gl X cn) (hm:X.mg cn=some (.ref Cn)) (hc:AF X.K Cn) (hh:∀ a C d fs oe od,oe.cls=.ref C->oe.dict=some d->(∃ vs,oe.data=.fields vs)->Dz od fs->mZ (X.inX a [(a,oe),(d,od)]) (b₀ :: suite) (th a C d fs)) (hdb:(cn == ("__debug__":Str))=false:=by decide) :
  PS X (.Try body [.ExceptHandler (some (.Name cn cp)) (some n) (b₀ :: suite) hp] [] [] pos) (Vg i Cn X.K tb th):=by
 intro pins s σ H D I h
 refine wpAny_Try_except (wpAny_mono (hbody pins s σ H D _ I h) (fun f s1 q=>?_) fun e s1 q=>?_)
 ·cases f with
  | next=>exact wpAny_execs_nil q
  | ret v=>exact q
  | brk=>exact q
  | cont=>exact q
 ·obtain ⟨a,C,d,fs,σ',H',rfl,I1,r,q⟩:=q
  obtain ⟨hsub,q⟩:=q C d H' fs rfl rfl rfl r.nd.2.1
  refine Ig I1 hst hf hex r fun s2 I2 r2=>?_
  refine wpAny_handleBy_cons (codeAny_handlers_test ?_) (by intro q;cases q)
  obtain ⟨oe,vs,T,e1,e2,e3,e4,e5,e6⟩:=r2.obj
  have I3:Inv (X.inX a []) pins σ' H' s2:=I2.inX fun p hp=>by cases hp
  refine lK (X:=X.inX a []) I3 hg hm ?_ hdb
  refine An (K:=X.K) I2.kIn hc e1 e2 hsub ?_
  refine codeAny_handlers_suite_as (x6 none I2 hex r2.any fun s3 I4 r4=>?_)
  obtain ⟨oe,od,o1,o2,o3,o4,o5⟩:=Bj I4 (xD.any r4)
  have I5:Inv (X.inX a [(a,oe),(d,od)]) pins σ' H' s3:=I4.inX o5
  refine vD (X:=X.inX a [(a,oe),(d,od)]) I5 hN hi (.inl hk) (v:=.ref a) rfl (fun s5 I6=>?_) (.inr hk)
  refine wpAny_mono (hh a C d fs oe od o1 o2 o3 o4 pins s5 _ H' _ I6 (q a)) (fun f s6 q6=>?_) fun _ _ z=>by
   have z':X.xe _ _:=z
   rw [hx] at z';exact z'.elim
  cases f with
  | next =>
   obtain ⟨σ7,H7,I7,q7⟩:=q6
   exact name_goes (I7.outX I.ok) hN hi hk fun s8 I8=>⟨_,H7,I8,q7⟩
  | ret u =>
   obtain ⟨v,σ7,H7,I7,rv,q7⟩:=q6
   exact name_goes (I7.outX I.ok) hN hi hk fun s8 I8=>⟨v,_,H7,I8,rv,q7⟩
  | brk =>
   obtain ⟨σ7,H7,I7,q7⟩:=q6
   exact name_goes (I7.outX I.ok) hN hi hk fun s8 I8=>⟨_,H7,I8,q7⟩
  | cont =>
   obtain ⟨σ7,H7,I7,q7⟩:=q6
   exact name_goes (I7.outX I.ok) hN hi hk fun s8 I8=>⟨_,H7,I8,q7⟩
end
end L2
namespace L2
open PySem PySem.Spec
structure qG (K:PySem.W.Frag) (C R fI:Addr):Prop where
 cl:nA K C R fI
 ga:PySem.W.findIn K (.ref C) "__getattribute__"=some (some (.builtin "BaseException.__getattribute__"))
 gh:PySem.W.findIn K (.ref C) "__getattr__"=some none
 kl:PySem.W.findIn K (.ref C) "__class__"=some (some (.builtin "object.__class__"))
section
variable {prog:Program} {w:World} {A:Around} {E:Value->Shared->Prop} {h:Heap} {g:Array GenState} {d:Drawn} {t:Nat} {os:OsState} {K:PySem.W.Frag} {a C R fI:Addr} {o:Obj}
theorem vA:ExcAttrFacts "ValueError":=PySem.F.excAttr_ValueError
theorem HC {M:Model} {A':Around} {E':Value->Shared->Prop} {Q':Option Value->Shared->Prop} {t':Nat} {n:Str} {r:Option Value} (KX:K.In h) (e:PySem.W.findIn K (.ref C) n=some r) (q:Q' r ⟨h,g,d,t',os⟩):wpAny M A' (typeLookup (.ref C) n) Q' E' ⟨h,g,d,t',os⟩:=(PySem.W.looks_findIn KX e).here q
theorem LX {M:Model} {nameV:Value} {Q:Unit->Shared->Prop} (KX:K.In h) (c:qG K C R fI) (hx:h.get? a=some o) (hc:o.cls=.ref C) (hq:Q () ⟨h,g,d,t,os⟩):wpAny M A (checkBuiltinCall "BaseException.__getattribute__" ⟨[.ref a,nameV],[]⟩) Q E ⟨h,g,d,t,os⟩:=by
 obtain ⟨nm,qq,N,bs,sn,sub,ab,col,dd,k0,k1,k2,k3,k5,hC⟩:=c.cl.obj
 have hC:=KX _ _ hC
 have hk:builtinKind "BaseException.__getattribute__"=some .slot:=by decide +kernel
 have hsplit:splitId "BaseException.__getattribute__"=some ("BaseException","__getattribute__"):=by decide +kernel
 have hcB:(Value.ref C :: pM R).contains (.type "BaseException")=true:=by rw [List.contains_cons];rfl
 have ha:=F.args_bexc_ga (.ref a) nameV
 simp only [checkBuiltinCall,hk,hsplit]
 refine wpAny_bind ?_
 ·unfold isInstance
  repeat (first | (with_reducible refine wpAny_loadPart_at hx ?_;rw [hc]) | (with_reducible refine wpAny_isSubtype_exc hC ?_;rw [hcB]) | wp_step)
  exact hq
theorem Xd {tk:Tok} {fill expr:Bool} {n:Str} {v:Value} {Q:Value->Shared->Prop} (KX:K.In h) (c:qG K C R fI) (hx:h.get? a=some o) (hc:o.cls=.ref C) (hh:∀ id,v≠.builtin id)
  (hg:∀ {A':Around} {E':Value->Shared->Prop} {Q':Fin->Shared->Prop},Q' (.done (.ret v)) ⟨h,g,d,t,os⟩->wpAny (model prog w) A' (Builtin.«object.__getattribute__» ⟨[.ref a,.str n tk],[]⟩) Q' E' ⟨h,g,d,t,os⟩)
  (hq:Q v ⟨h,g,d,t,os⟩):wpAny (model prog w) A (getAttrBy (.ref a) (.str n tk) fill expr) Q E ⟨h,g,d,t,os⟩:=by
 have f3:=vA.ga.bind (.ref a)
 have hx0:(expr && onTheHeap (Value.builtin "BaseException.__getattribute__"))=false:=by cases expr <;> rfl
 have hx2:(Value.builtin "BaseException.__getattribute__" == Value.builtin "object.__getattribute__")=false:=by decide +kernel
 have hx1:(onTheHeap (Value.ref C) && Value.builtin "BaseException.__getattribute__" == Value.builtin "object.__getattribute__")=false:=by rw [hx2];rfl
 repeat (any_goals (first | assumption | (with_reducible refine wpAny_loadPart_at hx ?_;rw [hc]) | with_reducible refine HC KX c.ga ?_ | with_reducible refine HC KX c.gh ?_ | wp_step))
 refine codeAny_call_builtin vA.ga.plain F.entry_bexc_ga (LX KX c hx hc (hg ?_))
 repeat (any_goals (first | assumption | wp_step))
 cases v <;> first | exact wpAny_pure hq | exact absurd rfl (hh _)
theorem LO {Q:Fin->Shared->Prop} {tk:Tok} {n:Str} {dx:Addr} {m:Str->Option Value} {v:Value} (KX:K.In h) (c:qG K C R fI) (hn:PySem.W.findIn K (.ref C) n=some none) (hx:h.get? a=some o) (hc:o.cls=.ref C) (hd:o.dict=some dx) {vs:Array Value} (hdt:o.data=.fields vs) (hm:h.Ns dx m) (hv:m n=some v)
  (hq:Q (.done (.ret v)) ⟨h,g,d,t,os⟩):wpAny (model prog w) A (Builtin.«object.__getattribute__» ⟨[.ref a,.str n tk],[]⟩) Q E ⟨h,g,d,t,os⟩:=by
 unfold Builtin.«object.__getattribute__»
 repeat (any_goals (first | assumption | (with_reducible refine wpAny_loadPart_at hx ?_;first | rw [hc] | rw [hd]) | with_reducible refine HC KX hn ?_ | (with_reducible refine wpAny_nsGet hm ?_;rw [hv]) | wp_step))
 rw [hdt]
 show wpAny _ _ (instanceDict a false) _ _ _
 unfold instanceDict
 repeat (any_goals (first | assumption | (with_reducible refine wpAny_loadPart_at hx ?_;first | rw [hc] | rw [hd]) | (with_reducible refine wpAny_load hx ?_;first | rw [hc] | rw [hd]) | (with_reducible refine wpAny_nsGet hm ?_;rw [hv]) | wp_step))
 obtain ⟨nm,qq,N,bs,sn,sub,ab,col,dd,k0,k1,k2,k3,k5,hC⟩:=c.cl.obj
 have hC:=KX _ _ hC
 refine wpAny_load hC (wpAny_pure ?_)
 show wpAny _ _ (match o.dict with | some d=>pure (some d) | none=>_) _ _ _
 rw [hd]
 refine wpAny_pure ?_
 show wpAny _ _ (Builtin.ObjectAttr.inDict n (some dx)) _ _ _
 unfold Builtin.ObjectAttr.inDict
 repeat (any_goals (first | assumption | (with_reducible refine wpAny_nsGet hm ?_;rw [hv]) | wp_step))
theorem Wh {n:Str} {dx:Addr} {m:Str->Option Value} {v:Value} {expr:Bool} {Q:Value->Shared->Prop} (KX:K.In h) (c:qG K C R fI) (hn:PySem.W.findIn K (.ref C) n=some none) (hx:h.get? a=some o) (hc:o.cls=.ref C) (hd:o.dict=some dx) {vs:Array Value} (hdt:o.data=.fields vs) (hm:h.Ns dx m) (hv:m n=some v)
  (hh:∀ id,v≠.builtin id) (hq:Q v ⟨h,g,d,t + 1,os⟩):wpAny (model prog w) A (getAttr (.ref a) n expr) Q E ⟨h,g,d,t,os⟩:=by
 unfold getAttr
 repeat (any_goals (first | assumption | with_reducible apply Xd (t:=t + 1) KX c hx hc hh (fun q=>LO KX c hn hx hc hd hdt hm hv q) | wp_step))
end
end L2
namespace U2
open PySem PySem.Spec L2
abbrev Aq:=Addr->List (Str × U)->SU->aF->Prop
abbrev WM:=Addr->List (Str × U)->aF->Prop
abbrev gH:=mH->Aq->SU->aF->Prop
abbrev sA:=SU->aF->UK->Aq->Prop
abbrev jL:=List U->aF->UK->WM->Prop
def kM:U->Option V
 | .non=>some .non
 | .bl b=>some (.bl b)
 | .int i=>some (.int i)
 | .str x=>some (.str x)
 | _=>none
def IW (fs':List (Str × U)) (fs:List (Str × V)):Prop:=Paired (fun (p:Str × U) (q:Str × V)=>p.1=q.1/\kM p.2=some q.2) fs' fs
def Aa (K:PySem.W.Frag) (H:Hp) (M:aF) (E':Aq) (E:XS):Prop:=∀ C fs' fs σ τ H1 M1 d,aX H M H1 M1->RelM K H1 M1->cL K H1 M1 σ τ->IW fs' fs->H1 d=none->E' C fs' τ M1->E (.ref C) (some d) σ (upd H1 d (.xd fs))
def Ws (K:PySem.W.Frag) (H:Hp) (M:aF) (E':WM) (E:XK):Prop:=∀ C fs' fs H1 M1 d,aX H M H1 M1->RelM K H1 M1->IW fs' fs->H1 d=none->E' C fs' M1->E (.ref C) (some d) (upd H1 d (.xd fs))
theorem Aa.stp {K:PySem.W.Frag} {H H1:Hp} {M M1:aF} {E':Aq} {E:XS} (c:Aa K H M E' E) (st:aX H M H1 M1):Aa K H1 M1 E' E:=fun C fs' fs σ τ H2 M2 d s=>c C fs' fs σ τ H2 M2 d (st.trans s)
def wI (K:PySem.W.Frag) (t:j5) (t':gH):Prop:=∀ (σ:St) (τ:SU) (H:Hp) (M:aF) (D':mH) (E':Aq),cL K H M σ τ->RelM K H M->t' D' E' τ M->∀ (D:Ends) (E:XS),Ej K H M D D'->Aa K H M E' E->t D E σ H
def Wa (K:PySem.W.Frag) (t:Mo) (t':sA):Prop:=∀ (σ:St) (τ:SU) (H:Hp) (M:aF) (Q':UK) (E':Aq),cL K H M σ τ->RelM K H M->t' τ M Q' E'->∀ (Q:VK) (E:XS),cK K H M Q' Q->Aa K H M E' E->t σ H Q E
def rV (D:Dat) (e:Expr) (t':sA):Prop:=∃ t,(∀ X,kN D X->xE X e t)/\Wa D.K t t'
def rX (D:Dat) (s:Stmt) (t':gH):Prop:=∃ t,(∀ X,kN D X->uB X s t)/\wI D.K t t'
def nY (D:Dat) (s:List Stmt) (t':gH):Prop:=∃ t,(∀ X,kN D X->lR X s t)/\wI D.K t t'
def qW (K:PySem.W.Frag) (sp:jL):Sp:=fun vs H Q E=>∃ us M Q' E',RelM K H M/\aI K H M us vs/\sp us M Q' E'/\cK K H M Q' Q/\Ws K H M E' E
section
variable {D:Dat} {e:Expr} {te:UE} {tx:sA} {st:Stmt} {rest a b:List Stmt} {t u:US} {t' u':gH} {pos:Pos}
def Al (t:US):gH:=fun De _ τ M=>t De τ M
theorem cG (h:tH D st t):rX D st (Al t):=let ⟨_,p,s⟩:=h;⟨_,fun X h=>Vm h.xe (p X h),fun σ τ H M D' E' rs rm q D E d _=>s σ τ H M D' rs rm q D d⟩
theorem kY (h:oC D rest t):nY D rest (Al t):=let ⟨_,p,s⟩:=h;⟨_,fun X h=>Rm h.xe (p X h),fun σ τ H M D' E' rs rm q D E d _=>s σ τ H M D' rs rm q D d⟩
def DD (t u:gH):gH:=fun De E τ M=>t { De with nx:=u De E } E τ M
theorem aZ (h1:rX D st t') (h2:nY D rest u'):nY D (st :: rest) (DD t' u'):=let ⟨_,p,s⟩:=h1;let ⟨_,q,r⟩:=h2;⟨_,fun X h=>Mt (p X h) (q X h),fun σ τ H M D' E' rs rm z D E d c =>
 s σ τ H M _ E' rs rm z _ E ⟨fun σ1 τ1 H1 M1 s1 rm1 rs1 q1=>r σ1 τ1 H1 M1 D' E' rs1 rm1 q1 D E (d.stp s1) (c.stp s1),d.rt,d.bk,d.ct⟩ c⟩
theorem cF (h1:rX D st t'):nY D [st] t':=let ⟨_,p,s⟩:=h1;⟨_,fun X h=>EZ (p X h),s⟩
def Sb (c:UT) (t u:gH):gH:=fun De E τ M=>c τ M fun b M1=>if b=true then t De E τ M1 else u De E τ M1
theorem mG {c:Expr} {tc:UT} (hc:pH D c tc) (ha:nY D a t') (hb:nY D b u'):rX D (.If c a b pos) (Sb tc t' u'):=by
 obtain ⟨_,p,s⟩:=ha;obtain ⟨_,q,r⟩:=hb;obtain ⟨_,x,y⟩:=hc
 refine ⟨_,fun X h=>SD h.xe (x X h) (p X h) (q X h),fun σ τ H M D' E' rs rm z D E d c=>y σ τ H M _ rs rm z _ fun b M1 H1 s1 rm1 q1=>?_⟩
 cases b with
 | true=>exact s σ τ H1 M1 D' E' (rs.stp s1) rm1 q1 D E (d.stp s1) (c.stp s1)
 | false=>exact r σ τ H1 M1 D' E' (rs.stp s1) rm1 q1 D E (d.stp s1) (c.stp s1)
def rD (tx:sA):gH:=fun De E τ M=>tx τ M (fun _ M1=>De.nx τ M1) E
theorem uX (he:rV D e tx) (hs:∀ env,swapsWith e none pos.line env=pure false:=by intro _;rfl):rX D (.Expr e pos) (rD tx):=let ⟨_,p,s⟩:=he;⟨_,fun X h=>Ng (p X h) (hs _),fun σ τ H M D' E' rs rm z D E d c =>
 s σ τ H M _ E' rs rm z _ E (fun u v M1 H1 s1 rm1 ru q=>d.nx σ τ H1 M1 s1 rm1 (rs.stp s1) q) c⟩
def PL (tx:sA):gH:=fun De E τ M=>tx τ M De.rt E
theorem TC (he:rV D e tx):rX D (.Return (some e) pos) (PL tx):=let ⟨_,p,s⟩:=he;⟨_,fun X h=>Qt (p X h),fun σ τ H M D' E' rs rm z D E d c =>
 s σ τ H M _ E' rs rm z _ E (fun u v M1 H1 s1 rm1 ru q=>d.rt u v H1 M1 s1 rm1 ru q) c⟩
def nG (tx:sA) (i:Nat):gH:=fun De E τ M=>tx τ M (fun u M1=>De.nx (τ.set i (some u)) M1) E
theorem lV (i:Nat) {x:Str} {pos':Pos} (hN:D.N.Nodup) (he:rV D e tx) (hi:D.N[i]?=some x:=by rfl) (hx:Loc D.sc x:=by first | exact Or.inl rfl | exact Or.inr rfl) (hs:∀ env,swapsWith e (some (.Name x pos')) pos.line env=pure false:=by intro _;rfl)
  (hf:D.fn=true\/D.sc.names.lookup x=some .local:=by first | exact .inl rfl | exact .inr rfl):rX D (.Assign [.Name x pos'] e pos) (nG tx i):=by
 obtain ⟨_,p,s⟩:=he
 exact ⟨_,fun X h=>P7 (i:=i) (by rw [h.N];exact hN) (by rw [h.N];exact hi) (by rw [h.sc];exact hx) (p X h) (hs _) (by rcases hf with z | z;exact .inl (h.fn z x);exact .inr (by rw [h.sc];exact z)),fun σ τ H M D' E' rs rm z D E d c =>
  s σ τ H M _ E' rs rm z _ E (fun u v M1 H1 s1 rm1 ru q=>d.nx _ _ H1 M1 s1 rm1 ((rs.stp s1).set ru) q) c⟩
structure bY (P:Program) (w:World) (K:PySem.W.Frag) (mg:Str->Option Value) (base:Heap) (j:Nat) (x:Str) (sp:jL) (dus:List U):Prop where
 ex:∃ f fd ps dvs ds,fJ P w K mg base (sZ P w) j f fd ps (qW K sp)/\mg x=some (.ref f)/\PySem.W.keepIn K (.ref f)=true/\Binds K fd ps ds/\Vals dvs ds/\∀ H M,aI K H M dus dvs
abbrev WV (D:Dat):=bY D.prog D.w D.K D.mg D.base
def A9 (sp:jL) (dus:List U) (t:UA):sA:=fun τ M Q E=>t τ M fun us M1=>sp (us++dus) M1 Q fun C fs M2=>E C fs τ M2
theorem eT {sp:jL} {dus:List U} {j:Nat} {x:Str} {p:Pos} {es:List Expr} {tas:UA} (F:WV D j x sp dus) (ha:kS D (e :: es) tas) (hfn:D.fn=true:=by rfl) (hj:j<=D.k:=by first | exact Nat.le_refl _ | (dsimp only;omega) | omega) (hg:D.sc.names.lookup x=some .globalImplicit:=by rfl) (hdb:(x == ("__debug__":Str))=false:=by decide)
  (he:∀ env,starEach (e :: es) env=(false,eval e env) :: starEach es env:=by intro _;rfl) (hpl:∀ env,(backTo pos (starEach es env)).any (·.1)=false:=by intro _;rfl):rV D (.Call (.Name x p) (e :: es) [] pos) (A9 sp dus tas):=by
 obtain ⟨f,fd,ps,dvs,ds,F,hm,kp,hb,hd,hr⟩:=F.ex
 obtain ⟨_,q,s⟩:=ha
 refine ⟨PX (qW D.K sp) dvs _,fun X h=>?_,fun σ τ H M Q' E' rs rm z Q E c cx=>s σ τ H M _ rs rm z _ fun us vs M1 H1 s1 rm1 ru h1 =>
  ⟨us++dus,M1,Q',_,rm1,ru.append (hr _ _),h1,cK.stp c s1,fun C fs' fs H2 M2 d s2 rm2 ra hd q=>cx C fs' fs σ τ H2 M2 d (s1.trans s2) rm2 (rs.stp (s1.trans s2)) ra hd q⟩⟩
 have F':fJ X.prog X.w X.K X.mg X.base (sZ X.prog X.w) j f fd ps (qW D.K sp):=by rw [h.prog,h.w,h.K,h.mg,h.base];exact F
 exact Nw h.xe (h.dl hfn).1 F' (h.room.mono hj) (by show X.env.scope.names.lookup x=_;rw [h.sc];exact hg) (by rw [h.mg];exact hm) (by rw [h.K];exact kp) (by rw [h.K];exact hb) hd (q X h) hdb (he _) (hpl _)
theorem CH {K:PySem.W.Frag} {H:Hp} {M:aF} {u:U} {v v':V} (e:kM u=some v') (r:aP K H M u v):v=v'/\∀ H M,aP K H M u v':=by
 cases u with
 | non=>cases e;exact ⟨r.non,fun _ _=>jZ⟩
 | bl b=>cases e;exact ⟨r.bl,fun _ _=>cY⟩
 | int i=>cases e;exact ⟨r.int,fun _ _=>dQ⟩
 | str x=>cases e;exact ⟨r.str,fun _ _=>fZ⟩
 | _=>cases e
structure qD (P:Program) (w:World) (K:PySem.W.Frag) (mg:Str->Option Value) (base:Heap) (j:Nat) (cn:Str) (C:Addr) (attr:Str) (cond:V->Prop):Prop where
 ex:∃ R fI fd par,qG K C R fI/\mg cn=some (.ref C)/\n5 P w K mg base jF j fI fd ["self",par] (lT C attr cond)/\Binds K fd ["self",par] []
def lA (C:Addr) (attr:Str) (cond:V->Prop) (te:UE):gH:=fun _ E τ M=>te τ M fun u M1=>(∃ v,kM u=some v/\cond v)/\E C [(attr,u)] τ M1
theorem i6 {j:Nat} {cn attr:Str} {C:Addr} {cond:V->Prop} {np cpos:Pos} (c:qD D.prog D.w D.K D.mg D.base j cn C attr cond) (he:bC D e te) (hfn:D.fn=true:=by rfl) (hj:j + 1<=D.k:=by first | exact Nat.le_refl _ | (dsimp only;omega) | omega) (hg:D.sc.names.lookup cn=some .globalImplicit:=by rfl) (hdb:(cn == ("__debug__":Str))=false:=by decide)
  (hs:∀ env,starEach [e] env=[(false,eval e env)]:=by intro _;rfl):rX D (.Raise (some (.Call (.Name cn np) [e] [] cpos)) none pos) (lA C attr cond te):=by
 obtain ⟨R,fI,fd,par,cc,hm,F,hb⟩:=c.ex
 obtain ⟨_,p,s⟩:=he
 refine ⟨Lc D.K C attr cond _,fun X h=>?_,fun σ τ H M D' E' rs rm z Q E d cx=>s σ τ H M _ rs rm z _ fun u v M1 H1 s1 rm1 ru ⟨⟨v',e1,e2⟩,q⟩=>?_⟩
 ·have cc':nA X.K C R fI:=by rw [h.K];exact cc.cl
  have F':n5 X.prog X.w X.K X.mg X.base jF j fI fd ["self",par] (lT C attr cond):=by rw [h.prog,h.w,h.K,h.mg,h.base];exact F
  have:=Mm (pos:=pos) (np:=np) (cpos:=cpos) h.xe (h.dl hfn).1 h.calm cc' F' (h.room.h.mono hj) (by rw [h.K];exact hb) (by show X.env.scope.names.lookup cn=_;rw [h.sc];exact hg) (by rw [h.mg];exact hm) (p X h) hdb (hs _)
  exact this
 ·obtain ⟨rfl,r⟩:=CH e1 ru
  exact ⟨e2,fun d hd=>cx C [(attr,u)] [(attr,v)] σ τ H1 M1 d s1 rm1 (rs.stp s1) (.cons ⟨rfl,e1⟩ .nil) hd q⟩
end
section
variable {P:Program} {w:World} {K:PySem.W.Frag} {mg:Str->Option Value} {base:Heap}
theorem eD {x:Str} {st:Stmt} {f:Addr} {fd:FuncData} {N ps:List Str} {k:Nat} {sp:jL} {t:gH} (F:cE K x x st f fd) (hm:mg x=some (.ref f)) (S:aV N ps (aD st))
  (bind:∀ (kV doc pm:Value) (an:Option Addr) (cdv ct:Value) (us:List Value),us.length=ps.length->bindArgs (PySem.W.fnOf x x (aY st) (aS st) (aD st) .none kV doc pm an cdv ct) ⟨us,[]⟩=pure (ps.zip us))
  (len:∀ us M Q E,sp us M Q E->us.length=ps.length)
  (h:nY ⟨P,w,K,mg,base,N,aD st,k,true,.none,""⟩ (aS st) t)
  (q:∀ us M Q E,sp us M Q E->t { nx:=fun _ M'=>iG Q .non M',rt:=iG Q } (fun C fs _ M1=>∃ M',Sub M' M1/\E C fs M') (dH N us) M):bY P w K mg base (k + 1) x sp []:=by
 obtain ⟨t0,h1,h2⟩:=h
 refine ⟨f,fd,ps,[],[],F.okX S (fun vs H Q E ⟨us,M,Q',E',_,r,hs,_⟩=>by rw [<- r.length];exact len us M Q' E' hs) (fun cdv A outer s H vs Q E hr ⟨us,M,Q',E',rm,r,hs,c,cx⟩=>?_),hm,F.kp,F.binds bind,.nil,fun H M=>.nil⟩
 refine ⟨t0,h1 _ ⟨rfl,rfl,rfl,rfl,rfl,rfl,rfl,hr,rfl,rfl,fun _ _=>rfl,fun h=>absurd rfl h,fun _=>⟨rfl,rfl,rfl⟩⟩,?_⟩
 refine h2 _ (dH N us) H M _ _ (tB r) rm (q us M Q' E' hs) _ _ ⟨fun σ τ H1 M1 s1 rm1 rs1 q1=>?_,fun u v H1 M1 s1 rm1 ru q1=>iG.ok c s1 rm1 ru q1,fun _ _ _ _ _ _ _ z=>z.elim,fun _ _ _ _ _ _ _ z=>z.elim⟩ fun C fs' fs σ τ H1 M1 d s1 rm1 rs1 ra hd ⟨M',sb,q1⟩=>?_
 ·exact iG.ok c s1 rm1 jZ q1
 ·exact cx C fs' fs H1 M' d (s1.trans sb.less) (rm1.sub sb) ra hd q1
end
end U2
namespace U2
open PySem PySem.Spec L2
structure JA (D:Dat) (a C d:Addr) (fs:List (Str × V)) (X:Cx):Prop where
 prog:X.prog=D.prog
 w:X.w=D.w
 K:X.K=D.K
 mg:X.mg=D.mg
 N:X.N=D.N
 sc:X.env.scope=D.sc
 fn:D.fn=true->∀ x,X.fn x=true
 exc:∃ oe od,(a,oe)∈X.pn/\(d,od)∈X.pn/\oe.cls=.ref C/\oe.dict=some d/\(∃ vs,oe.data=.fields vs)/\Dz od fs
def SM:V->U
 | .non=>.non
 | .bl b=>.bl b
 | .int i=>.int i
 | .str x=>.str x
 | .ref a=>.ref a
 | .ty n=>.ty n
 | _=>.lst []
def nR (fs:List (Str × V)):List (Str × U):=fs.map fun p=>(p.1,SM p.2)
theorem Ij {u:U} {v:V} (e:kM u=some v):u=SM v:=by
 cases u <;> first | (cases e;rfl) | cases e
theorem IW.eq {fs':List (Str × U)} {fs:List (Str × V)} (r:IW fs' fs):fs'=nR fs:=by
 induction r with
 | nil=>rfl
 | cons h _ ih =>
  rename_i p q _ _ _
  obtain ⟨p1,p2⟩:=p
  obtain ⟨q1,q2⟩:=q
  obtain ⟨h1,h2⟩:=h
  dsimp only at h1 h2
  rw [ih,h1,Ij h2]
  rfl
def Kh (D:Dat) (a C:Addr) (fs':List (Str × U)) (e:Expr) (t':UE):Prop:=∃ t,(∀ X d fs,nR fs=fs'->JA D a C d fs X->PE X e t)/\bV D.K t t'
def WN (D:Dat) (a C:Addr) (fs':List (Str × U)) (s:Stmt) (t':US):Prop:=∃ t,(∀ X d fs,nR fs=fs'->JA D a C d fs X->PS X s t)/\jX D.K t t'
def TF (D:Dat) (a C:Addr) (fs':List (Str × U)) (s:List Stmt) (t':US):Prop:=∃ t,(∀ X d fs,nR fs=fs'->JA D a C d fs X->mZ X s t)/\jX D.K t t'
section
variable {D:Dat} {a0 C:Addr} {F:List (Str × U)} {e:Expr} {te:UE} {es:List Expr} {tas:UA} {pos:Pos} {st:Stmt} {sts:List Stmt} {t u:US}
theorem PR (i:Nat) {x:Str} (hN:D.N[i]?=some x:=by rfl) (hv:A7 D.sc x:=by first | exact Or.inl rfl | exact Or.inr (Or.inl rfl) | exact Or.inr (Or.inr rfl)) (hd:(x == ("__debug__":Str))=false:=by decide)
  (hcd:(x == ("__classdict__":Str))=false:=by decide):Kh D a0 C F (.Name x pos) (jR i) :=
 ⟨_,fun X _ _ _ h=>nH (by rw [h.N];exact hN) (by rw [h.sc];exact hv) hd hcd,y7 i⟩
theorem VB (i:Nat) {x:Str} {pos':Pos} (hN:D.N.Nodup) (he:Kh D a0 C F e te) (hi:D.N[i]?=some x:=by rfl) (hx:Loc D.sc x:=by first | exact Or.inl rfl | exact Or.inr rfl) (hs:∀ env,swapsWith e (some (.Name x pos')) pos.line env=pure false:=by intro _;rfl)
  (hf:D.fn=true\/D.sc.names.lookup x=some .local:=by first | exact .inl rfl | exact .inr rfl):WN D a0 C F (.Assign [.Name x pos'] e pos) (bJ te (hName i)):=by
 obtain ⟨_,p,s⟩:=he
 exact ⟨_,fun X d fs r h=>LM (i:=i) (by rw [h.N];exact hN) (by rw [h.N];exact hi) (by rw [h.sc];exact hx) (p X d fs r h) (hs _) (by rcases hf with z | z;exact .inl (h.fn z x);exact .inr (by rw [h.sc];exact z)),zH s (tF i)⟩
theorem Us (h1:WN D a0 C F st t):TF D a0 C F [st] t:=let ⟨_,p,s⟩:=h1;⟨_,fun X d fs r h=>B2 (p X d fs r h),s⟩
def HD:V->Value
 | .ref a=>.ref a
 | .ty n=>.type n
 | _=>.none
theorem MI {v:V} {u:Value} (r:RelV v u) (n:HD v≠.none):u=HD v:=by
 cases v <;> first | exact r | exact absurd rfl n
theorem LU:∀ {vs:List V} {us:List Value},Vals vs us->(∀ v∈vs,HD v≠.none)->us=vs.map HD
 | _,_,.nil,_=>rfl
 | _,_,.cons r t,n=>by rw [MI r (n _ List.mem_cons_self),LU t fun v hv=>n v (List.mem_cons_of_mem _ hv)];rfl
def TH (i:Nat) (Cn:Addr) (K:PySem.W.Frag) (tb:gH) (th:Addr->Addr->List (Str × U)->US):US:=fun De τ M=>tb De (fun C fs τ' M'=>PySem.W.subIn K (.ref C) (.ref Cn)=some true /\
 ∀ a,th a C fs { nx:=fun τ M=>De.nx (τ.set i none) M,rt:=De.rt,bk:=fun τ M=>De.bk (τ.set i none) M,ct:=fun τ M=>De.ct (τ.set i none) M } (τ'.set i (some (.ref a))) M') τ M
theorem cL.setNone {K:PySem.W.Frag} {H:Hp} {M:aF} {σ:St} {τ:SU} {i:Nat} (r:cL K H M σ τ):cL K H M (σ.set i none) (τ.set i none):=by
 refine ⟨by simp [r.1],fun j w e=>?_⟩
 rw [List.getElem?_set] at e ⊢
 split at e
 ·split at e <;> cases e
 ·rename_i hj
  rw [if_neg hj]
  exact r.2 j w e
theorem S7 (i:Nat) {n cn:Str} {Cn:Addr} {body suite:List Stmt} {b₀:Stmt} {tb:gH} {th:Addr->Addr->List (Str × U)->US} {cp hp:Pos} (hN:D.N.Nodup) (hm:D.mg cn=some (.ref Cn)) (hc:AF D.K Cn) (hbody:nY D body tb) (hh:∀ a C fs,TF D a C fs (b₀ :: suite) (th a C fs))
  (hi:D.N[i]?=some n:=by rfl) (hk:D.sc.names.lookup n=some .local:=by rfl) (hg:D.sc.names.lookup cn=some .globalImplicit:=by rfl) (hfn:D.fn=true:=by rfl) (hdb:(cn == ("__debug__":Str))=false:=by decide) :
  tH D (.Try body [.ExceptHandler (some (.Name cn cp)) (some n) (b₀ :: suite) hp] [] [] pos) (TH i Cn D.K tb th):=by
 obtain ⟨t0,p,s⟩:=hbody
 refine ⟨Vg i Cn D.K t0 (fun a C d fs=>(hh a C (nR fs)).choose),fun X h=>?_,fun σ τ H M D' rs rm z De d=>s σ τ H M D' _ rs rm z De _ d ?_⟩
 ·have hd:=h.dl hfn
  have:=S8 (i:=i) (b₀:=b₀) (suite:=suite) (pos:=pos) (hp:=hp) (cp:=cp) (th:=fun a C d fs=>(hh a C (nR fs)).choose) h.xe hd.1 hd.2.1 hd.2.2 (by rw [h.N];exact hN) (by rw [h.N];exact hi) (by rw [h.sc];exact hk) (p X h) (by show X.env.scope.names.lookup cn=_;rw [h.sc];exact hg) (by rw [h.mg];exact hm) (by rw [h.K];exact hc) (fun a C d fs oe od o1 o2 o3 o4=>?_) hdb
  ·rw [h.K] at this
   exact this
  ·refine (hh a C (nR fs)).choose_spec.1 _ d fs rfl ⟨h.prog,h.w,h.K,h.mg,h.N,h.sc,h.fn,oe,od,?_,?_,o1,o2,o3,o4⟩
   ·exact List.mem_append_right _ List.mem_cons_self
   ·exact List.mem_append_right _ (List.mem_cons_of_mem _ List.mem_cons_self)
 ·intro C fs' fs σ1 τ1 H1 M1 d1 s1 rm1 rs1 ra Hb ⟨q1,q2⟩ C' d' H' fsx e1 e2 e3 e4
  cases e1;cases e2
  have e5:fsx=fs:=by
   have:=congrFun e3 d1
   rw [bT,bT] at this
   cases this;rfl
  have e6:H'=H1:=by
   funext b
   by_cases hb:b=d1
   ·rw [hb,Hb,e4]
   ·have:=congrFun e3 b
    rw [bE hb,bE hb] at this
    exact this.symm
  subst e5;subst e6
  refine ⟨q1,fun a=>?_⟩
  have q3:=q2 a
  rw [ra.eq] at q3
  refine (hh a C (nR fsx)).choose_spec.2 _ _ H' M1 _ (rs1.set rQ) rm1 q3 _ ⟨fun σ2 τ2 H2 M2 s2 rm2 rs2 q=>?_,fun u v H2 M2 s2 rm2 ru q=>?_,fun σ2 τ2 H2 M2 s2 rm2 rs2 q=>?_,fun σ2 τ2 H2 M2 s2 rm2 rs2 q=>?_⟩
  ·exact d.nx _ _ H2 M2 (s1.trans s2) rm2 rs2.setNone q
  ·exact d.rt u v H2 M2 (s1.trans s2) rm2 ru q
  ·exact d.bk _ _ H2 M2 (s1.trans s2) rm2 rs2.setNone q
  ·exact d.ct _ _ H2 M2 (s1.trans s2) rm2 rs2.setNone q
end
end U2
namespace L2
open PySem PySem.Spec
section
variable {X:Cx}
theorem Pf {pins:List (Addr × Obj)} {E:XS} (hex:X.ex=[]) (hst:X.stack=X.env :: X.outer) (hf:X.env.frame=some X.env.locals):PassesOwn (model X.prog X.w) X.A X.env (XP X pins E):=by
 rintro e s' ⟨a,C,d,fs,σ',H',rfl,I,r,q⟩
 refine Jm I hst hf hex r fun s1 eo I1 r1 ⟨oe,vs,T,g1,g2,g3⟩=>?_
 refine wpAny_bind (wpAny_field g1 g2 g3 ?_)
 rw [if_neg (show ¬ ((Value.ref T == Value.none)=true) from by simp),hf]
 exact x6 (some X.env.locals) I1 hex r1 fun s2 I2 r2=>⟨a,C,d,fs,σ',H',rfl,I2,r2.imp (fun v e=>.inr e) (Nat.le_refl _) fun _ z=>z,q⟩
theorem XP.unpin {pins pl:List (Addr × Obj)} {E:XS} {e:Value} {s:Shared} (x:XP X (pins++pl) E e s):XP X pins E e s:=by
 obtain ⟨a,C,d,fs,σ',H',rfl,I,r,q⟩:=x
 refine ⟨a,C,d,fs,σ',H',rfl,I.unpinned,r.imp (fun _ z=>z) (Nat.le_refl _) fun b ⟨n1,n2,n3,n4⟩=>⟨n1,n2,n3,fun p hp=>n4 p ?_⟩,q⟩
 rcases List.mem_append.mp hp with h | h
 ·exact List.mem_append_left _ h
 ·exact List.mem_append_right _ (List.mem_append_left _ h)
def Sl (wi:TI) (g:TG) (tb:j5):j5:=fun D E σ H=>Oi wi g (fun D' σ H=>tb D' E σ H) D σ H
theorem Rh {tg iter:Expr} {body:List Stmt} {wi:TI} {g:TG} {tb:j5} {pos:Pos} (hx:sS X) (hex:X.ex=[]) (hst:X.stack=X.env :: X.outer) (hf:X.env.frame=some X.env.locals) (hc:X.calm=true) (hi:PI X tg iter wi) (hg:PG X tg g) (hb:lR X body tb)
  (hs:∀ x,foldedSetIterable iter X.env x=pure x:=by intro _;rfl):uB X (.For tg iter body [] pos) (Sl wi g tb):=by
 intro pins s σ H D E I h
 have no:∀ {α:Type} {t:Sem α} {Q:α->Shared->Prop} {s:Shared},wpAny (model X.prog X.w) X.A t Q X.xe s->wpAny (model X.prog X.w) X.A t Q (XP X pins E) s:=fun z=>wpAny_mono z (fun _ _ y=>y) fun _ _ y=>by rw [hx] at y;exact y.elim
 have hp:PassesOwn (model X.prog X.w) X.A X.env (XP X pins E):=Pf hex hst hf
 refine wpAny_For (bB (no (hi pins s σ H _ I h)) fun v s1 h1=>bB (no h1) fun itv s2 h2=>?_) hs
 obtain ⟨it,fp,tn,J,H2,e,I2,T,st2,f2,W,⟨m0,w0⟩,turn⟩:=h2
 subst e
 have stat:∀ {H':Hp},(∀ b∈fp,H' b=none)->∀ b∈fp,tO X pins H' b:=fun hn b hb=>⟨hn b hb,(f2 b hb).2⟩
 refine codeAny_forLoop_any (fun n s'=>∃ i σ' H',Inv X pins σ' H' s'/\tn i s'.heap/\(∀ b∈fp,H' b=none)/\W i n σ' H') ?_ m0 ⟨0,σ,H2,I2,st2,fun b hb=>(f2 b hb).1,w0⟩
 rintro n s3 ⟨i,σ3,H3,I3,st3,fr3,w3⟩
 rcases turn i n σ3 H3 w3 with ⟨stop,qn⟩ | ⟨go,N,hN,step⟩
 ·refine wpAny_passesOwn hp (bB (no (T.done X rfl rfl rfl hc i pins s3 σ3 H3 X.xe I3 (stat fr3) st3 stop)) fun r s4 ⟨hr,I4⟩=>?_)
  subst hr
  exact wpAny_execs_nil ⟨σ3,H3,I4,qn⟩
 ·refine wpAny_passesOwn hp (bB (no (T.item X rfl rfl rfl hc i pins s3 σ3 H3 X.xe I3 (stat fr3) st3 go)) fun r s4 ⟨u,hr,h4⟩=>?_)
  subst hr
  refine wpAny_passesOwn hp (bB (no h4) fun _ s5 ⟨x,H5,I5,r5,y5,st5,fr5⟩=>?_)
  have I5':=I5.pinned (stat fr5) (T.obj _ _ st5)
  refine wpAny_passesOwn hp (bB (no (hg _ s5 σ3 H5 x u _ I5' r5 (step x H5 y5))) fun _ s6 ⟨σ6,H6,I6,q6⟩=>?_)
  refine wpAny_passesOwn hp (wpAny_mono (hb _ s6 σ6 H6 _ E I6 q6) (fun f s7 q7=>?_) fun _ _ z=>z.unpin)
  have again:∀ {σ7:St} {H7:Hp},Inv X (pins++uQ fp s5.heap) σ7 H7 s7->N σ7 H7->∃ m,m < n/\∃ i σ' H',Inv X pins σ' H' s7/\tn i s7.heap/\(∀ b∈fp,H' b=none)/\W i m σ' H':=fun {σ7 H7} I7 n7=>by
   obtain ⟨m',hm,w7⟩:=hN σ7 H7 n7
   refine ⟨m',hm,i + 1,σ7,H7,I7.unpinned,T.keep _ _ _ st5 fun b hb o e=>(I7.pin (b,o) (List.mem_append_right _ (List.mem_append_right _ (lB hb e)))).1,fun b hb=>?_,w7⟩
   obtain ⟨o,e,d⟩:=T.obj _ _ st5 b hb
   exact (I7.pin (b,o) (List.mem_append_right _ (List.mem_append_right _ (lB hb e)))).2.1
  cases f with
  | next=>obtain ⟨σ7,H7,I7,n7⟩:=q7;exact again I7 n7
  | cont=>obtain ⟨σ7,H7,I7,n7⟩:=q7;exact again I7 n7
  | brk=>obtain ⟨σ7,H7,I7,q7⟩:=q7;exact ⟨σ7,H7,I7.unpinned,q7⟩
  | ret v=>obtain ⟨x7,σ7,H7,I7,r7,q7⟩:=q7;exact ⟨x7,σ7,H7,I7.unpinned,r7,q7⟩
end
end L2
namespace U2
open PySem PySem.Spec L2
section
variable {D:Dat} {pos:Pos}
def PH (wi:UI) (g:UG) (tb:gH):gH:=fun De E τ M=>Ik wi g (fun D' τ M=>tb D' E τ M) De τ M
theorem Np {K:PySem.W.Frag} {t:j5} {t':gH} {wi:TI} {wi':UI} {g:TG} {g':UG} (hi:v3 K wi wi') (hg:xN K g g') (h1:wI K t t'):wI K (Sl wi g t) (PH wi' g' t'):=fun σ τ H M D' E' rs rm h D E d cx=>by
 refine hi σ τ H M _ rs rm h _ fun J S M0 H0 s0 rm0 w h=>?_
 obtain ⟨P,p0,hok,turn,fin⟩:=h
 refine ⟨fun i m σ1 H1=>∃ τ1 M1,aX H0 M0 H1 M1/\RelM K H1 M1/\cL K H1 M1 σ1 τ1/\P i τ1 M1/\i<=S.xs.length/\m=S.xs.length - i,⟨_,τ,M0,aX.refl _ _,rm0,rs.stp s0,p0,Nat.zero_le _,rfl⟩,?_⟩
 rintro i m σ1 H1 ⟨τ1,M1,s1,rm1,rs1,p1,hle,rfl⟩
 have ok1:=hok i τ1 M1 p1
 by_cases hlt:i < S.xs.length
 ·obtain ⟨go,yl⟩:=w.step H1 M1 s1 rm1 ok1 i S.xs[i] (by simp [hlt])
  refine .inr ⟨go,fun σ3 H3=>∃ τ3 M3,aX H0 M0 H3 M3/\RelM K H3 M3/\cL K H3 M3 σ3 τ3/\P (i + 1) τ3 M3,?_,fun x H2 y=>?_⟩
  ·rintro σ3 H3 ⟨τ3,M3,s3,rm3,rs3,p3⟩
   exact ⟨S.xs.length - (i + 1),by omega,τ3,M3,s3,rm3,rs3,p3,hlt,rfl⟩
  ·obtain ⟨s2,rm2,ru⟩:=yl x H2 y
   refine hg _ x σ1 τ1 H2 M1 _ ru (rs1.stp s2) rm2 (turn i S.xs[i] τ1 M1 (by simp [hlt]) p1) _ fun σ3 τ3 H3 M3 s3 rm3 rs3 q3=>?_
   have st:=((s0.trans s1).trans s2).trans s3
   have d3:=d.stp st
   exact h1 σ3 τ3 H3 M3 _ E' rs3 rm3 q3 _ E ⟨fun σ4 τ4 H4 M4 s4 rm4 rs4 q4=>⟨τ4,M4,((s1.trans s2).trans s3).trans s4,rm4,rs4,q4⟩,d3.rt,d3.nx,fun σ4 τ4 H4 M4 s4 rm4 rs4 q4=>⟨τ4,M4,((s1.trans s2).trans s3).trans s4,rm4,rs4,q4⟩⟩ (cx.stp st)
 ·have e:i=S.xs.length:=by omega
  subst e
  exact .inl ⟨w.stop H1 M1 s1 rm1 ok1,d.nx σ1 τ1 H1 M1 (s0.trans s1) rm1 rs1 (fin τ1 M1 p1)⟩
theorem T9 {k:Nat} {tg iter:Expr} {body:List Stmt} {wi:UI} {g:UG} {t:gH} (hi:Bw D tg iter wi) (hg:CF D k tg g) (hb:nY D body t) (hfn:D.fn=true:=by rfl) (hs:∀ env x,foldedSetIterable iter env x=pure x:=by intro _ _;rfl):rX D (.For tg iter body [] pos) (PH wi g t):=by
 obtain ⟨_,p,s⟩:=hi;obtain ⟨_,q,r,_⟩:=hg;obtain ⟨_,x,y⟩:=hb
 exact ⟨_,fun X h=>Rh h.xe (h.dl hfn).1 (h.dl hfn).2.1 (h.dl hfn).2.2 h.calm (p X h) (q X h) (x X h) (hs _),Np s r y⟩
end
end U2
namespace L2
open PySem PySem.Spec
section
variable {X:Cx} {e:Expr} {te:TE} {p1 p2 p3 p4:Pos} {a b:Str}
def Iu:V->Option Str
 | .str z=>some z
 | .int n=>if n.natAbs.log2 < 1920 then some (toString n) else none
 | _=>none
def Sy (a:Str) (te:TE):TE:=fun σ H Q=>te σ H fun v H1=>∃ z,Iu v=some z/\z.length<=100000/\(a++z).length<=100000/\Q (.str (a++z)) H1
theorem u9 {n:Nat} (h:n<=100000):n<=sizeLine:=Nat.le_trans h (by decide)
theorem len_app (a b:Str):(a++b).length=a.length + b.length:=strLen_append a b
theorem Vt {pos:Pos} (he:PE X e te):PE X (.FormattedValue e (-1) none pos) (fun σ H Q=>te σ H fun v H1=>∃ z,Iu v=some z/\z.length<=100000/\Q (.str z) H1):=by
 intro pins s σ H Q I h
 refine PyProof.Rows.FormattedValue_plain (bB (he pins s σ H _ I h) fun u s1 ⟨v,H1,I1,r,z,e1,e2,q⟩=>?_)
 cases v with
 | str y =>
  obtain rfl:y=z:=Option.some.inj e1
  obtain ⟨t,rfl⟩:=(show ∃ t,u=Value.str y t from r)
  exact PyProof.Rows.formatField_str (fun t' tk=>⟨.str y,H1,I1.tok tk,⟨t',rfl⟩,q⟩) (u9 e2)
 | int n =>
  by_cases hn:n.natAbs.log2 < 1920
  ·have e1':Iu (.int n)=some (Str.ofString (toString n)):=if_pos hn
   rw [e1'] at e1
   obtain rfl:=Option.some.inj e1
   obtain ⟨t,rfl⟩:=(show ∃ t,u=Value.int n t from r)
   exact PyProof.Rows.formatField_int_small hn ⟨.str (toString n),H1,I1.tok _,⟨_,rfl⟩,q⟩
  ·have e1':Iu (.int n)=none:=if_neg hn
   rw [e1'] at e1;cases e1
 | _=>cases e1
theorem Pe {j} (he:PE X e te) (ha:a.length<=100000:=by decide) (hev:evalEach [.Constant (.str a) j p1,.FormattedValue e (-1) none p2] X.env=[eval (.Constant (.str a) j p1) X.env,eval (.FormattedValue e (-1) none p2) X.env]:=by rfl):PE X (.JoinedStr [.Constant (.str a) j p1,.FormattedValue e (-1) none p2] p3) (Sy a te):=by
 intro pins s σ H Q I h
 refine wpAny_JoinedStr ?_
 rw [hev]
 refine bB (KU pins s σ H (fun v H1=>v=.str a/\H1=H) I ⟨rfl,rfl⟩) fun u1 s1 ⟨v1,H1,I1,r1,e1,e2⟩=>?_
 subst e1;subst e2
 obtain ⟨t1,rfl⟩:=(show ∃ t,u1=Value.str a t from r1)
 have hl:=PySem.Str.empty_append a
 refine ⟨a,t1,rfl,by rw [hl];exact u9 ha,?_⟩
 rw [hl]
 let Q':VK:=fun w H1=>match w with | .str z=>(a++z).length<=100000/\Q (.str (a++z)) H1 | _=>False
 refine bB (Vt (pos:=p2) he pins s1 σ H1 Q' I1 h) fun u2 s2 ⟨v2,H2,I2,r2,q2⟩=>?_
 cases v2 with
 | str z =>
  obtain ⟨t2,rfl⟩:=(show ∃ t,u2=Value.str z t from r2)
  exact ⟨z,t2,rfl,u9 q2.1,u9 q2.1,⟨.str (a++z),H2,I2.tok _,⟨_,rfl⟩,q2.2⟩⟩
 | _=>exact q2.elim
end
end L2
namespace U2
open PySem PySem.Spec L2
section
variable {P:Program} {w:World} {K:PySem.W.Frag} {mg:Str->Option Value} {base:Heap}
end
section
variable {D:Dat} {a0 C:Addr} {F:List (Str × U)} {e:Expr} {te ta tb:UE} {a b:Expr} {pos:Pos}
theorem En:∀ {fs:List (Str × V)} {x:Str} {u:U} {v:V},(nR fs).lookup x=some u->kM u=some v->fs.lookup x=some v
 | [],_,_,_,h,_=>nomatch h
 | (y,w) :: fs,x,u,v,h,e=>by
  unfold nR at h
  simp only [List.map_cons,List.lookup] at h ⊢
  cases hx:(x == y) with
  | true =>
   rw [hx] at h
   cases h
   cases w <;> first | (cases e;rfl) | cases e
  | false =>
   rw [hx] at h
   exact En (fs:=fs) h e
theorem Lw {K:PySem.W.Frag} {H:Hp} {M:aF} {u:U} {v:V} (e:kM u=some v):aP K H M u v:=by
 cases u <;> first | (cases e;first | exact jZ | exact cY | exact dQ | exact fZ) | cases e
def Iz (K:PySem.W.Frag) (a C:Addr) (F:List (Str × U)) (x:Str) (te:UE):UE:=fun τ M Q=>te τ M fun y M1=>y=.ref a/\(∃ R fI,qG K C R fI/\PySem.W.findIn K (.ref C) x=some none)/\∃ u v,F.lookup x=some u/\kM u=some v/\Q u M1
theorem Uk {x:Str} (he:Kh D a0 C F e te) (hb:∀ env,attributeBase e x env (eval e env)=eval e env:=by intro _;rfl):Kh D a0 C F (.Attribute e x pos) (Iz D.K a0 C F x te):=by
 obtain ⟨t0,p,s⟩:=he
 refine ⟨fun σ H Q=>t0 σ H fun y H1=>y=.ref a0/\(∃ R fI,qG D.K C R fI/\PySem.W.findIn D.K (.ref C) x=some none)/\∃ u v,F.lookup x=some u/\kM u=some v/\Q v H1,fun X d fs ef h=>?_,fun σ τ H M Q' rs rm z Q c=>s σ τ H M _ rs rm z _ fun u v M1 H1 s1 rm1 ru ⟨e1,e2,u',v',e3,e4,q⟩=>?_⟩
 ·intro pins s σ H Q I hq
  refine QS (hb _) (bB (p X d fs ef h pins s σ H _ I hq) fun u s1 ⟨y,H1,I1,r1,e1,⟨R,fI,cg,nf⟩,u',v',e3,e4,q⟩=>?_)
  subst e1
  obtain rfl:u=Value.ref a0:=r1
  obtain ⟨oe,od,m1,m2,o1,o2,⟨vs,o3⟩,es,ep,mA,g1,g2,g3,g4,g5⟩:=h.exc
  have k1:=(I1.pin (a0,oe) (List.mem_append_left _ m1)).1
  have k2:=(I1.pin (d,od) (List.mem_append_left _ m2)).1
  subst ef
  have hl:=En e3 e4
  have hm:=g5 x
  rw [hl] at hm
  cases hu:mA x with
  | none=>rw [hu] at hm;exact hm.elim
  | some w' =>
   rw [hu] at hm
   have hv:RelV v' w':=hm
   have KX:D.K.In s1.heap:=by have:=I1.kIn;rw [h.K] at this;exact this
   obtain ⟨hh,g,dd,t,os⟩:=s1
   refine Wh KX cg nf k1 o1 o2 o3 (m:=mA) ⟨od,es,ep,k2,g1,g2,g4⟩ hu (fun id z=>?_) ⟨v',H1,I1.tok _,hv,q⟩
   subst z
   cases u' <;> first | (cases e4;first | (obtain ⟨_,z⟩:=hv;cases z) | cases hv) | cases e4
 ·subst e1
  exact ⟨ru.ref,e2,u',v',e3,e4,c u' v' M1 H1 s1 rm1 (Lw e4) q⟩
end
end U2
namespace L2
open PySem PySem.Spec PyProof.Rows
theorem Dl:entryFor table "proto.unchain"=some Builtin.«proto.unchain»:=entryFor_of_fast (by kernel_rfl)
def KD (e a0:Addr) (h:Heap):Heap:=((h.update e (Obj.mapFields (·.setIfInBounds 3 .none))).update e (Obj.mapFields (·.setIfInBounds 4 (.bool true)))).update e (Obj.mapFields (·.setIfInBounds 2 (.ref a0)))
theorem Hu {prog:Program} {w:World} {nm q:Str} {C N R:Addr} {bs:List Value} {sn:List Str} {sub:List Value} {ab:Bool} {col:Option Bool} {dd:Option Addr} {k0 k1 k2 k3 k5:Option Value} {A:Around} {s:Shared} {E:Value->Shared->Prop} {env:Env} {x c:Sem Value} {Q:Flow->Shared->Prop} {a0:Addr} (hh:A.handled=some (.ref a0))
  (hc:∀ {Q:Value->Shared->Prop} {E:Value->Shared->Prop} {s:Shared},Q .none s->wpAny (model prog w) A c Q E s)
  (h:wpAny (model prog w) A x (fun v s₁=>∃ e t d oh vh,v=.ref e/\s₁.heap.get? C=some (excClassObj nm q C N bs (pM R) true sn sub ab col dd k0 k1 k2 k3 k5 "ValueError.__new__")/\s₁.heap.get? e=some (oB C t (some d))/\e≠a0/\e≠C/\s₁.heap.get? a0=some oh/\oh.data=.fields vh/\vh[2]?=some .none/\E (.ref e) { s₁ with heap:=KD e a0 s₁.heap }) E s) :
  wpAny (model prog w) A (raiseStmt env (some x) (some c)) Q E s:=by
 have hcB:(Value.ref C :: pM R).contains (.type "BaseException")=true:=by rw [List.contains_cons];rfl
 unfold raiseStmt
 refine wpAny_bind (wpAny_mono h (fun v s₁ h₁=>?_) fun _ _ x=>x)
 obtain ⟨e,t,d,oh,vh,rfl,hC,he,hne,hnC,h0,hd0,hv0,hE⟩:=h₁
 refine wpAny_bind (wpAny_holding (hc (wpAny_bind (wpAny_pure ?_))))
 unfold oB at he
 obtain ⟨hp,g,dr,tk,os⟩:=s₁
 repeat (first | with_reducible refine wpAny_loadPart_at he ?_ | with_reducible refine wpAny_loadPart_at hC ?_ | (with_reducible refine wpAny_isSubtype_exc hC ?_;rw [hcB]) | wp_step)
 have other:∀ b,b≠e->(((hp.update e (Obj.mapFields (·.setIfInBounds 3 .none))).update e (Obj.mapFields (·.setIfInBounds 4 (.bool true)))).get? b=hp.get? b):=fun b hb=>by
  rw [Heap.get?_update_other _ _ (Ne.symm hb),Heap.get?_update_other _ _ (Ne.symm hb)]
 have g1:=Heap.get?_update_self (Obj.mapFields (·.setIfInBounds 3 Value.none)) he (Obj.isFreed_of_fields (Obj.data_mapFields rfl _))
 have g2:=Heap.get?_update_self (Obj.mapFields (·.setIfInBounds 4 (Value.bool true))) g1 (Obj.isFreed_of_fields (Obj.data_mapFields rfl _))
 unfold raiseNew
 refine wpAny_bind (wpAny_handled ?_)
 rw [hh]
 have hne':(Value.ref a0 != Value.ref e)=true:=by
  simp only [bne_iff_ne,ne_eq,Value.ref.injEq]
  exact fun z=>hne z.symm
 simp only [hne',if_true]
 have hf2:(((hp.update e (Obj.mapFields (·.setIfInBounds 3 .none))).update e (Obj.mapFields (·.setIfInBounds 4 (.bool true)))).get? a0=some oh):=(other a0 (Ne.symm hne)).trans h0
 refine wpAny_bind (wpAny_holding (runValue_entry Dl ?_))
 show wpAny _ _ (field (.ref a0) 2 >>= _) _ _ _
 refine wpAny_bind (wpAny_field hf2 hd0 hv0 ?_)
 rw [if_pos (by rfl)]
 refine wpAny_bind (wpAny_pure (wpAny_pure ⟨.none,rfl,?_⟩))
 unfold updateField
 refine wpAny_bind (wpAny_bind (wpAny_load g2 ?_))
 rw [Obj.data_mapFields (Obj.data_mapFields rfl _) _]
 show wpAny _ _ (update e (Obj.mapFields fun x=>x.setIfInBounds 2 (Value.ref a0))) _ _ _
 refine wpAny_update g2 (wpAny_throw hE)
section
variable {X:Cx} {pins pl:List (Addr × Obj)} {σ:St} {H:Hp} {s:Shared} {a C d:Addr} {fs:List (Str × V)}
theorem Inv.updF {b:Addr} {o:Obj} {vs:Array Value} (g:Array Value->Array Value) (I:Inv X pins σ H s) (hb:s.heap.get? b=some o) (hd:o.data=.fields vs) (hs:X.s₀.heap.objs.size<=b) (n:qL X pins H b):Inv X pins σ H { s with heap:=s.heap.update b (Obj.mapFields g) }:=by
 have oth:∀ c,c≠b->(s.heap.update b (Obj.mapFields g)).get? c=s.heap.get? c:=fun c hc=>Heap.get?_update_other _ _ (Ne.symm hc)
 have un:Un (gG X.stack) [b] H H s.heap (s.heap.update b (Obj.mapFields g)):=by
  have ne:∀ c,c ∉ [b]->c≠b:=fun c hc z=>hc (by rw [z];exact List.mem_cons_self)
  exact ⟨fun c o e _ _ hc=>(oth c (ne c hc)).trans e,fun c o e _ _ hc=>⟨o.slots,(oth c (ne c hc)).trans e⟩,fun _ _ _ n _=>n,fun c o e hc=>⟨o,(oth c (ne c hc)).trans e⟩,fun _ _ q=>q,fun _ _ _ q=>q,fun _ ps q=>⟨#[],by rw [q];simp⟩⟩
 have hok:eG X.prog X.w H (s.heap.update b (Obj.mapFields g)):=fun c o e=>(I.hok c o e).stay (fun c' u hc q=>(oth c' (by
  rintro rfl
  rcases hc with rfl | hc
  ·rw [n.2.1] at e;cases e
  ·rw [n.2.1] at hc;cases hc)).trans q) (fun _ q=>q) fun _ _ q=>q
 refine I.call (g':=s.gens) (t':=s.toks) (d':=s.drawn) un hok I.bare fun c hc=>?_
 obtain rfl:c=b:=by simpa using hc
 have nc:∀ x c',X.env.cells.lookup x=some c'->c'≠c:=fun x c' e z=>by
  obtain ⟨v,oc,g1,g2⟩:=I.cell x c' e
  rw [z,hb] at g1;cases g1;rw [hd] at g2;cases g2
 exact ⟨.inr hs,n.2.2.1,nc,n.2.2.2⟩
theorem Jd {k:Nat} {R fI:Addr} {fd:FuncData} {par attr x:Str} {cond:V->Prop} {e:Expr} {te:TE} {np cpos pos kp:Pos} {kj:Nat} {a0:Addr} {oh:Obj} {vh:Array Value} (hx:sS X) (hex:X.ex=[]) (hh:X.A.handled=some (.ref a0)) (h0:(a0,oh)∈X.pn) (hd0:oh.data=.fields vh) (hv0:vh[2]?=some .none) (c:nA X.K C R fI)
  (F:n5 X.prog X.w X.K X.mg X.base jF k fI fd ["self",par] (lT C attr cond)) (hr:mE (k + 1) X.A) (hb:Binds X.K fd ["self",par] []) (hg:Gl X x) (hm:X.mg x=some (.ref C)) (he:PE X e te) (hdb:(x == ("__debug__":Str))=false:=by decide)
  (hs:starEach [e] X.env=[(false,eval e X.env)]:=by rfl):uB X (.Raise (some (.Call (.Name x np) [e] [] cpos)) (some (.Constant .none kj kp)) pos) (fun _ E σ H=>te σ H fun y H1=>cond y/\∀ d,H1 d=none->E (.ref C) (some d) σ (upd H1 d (.xd [(attr,y),(attr,y)]))):=by
 intro pins s σ H D E I h
 obtain ⟨nm,qq,N,bs,sn,sub,ab,col,dd,k0,k1,k2,k3,k5,hC⟩:=c.obj
 rw [arm_exec_Raise]
 have ev:wpAny (model X.prog X.w) X.A (eval (.Call (.Name x np) [e] [] cpos) X.env) (fun v s'=>∃ a t d oh vh,v=.ref a/\s'.heap.get? C=some (excClassObj nm qq C N bs (pM R) true sn sub ab col dd k0 k1 k2 k3 k5 "ValueError.__new__")/\s'.heap.get? a=some (oB C t (some d))/\a≠a0/\a≠C/\s'.heap.get? a0=some oh/\oh.data=.fields vh/\vh[2]?=some .none/\XP X pins E (.ref a) { s' with heap:=KD a a0 s'.heap }) (XP X pins E) s:=by
  refine wpAny_Call_Name_kw (lK I hg hm ?_ hdb)
  have pa:PA X [e] (fun σ H Q=>te σ H fun y H1=>Q [y] H1):=uH he Bp (by rw [hs];rfl)
  let Q1:List V->Hp->Prop:=fun vs H1=>match vs with | [y]=>(cond y/\∀ d,H1 d=none->E (.ref C) (some d) σ (upd H1 d (.xd [(attr,y),(attr,y)]))) | _=>False
  refine PySem.W.callWith_K (h₀:=X.base) I.ok.mod.kin c.kp (wpAny_mono (pa cpos pins s σ H Q1 I h) (fun us s1 ⟨vs,H1,I1,r,q⟩=>⟨I1.kIn,?_⟩) fun _ _ z=>by rw [hx] at z;exact z.elim) (by rw [hs];rfl) rfl
  match vs,r,q with
  | [y],.cons r .nil,⟨q1,q2⟩ =>
   refine bB (He hex c F hr hb I1 r q1) fun v s' ⟨a,t,d,z1,z2,I2,z3⟩=>?_
   have p0:s'.heap.get? a0=some oh:=(I2.pin (a0,oh) (List.mem_append_left _ h0)).1
   have hne:a≠a0:=fun z=>z3.na.2.2.2 (a0,oh) (List.mem_append_left _ h0) z.symm
   have hC':=I2.kIn _ _ hC
   have hnC:a≠C:=fun z=>by
    rw [z] at z2;rw [hC'] at z2
    have:=congrArg (fun o:Option Obj=>o.map (·.data)) z2
    simp only [Option.map_some,oB] at this
    injection this with this
    cases this
   have g1:=Heap.get?_update_self (Obj.mapFields (·.setIfInBounds 3 Value.none)) z2 (Obj.isFreed_of_fields (Obj.data_mapFields rfl _))
   have g2:=Heap.get?_update_self (Obj.mapFields (·.setIfInBounds 4 (Value.bool true))) g1 (Obj.isFreed_of_fields (Obj.data_mapFields rfl _))
   have g3:=Heap.get?_update_self (Obj.mapFields (·.setIfInBounds 2 (Value.ref a0))) g2 (Obj.isFreed_of_fields (Obj.data_mapFields rfl _))
   have J1:=I2.updF (·.setIfInBounds 3 Value.none) z2 rfl z3.sa z3.na
   have J2:=J1.updF (·.setIfInBounds 4 (Value.bool true)) g1 (Obj.data_mapFields rfl _) z3.sa z3.na
   have J3:=J2.updF (·.setIfInBounds 2 (Value.ref a0)) g2 (Obj.data_mapFields rfl _) z3.sa z3.na
   have oth:∀ b,b≠a->(KD a a0 s'.heap).get? b=s'.heap.get? b:=fun b hb=>by
    unfold KD
    rw [Heap.get?_update_other _ _ (Ne.symm hb),Heap.get?_update_other _ _ (Ne.symm hb),Heap.get?_update_other _ _ (Ne.symm hb)]
   obtain ⟨mA,⟨od,esd,epd,f1,f2,f3⟩,n2⟩:=z3.att
   have rs:pU X pins H1 (KD a a0 s'.heap) a C d [(attr,y),(attr,y)]:=⟨z3.sa,z3.na,z3.nd,z3.ad,⟨_,_,none,g3,rfl,rfl,rfl,rfl,fun T' z=>by cases z⟩,⟨mA,⟨od,esd,epd,(oth d (Ne.symm z3.ad)).trans f1,f2,f3⟩,fun f=>by
    have:=n2 f
    simp only [List.lookup] at this ⊢
    split <;> rename_i hf <;> simp only [hf] at this ⊢ <;> exact this⟩,fun hl=>by simp at hl⟩
   exact ⟨a,t,d,oh,vh,z1,hC',z2,hne,hnC,p0,hd0,hv0,a,C,d,_,σ,H1,rfl,J3,rs,q2 d z3.nd.2.1⟩
 have hcn:∀ {Q:Value->Shared->Prop} {E:Value->Shared->Prop} {s:Shared},Q .none s->wpAny (model X.prog X.w) X.A (do let v <- eval (.Constant .none kj kp) X.env;standAt pos;pure v) Q E s:=fun hq=>wpAny_bind (wpAny_Constant_none (wpAny_bind (wpAny_standAt (wpAny_pure hq))))
 first
  | exact wpAny_bind (wpAny_standAt (Hu hh hcn (wpAny_bind (wpAny_mono ev (fun v s₁ h₁=>wpAny_bind (wpAny_standAt (wpAny_pure h₁))) fun _ _ x=>x))))
  | (simp only [evalOpt,Option.map];exact wpAny_bind (wpAny_standAt (Hu hh hcn (wpAny_bind (wpAny_mono ev (fun v s₁ h₁=>wpAny_bind (wpAny_standAt (wpAny_pure h₁))) fun _ _ x=>x)))))
def Vv (Cn:Addr) (K:PySem.W.Frag) (tb:j5) (th:Addr->Addr->Addr->List (Str × V)->j5):j5:=fun D E σ H=>tb D (fun c dx σ' H'=>∀ C d H1 fs,c=.ref C->dx=some d->H'=upd H1 d (.xd fs)->H1 d=none ->
 PySem.W.subIn K (.ref C) (.ref Cn)=some true/\∀ a,th a C d fs D E σ' H1) σ H
theorem XP.outX {E:XS} {e:Value} {b:Addr} (ok:X.Ok) (z:XP (X.inX b pl) pins E e s):XP X pins E e s:=by
 obtain ⟨a,C,d,fs,σ',H',rfl,I,r,q⟩:=z
 have nw:∀ b',qL (X.inX b pl) pins H' b'->qL X pins H' b':=fun b' n=>⟨n.1,n.2.1,n.2.2.1,fun p hp=>n.2.2.2 p (by
  rcases List.mem_append.mp hp with hp | hp
  ·exact List.mem_append_left _ (List.mem_append_left _ hp)
  ·exact List.mem_append_right _ hp)⟩
 exact ⟨a,C,d,fs,σ',H',rfl,I.outX ok,r.imp (fun _ z=>z) (Nat.le_refl _) nw,q⟩
theorem RP {cn:Str} {Cn:Addr} {body suite:List Stmt} {b₀:Stmt} {tb:j5} {th:Addr->Addr->Addr->List (Str × V)->j5} {cp hp pos:Pos} (hx:sS X) (hex:X.ex=[]) (hst:X.stack=X.env :: X.outer) (hf:X.env.frame=some X.env.locals)
  (hbody:lR X body tb) (hg:Gl X cn) (hm:X.mg cn=some (.ref Cn)) (hc:AF X.K Cn) (hh:∀ a C d fs oe od,oe.cls=.ref C->oe.dict=some d->(∃ vs,oe.data=.fields vs/\(fs.length=1->vs[2]?=some .none))->Dz od fs->lR (X.inX a [(a,oe),(d,od)]) (b₀ :: suite) (th a C d fs)) (hdb:(cn == ("__debug__":Str))=false:=by decide) :
  uB X (.Try body [.ExceptHandler (some (.Name cn cp)) none (b₀ :: suite) hp] [] [] pos) (Vv Cn X.K tb th):=by
 intro pins s σ H D E I h
 refine wpAny_Try_except (wpAny_mono (hbody pins s σ H D _ I h) (fun f s1 q=>?_) fun e s1 q=>?_)
 ·cases f with
  | next=>exact wpAny_execs_nil q
  | ret v=>exact q
  | brk=>exact q
  | cont=>exact q
 ·obtain ⟨a,C,d,fs,σ',H',rfl,I1,r,q⟩:=q
  obtain ⟨hsub,q⟩:=q C d H' fs rfl rfl rfl r.nd.2.1
  refine Ig I1 hst hf hex r fun s2 I2 r2=>?_
  refine wpAny_handleBy_cons (codeAny_handlers_test ?_) (by intro q;cases q)
  obtain ⟨oe,vs,T,e1,e2,e3,e4,e5,e6⟩:=r2.obj
  have I3:Inv (X.inX a []) pins σ' H' s2:=I2.inX fun p hp=>by cases hp
  refine lK (X:=X.inX a []) I3 hg hm ?_ hdb
  refine An (K:=X.K) I2.kIn hc e1 e2 hsub ?_
  refine codeAny_handlers_suite (x6 none I2 hex r2.any fun s3 I4 r4=>?_)
  obtain ⟨oe,od,o1,o2,⟨vs',o3⟩,o4,o5⟩:=Bj I4 (xD.any r4)
  have I5:Inv (X.inX a [(a,oe),(d,od)]) pins σ' H' s3:=I4.inX o5
  have hcx:fs.length=1->vs'[2]?=some .none:=fun hl=>r4.cx hl oe vs' (o5 (a,oe) List.mem_cons_self).1 o3
  refine wpAny_mono (hh a C d fs oe od o1 o2 ⟨vs',o3,hcx⟩ o4 pins s3 _ H' D E I5 (q a)) (fun f s6 q6=>?_) fun x s6 z=>?_
  ·cases f with
   | next =>
    obtain ⟨σ7,H7,I7,q7⟩:=q6
    exact ⟨_,H7,I7.outX I.ok,q7⟩
   | ret u =>
    obtain ⟨v,σ7,H7,I7,rv,q7⟩:=q6
    exact ⟨v,_,H7,I7.outX I.ok,rv,q7⟩
   | brk =>
    obtain ⟨σ7,H7,I7,q7⟩:=q6
    exact ⟨_,H7,I7.outX I.ok,q7⟩
   | cont =>
    obtain ⟨σ7,H7,I7,q7⟩:=q6
    exact ⟨_,H7,I7.outX I.ok,q7⟩
  ·obtain ⟨a2,C2,d2,fs2,σ2,H2,rfl,J,r9,q9⟩:=z
   refine Jm (X:=X.inX a [(a,oe),(d,od)]) J hst hf hex r9 fun s' _ J' r' ⟨oe',vs9,T',t1,t2,t3⟩=>?_
   show cameBackBy _ _ _ _ _ _
   unfold cameBackBy
   refine wpAny_bind (wpAny_field t1 t2 t3 ?_)
   rw [if_neg (by simp)]
   refine x6 (X:=X.inX a [(a,oe),(d,od)]) X.env.frame J' hex r' fun s'' J'' r''=>?_
   refine XP.outX I.ok ⟨a2,C2,d2,fs2,σ2,H2,rfl,J'',r''.imp (fun v z=>.inr ?_) (Nat.le_refl _) fun _ z=>z,q9⟩
   rw [z,hf];rfl
end
end L2
namespace U2
open PySem PySem.Spec L2
structure Wc (D:Dat) (a C d:Addr) (fs:List (Str × V)) (X:Cx):Prop where
 h:JA D a C d fs X
 xe:X.xe=fun _ _=>False
 ex:X.ex=[]
 hd:X.A.handled=some (.ref a)
 room:mE D.k X.A
 base:X.base=D.base
 cx:fs.length=1->∃ oe vh,(a,oe)∈X.pn/\oe.data=.fields vh/\vh[2]?=some .none
def Pg (D:Dat) (a C:Addr) (fs':List (Str × U)) (s:List Stmt) (t':gH):Prop:=∃ t,(∀ X d fs,nR fs=fs'->Wc D a C d fs X->lR X s t)/\wI D.K t t'
section
variable {D:Dat} {a0 C:Addr} {F:List (Str × U)} {e:Expr} {te:UE} {pos:Pos} {sts:List Stmt} {t:US}
def Ft (C:Addr) (attr:Str) (cond:V->Prop) (te:UE):gH:=fun _ E τ M=>te τ M fun u M1=>(∃ v,kM u=some v/\cond v)/\E C [(attr,u),(attr,u)] τ M1
theorem N6 {j kj:Nat} {cn attr:Str} {C2:Addr} {cond:V->Prop} {np cpos kp:Pos} (hF:F.length=1) (c:qD D.prog D.w D.K D.mg D.base j cn C2 attr cond) (he:Kh D a0 C F e te) (hj:j + 1<=D.k:=by first | exact Nat.le_refl _ | (dsimp only;omega) | omega) (hg:D.sc.names.lookup cn=some .globalImplicit:=by rfl) (hdb:(cn == ("__debug__":Str))=false:=by decide)
  (hs:∀ env,starEach [e] env=[(false,eval e env)]:=by intro _;rfl):Pg D a0 C F [.Raise (some (.Call (.Name cn np) [e] [] cpos)) (some (.Constant .none kj kp)) pos] (Ft C2 attr cond te):=by
 obtain ⟨R,fI,fd,par,cc,hm,F0,hb⟩:=c.ex
 obtain ⟨t0,p,s⟩:=he
 refine ⟨fun _ E σ H=>t0 σ H fun y H1=>cond y/\∀ d,H1 d=none->E (.ref C2) (some d) σ (upd H1 d (.xd [(attr,y),(attr,y)])),fun X d fs r h=>EZ ?_,fun σ τ H M D' E' rs rm z Q E d cx=>s σ τ H M _ rs rm z _ fun u v M1 H1 s1 rm1 ru ⟨⟨v',e1,e2⟩,q⟩=>?_⟩
 ·have hk:=h.h.K
  have cc':nA X.K C2 R fI:=by rw [hk];exact cc.cl
  have F':n5 X.prog X.w X.K X.mg X.base jF j fI fd ["self",par] (lT C2 attr cond):=by rw [h.h.prog,h.h.w,hk,h.h.mg,h.base];exact F0
  have hl:fs.length=1:=by rw [<- r] at hF;simpa [nR] using hF
  obtain ⟨oe,vh,m1,m2,m3⟩:=h.cx hl
  exact Jd (pos:=pos) (np:=np) (cpos:=cpos) h.xe h.ex h.hd m1 m2 m3 cc' F' (h.room.mono hj) (by rw [hk];exact hb) (by show X.env.scope.names.lookup cn=_;rw [h.h.sc];exact hg) (by rw [h.h.mg];exact hm) (p X d fs r h.h) hdb (hs _)
 ·obtain ⟨rfl,r⟩:=CH e1 ru
  exact ⟨e2,fun d hd=>cx C2 [(attr,u),(attr,u)] [(attr,v),(attr,v)] σ τ H1 M1 d s1 rm1 (rs.stp s1) (.cons ⟨rfl,e1⟩ (.cons ⟨rfl,e1⟩ .nil)) hd q⟩
def Pm (Cn:Addr) (K:PySem.W.Frag) (tb:gH) (th:Addr->Addr->List (Str × U)->gH):gH:=fun De E τ M=>tb De (fun C fs τ' M'=>fs.length=1/\PySem.W.subIn K (.ref C) (.ref Cn)=some true/\∀ a,th a C fs De E τ' M') τ M
theorem Ul {cn:Str} {Cn:Addr} {body suite:List Stmt} {b₀:Stmt} {tb:gH} {th:Addr->Addr->List (Str × U)->gH} {cp hp:Pos} (hm:D.mg cn=some (.ref Cn)) (hc:AF D.K Cn) (hbody:nY D body tb) (hh:∀ a C fs,fs.length=1->Pg D a C fs (b₀ :: suite) (th a C fs))
  (hg:D.sc.names.lookup cn=some .globalImplicit:=by rfl) (hfn:D.fn=true:=by rfl) (hdb:(cn == ("__debug__":Str))=false:=by decide) :
  rX D (.Try body [.ExceptHandler (some (.Name cn cp)) none (b₀ :: suite) hp] [] [] pos) (Pm Cn D.K tb th):=by
 obtain ⟨t0,p,s⟩:=hbody
 classical
 let th0:Addr->Addr->Addr->List (Str × V)->j5:=fun a C d fs=>if hl:(nR fs).length=1 then (hh a C (nR fs) hl).choose else fun _ _ _ _=>False
 refine ⟨Vv Cn D.K t0 th0,fun X h=>?_,fun σ τ H M D' E' rs rm z De E d cx=>s σ τ H M D' _ rs rm z De _ d ?_⟩
 ·have hd:=h.dl hfn
  have:=RP (b₀:=b₀) (suite:=suite) (pos:=pos) (hp:=hp) (cp:=cp) (th:=th0) h.xe hd.1 hd.2.1 hd.2.2 (p X h) (by show X.env.scope.names.lookup cn=_;rw [h.sc];exact hg) (by rw [h.mg];exact hm) (by rw [h.K];exact hc) (fun a C d fs oe od o1 o2 o3 o4=>?_) hdb
  ·rw [h.K] at this
   exact this
  ·show lR _ _ (th0 a C d fs)
   by_cases hl:(nR fs).length=1
   ·have e0:th0 a C d fs=(hh a C (nR fs) hl).choose:=dif_pos hl
    rw [e0]
    obtain ⟨vs,o3,o5⟩:=o3
    refine (hh a C (nR fs) hl).choose_spec.1 _ d fs rfl ⟨⟨h.prog,h.w,h.K,h.mg,h.N,h.sc,h.fn,oe,od,?_,?_,o1,o2,⟨vs,o3⟩,o4⟩,h.xe,hd.1,rfl,⟨h.room.dp,h.room.un⟩,h.base,fun hl=>⟨oe,vs,?_,o3,o5 hl⟩⟩
    ·exact List.mem_append_right _ List.mem_cons_self
    ·exact List.mem_append_right _ (List.mem_cons_of_mem _ List.mem_cons_self)
    ·exact List.mem_append_right _ List.mem_cons_self
   ·have e0:th0 a C d fs=fun _ _ _ _=>False:=dif_neg hl
    rw [e0]
    intro pins s σ H D E I h
    exact h.elim
 ·intro C fs' fs σ1 τ1 H1 M1 d1 s1 rm1 rs1 ra Hb ⟨q0,q1,q2⟩ C' d' H' fsx e1 e2 e3 e4
  cases e1;cases e2
  have e5:fsx=fs:=by
   have:=congrFun e3 d1
   rw [bT,bT] at this
   cases this;rfl
  have e6:H'=H1:=by
   funext b
   by_cases hb:b=d1
   ·rw [hb,Hb,e4]
   ·have:=congrFun e3 b
    rw [bE hb,bE hb] at this
    exact this.symm
  subst e5;subst e6
  refine ⟨q1,fun a=>?_⟩
  have q3:=q2 a
  rw [ra.eq] at q3 q0
  have e0:th0 a C d1 fsx=(hh a C (nR fsx) q0).choose:=dif_pos q0
  rw [e0]
  exact (hh a C (nR fsx) q0).choose_spec.2 σ1 τ1 H' M1 D' E' rs1 rm1 q3 De E (d.stp s1) (cx.stp s1)
end
end U2
namespace L2
open PySem PySem.Spec PyProof.Rows
section
variable {X:Cx} {pos:Pos}
def Kr (c:TT) (tb:j5):j5:=fun D E σ H=>DX c (fun D' σ H=>tb D' E σ H) D σ H
theorem LZ {c:Expr} {body:List Stmt} {tc:TT} {tb:j5} (hx:sS X) (hex:X.ex=[]) (hst:X.stack=X.env :: X.outer) (hf:X.env.frame=some X.env.locals) (hc:PT X c tc) (hb:lR X body tb):uB X (.While c body [] pos) (Kr tc tb):=by
 intro pins s σ H D E I h
 have no:∀ {α:Type} {t:Sem α} {Q:α->Shared->Prop} {s:Shared},wpAny (model X.prog X.w) X.A t Q X.xe s->wpAny (model X.prog X.w) X.A t Q (XP X pins E) s:=fun z=>wpAny_mono z (fun _ _ y=>y) fun _ _ y=>by rw [hx] at y;exact y.elim
 have hp:PassesOwn (model X.prog X.w) X.A X.env (XP X pins E):=Pf hex hst hf
 obtain ⟨W,⟨m0,w0⟩,turn⟩:=h
 refine wpAny_While (codeAny_whileLoop (fun n s'=>∃ σ' H',Inv X pins σ' H' s'/\W n σ' H') ?_ m0 ⟨σ,H,I,w0⟩)
 rintro n s1 ⟨σ1,H1,I1,w1⟩
 refine wpAny_passesOwn hp (bB (no (hc pins s1 σ1 H1 _ I1 (turn n σ1 H1 w1))) fun b s2 ⟨H2,I2,q2⟩=>?_)
 cases b with
 | true =>
  obtain ⟨N,hN,q2⟩:=q2
  rw [if_pos rfl]
  refine wpAny_passesOwn hp (wpAny_mono (hb pins s2 σ1 H2 _ E I2 q2) (fun f s3 q3=>?_) fun _ _ z=>z)
  cases f with
  | next =>
   obtain ⟨σ3,H3,I3,n3⟩:=q3
   obtain ⟨m',hm,w3⟩:=hN σ3 H3 n3
   exact ⟨m',hm,σ3,H3,I3,w3⟩
  | cont =>
   obtain ⟨σ3,H3,I3,n3⟩:=q3
   obtain ⟨m',hm,w3⟩:=hN σ3 H3 n3
   exact ⟨m',hm,σ3,H3,I3,w3⟩
  | brk=>exact q3
  | ret v=>exact q3
 | false =>
  rw [if_neg Bool.false_ne_true]
  exact wpAny_execs_nil ⟨σ1,H2,I2,q2⟩
end
end L2
namespace U2
open PySem PySem.Spec L2
section
variable {D:Dat} {pos:Pos}
def GS (c:UT) (tb:gH):gH:=fun De E τ M=>Bd c (fun D' τ M=>tb D' E τ M) De τ M
theorem Ir {K:PySem.W.Frag} {t:j5} {t':gH} {c:TT} {c':UT} (hc:kL K c c') (h1:wI K t t'):wI K (Kr c t) (GS c' t'):=fun σ τ H M D' E' rs rm h D E d cx=>by
 obtain ⟨P,μ,p0,turn⟩:=h
 refine ⟨fun m σ1 H1=>∃ τ1 M1,aX H M H1 M1/\RelM K H1 M1/\cL K H1 M1 σ1 τ1/\P τ1 M1/\m=μ τ1 M1,⟨_,τ,M,aX.refl _ _,rm,rs,p0,rfl⟩,?_⟩
 rintro m σ1 H1 ⟨τ1,M1,s1,rm1,rs1,p1,rfl⟩
 refine hc σ1 τ1 H1 M1 _ rs1 rm1 (turn τ1 M1 p1) _ fun b M2 H2 s2 rm2 q2=>?_
 cases b with
 | true =>
  rw [if_pos rfl] at q2 ⊢
  refine ⟨fun σ3 H3=>∃ τ3 M3,aX H M H3 M3/\RelM K H3 M3/\cL K H3 M3 σ3 τ3/\P τ3 M3/\μ τ3 M3 < μ τ1 M1,?_,?_⟩
  ·rintro σ3 H3 ⟨τ3,M3,s3,rm3,rs3,p3,hm⟩
   exact ⟨μ τ3 M3,hm,τ3,M3,s3,rm3,rs3,p3,rfl⟩
  ·have st:=s1.trans s2
   have d2:=d.stp st
   exact h1 σ1 τ1 H2 M2 _ E' (rs1.stp s2) rm2 q2 _ E ⟨fun σ4 τ4 H4 M4 s4 rm4 rs4 q4=>⟨τ4,M4,st.trans s4,rm4,rs4,q4⟩,d2.rt,d2.nx,fun σ4 τ4 H4 M4 s4 rm4 rs4 q4=>⟨τ4,M4,st.trans s4,rm4,rs4,q4⟩⟩ (cx.stp st)
 | false =>
  rw [if_neg Bool.false_ne_true] at q2 ⊢
  exact d.nx σ1 τ1 H2 M2 (s1.trans s2) rm2 (rs1.stp s2) q2
theorem AI {c:Expr} {body:List Stmt} {tc:UT} {t:gH} (hc:pH D c tc) (hb:nY D body t) (hfn:D.fn=true:=by rfl):rX D (.While c body [] pos) (GS tc t):=by
 obtain ⟨_,p,s⟩:=hc;obtain ⟨_,x,y⟩:=hb
 exact ⟨_,fun X h=>LZ h.xe (h.dl hfn).1 (h.dl hfn).2.1 (h.dl hfn).2.2 (p X h) (x X h),Ir s y⟩
end
end U2
namespace L2
open PySem PySem.Spec PyProof.Rows
abbrev Si:=St->Hp->(List V->Hp->Prop)->XS->Prop
def El (X:Cx) (es:List Expr) (t:Si):Prop:=∀ (pos:Pos) (pins:List (Addr × Obj)) (s:Shared) (σ:St) (H:Hp) (Q:List V->Hp->Prop) (E:XS),Inv X pins σ H s->t σ H Q E ->
 wpAny (model X.prog X.w) X.A (spliced (backTo pos (starEach es X.env))) (AP X pins σ Q) (XP X pins E) s
section
variable {X:Cx} {e a b o:Expr} {es:List Expr} {te tb:Mo} {ta to:TE} {t:Si} {t0:TA} {pos:Pos}
theorem Ts (hx:sS X) (h:PA X es t0):El X es (fun σ H Q _=>t0 σ H Q):=fun pos pins s σ H Q E I q=>wpAny_mono (h pos pins s σ H Q I q) (fun _ _ z=>z) fun _ _ z=>by rw [hx] at z;exact z.elim
theorem Nh (ha:xE X e te) (hr:El X es t) (hs:starEach (e :: es) X.env=(false,eval e X.env) :: starEach es X.env:=by rfl):El X (e :: es) (fun σ H Q E=>te σ H (fun x H1=>t σ H1 (fun xs H2=>Q (x :: xs) H2) E) E):=by
 intro pos pins s σ H Q E I h
 rw [hs]
 show wpAny _ _ (spliced ((false,eval e X.env) :: backTo pos (starEach es X.env))) _ _ s
 refine Calls.spliced_cons (bB (ha pins s σ H _ E I h) fun u s1 ⟨x,H1,I1,r1,q1⟩=>?_)
 exact bB (hr pos pins s1 σ H1 _ E I1 q1) fun us s2 ⟨xs,H2,I2,r2,q2⟩=>⟨x :: xs,H2,I2,.cons r1 r2,q2⟩
theorem RC {x1} (h:El X es t):xE X (.Tuple es x1 pos) (fun σ H Q E=>t σ H (fun xs H1=>xs.length<=sizeLine/\∀ p,H1 p=none->Q (.ref p) (upd H1 p (.tup xs))) E):=by
 intro pins s σ H Q E I hq
 refine wpAny_Tuple_spliced (bB (h pos pins s σ H _ E I hq) fun us s1 ⟨xs,H1,I1,r,z,q⟩=>⟨by rw [<- r.length];exact z,?_⟩)
 have hf:H1 s1.heap.objs.size=none:=I1.hok.fresh (Nat.le_refl _)
 refine ⟨.ref s1.heap.objs.size,upd H1 s1.heap.objs.size (.tup xs),I1.laid (t':=s1.toks) (fun b u e=>Heap.get?_push_of_some _ e) (Nat.le_refl _) ?_,rfl,q _ hf⟩
 exact ⟨z,us,r,⟨_,Heap.get?_push_size _ rfl,rfl,rfl,_,rfl⟩⟩
theorem QC (h:El X es t):xE X (.List es pos) (fun σ H Q E=>t σ H (fun xs H1=>xs.length<=sizeLine/\∀ p,H1 p=none->Q (.ref p) (upd H1 p (.lst xs))) E):=by
 intro pins s σ H Q E I hq
 refine wpAny_List_spliced (bB (h pos pins s σ H _ E I hq) fun us s1 ⟨xs,H1,I1,r,z,q⟩=>⟨by rw [<- r.length];exact z,?_⟩)
 have hf:H1 s1.heap.objs.size=none:=I1.hok.fresh (Nat.le_refl _)
 refine ⟨.ref s1.heap.objs.size,upd H1 s1.heap.objs.size (.lst xs),I1.laid (t':=s1.toks) (fun b u e=>Heap.get?_push_of_some _ e) (Nat.le_refl _) ?_,rfl,q _ hf⟩
 exact ⟨z,us,0,r,Heap.get?_push_size _ rfl⟩
theorem S4 {op:Operator} {r:R2} (hx:sS X) (ho:cZ X (binaryOp op) r) (ha:PE X a ta) (hb:xE X b tb):xE X (.BinOp a op b pos) (fun σ H Q E=>ta σ H fun x H1=>tb σ H1 (fun y H2=>r x y H2 Q) E):=by
 intro pins s σ H Q E I h
 have no:∀ {α:Type} {t:Sem α} {Q:α->Shared->Prop} {s:Shared},wpAny (model X.prog X.w) X.A t Q X.xe s->wpAny (model X.prog X.w) X.A t Q (XP X pins E) s:=fun z=>wpAny_mono z (fun _ _ y=>y) fun _ _ y=>by rw [hx] at y;exact y.elim
 refine wpAny_BinOp (bB (no (ha pins s σ H _ I h)) fun v s1 ⟨x,H1,I1,r1,q1⟩=>?_)
 exact bB (hb pins s1 σ H1 _ E I1 q1) fun u s2 ⟨y,H2,I2,r2,q2⟩=>no (ho pins s2 σ H2 x y v u Q I2 r1 r2 q2)
theorem U4 {name:Str} {apos cpos:Pos} {T id:String} {r:V->List V->Hp->VK->Prop} (hx:sS X) (pa:PlainAttrs T) (slot:Slot T name id) (hty:typeOf (.builtin id)=pure (.type "method_descriptor")) (hm:U5 X id r) (ho:PE X o to) (ha:El X (e :: es) t)
  (hbase:attributeBase o name X.env (eval o X.env)=eval o X.env:=by rfl)
  (hfew:((backTo cpos (starEach (e :: es) X.env)).all (fun x=>!x.1) && (backToKw cpos (keywordEach [] X.env)).all (fun x=>x.1.isSome)
   && decide ((e :: es).length + ([]:List Keyword).length + (if ([]:List Keyword).isEmpty then 0 else 1) < 30))=true:=by rfl)
  (hline:(apos.endLine == cpos.line)=true:=by rfl) (hs:starEach (e :: es) X.env=(false,eval e X.env) :: starEach es X.env:=by rfl) (hplain:(backTo cpos (starEach es X.env)).any (·.1)=false:=by rfl) :
  xE X (.Call (.Attribute o name apos) (e :: es) [] cpos) (fun σ H Q E=>to σ H fun x H1=>Gq X.K T x H1/\t σ H1 (fun xs H2=>r x xs H2 Q) E):=by
 intro pins s σ H Q E I h
 have no:∀ {α:Type} {t:Sem α} {Q:α->Shared->Prop} {s:Shared},wpAny (model X.prog X.w) X.A t Q X.xe s->wpAny (model X.prog X.w) X.A t Q (XP X pins E) s:=fun z=>wpAny_mono z (fun _ _ y=>y) fun _ _ y=>by rw [hx] at y;exact y.elim
 refine wpAny_Call_method_late hbase hfew hline rfl (bB (no (ho pins s σ H _ I h)) fun v s1 ⟨x,H1,I1,r1,ty,q1⟩=>?_)
 obtain ⟨h1,h2⟩:=D6 I1 r1 ty
 refine ⟨T,id,pa,slot,hty,h1,h2,?_⟩
 have hA:=ha cpos pins s1 σ H1 _ E I1 q1
 rw [hs] at hA ⊢
 refine Calls.callWith_builtin (by show (false || (backTo cpos (starEach es X.env)).any (·.1))=false;rw [hplain] <;> rfl) (Calls.evalArgs_plain ?_)
 exact bB hA fun us s2 ⟨vs,H2,I2,r2,q2⟩=>no (hm pins s2 σ H2 x vs v us Q I2 r1 r2 q2)
theorem LH {x:Str} {p:Pos} {i k:Nat} {f:Addr} {fd:FuncData} {ps:List Str} {sp:Sp} (hx:sS X) (hex:X.ex=[]) (hN:X.N[i]?=some x) (hv:A7 X.env.scope x) (F:fJ X.prog X.w X.K X.mg X.base (sZ X.prog X.w) k f fd ps sp) (hr:cX k X.A) (hk:PySem.W.keepIn X.K (.ref f)=true) (hb:Binds X.K fd ps [])
  (ha:PA X (e :: es) t0) (hd:(x == ("__debug__":Str))=false) (hcd:(x == ("__classdict__":Str))=false) (he:starEach (e :: es) X.env=(false,eval e X.env) :: starEach es X.env) (hpl:(backTo pos (starEach es X.env)).any (·.1)=false) :
  xE X (.Call (.Name x p) (e :: es) [] pos) (fun σ H Q E=>tL i σ H fun v H1=>v=.ref f/\t0 σ H1 fun vs H2=>sp vs H2 Q fun c d H3=>E c d σ H3):=by
 intro pins s σ H Q E I h
 have no:∀ {α:Type} {t:Sem α} {Q:α->Shared->Prop} {s:Shared},wpAny (model X.prog X.w) X.A t Q X.xe s->wpAny (model X.prog X.w) X.A t Q (XP X pins E) s:=fun z=>wpAny_mono z (fun _ _ y=>y) fun _ _ y=>by rw [hx] at y;exact y.elim
 refine wpAny_Call_Name_kw (bB (no (nH (i:=i) hN hv hd hcd pins s σ H _ I h)) fun v s1 ⟨x',H1,I1,r1,e1,q1⟩=>?_)
 subst e1
 cases r1
 refine PySem.W.callWith_K (h₀:=X.base) I1.ok.mod.kin hk (bB (no (ha pos pins s1 σ H1 _ I1 q1)) fun us s2 ⟨vs,H2,I2,r,q⟩=>⟨I2.kIn,?_⟩) he hpl
 exact GP (dvs:=[]) hex F hr hb .nil I2 r (by rw [List.append_nil];exact q)
end
end L2
namespace U2
open PySem PySem.Spec L2
abbrev Co:=SU->aF->(List U->aF->Prop)->Aq->Prop
def Wq (K:PySem.W.Frag) (t:Si) (t':Co):Prop:=∀ (σ:St) (τ:SU) (H:Hp) (M:aF) (Q':List U->aF->Prop) (E':Aq),cL K H M σ τ->RelM K H M->t' τ M Q' E' ->
 ∀ (Q:List V->Hp->Prop) (E:XS),(∀ us vs M1 H1,aX H M H1 M1->RelM K H1 M1->aI K H1 M1 us vs->Q' us M1->Q vs H1)->Aa K H M E' E->t σ H Q E
def B8 (D:Dat) (es:List Expr) (t':Co):Prop:=∃ t,(∀ X,kN D X->El X es t)/\Wq D.K t t'
section
variable {D:Dat} {e a b o:Expr} {es:List Expr} {te tb:sA} {ta to:UE} {t:Co} {t0:UA} {pos:Pos}
theorem Jr (h:kS D es t0):B8 D es (fun τ M Q _=>t0 τ M Q):=let ⟨_,p,s⟩:=h;⟨_,fun X h=>Ts h.xe (p X h),fun σ τ H M Q' E' rs rm q Q E c _=>s σ τ H M Q' rs rm q Q c⟩
def Fm (te:sA) (t:Co):Co:=fun τ M Q E=>te τ M (fun u M1=>t τ M1 (fun us M2=>Q (u :: us) M2) E) E
theorem BY (ha:rV D e te) (hr:B8 D es t) (hs:∀ env,starEach (e :: es) env=(false,eval e env) :: starEach es env:=by intro _;rfl):B8 D (e :: es) (Fm te t) :=
 let ⟨_,p,s⟩:=ha;let ⟨_,q,r⟩:=hr;⟨_,fun X h=>Nh (p X h) (q X h) (hs _),fun σ τ H M Q' E' rs rm h Q E c cx =>
  s σ τ H M _ E' rs rm h _ E (fun u v M1 H1 s1 rm1 ru h1=>r σ τ H1 M1 _ E' (rs.stp s1) rm1 h1 _ E (fun us vs M2 H2 s2 rm2 rus h2=>c (u :: us) (v :: vs) M2 H2 (s1.trans s2) rm2 (.cons (ru.stp s2) rus) h2) (cx.stp s1)) cx⟩
def PZ (t:Co):sA:=fun τ M Q E=>t τ M (fun us M1=>us.length<=sizeLine/\Q (.tup us) M1) E
theorem SV {x1} (h:B8 D es t):rV D (.Tuple es x1 pos) (PZ t):=let ⟨_,p,s⟩:=h;⟨_,fun X h=>RC (p X h),fun σ τ H M Q' E' rs rm q Q E c cx =>
 s σ τ H M _ E' rs rm q _ E (fun us vs M1 H1 s1 rm1 r h1=>⟨by rw [<- r.length];exact h1.1,fun p hp=>(cK.stp c s1).tup rm1 r hp h1.2⟩) cx⟩
def Pb (o:Bool) (t:Co):sA:=fun τ M Q E=>t τ M (fun us M1=>us.length<=sizeLine/\kZ o us M1 Q) E
theorem S6 (own:Bool:=false) (h:B8 D es t):rV D (.List es pos) (Pb own t):=let ⟨_,p,s⟩:=h;⟨_,fun X h=>QC (p X h),fun σ τ H M Q' E' rs rm q Q E c cx =>
 s σ τ H M _ E' rs rm q _ E (fun us vs M1 H1 s1 rm1 r h1=>⟨by rw [<- r.length];exact h1.1,fun p hp=>(cK.stp c s1).lst rm1 r hp h1.2⟩) cx⟩
def Sm (r:eC) (ta:UE) (tb:sA):sA:=fun τ M Q E=>ta τ M fun x M1=>tb τ M1 (fun y M2=>r x y M2 Q) E
theorem Ti (own:Bool:=false) (ha:bC D a ta) (hb:rV D b tb):rV D (.BinOp a .Add b pos) (Sm (oQ own) ta tb):=by
 obtain ⟨_,p,s⟩:=ha;obtain ⟨_,q,r⟩:=hb
 refine ⟨_,fun X h=>S4 (r:=Iq D.K) h.xe (by have:=J8.or (A5.or ((Fu (X:=X)).or (G1 (X:=X))));rw [h.K] at this;exact this) (p X h) (q X h),fun σ τ H M Q' E' rs rm h Q E c cx=>?_⟩
 exact s σ τ H M _ rs rm h _ fun u v M1 H1 s1 rm1 ru h1=>r σ τ H1 M1 _ E' (rs.stp s1) rm1 h1 _ E (fun w x M2 H2 s2 rm2 rw h2=>GU v x u w H2 M2 Q' rm2 (ru.stp s2) rw h2 Q (cK.stp c (s1.trans s2))) (cx.stp s1)
def Uc (r:U->List U->aF->UK->Prop) (to:UE) (t:Co):sA:=fun τ M Q E=>to τ M fun x M1=>GJ M1 x/\t τ M1 (fun xs M2=>r x xs M2 Q) E
theorem Kx {apos:Pos} (ho:bC D o to) (ha:B8 D [e] t) (hbase:∀ env,attributeBase o "append" env (eval o env)=eval o env:=by intro _;rfl)
  (hfew:∀ env,((backTo pos (starEach [e] env)).all (fun x=>!x.1) && (backToKw pos (keywordEach [] env)).all (fun x=>x.1.isSome) && decide ([e].length + ([]:List Keyword).length + (if ([]:List Keyword).isEmpty then 0 else 1) < 30))=true:=by intro _;rfl)
  (hline:(apos.endLine == pos.line)=true:=by rfl) (hs:∀ env,starEach [e] env=[(false,eval e env)]:=by intro _;rfl):rV D (.Call (.Attribute o "append" apos) [e] [] pos) (Uc jS to t):=by
 obtain ⟨w1,p,s⟩:=ho;obtain ⟨w2,q,r⟩:=ha
 refine ⟨fun σ H Q E=>w1 σ H fun x H1=>Gq D.K "list" x H1/\w2 σ H1 (fun xs H2=>Cd x xs H2 Q) E,fun X h=>?_,fun σ τ H M Q' E' rs rm h Q E c cx=>s σ τ H M _ rs rm h _ fun u v M1 H1 s1 rm1 ru h1=>⟨h1.1.ty rm1 ru,r σ τ H1 M1 _ E' (rs.stp s1) rm1 h1.2 _ E (fun us vs M2 H2 s2 rm2 rus h2=>Bz v vs u us H2 M2 Q' rm2 (ru.stp s2) rus h2 Q (cK.stp c (s1.trans s2))) (cx.stp s1)⟩⟩
 have:=U4 (cpos:=pos) (apos:=apos) h.xe PySem.F.plainAttrs_list PySem.F.slot_list_append PySem.F.type_list_append x8 (p X h) (q X h) (hbase _) (hfew _) hline (hs _) (by rfl)
 rw [h.K] at this
 exact this
structure xP (P:Program) (w:World) (K:PySem.W.Frag) (mg:Str->Option Value) (base:Heap) (j:Nat) (f:Addr) (sp:jL):Prop where
 ex:∃ fd ps,fJ P w K mg base (sZ P w) j f fd ps (qW K sp)/\PySem.W.keepIn K (.ref f)=true/\Binds K fd ps []
def zT (i:Nat) (f:Addr) (sp:jL) (t:UA):sA:=fun τ M Q E=>jR i τ M fun v M1=>v=.ref f/\t τ M1 fun us M2=>sp us M2 Q fun C fs M3=>E C fs τ M3
theorem Oz (i:Nat) {x:Str} {p:Pos} {j:Nat} {f:Addr} {sp:jL} (F:xP D.prog D.w D.K D.mg D.base j f sp) (ha:kS D (e :: es) t0) (hfn:D.fn=true:=by rfl) (hN:D.N[i]?=some x:=by rfl) (hv:A7 D.sc x:=by first | exact Or.inl rfl | exact Or.inr (Or.inl rfl) | exact Or.inr (Or.inr rfl))
  (hj:j<=D.k:=by first | exact Nat.le_refl _ | (dsimp only;omega) | omega) (hd:(x == ("__debug__":Str))=false:=by decide) (hcd:(x == ("__classdict__":Str))=false:=by decide)
  (he:∀ env,starEach (e :: es) env=(false,eval e env) :: starEach es env:=by intro _;rfl) (hpl:∀ env,(backTo pos (starEach es env)).any (·.1)=false:=by intro _;rfl):rV D (.Call (.Name x p) (e :: es) [] pos) (zT i f sp t0):=by
 obtain ⟨fd,ps,F,kp,hb⟩:=F.ex
 obtain ⟨t1,q,s⟩:=ha
 refine ⟨fun σ H Q E=>tL i σ H fun v H1=>v=.ref f/\t1 σ H1 fun vs H2=>qW D.K sp vs H2 Q fun c d H3=>E c d σ H3,fun X h=>?_,fun σ τ H M Q' E' rs rm h Q E c cx=>?_⟩
 ·have F':fJ X.prog X.w X.K X.mg X.base (sZ X.prog X.w) j f fd ps (qW D.K sp):=by rw [h.prog,h.w,h.K,h.mg,h.base];exact F
  exact LH h.xe (h.dl hfn).1 (by rw [h.N];exact hN) (by rw [h.sc];exact hv) F' (h.room.mono hj) (by rw [h.K];exact kp) (by rw [h.K];exact hb) (q X h) hd hcd (he _) (hpl _)
 ·refine y7 i σ τ H M _ rs rm h _ fun u v M1 H1 s1 rm1 ru h1=>?_
  obtain ⟨rfl,h1⟩:=h1
  refine ⟨ru.ref,s σ τ H1 M1 _ (rs.stp s1) rm1 h1 _ fun us vs M2 H2 s2 rm2 rus h2=>?_⟩
  exact ⟨us,M2,Q',fun C fs M3=>E' C fs τ M3,rm2,rus,h2,cK.stp c (s1.trans s2),fun C fs' fs H3 M3 d s3 rm3 ra hd q3=>cx C fs' fs σ τ H3 M3 d ((s1.trans s2).trans s3) rm3 (rs.stp ((s1.trans s2).trans s3)) ra hd q3⟩
end
end U2
namespace U2
open PySem PySem.Spec L2
theorem bY.at {P:Program} {w:World} {K:PySem.W.Frag} {mg:Str->Option Value} {base:Heap} {j:Nat} {x:Str} {f:Addr} {sp:jL} (c:bY P w K mg base j x sp []) (hm:mg x=some (.ref f)):xP P w K mg base j f sp:=by
 obtain ⟨f',fd,ps,dvs,ds,F,hm',kp,hb,hv,hr⟩:=c.ex
 rw [hm] at hm';cases hm'
 have h0:dvs=[]:=(hr (fun _=>none) (fun _=>none)).inv_nil
 subst h0
 cases hv
 exact ⟨fd,ps,F,kp,hb⟩
end U2
namespace L2
open PySem PySem.Spec PyProof.Rows
section
variable {κ:Type} [DecidableEq κ]
def vP (kvs:List (κ × V)) (k:κ):Option V:=(kvs.find? fun kv=>decide (kv.1=k)).map (·.2)
def putK (kvs:List (κ × V)) (k:κ) (v:V):List (κ × V) :=
 if (kvs.any fun kv=>decide (kv.1=k))=true then kvs.map (fun kv=>if kv.1=k then (kv.1,v) else kv) else kvs++[(k,v)]
def vH (kvs:List (κ × V)) (k:κ):List (κ × V):=kvs.filter fun kv=>decide (kv.1≠k)
theorem sE {p:κ × V} {r:List (κ × V)} {k:κ} (e:p.1=k):vP (p :: r) k=some p.2:=by simp [vP,List.find?_cons,e]
theorem sF {p:κ × V} {r:List (κ × V)} {k:κ} (e:¬ p.1=k):vP (p :: r) k=vP r k:=by simp [vP,List.find?_cons,e]
theorem Fy (k:κ):∀ kvs:List (κ × V),(kvs.any fun kv=>decide (kv.1=k))=(vP kvs k).isSome
 | []=>rfl
 | p :: r=>by
  rw [List.any_cons]
  by_cases e:p.1=k
  ·simp only [sE e,decide_eq_true e,Bool.true_or,Option.isSome_some]
  ·rw [sF e,decide_eq_false e,Bool.false_or];exact Fy k r
theorem OK (k j:κ) (y:V):∀ kvs:List (κ × V),vP (kvs.map fun kv=>if kv.1=k then (kv.1,y) else kv) j=(vP kvs j).map fun x=>if j=k then y else x
 | []=>rfl
 | p :: r=>by
  have ih:=OK k j y r
  rw [List.map_cons]
  by_cases h:p.1=k
  ·rw [if_pos h]
   by_cases e:p.1=j
   ·rw [sE (p:=(p.1,y)) e,sE e,Option.map_some,if_pos (e.symm.trans h)]
   ·rw [sF (p:=(p.1,y)) e,sF e,ih]
  ·rw [if_neg h]
   by_cases e:p.1=j
   ·rw [sE (p:=p) e,sE e,Option.map_some,if_neg (fun z=>h (e.trans z))]
   ·rw [sF (p:=p) e,sF e,ih]
theorem WR {kvs:List (κ × V)} {k:κ} (v:V) (h:vP kvs k=none):putK kvs k v=kvs++[(k,v)]:=by
 unfold putK
 rw [Fy,h]
 exact if_neg (by decide)
end
theorem Ut {a b:Key} (e:kV a=kV b):a=b:=by
 cases a with
 | inl i=>cases b with
  | inl j=>have e':V.int i=V.int j:=e;injection e' with e';rw [e']
  | inr y=>exact nomatch (show V.int i=V.str y from e)
 | inr x=>cases b with
  | inl j=>exact nomatch (show V.str x=V.int j from e)
  | inr y=>have e':V.str x=V.str y:=e;injection e' with e';rw [e']
theorem RE:∀ {a b:List Key},a.map kV=b.map kV->a=b
 | [],[],_=>rfl
 | [],_ :: _,e=>by simp at e
 | _ :: _,[],e=>by simp at e
 | x :: xs,y :: ys,e=>by
  rw [List.map_cons,List.map_cons] at e
  injection e with e1 e2
  rw [Ut e1,RE e2]
abbrev XE (H:Hp):List (List Key × V)->List (List Key × Addr × Value)->Prop:=Paired fun p q=>p.1=q.1/\H q.2.1=some (.tup (p.1.map kV))/\RelV p.2 q.2.2
section
variable {P:Program} {w:World} {H:Hp} {h:Heap} {a:Addr}
end
section
variable {X:Cx} {pins:List (Addr × Obj)} {σ:St} {H:Hp} {s:Shared} {a:Addr} {y v:V} {u r:Value} {o:Option V} {A:Around} {E:Value->Shared->Prop}
end
section
variable {X:Cx} {pins:List (Addr × Obj)} {σ:St} {H:Hp} {s:Shared} {a:Addr} {kvs:List (Key × V)} {k:Key} {u:Value} {A:Around} {E:Value->Shared->Prop}
end
section
variable {X:Cx} {o i e value:Expr} {pos pos' tpos:Pos} {td ty tv:TE}
end
section
variable {X:Cx} {pos:Pos}
end
abbrev VV:List (V × V)->List (Value × Value)->Prop:=Paired fun p q=>RelV p.1 q.1/\RelV p.2 q.2
section
variable {X:Cx} {pins:List (Addr × Obj)} {σ:St} {H:Hp} {s:Shared} {a:Addr} {y d:V} {u r:Value} {o:Option V} {A:Around} {E:Value->Shared->Prop}
end
section
variable {X:Cx} {o e f:Expr} {apos cpos:Pos} {td ty tx:TE}
end
section
variable {X:Cx} {pins:List (Addr × Obj)} {σ:St} {H:Hp} {s:Shared} {a:Addr} {kvs:List (Key × V)} {A:Around} {E:Value->Shared->Prop}
end
section
variable {X:Cx} {pins:List (Addr × Obj)} {σ:St} {H:Hp} {s:Shared} {a:Addr} {y:V} {u:Value} {A:Around} {E:Value->Shared->Prop}
end
section
variable {X:Cx}
end
section
variable {κ:Type} [DecidableEq κ]
theorem WB {p:κ × V} {r:List (κ × V)} {k:κ} (e:p.1=k):vH (p :: r) k=vH r k:=by
 unfold vH
 rw [List.filter_cons,if_neg (by simp [e])]
theorem L5 {p:κ × V} {r:List (κ × V)} {k:κ} (e:¬ p.1=k):vH (p :: r) k=p :: vH r k:=by
 unfold vH
 rw [List.filter_cons,if_pos (by simp [e])]
theorem MC:∀ {kvs:List (κ × V)} {k:κ},¬ k∈kvs.map (·.1)->vH kvs k=kvs
 | [],_,_=>rfl
 | p :: r,k,h=>by
  have h':¬ k∈r.map (·.1):=fun m=>by
   obtain ⟨q,hq,e⟩:=List.mem_map.mp m
   exact h (List.mem_map.mpr ⟨q,List.mem_cons.mpr (Or.inr hq),e⟩)
  rw [L5 fun e=>h (List.mem_map.mpr ⟨p,List.mem_cons.mpr (Or.inl rfl),e⟩),MC h']
end
end L2
namespace L2
open PySem PySem.Spec PyProof.Rows PySem.F
section
variable {prog:Program} {w:World} {A:Around} {E:Value->Shared->Prop} {s:Shared} {d it vw:Addr} {es:Array DictEntry} {ep i:Nat} {e:DictEntry}
end
end L2
namespace U2
open PySem PySem.Spec PyProof.Rows L2
end U2
namespace U2
open PySem PySem.Spec PyProof.Rows L2
def D9:U->Option Key
 | .int i=>some (.inl i)
 | .str x=>some (.inr x)
 | _=>none
def wW:List U->Option (List Key)
 | []=>some []
 | u :: us=>match D9 u,wW us with
  | some k,some ks=>some (k :: ks)
  | _,_=>none
def kU:Key->U
 | .inl i=>.int i
 | .inr x=>.str x
theorem Qe (k:Key):D9 (kU k)=some k:=by cases k <;> rfl
theorem MR:∀ ks:List Key,wW (ks.map kU)=some ks
 | []=>rfl
 | k :: ks=>by simp only [List.map_cons,wW,Qe,MR ks]
theorem N2 {K:PySem.W.Frag} {H:Hp} {M:aF} {u:U} {v:V} {k:Key} (r:aP K H M u v) (e:D9 u=some k):v=kV k:=by
 cases u with
 | int i=>cases e;exact r.int
 | str x=>cases e;exact r.str
 | _=>cases e
theorem My {K:PySem.W.Frag} {H:Hp} {M:aF}:∀ {us:List U} {vs:List V} {ks:List Key},aI K H M us vs->wW us=some ks->vs=ks.map kV
 | [],_,_,r,e=>by cases e;exact r.inv_nil
 | u :: us,_,ks,r,e=>by
  obtain ⟨v,vs',rfl,a,b⟩:=r.inv_cons
  simp only [wW] at e
  cases e1:D9 u with
  | none=>rw [e1] at e;cases e
  | some k =>
   cases e2:wW us with
   | none=>rw [e1,e2] at e;cases e
   | some ks' =>
    rw [e1,e2] at e;cases e
    rw [N2 a e1,My b e2];rfl
section
variable {κ:Type} [DecidableEq κ]
def xJ (kvs:List (κ × U)) (k:κ):Option U:=(kvs.find? fun kv=>decide (kv.1=k)).map (·.2)
theorem OB {p:κ × U} {r:List (κ × U)} {k:κ} (e:p.1=k):xJ (p :: r) k=some p.2:=by simp [xJ,List.find?_cons,e]
theorem OA {p:κ × U} {r:List (κ × U)} {k:κ} (e:¬ p.1=k):xJ (p :: r) k=xJ r k:=by simp [xJ,List.find?_cons,e]
theorem N5 (k:κ):∀ kvs:List (κ × U),(kvs.any fun kv=>decide (kv.1=k))=(xJ kvs k).isSome
 | []=>rfl
 | p :: r=>by
  rw [List.any_cons]
  by_cases e:p.1=k
  ·simp only [OB e,decide_eq_true e,Bool.true_or,Option.isSome_some]
  ·rw [OA e,decide_eq_false e,Bool.false_or];exact N5 k r
variable {K:PySem.W.Frag} {H:Hp} {M:aF}
end
def Hb:List Key->Key
 | [k]=>k
 | _=>.inl 0
def Wz (M:aF):U->Option MO
 | .ref a=>M a
 | .dic ks true us=>some (.dT (ks.zip us))
 | .dic ks false us=>some (.dK ((ks.map Hb).zip us))
 | _=>none
section
variable {K:PySem.W.Frag} {H:Hp} {M:aF} {x y:U} {v u:V}
def Xo (tk:Bool) (M:aF) (x y:U):Option (Option U):=match tk with
 | false=>match Wz M x,D9 y with
  | some (.dK kvs),some k=>some (xJ kvs k)
  | _,_=>none
 | true=>match Wz M x,y with
  | some (.dT kvs),.tup ys=>(wW ys).map (xJ kvs)
  | _,_=>none
end
section
variable {D:Dat} {a b c e o i:Expr} {ta tb tc te to ti:UE} {pos p:Pos} {es:List Expr} {tas:UA} {x:Str}
end
end U2
namespace U2
open PySem PySem.Spec PyProof.Rows L2
end U2
namespace L2
open PySem PySem.Spec PyProof.Rows
def Xt:HO->Nat
 | .dK kvs=>kvs.length
 | .dT kvs=>kvs.length
 | _=>0
section
variable {X:Cx} {tg:Expr}
end
end L2
namespace U2
open PySem PySem.Spec PyProof.Rows L2
def keyOf (tk:Bool) (k:List Key):U:=if tk then .tup (k.map kU) else kU (Hb k)
def PC (tk:Bool) (ks:List (List Key)):List U:=ks.map (keyOf tk)
def Xj (tk:Bool) (ks:List (List Key)) (us:List U):List U:=(ks.zip us).map fun p=>.tup [keyOf tk p.1,p.2]
theorem WD (tk:Bool) (ks:List (List Key)):(PC tk ks).length=ks.length:=by simp [PC]
section
variable {K:PySem.W.Frag} {H:Hp} {M:aF}
end
section
variable {D:Dat} {tg e:Expr} {te:UE} {pos p:Pos}
end
end U2
namespace U2
open PySem PySem.Spec PyProof.Rows L2
section
variable {K:PySem.W.Frag} {H:Hp} {M1 M':aF}
def Xv (kvs:List (Key × U)):U:=.dic (kvs.map fun e=>[e.1]) false (kvs.map (·.2))
def Xw (kvs:List (List Key × U)):U:=.dic (kvs.map (·.1)) true (kvs.map (·.2))
end
end U2
namespace L2
open PySem PySem.Spec PyProof.Rows
section
variable {X:Cx} {o e f:Expr} {apos cpos:Pos} {td ty tx:TE}
end
end L2
namespace U2
open PySem PySem.Spec PyProof.Rows L2
end U2
namespace U2
open PySem L2
end U2
namespace U2
open PySem PySem.Spec PyProof.Rows L2
section
variable {prog:Program} {w:World} {κ:Type} [DecidableEq κ] {knd:KeyKind prog w κ} {A:Around} {E:Value->Shared->Prop} {s:Shared}
end
end U2
namespace U2
open PySem PySem.Spec PyProof.Rows L2
section
variable {prog:Program} {w:World} {A:Around} {E:Value->Shared->Prop} {s:Shared} {r:Addr} {a b:Int} {t u v:Tok}
end
section
variable {X:Cx} {tg a b e:Expr} {ta:TA} {te:TE} {p pos:Pos}
end
section
variable {D:Dat} {tg a b:Expr} {p p2 pos pos2:Pos} {ta:UA}
end
end U2
namespace U2
open PySem PySem.Spec PyProof.Rows L2
section
variable {X:Cx}
end
end U2
namespace L2
open PySem PySem.Spec PyProof.Rows
def Cc (σ:List Str) (v:Str):List Str:=if σ.any (· == v) then σ else σ++[v]
def fA (l:List Str):List Str:=l.foldl Cc []
theorem rB (l:List Str) (v:Str):fA (l++[v])=Cc (fA l) v:=by simp [fA,List.foldl_append]
theorem AN (σ:List Str) (v:Str):(Cc σ v).length=if σ.any (· == v) then σ.length else σ.length + 1:=by
 unfold Cc;split <;> simp
theorem EA (σ:List Str) (v k:Str):(Cc σ v).any (· == k)=(σ.any (· == k) || decide (k=v)):=by
 unfold Cc
 by_cases h:σ.any (· == v)=true
 ·rw [if_pos h]
  by_cases e:k=v
  ·subst e;simp [h]
  ·simp [e]
 ·rw [if_neg h,List.any_append]
  by_cases e:k=v
  ·subst e;simp
  ·have:(v == k)=false:=by simpa using fun z:v=k=>e z.symm
   simp [this,e]
theorem snoc_ind {P:List Str->Prop} (h0:P []) (h1:∀ l v,P l->P (l++[v])) (l:List Str):P l:=by
 have:∀ r:List Str,P r.reverse:=by
  intro r
  induction r with
  | nil=>exact h0
  | cons a r ih=>rw [List.reverse_cons];exact h1 _ _ ih
 have:=this l.reverse
 rwa [List.reverse_reverse] at this
theorem Qv (l:List Str) (k:Str):(fA l).any (· == k)=decide (k∈l):=by
 refine snoc_ind (P:=fun l=>(fA l).any (· == k)=decide (k∈l)) (by simp [fA]) (fun l v ih=>?_) l
 rw [rB,EA,ih];by_cases h:k∈l <;> by_cases e:k=v <;> simp [h,e]
theorem Kp (l:List Str):(fA l).length<=l.length:=by
 refine snoc_ind (P:=fun l=>(fA l).length<=l.length) (by simp [fA]) (fun l v ih=>?_) l
 rw [rB,AN,List.length_append,List.length_singleton];split <;> omega
theorem KC (l:List Str):((fA l).length=l.length) ↔ l.Nodup:=by
 refine snoc_ind (P:=fun l=>((fA l).length=l.length) ↔ l.Nodup) (by simp [fA]) (fun l v ih=>?_) l
 rw [rB,AN,Qv,List.length_append,List.length_singleton]
 have hle:=Kp l
 have hn:(l++[v]).Nodup ↔ l.Nodup/\v ∉ l:=by
  rw [List.nodup_append]
  constructor
  ·rintro ⟨a,_,b⟩;exact ⟨a,fun h=>b v h v (by simp) rfl⟩
  ·rintro ⟨a,b⟩;exact ⟨a,by simp,fun x hx y hy e=>b (by simp at hy;subst hy;subst e;exact hx)⟩
 rw [hn,<- ih]
 by_cases h:v∈l
 ·simp [h];omega
 ·simp [h]
section
variable {prog:Program} {w:World} {A:Around} {I:Addr} {fp wr:List Addr} {G:Array GenState->Array GenState->Prop} {n:Nat} {P:Nat->Value->Prop} {St:Nat->Shared->Prop} {R:Result->Shared->Prop}
theorem Cm (W:WalksS prog w A.in1 I fp wr G n P St) (S:Addr) (hSf:S ∉ fp) (l:List Str) (hl:l.length=n) (hval:∀ i v,P i v->∃ x t,l[i]?=some x/\v=.str x t) (hb:n + 1 < scanBound) :
  ∀ (k i:Nat) (s:Shared),n - i=k->i<=n->St i s->s.heap.SetOf (strKind prog w) S (fun y=>(fA (l.take i)).any (· == y)) (fA (l.take i)).length ->
   (∀ s',Moved (S :: wr) G s s'->s'.heap.SetOf (strKind prog w) S (fun y=>(fA l).any (· == y)) (fA l).length->R (.ok (.ret .none)) s') ->
   codeAny (model prog w) A (.builtin "set.update.loop" ⟨[.ref S,.ref I],[]⟩) R s:=by
 have hSw:S ∉ wr:=fun h=>hSf (W.sub _ h)
 have up:∀ b∈wr,b∈S :: wr:=fun b hb=>List.mem_cons_of_mem _ hb
 have keep:∀ {s s':Shared} {T:Str->Bool} {m:Nat},Moved wr G s s'->s.heap.SetOf (strKind prog w) S T m->s'.heap.SetOf (strKind prog w) S T m:=by
  intro s s' T m hm h
  obtain ⟨o,es,ep,t,ho,rest⟩:=h
  exact ⟨o,es,ep,t,hm.heap S _ hSw ho,rest⟩
 intro k
 induction k with
 | zero =>
  intro i s hk hi hst hS hR
  obtain rfl:i=n:=by omega
  refine codeAny_builtin F.entry_set_update_loop ?_
  rw [Around.under_plainId F.plain_set_update_loop _]
  show wpAny _ A.in1 (pyNext (.ref I) >>= _) _ _ s
  refine wpAny_bind (W.done s _ _ hst fun s' hm=>?_)
  show wpAny _ A.in1 (ret Value.none) _ _ s'
  refine wpAny_pure (hR s' (hm.mono up) (keep hm ?_))
  rw [List.take_of_length_le (by omega)] at hS
  exact hS
 | succ k ih =>
  intro i s hk hi hst hS hR
  have hlt:i < n:=by omega
  refine codeAny_builtin F.entry_set_update_loop ?_
  rw [Around.under_plainId F.plain_set_update_loop _]
  show wpAny _ A.in1 (pyNext (.ref I) >>= _) _ _ s
  refine wpAny_bind (W.item i s _ _ hlt hst fun v s' hP hst' hm=>?_)
  obtain ⟨x,t,hx,rfl⟩:=hval i v hP
  have hS':=keep hm hS
  show wpAny _ A.in1 (holding [Value.str x t] (setAdd S (.str x t)) >>= _) _ _ s'
  refine wpAny_bind (wpAny_holding ?_)
  unfold setAdd
  refine wpAny_holding ?_
  refine wpAny_bind ((strKind prog w).pyHash (k:=x) (strKind_is _ _ _ _) ?_)
  have hroom:(fA (l.take i)).length + 1 < scanBound:=by have:=Kp (l.take i);rw [List.length_take] at this;omega
  refine wpAny_setAddHashed_of (knd:=strKind prog w) (s:={ s' with toks:=s'.toks + 1 }) (strKind_is _ _ _ _) rfl hS' hroom fun h' hsb hS2=>?_
  have e1:l.take (i + 1)=l.take i++[x]:=by rw [List.take_succ,hx];rfl
  have hSi:h'.SetOf (strKind prog w) S (fun y=>(fA (l.take (i + 1))).any (· == y)) (fA (l.take (i + 1))).length :=
   SetOf_congr hS2 (fun y=>by rw [e1,rB,EA]) (by rw [e1,rB,AN])
  refine wpAny_pure ⟨plainId_quiet F.plain_set_update_loop _,ih (i + 1) _ (by omega) hlt (W.frame _ s' _ _ hst' (Nat.le_succ _) fun b hb o e=>?_) hSi fun s2 hm2 hS3=>?_⟩
  ·rw [hsb.2 b (fun h:b=S=>hSf (by rw [<- h];exact hb))];exact e
  ·refine hR s2 (Moved.trans W.gtrans ((hm.mono up).then_heap (Nat.le_succ _) fun b o hb e=>?_) hm2) hS3
   rw [hsb.2 b (fun h:b=S=>hb (by rw [h];exact List.mem_cons_self))];exact e
end
section
variable {prog:Program} {w:World} {A:Around} {E:Value->Shared->Prop} {s:Shared}
def iX (led:Bool):Obj:={ cls:=.type "set",dict:=none,data:=.set #[] 0 (.fresh 0 0 led) }
theorem LA {a:Addr} {items:Array Value} {l:List Str} {Q:Value->Shared->Prop} (hh:A.handled=none) (ha:s.heap.IsList a items) (hs:items.size=l.length) (hi:∀ (i:Nat) v,items[i]?=some v->∃ x t,l[i]?=some x/\v=.str x t) (hb:l.length + 1 < scanBound)
  (h:∀ (h':Heap) (tk:Nat),h'.SetOf (strKind prog w) s.heap.objs.size (fun y=>(fA l).any (· == y)) (fA l).length->(∀ b o,b < s.heap.objs.size->s.heap.get? b=some o->h'.get? b=some o)->Q (.ref s.heap.objs.size) { s with heap:=h',toks:=tk }) :
  wpAny (model prog w) A (call (.type "set") [.ref a]) Q E s:=by
 obtain ⟨c,tl,hmro⟩:=F.called_set.mro
 have hmade:=F.called_set.made
 have hsub:=F.called_set.sub
 refine wpAny_call (codeAny_of_tree ?_)
 show wpAny _ _ (callAny (.type "set") _) _ _ _
 refine wpAny_pure ⟨Code.quiet_builtin _ (by decide +kernel),codeAny_builtin F.entry_type_call ?_⟩
 rw [Around.under_plain (weight_type_call_type "set" [.ref a] []) rfl]
 have h1:=F.called_set.notType
 have h2:=F.called_set.canCreate
 have hct:=F.typeCall_set_1 (.ref a)
 repeat (any_goals (first | assumption | wp_step))
 refine codeAny_mono (code_set_new_1 (.ref a) (E:=E) (Q₁:=fun obj s1=>∃ led:Bool,obj=.ref s.heap.objs.size/\s1={ s with heap:=s.heap.push (iX led) }) fun led=>⟨led,rfl,rfl⟩) fun r s1 hr=>?_
 cases r with
 | error e=>exact hr
 | ok fl =>
  cases fl with
  | ret obj =>
   obtain ⟨led,rfl,rfl⟩:=hr
   have hS:(s.heap.push (iX led)).get? s.heap.objs.size=some (iX led):=Heap.get?_push_size _ rfl
   have hT:Shared.TypeIs { s with heap:=s.heap.push (iX led) } (.ref s.heap.objs.size) "set":=⟨_,hS,rfl⟩
   have hli:=F.called_set.init.lookup
   have hbi:=F.called_set.init.bind (.ref s.heap.objs.size)
   repeat (any_goals (first | assumption | wp_step))
   have hlt:a < s.heap.objs.size:=by obtain ⟨o,ho,_⟩:=ha;exact Heap.lt_size ho
   refine codeAny_mono (codeAny_call_builtin (R:=wants (fun r s2=>r=.none/\∃ h' tk,s2={ s with heap:=h',toks:=tk } /\
     h'.SetOf (strKind prog w) s.heap.objs.size (fun y=>(fA l).any (· == y)) (fA l).length/\(∀ b o,b < s.heap.objs.size->s.heap.get? b=some o->h'.get? b=some o)) E) F.called_set.init.plain F.entry_set_init (check_set_init_1 hT ?_)) fun r2 s2 hr2=>?_
   ·obtain ⟨ol,hol,hcl,nl,hdl⟩:=ha
    obtain ⟨ocls,odict,odata,oslots⟩:=ol
    simp only at hcl hdl
    subst hcl;subst hdl
    have hol':(s.heap.push (iX led)).get? a=some { cls:=.type "list",dict:=odict,data:=.seq items nl,slots:=oslots }:=Heap.get?_push_of_some _ hol
    have g1:=F.sub_list_set
    have g2:=F.sub_list_frozenset
    have hne:(Value.type "list" == Value.type "dict")=false:=by decide
    have hl1:(s.heap.push (iX led)).IsList a items:=⟨_,hol',rfl,nl,rfl⟩
    unfold Builtin.«set.__init__» noKeywords Builtin.Frozenset.updateFrom
    generalize hPI:pyIter=PI
    wp_walk
    subst hPI
    refine wpAny_pyIter_list hl1 ?_
    refine wpAny_bind (wpAny_runValue ?_)
    have hh3:A.in1.in1.in1.handled=none:=by simp [hh]
    have hsz:(s.heap.push (iX led)).objs.size=s.heap.objs.size + 1:=Heap.size_push _ _
    refine Cm ((Walks.list hh3 _ a (by rw [hsz];exact Nat.ne_of_lt (Nat.lt_succ_of_lt hlt)) items).toS) s.heap.objs.size (by rw [hsz];simp only [List.mem_cons,List.not_mem_nil,or_false,not_or];exact ⟨Nat.ne_of_lt (Nat.lt_succ_self _),Nat.ne_of_gt hlt⟩) l hs.symm hi (by omega) (items.size - 0) 0 _ (by omega) (Nat.zero_le _) ⟨⟨_,Heap.get?_push_size _ rfl,rfl,rfl⟩,(hl1.push _)⟩ ?_ ?_
    ·exact SetOf_congr ((setObjOf_fresh (knd:=strKind prog w) led).setOf (Heap.get?_push_of_some _ hS) (by unfold scanBound;omega)) (fun _=>by simp [fA]) (by simp [fA])
    ·intro s' hm hS'
     obtain ⟨h',g',d',tk',os'⟩:=s'
     have eg:g'=s.gens:=hm.gens
     have ed:d'=s.drawn:=hm.drawn
     have eo:os'=s.os:=hm.os
     subst eg;subst ed;subst eo
     show wpAny _ _ _ _ _ _
     refine wpAny_pure ?_
     show wpAny _ _ (ret Value.none) _ _ _
     refine wpAny_pure ⟨rfl,h',tk',rfl,hS',fun b o hb e=>?_⟩
     exact hm.heap b o (by rw [hsz];simp only [List.mem_cons,List.not_mem_nil,or_false,not_or];exact ⟨Nat.ne_of_lt hb,Nat.ne_of_lt (Nat.lt_succ_of_lt hb)⟩) (Heap.get?_push_of_some _ (Heap.get?_push_of_some _ e))
   ·cases r2 with
    | error e=>exact hr2
    | ok fl2 =>
     cases fl2 with
     | ret r =>
      obtain ⟨rfl,h',tk,rfl,hS',hk'⟩:=hr2
      repeat (any_goals (first | assumption | wp_step))
      exact h _ _ hS' hk'
     | _=>exact hr2.elim
  | _=>exact hr.elim
end
end L2
namespace L2
open PySem PySem.Spec PyProof.Rows
theorem G3 {ns:List Str}:∀ {us:List Value},Vals (ns.map V.str) us->us.length=ns.length/\∀ (i:Nat) v,us[i]?=some v->∃ x t,ns[i]?=some x/\v=.str x t:=by
 induction ns with
 | nil=>intro us r;cases r;exact ⟨rfl,fun i v h=>by simp at h⟩
 | cons n ns ih =>
  intro us r
  rw [List.map_cons] at r
  cases r with
  | cons r1 r2 =>
   obtain ⟨t,rfl⟩:=r1
   obtain ⟨h1,h2⟩:=ih r2
   refine ⟨by simp [h1],fun i v h=>?_⟩
   cases i with
   | zero=>simp at h;exact ⟨n,t,rfl,h.symm⟩
   | succ i=>simp at h;exact h2 i v h
theorem boot_set:bootBuiltins "set"=some (.type "set"):=by kernel_rfl
theorem Mc:bootBuiltins "len"=some (.builtin "len"):=by kernel_rfl
section
variable {X:Cx} {a:Expr} {ta:TA} {p p2 pos pos2:Pos}
end
end L2
namespace U2
open PySem PySem.Spec PyProof.Rows L2
theorem Am {K:PySem.W.Frag} {H:Hp} {M:aF}:∀ {ss:List Str} {vs:List V},aI K H M (ss.map U.str) vs->vs=ss.map V.str
 | [],vs,r=>r.inv_nil
 | s :: ss,vs,r=>by
  obtain ⟨v,vs',rfl,a,b⟩:=aI.inv_cons r
  rw [a.str,Am b];rfl
section
variable {D:Dat} {a:Expr} {ta:UA} {pos p p2 pos2:Pos}
end
end U2
namespace U2
open PySem PySem.Spec PyProof.Rows L2
open AutoSeq1 (wpAny_loadPart')
open MeetsSeq MeetsSeq2 MeetsSeq3 SeqRoads2
def W7:U->List U->aF->UK->Prop:=fun x ws M Q=>match x,ws with
 | .tup us,[.str w]=>∃ (ss:List Str) (j:Nat),sW us=some ss/\ss[j]?=some w/\(∀ m z,m < j->ss[m]?=some z->z≠w)/\Q (.int (j:Nat)) M
 | _,_=>False
theorem tW:∀ {ys:List Str} {its:List Value},Vals (ys.map V.str) its->StrsAre its ys
 | [],its,r=>by cases r;exact .nil
 | y :: ys,its,r=>by
  cases r with
  | cons r rr =>
   obtain ⟨t,rfl⟩:=r
   exact .cons _ _ (tW rr)
def rJoin (K:PySem.W.Frag):V->List V->Hp->VK->Prop:=fun x vs H Q=>∃ z p ys,x=.str z/\vs=[.ref p]/\(fB K H p (ys.map V.str)\/gI K H p (ys.map V.str))/\(ys.map (·.length)).sum + ys.length * z.length<=16777216/\Q (.str (Txt.join z ys)) H
theorem R5 {X:Cx}:GY X "str.join" (rJoin X.K):=by
 intro pins s σ H x vs v us Q I rx rv h
 obtain ⟨z,p,ys,rfl,rfl,hq,hsz,q⟩:=h
 obtain ⟨t,rfl⟩:=rx
 obtain ⟨u,rfl,ru⟩:=rv.one
 cases ru
 rcases hq with hq | hq
 ·obtain ⟨its,r,pl,hz⟩:=I.list hq
  exact join_list pl.isList (by simpa using tW r) hsz fun t' k=>⟨.str _,H,I.tok k,⟨t',rfl⟩,q⟩
 ·obtain ⟨its,r,pl,hz⟩:=I.tuple hq
  exact join_tuple pl (by simpa using tW r) hsz fun t' k=>⟨.str _,H,I.tok k,⟨t',rfl⟩,q⟩
def rC (x:U):Prop:=∃ z,x=.str z
def BI (r:U->List U->aF->UK->Prop) (to:UE) (t:UA):UE:=fun τ M Q=>to τ M fun x M1=>rC x/\t τ M1 fun xs M2=>r x xs M2 Q
theorem QV {K:PySem.W.Frag} {r:V->List V->Hp->VK->Prop} {r':U->List U->aF->UK->Prop} {to:TE} {to':UE} {t:TA} {t':UA} (hr:pE K r r') (ho:bV K to to') (h:mN K t t') :
  bV K (O0 K "str" r to t) (BI r' to' t'):=fun σ τ H M Q' rs rm q Q c =>
 ho σ τ H M _ rs rm q _ fun u v M1 H1 s1 rm1 ru h1=>by
  obtain ⟨⟨z,rfl⟩,h1⟩:=h1
  cases ru.str
  exact ⟨rfl,h σ τ H1 M1 _ (rs.stp s1) rm1 h1 _ fun us' vs' M2 H2 s2 rm2 rus h2=>hr _ vs' _ us' H2 M2 Q' rm2 (ru.stp s2) rus h2 Q (cK.stp c (s1.trans s2))⟩
def wN:U->List U->aF->UK->Prop:=fun x ws M Q=>match x,ws with
 | .str z,[y]=>match items M y with
  | some us=>∃ ss:List Str,sW us=some ss/\(ss.map (·.length)).sum + ss.length * z.length<=16777216/\Q (.str (Txt.join z ss)) M
  | none=>False
 | _,_=>False
theorem OE {K:PySem.W.Frag}:pE K (rJoin K) wN:=fun x xs u us H M Q' rm ru rus h Q c=>by
 unfold wN at h
 split at h
 ·rename_i z y
  split at h
  ·rename_i us e
   obtain ⟨ss,h1,h2,q⟩:=h
   cases ru.str
   obtain ⟨v,rfl,a1⟩:=rus.one
   obtain ⟨p,vs,rfl,sq,rs⟩:=yP rm a1 e
   rw [CG rs h1] at sq
   exact ⟨z,p,ss,rfl,rfl,sq,h2,c.here rm fZ q⟩
  ·exact h.elim
 ·exact h.elim
theorem zJ {D:Dat} {o e:Expr} {ta:UE} {tas:UA} {pos apos:Pos} (ho:bC D o ta) (ha:kS D [e] tas) (hbase:∀ env,attributeBase o "join" env (eval o env)=eval o env:=by intro _;rfl)
  (hfew:∀ env,((backTo pos (starEach [e] env)).all (fun x=>!x.1) && (backToKw pos (keywordEach [] env)).all (fun x=>x.1.isSome) && decide ([e].length + ([]:List Keyword).length + (if ([]:List Keyword).isEmpty then 0 else 1) < 30))=true:=by intro _;rfl)
  (hline:(apos.endLine == pos.line)=true:=by rfl) (hs:∀ env,starEach [e] env=[(false,eval e env)]:=by intro _;rfl):bC D (.Call (.Attribute o "join" apos) [e] [] pos) (BI wN ta tas):=by
 obtain ⟨_,p,s⟩:=ho;obtain ⟨_,q,r⟩:=ha
 refine ⟨_,fun X h=>?_,QV OE s r⟩
 have:=zV (cpos:=pos) (apos:=apos) PySem.F.plainAttrs_str PySem.F.slot_str_join PySem.F.type_str_join R5 (p X h) (q X h) (hbase _) (hfew _) hline (hs _) (by rfl)
 rw [h.K] at this
 exact this
end U2
namespace U2
open PySem PySem.Spec PyProof.Rows L2
def mT (ts:List (Addr × Str)):aF:=fun b=>(ts.lookup b).map MO.tbl
theorem pO {b:Addr} {q:Str}:∀ {ts:List (Addr × Str)},ts.lookup b=some q->(b,q)∈ts
 | [],h=>by cases h
 | (c,r) :: ts,h=>by
  rw [List.lookup_cons] at h
  by_cases e:b=c
  ·subst e
   rw [beq_self_eq_true] at h
   cases h
   exact List.mem_cons_self
  ·rw [show (b == c)=false from beq_eq_false_iff_ne.mpr e] at h
   exact List.mem_cons_of_mem _ (pO h)
theorem Qj {K:PySem.W.Frag} {H:Hp} {ts:List (Addr × Str)} (hu:∀ p∈ts,∀ p'∈ts,p.2=p'.2->p.1=p'.1) (hT:∀ b∈ts.map Prod.fst,H b=some (.tbl #[])):RelM K H (mT ts):=by
 intro b mo h
 unfold mT at h
 cases e:ts.lookup b with
 | none=>rw [e] at h;cases h
 | some q =>
  rw [e] at h
  cases h
  refine ⟨fun b' h'=>?_,#[],hT b (List.mem_map.mpr ⟨_,pO e,rfl⟩),trivial,fun pos c hc=>by cases hc⟩
  unfold mT at h'
  cases e':ts.lookup b' with
  | none=>rw [e'] at h';cases h'
  | some q' =>
   rw [e'] at h'
   cases h'
   exact hu _ (pO e') _ (pO e) rfl
theorem CC {K:PySem.W.Frag} {H:Hp} {M:aF}:∀ ns:List Int,aI K H M (ns.map U.int) (ns.map V.int)
 | []=>.nil
 | _ :: r=>.cons dQ (CC r)
theorem F3 {K:PySem.W.Frag} {H:Hp} {ts:List (Addr × Str)} {a:Addr} {ns:List Int} (hT:∀ b∈ts.map Prod.fst,H b=some (.tbl #[])) (hS:fB K H a (ns.map V.int)):aI K H (mT ts) [.lst (ns.map .int)] [.ref a]:=by
 refine .cons ?_ .nil
 simp only [aP]
 refine ⟨a,_,rfl,?_,CC ns⟩
 rcases hS with h | h
 ·refine .inl ⟨?_,h⟩
  unfold mT
  cases e:ts.lookup a with
  | none=>rfl
  | some q =>
   have:=hT a (List.mem_map.mpr ⟨_,pO e,rfl⟩)
   rcases h with h | ⟨o,h⟩ <;> rw [this] at h <;> cases h
 ·exact .inr h
theorem Vu {K:PySem.W.Frag} {H:Hp} {a:Addr} {ns:List Int} {E:XK} {ts:List (Addr × Str)} {sp:cH} (hS:fB K H a (ns.map V.int)) (hT:∀ b∈ts.map Prod.fst,H b=some (.tbl #[])) (hu:∀ p∈ts,∀ p'∈ts,p.2=p'.2->p.1=p'.1)
  (h:sp [.lst (ns.map .int)] (mT ts) fun u _=>u=.bl true):gE K sp [.ref a] H (fun v _=>v=.bl true) E :=
 ⟨[.lst (ns.map .int)],mT ts,fun u _=>u=.bl true,Qj hu hT,F3 hT hS,h,fun u v M1 H1 _ _ ru q=>by subst q;exact ru.bl⟩
end U2
namespace U2
open PySem PySem.Spec PyProof.Rows L2
theorem K7 {l:PySem.W.OpenLaw} {n k:Nat} {q:Program} {loose:List Str} {XP:(Str->Option Value)->Heap->Prop} {YP:World->Heap->Prop} {d:DefRec} {K:Params->PySem.W.Frag} {sp:World->Sp} {x:Str} {ts:List Addr}
  (hn:l.most=some n) (hn2:n<=sizeLine) (hdf:d.params.defaults=[]) (hr:cX k callerA)
  (hY:∀ (w:World) (h:Heap),YP w h->(K w.params).In h/\∀ P∈ts,h.get? P=some (PySem.W.tabObj #[]))
  (hTK:∀ (w:World),∀ P∈ts,(K w.params).lookup P=none/\∃ c,PySem.W.codeHdIn (K w.params) c P=true)
  (F:∀ (w:World) (mg:Str->Option Value) (fa:Addr) (h:Heap),(K w.params).In h->h.Ns mainGlobals mg->mg d.name=some (.ref fa) ->
   ∃ fd:FuncData,(∀ (s:Shared) (u:Value),BindsTo s fd ⟨[u],[]⟩ [(x,u)]) /\
    ∀ base:Heap,(K w.params).In base->base.Ns mainGlobals mg->kJ base mg->fJ l.prog w (K w.params) mg base jF k fa fd [x] (sp w))
  (hsp:∀ (w:World) (H:Hp) (a:Addr) (ns:List Int),ns.length<=n->(∀ m∈ns,Builtin.Int.intBits m<=2 ^ 20)->JG ts H->fB (K w.params) H a (ns.map V.int)->(∀ p∈ts,H p=some (.tbl #[]))->sp w [.ref a] H (fun v _=>v=.bl true) fun _ _ _=>False) :
  PySem.W.WalkO q loose XP YP l.row.toRowW d [] (fun f vs=>PySem.call f vs):=by
 refine Att.attach_callB hn hdf fun w s₀ s₁ mg mb fa o pm cd doc a vs ns G Y ho hd hcd hmg hobj hints hlen hg hbits=>?_
 obtain ⟨KX,TX⟩:=hY w _ Y
 obtain ⟨fd,hb,hF⟩:=F w mg fa _ KX G.T.g hmg
 have hB:kJ s₁.heap mg:=by
  obtain ⟨bm,ob,b1,b2,b3,b4,b5,b6⟩:=G.T.bmain
  refine ⟨bm,ob,b1,b2,fun z=>?_,b3,b4,b5,b6⟩
  obtain ⟨o,es,ep,e,hd,_⟩:=G.T.g
  rw [z,e] at b3;cases b3;rw [hd] at b6;cases b6
 exact Kz KX G.T.g G.T.b G.T.builtins G.T.nolimit hg hB (fun p hp=>⟨TX p hp,(hTK w p hp).1,let ⟨c,hc⟩:=(hTK w p hp).2;((PySem.W.codeHd_of_K KX hc).tab (TX p hp)).isCodeTable⟩) hobj hints (Nat.le_trans hlen hn2) hr hF hb (fun H hO hS hT=>hsp w H a ns hlen hbits hO hS hT)
end U2
namespace L2
open PySem PySem.Spec PyProof.Rows
section
variable {prog:Program} {w:World} {A:Around} {E:Value->Shared->Prop} {s:Shared}
theorem Kw {a:Addr} {items:Array Value} {l:List Str} {Q:Value->Shared->Prop} (hh:A.handled=none) (ha:s.heap.IsTuple a items) (hs:items.size=l.length) (hi:∀ (i:Nat) v,items[i]?=some v->∃ x t,l[i]?=some x/\v=.str x t) (hb:l.length + 1 < scanBound)
  (h:∀ (h':Heap) (tk:Nat),h'.SetOf (strKind prog w) s.heap.objs.size (fun y=>(fA l).any (· == y)) (fA l).length->(∀ b o,b < s.heap.objs.size->s.heap.get? b=some o->h'.get? b=some o)->Q (.ref s.heap.objs.size) { s with heap:=h',toks:=tk }) :
  wpAny (model prog w) A (call (.type "set") [.ref a]) Q E s:=by
 obtain ⟨c,tl,hmro⟩:=F.called_set.mro
 have hmade:=F.called_set.made
 have hsub:=F.called_set.sub
 refine wpAny_call (codeAny_of_tree ?_)
 show wpAny _ _ (callAny (.type "set") _) _ _ _
 refine wpAny_pure ⟨Code.quiet_builtin _ (by decide +kernel),codeAny_builtin F.entry_type_call ?_⟩
 rw [Around.under_plain (weight_type_call_type "set" [.ref a] []) rfl]
 have h1:=F.called_set.notType
 have h2:=F.called_set.canCreate
 have hct:=F.typeCall_set_1 (.ref a)
 repeat (any_goals (first | assumption | wp_step))
 refine codeAny_mono (code_set_new_1 (.ref a) (E:=E) (Q₁:=fun obj s1=>∃ led:Bool,obj=.ref s.heap.objs.size/\s1={ s with heap:=s.heap.push (iX led) }) fun led=>⟨led,rfl,rfl⟩) fun r s1 hr=>?_
 cases r with
 | error e=>exact hr
 | ok fl =>
  cases fl with
  | ret obj =>
   obtain ⟨led,rfl,rfl⟩:=hr
   have hS:(s.heap.push (iX led)).get? s.heap.objs.size=some (iX led):=Heap.get?_push_size _ rfl
   have hT:Shared.TypeIs { s with heap:=s.heap.push (iX led) } (.ref s.heap.objs.size) "set":=⟨_,hS,rfl⟩
   have hli:=F.called_set.init.lookup
   have hbi:=F.called_set.init.bind (.ref s.heap.objs.size)
   repeat (any_goals (first | assumption | wp_step))
   have hlt:a < s.heap.objs.size:=by obtain ⟨o,ho,_⟩:=ha;exact Heap.lt_size ho
   refine codeAny_mono (codeAny_call_builtin (R:=wants (fun r s2=>r=.none/\∃ h' tk,s2={ s with heap:=h',toks:=tk } /\
     h'.SetOf (strKind prog w) s.heap.objs.size (fun y=>(fA l).any (· == y)) (fA l).length/\(∀ b o,b < s.heap.objs.size->s.heap.get? b=some o->h'.get? b=some o)) E) F.called_set.init.plain F.entry_set_init (check_set_init_1 hT ?_)) fun r2 s2 hr2=>?_
   ·obtain ⟨ol,hol,hcl,nl,hdl⟩:=ha
    obtain ⟨ocls,odict,odata,oslots⟩:=ol
    simp only at hcl hdl
    subst hcl;subst hdl
    have hol':(s.heap.push (iX led)).get? a=some { cls:=.type "tuple",dict:=odict,data:=.seq items nl,slots:=oslots }:=Heap.get?_push_of_some _ hol
    have g1:=F.sub_tuple_set
    have g2:=F.sub_tuple_frozenset
    have hne:(Value.type "tuple" == Value.type "dict")=false:=by decide
    have hl1:(s.heap.push (iX led)).IsTuple a items:=⟨_,hol',rfl,nl,rfl⟩
    unfold Builtin.«set.__init__» noKeywords Builtin.Frozenset.updateFrom
    generalize hPI:pyIter=PI
    wp_walk
    subst hPI
    refine wpAny_pyIter_tuple hl1 ?_
    refine wpAny_bind (wpAny_runValue ?_)
    have hh3:A.in1.in1.in1.handled=none:=by simp [hh]
    have hsz:(s.heap.push (iX led)).objs.size=s.heap.objs.size + 1:=Heap.size_push _ _
    refine Cm ((Walks.tuple hh3 _ a (by rw [hsz];exact Nat.ne_of_lt (Nat.lt_succ_of_lt hlt)) items).toS) s.heap.objs.size (by rw [hsz];simp only [List.mem_cons,List.not_mem_nil,or_false,not_or];exact ⟨Nat.ne_of_lt (Nat.lt_succ_self _),Nat.ne_of_gt hlt⟩) l hs.symm hi (by omega) (items.size - 0) 0 _ (by omega) (Nat.zero_le _) ⟨⟨_,Heap.get?_push_size _ rfl,rfl,rfl⟩,(hl1.push _)⟩ ?_ ?_
    ·exact SetOf_congr ((setObjOf_fresh (knd:=strKind prog w) led).setOf (Heap.get?_push_of_some _ hS) (by unfold scanBound;omega)) (fun _=>by simp [fA]) (by simp [fA])
    ·intro s' hm hS'
     obtain ⟨h',g',d',tk',os'⟩:=s'
     have eg:g'=s.gens:=hm.gens
     have ed:d'=s.drawn:=hm.drawn
     have eo:os'=s.os:=hm.os
     subst eg;subst ed;subst eo
     show wpAny _ _ _ _ _ _
     refine wpAny_pure ?_
     show wpAny _ _ (ret Value.none) _ _ _
     refine wpAny_pure ⟨rfl,h',tk',rfl,hS',fun b o hb e=>?_⟩
     exact hm.heap b o (by rw [hsz];simp only [List.mem_cons,List.not_mem_nil,or_false,not_or];exact ⟨Nat.ne_of_lt hb,Nat.ne_of_lt (Nat.lt_succ_of_lt hb)⟩) (Heap.get?_push_of_some _ (Heap.get?_push_of_some _ e))
   ·cases r2 with
    | error e=>exact hr2
    | ok fl2 =>
     cases fl2 with
     | ret r =>
      obtain ⟨rfl,h',tk,rfl,hS',hk'⟩:=hr2
      repeat (any_goals (first | assumption | wp_step))
      exact h _ _ hS' hk'
     | _=>exact hr2.elim
  | _=>exact hr.elim
end
def ET (K:PySem.W.Frag) (ta:TA):TE:=fun σ H Q=>ta σ H fun vs H1=>∃ a ss,vs=[.ref a]/\(fB K H1 a (ss.map V.str)\/gI K H1 a (ss.map V.str))/\ss.length < 1000/\Q (.int (fA ss).length) H1
section
variable {X:Cx} {a:Expr} {ta:TA} {p p2 pos pos2:Pos}
theorem Ja (hc:X.calm=true) (hg:Gl X "len") (hm:X.mg "len"=none) (hg2:Gl X "set") (hm2:X.mg "set"=none) (ha:PA X [a] ta) (hs:starEach [a] X.env=[(false,eval a X.env)]) (hs2:starEach [.Call (.Name "set" p2) [a] [] pos2] X.env=[(false,eval (.Call (.Name "set" p2) [a] [] pos2) X.env)]) :
  PE X (.Call (.Name "len" p) [.Call (.Name "set" p2) [a] [] pos2] [] pos) (ET X.K ta):=by
 intro pins s σ H Q I h
 refine wpAny_Call_Name_kw (nI I hg hm Mc ?_)
 refine PyProof.Rows.callWith_builtin1 ?_ hs2 rfl
 rw [hs2]
 show wpAny _ _ (spliced ((false,eval (.Call (.Name "set" p2) [a] [] pos2) X.env) :: backTo pos [])) _ _ s
 refine Calls.spliced_cons (wpAny_Call_Name_kw (nI I hg2 hm2 boot_set (PyProof.Rows.callWith_type1 (bB (ha pos2 pins s σ H _ I h) fun us s1 ⟨vs,H1,I1,r1,q1⟩=>?_) hs rfl)))
 obtain ⟨b,ss,rfl,hq,hlt,q⟩:=q1
 obtain ⟨u,rfl,rx⟩:=vals1 r1
 cases rx
 rcases hq with hq | hq
 ·obtain ⟨its,r',pl,hz⟩:=I1.list hq
  obtain ⟨e1,e2⟩:=G3 r'
  refine LA (I1.ok.hd hc) pl.isList (l:=ss) (by simpa using e1) (fun i v hv=>e2 i v (by simpa using hv)) (by unfold scanBound;omega) fun h' tk hS hk=>?_
  refine Calls.spliced_nil ?_
  obtain ⟨o,es,ep,t,ho,hex,hd,_,_,hb,hf,hn⟩:=hS
  refine call_len_set (s:={ s1 with heap:=h',toks:=tk }) ho hex hd hf (by have:=hb;unfold scanBound at this;omega) ?_
  refine ⟨.int (fA ss).length,H1,?_,⟨_,by rw [hn]⟩,q⟩
  exact I1.kept fun b o e=>hk b o (Heap.lt_size e) e
 ·obtain ⟨its,r',pl,hz⟩:=I1.tuple hq
  obtain ⟨e1,e2⟩:=G3 r'
  refine Kw (items:=its.toArray) (I1.ok.hd hc) pl (l:=ss) (by simpa using e1) (fun i v hv=>e2 i v (by simpa using hv)) (by unfold scanBound;omega) fun h' tk hS hk=>?_
  refine Calls.spliced_nil ?_
  obtain ⟨o,es,ep,t,ho,hex,hd,_,_,hb,hf,hn⟩:=hS
  refine call_len_set (s:={ s1 with heap:=h',toks:=tk }) ho hex hd hf (by have:=hb;unfold scanBound at this;omega) ?_
  refine ⟨.int (fA ss).length,H1,?_,⟨_,by rw [hn]⟩,q⟩
  exact I1.kept fun b o e=>hk b o (Heap.lt_size e) e
end
end L2
namespace U2
open PySem PySem.Spec PyProof.Rows L2
def Fo (ta:UA):UE:=fun τ M Q=>ta τ M fun us M1=>match us with
 | [x]=>match items M1 x with
  | some ws=>∃ ss:List Str,ws=ss.map U.str/\ss.length < 1000/\Q (.int (fA ss).length) M1
  | _=>False
 | _=>False
section
variable {D:Dat} {a:Expr} {ta:UA} {pos p p2 pos2:Pos}
theorem IX (hm:D.mg "len"=none) (hm2:D.mg "set"=none) (ha:kS D [a] ta) (hg:D.sc.names.lookup ("len":Str)=some .globalImplicit:=by rfl) (hg2:D.sc.names.lookup ("set":Str)=some .globalImplicit:=by rfl) (hs:∀ env,starEach [a] env=[(false,eval a env)]:=by intro _;rfl)
  (hs2:∀ env,starEach [.Call (.Name "set" p2) [a] [] pos2] env=[(false,eval (.Call (.Name "set" p2) [a] [] pos2) env)]:=by intro _;rfl):bC D (.Call (.Name "len" p) [.Call (.Name "set" p2) [a] [] pos2] [] pos) (Fo ta):=by
 obtain ⟨t,q,s⟩:=ha
 refine ⟨ET D.K t,fun X h=>by have:=Ja (p:=p) (p2:=p2) (pos:=pos) (pos2:=pos2) h.calm (by show X.env.scope.names.lookup _=_;rw [h.sc];exact hg) (by rw [h.mg];exact hm) (by show X.env.scope.names.lookup _=_;rw [h.sc];exact hg2) (by rw [h.mg];exact hm2) (q X h) (hs _) (hs2 _);rw [h.K] at this;exact this,fun σ τ H M Q' rs rm h Q c=>?_⟩
 refine s σ τ H M _ rs rm h _ fun us vs M1 H1 s1 rm1 ru h1=>?_
 split at h1
 ·obtain ⟨v,rfl,a1⟩:=ru.one
  split at h1
  ·rename_i ws e
   obtain ⟨ss,rfl,hl,q⟩:=h1
   obtain ⟨b,zvs,rfl,s2,r2⟩:=yP rm1 a1 e
   rw [Am r2] at s2
   exact ⟨b,ss,rfl,s2,hl,c _ _ M1 H1 s1 rm1 dQ q⟩
  ·exact h1.elim
 ·exact h1.elim
end
end U2
namespace U2
open PySem PySem.Spec PyProof.Rows L2
section
variable {prog:Program} {w:World} {A:Around} {E:Value->Shared->Prop} {s:Shared}
end
section
variable {prog:Program} {w:World} {A:Around} {E:Value->Shared->Prop} {s:Shared}
end
theorem JE {α β:Type} (f:α->Bool) (g:β->Bool):∀ (l:List α) (m:List β),l.length=m.length->(∀ (i:Nat) a b,l[i]?=some a->m[i]?=some b->f a=g b)->l.countP f=m.countP g
 | [],[],_,_=>rfl
 | [],_ :: _,h,_=>by cases h
 | _ :: _,[],h,_=>by cases h
 | a :: l,b :: m,h,k=>by
  rw [List.countP_cons,List.countP_cons,k 0 a b rfl rfl,JE f g l m (by simpa using h) fun i a b h1 h2=>k (i + 1) a b h1 h2]
def zG:List U->Option (List Int)
 | []=>some []
 | .int b :: r=>(zG r).map (b :: ·)
 | _=>none
theorem Kv {K:PySem.W.Frag} {H:Hp} {M:aF}:∀ {us:List U} {vs:List V} {bs:List Int},aI K H M us vs->zG us=some bs->vs=bs.map V.int
 | [],_,_,r,h=>by cases h;exact r.inv_nil
 | u :: us,_,bs,r,h=>by
  obtain ⟨v,vs',rfl,a,b⟩:=r.inv_cons
  cases u with
  | int y =>
   simp only [zG] at h
   cases e:zG us with
   | none=>rw [e] at h;cases h
   | some cs =>
    rw [e] at h
    cases h
    rw [Kv b e,a.int];rfl
  | _=>cases h
theorem Ks:∀ l:List Int,zG (l.map U.int)=some l
 | []=>rfl
 | a :: l=>by simp only [List.map_cons,zG,Ks l,Option.map_some]
end U2
namespace U2
open PySem PySem.Spec PyProof.Rows L2
def findF (z y:Str):Int:=match Builtin.Str.occurrences z y 0 z.length 1 with | i :: _=>(i:Int) | []=>-1
def Ph:V->List V->Hp->VK->Prop:=fun x vs H Q=>∃ z y,x=.str z/\vs=[.str y]/\Q (.int (findF z y)) H
theorem QB {X:Cx}:GY X "str.find" Ph:=by
 intro pins s σ H x vs v us Q I rx rv h
 obtain ⟨z,y,rfl,rfl,q⟩:=h
 obtain ⟨t,rfl⟩:=rx
 obtain ⟨u,rfl,ru⟩:=rv.one
 obtain ⟨t2,rfl⟩:=ru
 refine call_gives PySem.F.slot_str_find (typeIs_str _ _ _) PySem.F.entry_str_find (PySem.F.args_str_find_2 _ _) (PySem.gives_str_find z y t t2) ?_
 exact ⟨.int (findF z y),H,I.tok _,⟨_,rfl⟩,q⟩
def DC:U->List U->aF->UK->Prop:=fun x ws M Q=>match x,ws with
 | .str z,[.str y]=>Q (.int (findF z y)) M
 | _,_=>False
theorem MA {K:PySem.W.Frag}:pE K Ph DC:=fun x xs u us H M Q' rm ru rus h Q c=>by
 unfold DC at h
 split at h
 ·obtain ⟨v,rfl,a1⟩:=rus.one
  cases a1.str
  cases ru.str
  exact ⟨_,_,rfl,rfl,c.here rm dQ h⟩
 ·exact h.elim
def E9 (x:U):Prop:=∃ z,x=.str z
def xV (r:U->List U->aF->UK->Prop) (to:UE) (t:UA):UE:=fun τ M Q=>to τ M fun x M1=>E9 x/\t τ M1 fun xs M2=>r x xs M2 Q
theorem BQ {K:PySem.W.Frag} {r:V->List V->Hp->VK->Prop} {r':U->List U->aF->UK->Prop} {to:TE} {to':UE} {t:TA} {t':UA} (hr:pE K r r') (ho:bV K to to') (h:mN K t t') :
  bV K (O0 K "str" r to t) (xV r' to' t'):=fun σ τ H M Q' rs rm q Q c =>
 ho σ τ H M _ rs rm q _ fun u v M1 H1 s1 rm1 ru h1=>by
  obtain ⟨⟨z,rfl⟩,h1⟩:=h1
  cases ru.str
  exact ⟨rfl,h σ τ H1 M1 _ (rs.stp s1) rm1 h1 _ fun us' vs' M2 H2 s2 rm2 rus h2=>hr _ vs' _ us' H2 M2 Q' rm2 (ru.stp s2) rus h2 Q (cK.stp c (s1.trans s2))⟩
theorem QR {D:Dat} {o e:Expr} {ta:UE} {tas:UA} {pos apos:Pos} (ho:bC D o ta) (ha:kS D [e] tas) (hbase:∀ env,attributeBase o "find" env (eval o env)=eval o env:=by intro _;rfl)
  (hfew:∀ env,((backTo pos (starEach [e] env)).all (fun x=>!x.1) && (backToKw pos (keywordEach [] env)).all (fun x=>x.1.isSome) && decide ([e].length + ([]:List Keyword).length + (if ([]:List Keyword).isEmpty then 0 else 1) < 30))=true:=by intro _;rfl)
  (hline:(apos.endLine == pos.line)=true:=by rfl) (hs:∀ env,starEach [e] env=[(false,eval e env)]:=by intro _;rfl):bC D (.Call (.Attribute o "find" apos) [e] [] pos) (xV DC ta tas):=by
 obtain ⟨_,p,s⟩:=ho;obtain ⟨_,q,r⟩:=ha
 refine ⟨_,fun X h=>?_,BQ MA s r⟩
 have:=zV (cpos:=pos) (apos:=apos) PySem.F.plainAttrs_str PySem.F.slot_str_find PySem.F.type_str_find QB (p X h) (q X h) (hbase _) (hfew _) hline (hs _) (by rfl)
 rw [h.K] at this
 exact this
end U2
namespace U2
open PySem PySem.Spec PyProof.Rows L2
open Builtin Builtin.Str
theorem HS:∀ (n:Nat) (ss:List Str),Vals (ss.map V.str) (strsFrom n ss)
 | _,[]=>.nil
 | n,s :: ss=>.cons ⟨n,rfl⟩ (HS (n + 1) ss)
def SE (f:Str->Str->List V->Option (List Str)):V->List V->Hp->VK->Prop:=fun x vs H Q=>∃ z y r ps,x=.str z/\vs=.str y :: r/\f z y r=some ps/\(y.length == 0)=false/\z.length<=100000/\∀ q,H q=none->Q (.ref q) (upd H q (.lst (ps.map V.str)))
def Oa (z y:Str):List V->Option (List Str)
 | []=>some (Txt.split z y)
 | [.int k]=>if (decide (k < -(2 ^ 63:Int)) || decide (k ≥ 2 ^ 63))=false then some (Txt.splitMax z y k) else none
 | _=>none
theorem DP {X:Cx}:GY X "str.split" (SE Oa):=by
 intro pins s σ H x vs v us Q I rx rv h
 obtain ⟨z,y,r,ps,rfl,rfl,hf,hy,hz,q⟩:=h
 obtain ⟨t,rfl⟩:=rx
 obtain ⟨u,us',rfl,ru,rv2⟩:∃ u us',us=u :: us'/\RelV (.str y) u/\Vals r us':=by
  cases rv with
  | cons a b=>exact ⟨_,_,rfl,a,b⟩
 obtain ⟨t2,rfl⟩:=ru
 have hn:∀ lim,(partsBetween z (occurrences z y 0 z.length lim) y.length).length<=sizeLine:=fun lim=>by
  have e1:=StrLaws.occ_length_le_len z y 0 z.length lim
  rw [length_partsBetween]
  have:(100010:Nat)<=sizeLine:=by decide
  omega
 have hzz:z.length<=sizeLine:=Nat.le_trans hz (by decide)
 have fin:∀ (n:Nat) (its:List Value),Vals (ps.map V.str) its->its.length<=sizeLine->∃ x H',L2.Inv X pins σ H' { s with toks:=n,heap:=s.heap.push { cls:=.type "list",data:=.seq its.toArray } }/\RelV x (.ref s.heap.objs.size)/\Q x H':=fun n its rr hl=>by
  have hD:H s.heap.objs.size=none:=I.hok.fresh (Nat.le_refl _)
  refine ⟨.ref s.heap.objs.size,_,I.laid (h':=s.heap.push { cls:=.type "list",data:=.seq its.toArray }) (t':=n) (o:=.lst (ps.map V.str)) (fun c o e=>Heap.get?_push_of_some _ e) (Nat.le_refl _) ⟨?_,its,0,rr,?_⟩,rfl,q _ hD⟩
  ·rw [rr.length];exact hl
  ·exact Heap.get?_push_size _ rfl
 clear rv
 match r,us',hf,rv2 with
 | [],[],hf,_ =>
  cases hf
  cases h1:(decide (z.length < y.length) || decide (strKind z < strKind y))
  ·cases h2:(occurrences z y 0 z.length (z.length + 1)).isEmpty
   ·have e:Txt.split z y=partsBetween z (occurrences z y 0 z.length (z.length + 1)) y.length:=by unfold Txt.split;rw [h1,h2];rfl
    rw [e] at fin
    exact call_meets PySem.F.slot_str_split (typeIs_str _ _ _) PySem.F.entry_str_split (PySem.F.args_str_split_2 _ _) (meets_str_split_sep z y t t2 h1 hy h2 hzz (hn _)) (fin _ _ (HS _ _) (by rw [strsFrom_length];exact hn _))
   ·have e:Txt.split z y=[z]:=by unfold Txt.split;rw [h1,h2];rfl
    rw [e] at fin
    exact call_meets PySem.F.slot_str_split (typeIs_str _ _ _) PySem.F.entry_str_split (PySem.F.args_str_split_2 _ _) (meets_str_split_not_found z y t t2 h1 hy h2) (fin s.toks [.str z t] (.cons ⟨t,rfl⟩ .nil) (show 1<=sizeLine by decide))
  ·have e:Txt.split z y=[z]:=by unfold Txt.split;rw [h1];rfl
   rw [e] at fin
   exact call_meets PySem.F.slot_str_split (typeIs_str _ _ _) PySem.F.entry_str_split (PySem.F.args_str_split_2 _ _) (meets_str_split_cannot_occur z y t t2 h1) (fin s.toks [.str z t] (.cons ⟨t,rfl⟩ .nil) (show 1<=sizeLine by decide))
 | [.int k],us3,hf,rv =>
  obtain ⟨u3,rfl,⟨t3,rfl⟩⟩:=vals1 rv
  simp only [Oa] at hf
  split at hf
  ·rename_i hk
   cases hf
   cases h1:(decide (z.length < y.length) || decide (strKind z < strKind y))
   ·cases h2:(occurrences z y 0 z.length (limitOf z k)).isEmpty
    ·have e:Txt.splitMax z y k=partsBetween z (occurrences z y 0 z.length (limitOf z k)) y.length:=by unfold Txt.splitMax;rw [h1,h2];rfl
     rw [e] at fin
     exact call_meets PySem.F.slot_str_split (typeIs_str _ _ _) PySem.F.entry_str_split (PySem.F.args_str_split_3 _ _ _) (meets_str_split_sep_max z y k t t2 t3 hk h1 hy h2 hzz (hn _)) (fin _ _ (HS _ _) (by rw [strsFrom_length];exact hn _))
    ·have e:Txt.splitMax z y k=[z]:=by unfold Txt.splitMax;rw [h1,h2];rfl
     rw [e] at fin
     exact call_meets PySem.F.slot_str_split (typeIs_str _ _ _) PySem.F.entry_str_split (PySem.F.args_str_split_3 _ _ _) (meets_str_split_max_not_found z y k t t2 t3 hk h1 hy h2) (fin s.toks [.str z t] (.cons ⟨t,rfl⟩ .nil) (show 1<=sizeLine by decide))
   ·have e:Txt.splitMax z y k=[z]:=by unfold Txt.splitMax;rw [h1];rfl
    rw [e] at fin
    exact call_meets PySem.F.slot_str_split (typeIs_str _ _ _) PySem.F.entry_str_split (PySem.F.args_str_split_3 _ _ _) (meets_str_split_max_cannot_occur z y k t t2 t3 hk h1) (fin s.toks [.str z t] (.cons ⟨t,rfl⟩ .nil) (show 1<=sizeLine by decide))
  ·cases hf
def sH (own:Bool):U->List U->aF->UK->Prop:=fun x ws M Q=>match x,ws with
 | .str z,[.str y]=>(y.length == 0)=false/\z.length<=100000/\kZ own ((Txt.split z y).map U.str) M Q
 | .str z,[.str y,.int k]=>(y.length == 0)=false/\z.length<=100000/\(decide (k < -(2 ^ 63:Int)) || decide (k ≥ 2 ^ 63))=false/\kZ own ((Txt.splitMax z y k).map U.str) M Q
 | _,_=>False
theorem CL {own:Bool} {K:PySem.W.Frag}:pE K (SE Oa) (sH own):=fun x xs u us H M Q' rm ru rus h Q c=>by
 unfold sH at h
 split at h
 ·obtain ⟨v,rfl,a1⟩:=rus.one
  cases a1.str
  cases ru.str
  exact ⟨_,_,[],_,rfl,rfl,rfl,h.1,h.2.1,fun q hq=>c.lst rm (wF _) hq h.2.2⟩
 ·obtain ⟨v,r,rfl,a1,a2⟩:=rus.inv_cons
  obtain ⟨v2,rfl,a3⟩:=a2.one
  cases a1.str
  cases a3.int
  cases ru.str
  exact ⟨_,_,[.int _],_,rfl,rfl,if_pos h.2.2.1,h.1,h.2.1,fun q hq=>c.lst rm (wF _) hq h.2.2.2⟩
 ·exact h.elim
theorem Cv {D:Dat} {own:Bool} {o e:Expr} {ta:UE} {tas:UA} {pos apos:Pos} (ho:bC D o ta) (ha:kS D [e] tas) (hbase:∀ env,attributeBase o "split" env (eval o env)=eval o env:=by intro _;rfl)
  (hfew:∀ env,((backTo pos (starEach [e] env)).all (fun x=>!x.1) && (backToKw pos (keywordEach [] env)).all (fun x=>x.1.isSome) && decide ([e].length + ([]:List Keyword).length + (if ([]:List Keyword).isEmpty then 0 else 1) < 30))=true:=by intro _;rfl)
  (hline:(apos.endLine == pos.line)=true:=by rfl) (hs:∀ env,starEach [e] env=[(false,eval e env)]:=by intro _;rfl):bC D (.Call (.Attribute o "split" apos) [e] [] pos) (xV (sH own) ta tas):=by
 obtain ⟨_,p,s⟩:=ho;obtain ⟨_,q,r⟩:=ha
 refine ⟨_,fun X h=>?_,BQ CL s r⟩
 have:=zV (cpos:=pos) (apos:=apos) PySem.F.plainAttrs_str PySem.F.slot_str_split PySem.F.type_str_split DP (p X h) (q X h) (hbase _) (hfew _) hline (hs _) (by rfl)
 rw [h.K] at this
 exact this
theorem Lm {D:Dat} {own:Bool} {o e e2:Expr} {ta:UE} {tas:UA} {pos apos:Pos} (ho:bC D o ta) (ha:kS D [e,e2] tas) (hbase:∀ env,attributeBase o "split" env (eval o env)=eval o env:=by intro _;rfl)
  (hfew:∀ env,((backTo pos (starEach [e,e2] env)).all (fun x=>!x.1) && (backToKw pos (keywordEach [] env)).all (fun x=>x.1.isSome) && decide ([e,e2].length + ([]:List Keyword).length + (if ([]:List Keyword).isEmpty then 0 else 1) < 30))=true:=by intro _;rfl)
  (hline:(apos.endLine == pos.line)=true:=by rfl) (hs:∀ env,starEach [e,e2] env=[(false,eval e env),(false,eval e2 env)]:=by intro _;rfl) (hs2:∀ env,starEach [e2] env=[(false,eval e2 env)]:=by intro _;rfl):bC D (.Call (.Attribute o "split" apos) [e,e2] [] pos) (xV (sH own) ta tas):=by
 obtain ⟨_,p,s⟩:=ho;obtain ⟨_,q,r⟩:=ha
 refine ⟨_,fun X h=>?_,BQ CL s r⟩
 have:=zV (cpos:=pos) (apos:=apos) PySem.F.plainAttrs_str PySem.F.slot_str_split PySem.F.type_str_split DP (p X h) (q X h) (hbase _) (hfew _) hline (by rw [hs,hs2]) (by rw [hs2];rfl)
 rw [h.K] at this
 exact this
theorem MQ {c:Nat}:∀ {ps qs:List Str},ps≠[]->qs≠[]->(∀ p∈ps,c ∉ p.cps.toList)->(∀ p∈qs,c ∉ p.cps.toList)->Str.join ⟨#[c]⟩ ps=Str.join ⟨#[c]⟩ qs->ps=qs:=by
 have key:∀ (a b x y:List Nat),c ∉ a->c ∉ b->a++c :: x=b++c :: y->a=b/\x=y:=by
  intro a
  induction a with
  | nil =>
   intro b x y _ hb e
   cases b with
   | nil=>simp at e;exact ⟨rfl,e⟩
   | cons k b=>simp at e;exact (hb (by rw [<- e.1];exact List.mem_cons_self)).elim
  | cons k a ih =>
   intro b x y ha hb e
   cases b with
   | nil=>simp at e;exact (ha (by rw [e.1];exact List.mem_cons_self)).elim
   | cons j b =>
    simp only [List.cons_append,List.cons.injEq] at e
    obtain ⟨r1,r2⟩:=ih b x y (fun h=>ha (List.mem_cons_of_mem _ h)) (fun h=>hb (List.mem_cons_of_mem _ h)) e.2
    exact ⟨by rw [e.1,r1],r2⟩
 have ext:∀ {a b:Str},a.cps.toList=b.cps.toList->a=b:=fun {a b} h=>by cases a;cases b;simp only at h;congr 1;exact Array.toList_inj.mp h
 intro ps
 induction ps with
 | nil=>intro qs h;exact (h rfl).elim
 | cons p ps ih =>
  intro qs _ hq hp hqs e
  cases qs with
  | nil=>exact (hq rfl).elim
  | cons q qs =>
   have e':=congrArg (fun z:Str=>z.cps.toList) e
   have hp1:=hp p List.mem_cons_self
   have hq1:=hqs q List.mem_cons_self
   cases ps with
   | nil =>
    cases qs with
    | nil=>exact congrArg (fun x=>[x]) (show p=q from e)
    | cons q2 qs =>
     have e2:p.cps.toList=q.cps.toList++c :: (Str.join ⟨#[c]⟩ (q2 :: qs)).cps.toList:=by
      have:(Str.join ⟨#[c]⟩ (q :: q2 :: qs))=q++⟨#[c]⟩++Str.join ⟨#[c]⟩ (q2 :: qs):=rfl
      have e3:p.cps.toList=(Str.join ⟨#[c]⟩ (q :: q2 :: qs)).cps.toList:=e'
      rw [this] at e3
      simpa [Str.cps_append] using e3
     exact (hp1 (by rw [e2];simp)).elim
   | cons p2 ps =>
    have a1:(Str.join ⟨#[c]⟩ (p :: p2 :: ps)).cps.toList=p.cps.toList++c :: (Str.join ⟨#[c]⟩ (p2 :: ps)).cps.toList:=by
     have:(Str.join ⟨#[c]⟩ (p :: p2 :: ps))=p++⟨#[c]⟩++Str.join ⟨#[c]⟩ (p2 :: ps):=rfl
     rw [this];simp [Str.cps_append]
    cases qs with
    | nil =>
     have e2:(Str.join ⟨#[c]⟩ (p :: p2 :: ps)).cps.toList=q.cps.toList:=e'
     exact (hq1 (by rw [<- e2,a1];simp)).elim
    | cons q2 qs =>
     have a2:(Str.join ⟨#[c]⟩ (q :: q2 :: qs)).cps.toList=q.cps.toList++c :: (Str.join ⟨#[c]⟩ (q2 :: qs)).cps.toList:=by
      have:(Str.join ⟨#[c]⟩ (q :: q2 :: qs))=q++⟨#[c]⟩++Str.join ⟨#[c]⟩ (q2 :: qs):=rfl
      rw [this];simp [Str.cps_append]
     have e2:(Str.join ⟨#[c]⟩ (p :: p2 :: ps)).cps.toList=(Str.join ⟨#[c]⟩ (q :: q2 :: qs)).cps.toList:=e'
     rw [a1,a2] at e2
     obtain ⟨r1,r2⟩:=key _ _ _ _ hp1 hq1 e2
     rw [ext r1,ih (qs:=q2 :: qs) (by simp) (by simp) (fun x h=>hp x (List.mem_cons_of_mem _ h)) (fun x h=>hqs x (List.mem_cons_of_mem _ h)) (ext r2)]
theorem Ew (x y:Str):Txt.split x y≠[]:=by
 unfold Txt.split
 split
 ·simp
 ·split
  ·simp
  ·rw [StrLaws.partsBetween_eq]
   obtain ⟨p,r,e⟩:=StrLaws.partsFrom_ne x y.length 0 (occurrences x y 0 x.length (x.length + 1))
   rw [e];simp
theorem wX {c:Nat} {ps:List Str} (h:ps≠[]) (hp:∀ p∈ps,c ∉ p.cps.toList):Txt.split (Str.join ⟨#[c]⟩ ps) ⟨#[c]⟩=ps :=
 MQ (Ew _ _) h (StrLaws.split_free _ _) hp (StrLaws.join_split _ _)
theorem uY (s sub:Str) (hi L N:Nat):∀ (l:List Nat) (a b:Array Nat × Nat),(b.1.size < L->a=b)->a.1.toList=b.1.toList.take L->b.1.size + l.length<=N->(forIn l a (StrLaws.occBody s sub hi L)).run.fst.toList=((forIn l b (StrLaws.occBody s sub hi N)).run.fst.toList).take L
 | [],a,b,h1,h2,_=>h2
 | i :: l,a,b,h1,h2,h3=>by
  rw [List.forIn_cons,List.forIn_cons]
  have hlen:a.1.size=min L b.1.size:=by
   have:=congrArg List.length h2
   simpa using this
  simp only [List.length_cons] at h3
  by_cases hb:b.1.size < L
  ·have e:=h1 hb
   subst e
   unfold StrLaws.occBody
   by_cases hc:(a.2<=i/\i + sub.length<=hi)/\subAt s sub i=true
   ·rw [if_pos ⟨⟨⟨hb,hc.1.1⟩,hc.1.2⟩,hc.2⟩,if_pos ⟨⟨⟨by omega,hc.1.1⟩,hc.1.2⟩,hc.2⟩]
    refine uY s sub hi L N l _ _ (fun _=>rfl) ?_ (by show (a.1.push i).size + l.length<=N;rw [Array.size_push];omega)
    show (a.1.push i).toList=_
    rw [List.take_of_length_le]
    show (a.1.push i).toList.length<=L
    simp;omega
   ·rw [if_neg (fun z=>hc ⟨⟨z.1.1.2,z.1.2⟩,z.2⟩),if_neg (fun z=>hc ⟨⟨z.1.1.2,z.1.2⟩,z.2⟩)]
    exact uY s sub hi L N l _ _ (fun _=>rfl) h2 (by show a.1.size + l.length<=N;omega)
  ·have e1:StrLaws.occBody s sub hi L i a=pure (ForInStep.yield (a.1,a.2)):=by
    unfold StrLaws.occBody
    rw [if_neg (fun z=>by have:=z.1.1.1;omega)]
   rw [e1]
   unfold StrLaws.occBody
   split
   ·refine uY s sub hi L N l _ _ (fun z=>?_) ?_ (by show (b.1.push i).size + l.length<=N;rw [Array.size_push];omega)
    ·have z':(b.1.push i).size < L:=z
     rw [Array.size_push] at z';omega
    ·show a.1.toList=(b.1.push i).toList.take L
     rw [Array.toList_push,List.take_append_of_le_length (by simpa using Nat.le_of_not_lt hb)]
     exact h2
   ·exact uY s sub hi L N l _ _ (fun z=>absurd z hb) h2 (by show b.1.size + l.length<=N;omega)
theorem Oq (x y:Str) (L:Nat):occurrences x y 0 x.length L=(occurrences x y 0 x.length (x.length + 1)).take L:=by
 rw [StrLaws.occ_eq,StrLaws.occ_eq]
 exact uY x y x.length L (x.length + 1) _ _ _ (fun _=>rfl) (by simp) (by simp)
theorem Cq (x:Str) (w:Nat):∀ (cuts:List Nat) (a:Nat),(StrLaws.partsFrom x w a cuts).length=cuts.length + 1
 | [],_=>rfl
 | c :: r,a=>by simp only [StrLaws.partsFrom,List.length_cons,Cq x w r]
theorem Bc (x y:Str):∀ (k:Nat) (cuts:List Nat) (a f:Nat),StrLaws.ChainTo x y x.length a cuts f->k<=cuts.length->StrLaws.partsFrom x y.length a (cuts.take k)=(StrLaws.partsFrom x y.length a cuts).take k++[Str.join y ((StrLaws.partsFrom x y.length a cuts).drop k)]
 | 0,cuts,a,f,h,_=>by
  rw [List.take_zero,List.take_zero,List.drop_zero,StrLaws.join_partsFrom x y cuts a f h]
  rfl
 | k + 1,[],a,f,h,hk=>by simp at hk
 | k + 1,c :: r,a,f,h,hk=>by
  simp only [List.take_succ_cons,StrLaws.partsFrom,List.drop_succ_cons,List.cons_append]
  rw [Bc x y k r (c + y.length) f h.2.2 (by simpa using hk)]
theorem FH (x y:Str) (k:Nat) (hk:1<=k):Txt.splitMax x y (k:Int)=if (Txt.split x y).length<=k + 1 then Txt.split x y else (Txt.split x y).take k++[Str.join y ((Txt.split x y).drop k)]:=by
 have hl:limitOf x (k:Int)=k:=by unfold limitOf;rw [if_neg (by omega)];simp
 unfold Txt.splitMax
 rw [hl]
 cases h1:(decide (x.length < y.length) || decide (strKind x < strKind y)) with
 | true =>
  have e:Txt.split x y=[x]:=by unfold Txt.split;rw [h1];rfl
  rw [e,if_pos rfl,if_pos (by simp)]
 | false =>
  rw [if_neg (by simp),Oq x y k]
  cases h2:occurrences x y 0 x.length (x.length + 1) with
  | nil =>
   have e:Txt.split x y=[x]:=by unfold Txt.split;rw [h1,h2];rfl
   rw [e,if_pos (by simp),if_pos (by simp)]
  | cons a r =>
   have e:Txt.split x y=partsBetween x (a :: r) y.length:=by unfold Txt.split;rw [h1,h2];rfl
   obtain ⟨f,hc⟩:=StrLaws.occ_chain x y (x.length + 1)
   rw [h2] at hc
   rw [e,StrLaws.partsBetween_eq,StrLaws.partsBetween_eq,if_neg (by cases k with
    | zero=>omega
    | succ k=>simp),Cq]
   split
   ·rw [List.take_of_length_le (by omega)]
   ·exact Bc x y k (a :: r) 0 f hc (by omega)
end U2
namespace U2
open PySem PySem.Spec PyProof.Rows L2
section
variable {prog:Program} {w:World} {A:Around} {E:Value->Shared->Prop} {s:Shared}
theorem Ow (a v:Value):checkTypeCall "enumerate" ⟨[a],[("start",v)]⟩=pure ():=by kernel_rfl
theorem ON (a v:Value):checkBuiltinCall "enumerate.__new__" ⟨[.type "enumerate",a],[("start",v)]⟩=pure ():=by kernel_rfl
theorem QE (o a v:Value):argsOk "object.__init__" ⟨[o,a],[("start",v)]⟩:=by
 unfold argsOk
 kernel_rfl
theorem RQ (o a v:Value) (hm:Bind.madeBy (.type "enumerate")=pure (some "enumerate.__new__")) (hl:typeLookup (.type "enumerate") "__init__"=pure (some (.builtin "object.__init__"))):Meets (Builtin.«object.__init__» ⟨[o,a],[("start",v)]⟩) (fun _ R s=>s.TypeIs o "enumerate"/\R (.ok (.ret .none)) s):=by
 refine Meets.of_wp fun prog w A R s hs=>?_
 obtain ⟨hT,hq⟩:=hs
 have hne:(some "enumerate.__new__" != some "object.__new__")=true:=by decide
 repeat (any_goals (first | assumption | wp_step))
 exact ⟨_,rfl,hq⟩
theorem Vj (l:Addr) (items:Array Value) (n:Nat) (t:Tok) (dd:Option Addr) (sl:Array (Option Value)) :
  Meets (Builtin.«enumerate.__new__» ⟨[.type "enumerate",.ref l],[("start",.int 1 t)]⟩) (fun _ R s=>s.heap.get? l=some { cls:=.type "list",dict:=dd,data:=.seq items n,slots:=sl } /\
   R (.ok (.ret (.ref (s.heap.push { cls:=.type "list_iterator",data:=.fields #[.ref l,.int 0 0] }).objs.size)))
    { s with heap:=(s.heap.push { cls:=.type "list_iterator",data:=.fields #[.ref l,.int 0 0] }).push { cls:=.type "enumerate",data:=.fields #[.none,.bool false,.ref s.heap.objs.size,rawInt 1,.none,.none] } }) :=
 .of_wp fun prog w A R s h=>by
  obtain ⟨hp,g,d,tk,os⟩:=s;obtain ⟨hl,h⟩:=h
  have hsub:=PySem.sub_enumerate
  have hL:Heap.IsList (Shared.heap ⟨hp,g,d,tk,os⟩) l items:=⟨_,hl,rfl,n,rfl⟩
  wp_walk using wpAny_loadPart' hl
  refine wpAny_stack_any fun st=>wpAny_pure ?_
  split
  ·rename_i c _ _ _ _ _
   cases (c == Value.type "enumerate")
   ·wp_walk using wpAny_loadPart' hl,wpAny_pyIter_list hL
    exact ⟨_,rfl,h⟩
   ·wp_walk using wpAny_loadPart' hl,wpAny_pyIter_list hL
    exact ⟨_,rfl,h⟩
  ·wp_walk using wpAny_loadPart' hl,wpAny_pyIter_list hL
   exact ⟨_,rfl,h⟩
theorem MB {T newId:String} {Bn:Builtin} {a v:Value} {S:PySem.Spec} {Q:Value->Shared->Prop} (ft:TypeCalled T newId "object.__init__")
  (hct:checkTypeCall T ⟨[a],[("start",v)]⟩=pure ()) (hcn:checkBuiltinCall newId ⟨[.type T,a],[("start",v)]⟩=pure ())
  (en:entryFor table newId=some Bn) (g:Meets (Bn ⟨[.type T,a],[("start",v)]⟩) S)
  (hok:∀ obj,argsOk "object.__init__" ⟨[obj,a],[("start",v)]⟩)
  (hin:∀ obj,Meets (Builtin.«object.__init__» ⟨[obj,a],[("start",v)]⟩) (fun _ R s=>s.TypeIs obj T/\R (.ok (.ret .none)) s))
  (h:S A.in1 (wants (fun obj s1=>s1.TypeIs obj T/\Q obj s1) E) s) :
  wpAny (model prog w) A (call (.type T) [a] [("start",v)]) Q E s:=by
 obtain ⟨c,tl,hmro⟩:=ft.mro
 have hmade:=ft.made
 have hsub:=ft.sub
 refine wpAny_call (codeAny_of_tree ?_)
 show wpAny _ _ (callAny (.type T) _) _ _ _
 refine wpAny_pure ⟨Code.quiet_builtin _ (by decide +kernel),codeAny_builtin PySem.F.entry_type_call ?_⟩
 rw [Around.under_plain (weight_type_call_type T _ _) (units_type_call_type T _ _)]
 have h1:=ft.notType
 have h2:=ft.canCreate
 repeat (any_goals (first | assumption | wp_step))
 refine codeAny_mono (codeAny_call_builtin ft.plain en (wpAny_of_eq hcn (g prog w A.in1 _ s h))) fun r s1 hr=>?_
 cases r with
 | error e=>exact hr
 | ok fl =>
  cases fl with
  | ret obj =>
   obtain ⟨hT,hq⟩:=hr
   have hli:=ft.init.lookup
   have hbi:=ft.init.bind obj
   repeat (any_goals (first | assumption | wp_step))
   refine codeAny_mono (codeAny_call_builtin ft.init.plain PySem.F.entry_object_init (ft.init.check _ _ _ _ _ _ _ _ hT (hok obj) (hin obj prog w A.in1 (wants (fun r s2=>r=.none/\Q obj s2) E) s1 ⟨hT,rfl,hq⟩))) fun r2 s2 hr2=>?_
   cases r2 with
   | error e=>exact hr2
   | ok fl2 =>
    cases fl2 with
    | ret r =>
     obtain ⟨rfl,hq⟩:=hr2
     repeat (any_goals (first | assumption | wp_step))
    | _=>exact hr2.elim
  | _=>exact hr.elim
end
theorem BO {prog:Program} {w:World} {A:Around} {it:Addr} {fp:List Addr} {n:Nat} {P:Nat->Value->Prop} {St:Nat->Heap->Prop} (D:Draws prog w A it fp n P St) :
  Draws prog w A it fp (n + 1) (fun i v=>∃ j,i=j + 1/\P j v) (fun i h=>∃ j,i=j + 1/\St j h) where
 live:=fun i h ⟨j,_,st⟩=>D.live j h st
 frame:=fun i h h' ⟨j,e,st⟩ k=>⟨j,e,D.frame j h h' st k⟩
 item:=fun i s Q E hi ⟨j,e,st⟩ hQ=>by
  subst e
  exact D.item j s Q E (Nat.lt_of_succ_lt_succ hi) st fun v h' tk pv st' sb=>hQ v h' tk ⟨j,rfl,pv⟩ ⟨j + 1,rfl,st'⟩ sb
 done:=fun s Q E ⟨j,e,st⟩ hE=>by
  have e':n=j:=by omega
  subst e'
  exact D.done s Q E st hE
def Ob (f:Bool) (K:PySem.W.Frag) (a:Addr):It :=
 ⟨fun i H=>∃ xs x,mO f K H a xs/\xs[i]?=some x,fun i H x H'=>∃ p v,(∀ xs,mO f K H a xs->xs[i]?=some v)/\H p=none/\x=.ref p/\H'=upd H p (.tup [.int ((i + 1:Nat):Int),v]),fun i H=>∃ xs,mO f K H a xs/\xs.length=i⟩
theorem Iv {P:Program} {w:World} {K:PySem.W.Frag} {elts:List Expr} {kk:Nat} {pos:Pos} (f:Bool) (a it e:Addr):Turn P w K (.Tuple elts kk pos) (Ob f K a) [e,it] e (fun i h=>(∃ old,IsEnum h e it ((i + 1:Nat):Int) old)/\lQ f h it a i) where
 mem:=by simp
 obj:=fun i h st b hb=>by
  obtain ⟨⟨old,he⟩,hi⟩:=st
  obtain ⟨o,ho,hc,hd⟩:=hi.obj
  have:b=e\/b=it:=by simpa using hb
  rcases this with rfl | rfl
  ·exact ⟨_,he,fun v z=>by
    have z':Data.fields _=Data.cell v:=z
    cases z'⟩
  ·exact ⟨o,ho,fun v z=>by rw [hd] at z;cases z⟩
 keep:=fun i h h' st k=>let ⟨⟨old,he⟩,hi⟩:=st;⟨⟨old,k e (by simp) _ he⟩,hi.at fun o q=>k it (by simp) o q⟩
 item:=by
  intro X hP hw hK hc i pins s σ H E I hf st hg
  subst hP hw hK
  obtain ⟨⟨old,he⟩,hit⟩:=st
  obtain ⟨xs,x,hq,hx⟩:=hg
  obtain ⟨its,rv,p,hz⟩:=xA I hq
  obtain ⟨u,hu,ru⟩:=rv.get hx
  have p':j6 f s.heap a its.toArray:=p
  obtain ⟨oi,hoi,hci,hdi⟩:=hit.obj
  obtain ⟨oa,na,hoa,hca,hda⟩:=p'.obj
  have n1:a≠it:=p'.ne hit
  have n2:e≠it:=iS he hoi rfl hci (by cases f <;> decide)
  have n3:e≠a:=iS he hoa rfl hca (by cases f <;> decide)
  have W:=WalksT.enumerateD (prog:=X.prog) (w:=X.w) (A:=X.A) (BO (kE f (prog:=X.prog) (w:=X.w) (A:=X.A.in1) (show X.A.in1.handled=none from I.ok.hd hc) it a n1 its.toArray)) e n2 (by simp [n2,n3]) (by simp)
  have hlt:i < its.toArray.size:=by
   have:=(List.getElem?_eq_some_iff.mp hu).1
   simpa using this
  have hD:=BO (kE f (prog:=X.prog) (w:=X.w) (A:=X.A.in1) (show X.A.in1.handled=none from I.ok.hd hc) it a n1 its.toArray)
  refine wpAny_pyNext_enum_itemD hD he ⟨i,rfl,hit,p'⟩ (show i + 1 < its.toArray.size + 1 from Nat.succ_lt_succ hlt) n2 (by simp [n2,n3]) fun y h' tk hy ho0 hs0 hT0 hsz0 hk0=>?_
  have helt:e < s.heap.objs.size:=Heap.lt_size he
  have hilt:it < s.heap.objs.size:=Heap.lt_size hoi
  have kR:iC h' s.heap.objs.size #[Value.int ((i + 1:Nat):Int) tk,y]:=⟨_,hT0,rfl,rfl,_,rfl⟩
  have hk:∀ b o,b ∉ [e,it]->s.heap.get? b=some o->h'.get? b=some o:=fun b o hb z=>hk0 b o (fun e'=>hb (by simp [e'])) (fun e'=>hb (by simp [e'])) z
  have hMid:=(⟨⟨_,ho0⟩,hs0,Nat.ne_of_gt helt,Nat.ne_of_gt hilt⟩:(∃ x,IsEnumOut h' e it (((i + 1:Nat):Int) + 1) x s.heap.objs.size)/\_/\s.heap.objs.size≠e/\s.heap.objs.size≠it)
  obtain ⟨T,hTe⟩:∃ T,T=s.heap.objs.size:=⟨_,rfl⟩
  rw [<- hTe] at kR hMid ⊢
  have hT:s.heap.objs.size<=T:=Nat.le_of_eq hTe.symm
  refine ⟨.ref T,rfl,W.go elts kk pos (i + 1) T _ _ E hMid fun h'' hSt hk2=>?_⟩
  have hy':y=u:=by
   have h3:its[i]?=some y:=by obtain ⟨j,e1,e2⟩:=hy;cases e1;simpa using e2
   rw [hu] at h3;exact (Option.some.inj h3).symm
  subst hy'
  have hTT:iC h'' T #[.int ((i + 1:Nat):Int) tk,y]:=let ⟨o,ho,r⟩:=kR;⟨o,hk2 T o (W.apart (i + 1) T _ hMid) ho,r⟩
  refine ⟨.ref T,upd H T (.tup [.int ((i + 1:Nat):Int),x]),oK (s:=s) (h':=h'') (tk:=tk + 1) (ch:=[e,it]) I hf (fun b o hb q=>hk2 b o (by simpa using hb) (hk b o (by simpa using hb) q)) hT ⟨by show 2<=sizeLine;decide,[.int ((i + 1:Nat):Int) tk,y],.cons ⟨tk,rfl⟩ (.cons ru .nil),hTT⟩,rfl,⟨T,x,fun ys hy=>by rw [<- OZ I hq hy];exact hx,I.hok.fresh hT,rfl,rfl⟩,⟨hSt.1,let ⟨j,e1,e2,_⟩:=hSt.2;(Nat.succ.inj e1) ▸ e2⟩,fun b hb=>?_⟩
  have hn:=(hf b hb).1
  rw [bE (Nat.ne_of_lt (Nat.lt_of_lt_of_le ?_ hT))]
  ·exact hn
  ·have:b=e\/b=it:=by simpa using hb
   rcases this with rfl | rfl
   ·exact Heap.lt_size he
   ·exact Heap.lt_size hoi
 done:=by
  intro X hP hw hK hc i pins s σ H E I hf st hg
  subst hP hw hK
  obtain ⟨⟨old,he⟩,hit⟩:=st
  obtain ⟨xs,hq,hx⟩:=hg
  obtain ⟨its,rv,p,hz⟩:=xA I hq
  have p':j6 f s.heap a its.toArray:=p
  obtain ⟨oi,hoi,hci,hdi⟩:=hit.obj
  obtain ⟨oa,na,hoa,hca,hda⟩:=p'.obj
  have n1:a≠it:=p'.ne hit
  have n2:e≠it:=iS he hoi rfl hci (by cases f <;> decide)
  have n3:e≠a:=iS he hoa rfl hca (by cases f <;> decide)
  have W:=WalksT.enumerateD (prog:=X.prog) (w:=X.w) (A:=X.A) (BO (kE f (prog:=X.prog) (w:=X.w) (A:=X.A.in1) (show X.A.in1.handled=none from I.ok.hd hc) it a n1 its.toArray)) e n2 (by simp [n2,n3]) (by simp)
  have hi:i=its.toArray.size:=by rw [List.size_toArray,<- rv.length];exact hx.symm
  subst hi
  refine W.done s _ E ⟨⟨old,he⟩,_,rfl,hit,p'⟩ fun h' tk hk=>⟨rfl,?_⟩
  have:=I.call' (ch:=[e,it]) (H':=H) (s':={ s with heap:=h',toks:=tk }) rfl ⟨fun b u q n hb hx=>hk b u (by simpa using hx) q,fun b u q n hb hx=>⟨u.slots,hk b u (by simpa using hx) q⟩,fun b u q n hx=>n,fun b u q hx=>⟨u,hk b u (by simpa using hx) q⟩,fun b xs q=>q,fun b u xs q=>q,fun b ps q=>⟨#[],by rw [q];simp⟩⟩
   (fun a u e'=>?_) I.bare fun b hb=>⟨(hf b hb).2.2.2.1,(hf b hb).2.1,(hf b hb).2.2.2.2.1,(hf b hb).2.2.2.2.2⟩
  ·exact this
  ·refine (I.hok a u e').stay (fun b z hb q=>hk b z (fun hc=>?_) q) (fun _ q=>q) fun _ _ q=>q
   have hnone:=(hf b (by simpa using hc)).1
   rcases hb with rfl | hb
   ·rw [hnone] at e';cases e'
   ·rw [hnone] at hb;cases hb
 self:=fun _ _ _ _ _ st h=>let ⟨⟨old,he⟩,_⟩:=st;wpAny_pyIter_enum he h
theorem HU {prog:Program} {w:World} {A:Around} {E:Value->Shared->Prop} {s:Shared} {l:Addr} {items:Array Value} {t:Tok} {Q:Value->Shared->Prop}
  (hl:j6 true s.heap l items)
  (h:∀ h',IsEnum h' (s.heap.objs.size + 1) s.heap.objs.size 1 .none->lQ true h' s.heap.objs.size l 0->h'.objs.size=s.heap.objs.size + 2 ->
   (∀ b o,s.heap.get? b=some o->h'.get? b=some o)->Q (.ref (s.heap.objs.size + 1)) { s with heap:=h' }) :
  wpAny (model prog w) A (call (.type "enumerate") [.ref l] [("start",.int 1 t)]) Q E s:=by
 have hz:(s.heap.push { cls:=.type "list_iterator",data:=.fields #[.ref l,.int 0 0] }).objs.size=s.heap.objs.size + 1:=Heap.size_push ..
 have he:=Heap.get?_push_size (s.heap.push { cls:=.type "list_iterator",data:=.fields #[.ref l,.int 0 0] })
  (o:={ cls:=.type "enumerate",data:=.fields #[.none,.bool false,.ref s.heap.objs.size,rawInt 1,.none,.none] }) rfl
 have he2:=he
 rw [hz] at he2
 have fin:=h _ he2 (lQ.of (b:=true) (Heap.get?_push_of_some _ (Heap.get?_push_size _ rfl)) rfl rfl) (by rw [Heap.size_push,hz]) fun b o x=>Heap.get?_push_of_some _ (Heap.get?_push_of_some _ x)
 rw [<- hz] at fin
 obtain ⟨⟨oc,od,odt,osl⟩,n,ho,hc,hd⟩:=hl.obj
 have hc':oc=.type "list":=hc
 have hd':odt=.seq items n:=hd
 subst hc' hd'
 exact MB PySem.F.called_enumerate (Ow _ _) (ON _ _) PySem.F.entry_enumerate_new (Vj l items n t od osl) (fun o=>QE o _ _) (fun o=>RQ o _ _ PySem.F.called_enumerate.made PySem.F.called_enumerate.init.lookup) ⟨ho,⟨_,he,rfl⟩,fin⟩
section
variable {M:Model} {A:Around} {E:Value->Shared->Prop} {s:Shared} {env:Env}
theorem Tg {pos:Pos} {T:String} {args:List (Bool × Sem Value)} {kws:List (Option Str × Sem Value)} {Q:Value->Shared->Prop} (hplain:args.any (·.1)=false) (hkw:kws.any (·.1.isNone)=false)
  (h:wpAny M A (evalArgs (.type T) true args kws) (fun a s1=>wpAny M A (call (.type T) a.pos a.kw) Q E s1) E s) :
  wpAny M A (callWith pos (.type T) [] args kws) Q E s:=by
 unfold callWith
 refine wpAny_bind (wpAny_holding (wpAny_mono h (fun a s1 h1=>wpAny_bind (wpAny_standAt ?_)) fun _ _ x=>x))
 simp only [hplain,hkw,Bool.or_false]
 refine wpAny_bind (wpAny_pure ?_)
 exact wpAny_bind (wpAny_mono h1 (fun r s2 hr=>wpAny_bind (wpAny_holding (wpAny_point (wpAny_pure hr)))) fun _ _ x=>x)
end
def Lo (K:PySem.W.Frag) (ta:TA):TI:=fun σ H R=>ta σ H fun vs H1=>∃ a,vs=[.ref a]/\(∃ xs,mO true K H1 a xs)/\R (Ob true K a) H1
theorem Nv {X:Cx} {elts:List Expr} {kk kj:Nat} {tpos:Pos} {a:Expr} {ta:TA} {p pos kp cp:Pos} (hg:Gl X "enumerate") (hm:X.mg "enumerate"=none) (ha:PA X [a] ta) (hs:starEach [a] X.env=[(false,eval a X.env)]) :
  PI X (.Tuple elts kk tpos) (.Call (.Name "enumerate" p) [a] [⟨some "start",.Constant (.int 1) kj cp,kp⟩] pos) (Lo X.K ta):=by
 intro pins s σ H R I h
 have hsp:=ha pos pins s σ H _ I h
 have hb:backTo pos (starEach [a] X.env)=[(false,eval a X.env)]:=by rw [hs];rfl
 refine wpAny_Call_Name_kw (nI I hg hm boot_enumerate ?_)
 rw [hb] at hsp ⊢
 refine Tg (by rfl) (by rfl) (evalArgs_kwB (by rfl) (bB hsp fun us s1 ⟨vs,H1,I1,r1,q1⟩=>?_))
 refine kws_cons (wpAny_Constant_int (kws_nil ?_))
 obtain ⟨a,e,⟨xs,hq⟩,q⟩:=q1
 subst e
 cases r1 with
 | cons r rr =>
  cases rr
  cases r
  have I1':L2.Inv X pins σ H1 { s1 with toks:=s1.toks + 1 }:=I1.tok _
  obtain ⟨its,rv,p,hz⟩:=xA I1' hq
  refine HU (s:={ s1 with toks:=s1.toks + 1 }) p fun h' he hit hsz hk=>?_
  refine wpAny_pyIter_enum (s:={ s1 with heap:=h',toks:=s1.toks + 1 }) he ?_
  have I2:L2.Inv X pins σ H1 { s1 with heap:=h',toks:=s1.toks + 1 }:=I1'.kept hk
  refine ⟨s1.heap.objs.size + 1,[s1.heap.objs.size + 1,s1.heap.objs.size],_,_,H1,rfl,I2,Iv true a s1.heap.objs.size (s1.heap.objs.size + 1),⟨⟨_,he⟩,hit⟩,fun b hb=>?_,q⟩
  have e:b=s1.heap.objs.size + 1\/b=s1.heap.objs.size:=by simpa using hb
  rcases e with rfl | rfl
  ·exact I1'.fpOk (Nat.le_succ _) (I1'.hok.fresh (Nat.le_succ _))
  ·exact I1'.fpOk (Nat.le_refl _) (I1'.hok.fresh (Nat.le_refl _))
def o9 (us:List U):List U:=us.zipIdx.map fun p=>.tup [.int ((p.2 + 1:Nat):Int),p.1]
theorem KN (us:List U):(o9 us).length=us.length:=by simp [o9]
theorem CP {us:List U} {i:Nat} {x:U} (h:(o9 us)[i]?=some x):∃ u,us[i]?=some u/\x=.tup [.int ((i + 1:Nat):Int),u]:=by
 simp only [o9,List.getElem?_map,List.getElem?_zipIdx] at h
 cases e:us[i]? with
 | none=>rw [e] at h;simp at h
 | some u=>rw [e] at h;simp at h;exact ⟨u,rfl,h.symm⟩
theorem Jh {f:Bool} {K:PySem.W.Frag} {a:Addr} {us:List U} {vs:List V} {H:Hp} {M:aF} (sq:Hv f K H M a vs) (r:aI K H M us vs):Walk K (Ob f K a) ⟨none,o9 us⟩ H M:=by
 refine ⟨fun H1 M1 s rm _ i u e=>?_,fun H1 M1 s rm _=>⟨vs,sq H1 M1 s,by show vs.length=(o9 us).length;rw [KN,r.length]⟩⟩
 obtain ⟨w,e1,rfl⟩:=CP e
 obtain ⟨v,e2,ru⟩:=r.get e1
 refine ⟨⟨vs,v,sq H1 M1 s,e2⟩,fun x H2 y=>?_⟩
 obtain ⟨p,v',y,hp,rfl,rfl⟩:=y
 have:=y vs (sq _ M1 s)
 rw [e2] at this;cases this
 have st:=aX.laid (o:=.tup [.int ((i + 1:Nat):Int),v]) rm hp
 have rr:aI K H1 M1 [.int ((i + 1:Nat):Int),w] [.int ((i + 1:Nat):Int),v]:=.cons dQ (.cons (ru.stp s) .nil)
 exact ⟨st,rm.laid hp,wR (rm.no hp) bT (rr.stp st)⟩
def Ek (ta:UA):UI:=fun τ M R=>ta τ M fun us M1=>match us with
 | [.lst us]=>R ⟨none,o9 us⟩ M1
 | _=>False
theorem Mu {K:PySem.W.Frag} {ta:TA} {ta':UA} (h:mN K ta ta'):v3 K (Lo K ta) (Ek ta'):=fun σ τ H M R' rs rm q R c=>h σ τ H M _ rs rm q _ fun us vs M1 H1 s1 rm1 ru h1=>by
 split at h1
 ·rename_i xs
  obtain ⟨v,rfl,a⟩:=ru.one
  simp only [aP] at a
  obtain ⟨a,vs,rfl,m,r⟩:=a
  refine ⟨a,rfl,⟨vs,?_⟩,c _ _ M1 H1 s1 rm1 (Jh (Xe m) r) h1⟩
  rcases m with ⟨_,m⟩ | k
  ·exact .inl m
  ·exact .inr k
 ·exact h1.elim
theorem N1 {D:Dat} {elts:List Expr} {kk kj:Nat} {tpos:Pos} {a:Expr} {p pos kp cp:Pos} {ta:UA} (hm:D.mg "enumerate"=none) (ha:kS D [a] ta) (hg:D.sc.names.lookup ("enumerate":Str)=some .globalImplicit:=by rfl) (hs:∀ env,starEach [a] env=[(false,eval a env)]:=by intro _;rfl):Bw D (.Tuple elts kk tpos) (.Call (.Name "enumerate" p) [a] [⟨some "start",.Constant (.int 1) kj cp,kp⟩] pos) (Ek ta):=by
 obtain ⟨_,q,s⟩:=ha
 exact ⟨_,fun X h=>h.K ▸ Nv (by show X.env.scope.names.lookup _=_;rw [h.sc];exact hg) (by rw [h.mg];exact hm) (q X h) (hs _),Mu s⟩
end U2
namespace L2
open PySem
theorem Ho {q:List Value->Prop} (h:q []) (us:List Value) (e:us.length=0):q us:=by rw [List.length_eq_zero_iff.mp e];exact h
theorem lX {n:Nat} {q:List Value->Prop} (h:∀ x us,us.length=n->q (x :: us)) (us:List Value) (e:us.length=n + 1):q us:=by
 cases us with
 | nil=>cases e
 | cons x r=>exact h x r (Nat.succ.inj e)
abbrev Ar:=Value->Value->Value->Option Addr->Value->Value->List Value->Prop
theorem n9 {p:Ar} (h:∀ a b c d e g x0,p a b c d e g [x0]) (a b c d e g):∀ us,us.length=1->p a b c d e g us:=lX fun x0=>Ho (h a b c d e g x0)
theorem n8 {p:Ar} (h:∀ a b c d e g x0 x1,p a b c d e g [x0,x1]) (a b c d e g):∀ us,us.length=2->p a b c d e g us:=lX fun x0=>lX fun x1=>Ho (h a b c d e g x0 x1)
theorem Su {p:Ar} (h:∀ a b c d e g x0 x1 x2,p a b c d e g [x0,x1,x2]) (a b c d e g):∀ us,us.length=3->p a b c d e g us:=lX fun x0=>lX fun x1=>lX fun x2=>Ho (h a b c d e g x0 x1 x2)
theorem UW {p:Ar} (h:∀ a b c d e g x0 x1 x2 x3,p a b c d e g [x0,x1,x2,x3]) (a b c d e g):∀ us,us.length=4->p a b c d e g us:=lX fun x0=>lX fun x1=>lX fun x2=>lX fun x3=>Ho (h a b c d e g x0 x1 x2 x3)
theorem XF {p:Ar} (h:∀ a b c d e g x0 x1 x2 x3 x4,p a b c d e g [x0,x1,x2,x3,x4]) (a b c d e g):∀ us,us.length=5->p a b c d e g us:=lX fun x0=>lX fun x1=>lX fun x2=>lX fun x3=>lX fun x4=>Ho (h a b c d e g x0 x1 x2 x3 x4)
theorem XC {p:Ar} (h:∀ a b c d e g x0 x1 x2 x3 x4 x5,p a b c d e g [x0,x1,x2,x3,x4,x5]) (a b c d e g):∀ us,us.length=6->p a b c d e g us:=lX fun x0=>lX fun x1=>lX fun x2=>lX fun x3=>lX fun x4=>lX fun x5=>Ho (h a b c d e g x0 x1 x2 x3 x4 x5)
end L2
namespace U2
open PySem PySem.Spec PyProof.Rows L2
theorem dX {N P:List Str} {sc:Scope} (a:sc.kind=.function:=by rfl) (b:sc.isCoroutine=false:=by rfl) (c:sc.isGenerator=false:=by rfl) (d:N.Nodup:=by decide +kernel) (e:N.take P.length=P:=by rfl) (f:∀ x∈P,sc.names.lookup x=some .local\/sc.names.lookup x=some .cell:=by decide +kernel) (g:∀ y∈sc.names,y.2≠.free:=by decide +kernel):aV N P sc:=⟨a,b,c,d,e,f,g⟩
theorem nk {xs:List U} {I:Nat->SU->aF->Prop}:∀ i τ M,I i τ M->(Src.mk none xs).ok M:=fun _ _ _ _ _ e=>nomatch e
theorem cD {P:Program} {w:World} {K:PySem.W.Frag} {mg:Str->Option Value} {base:Heap} {x:Str} {st:Stmt} {f:Addr} {fd:FuncData} {N ps:List Str} {k:Nat} {sp:cH} {t:US} (F:cE K x x st f fd) (hm:mg x=some (.ref f)) (S:aV N ps (aD st))
  (bind:∀ (kV doc pm:Value) (an:Option Addr) (cdv ct:Value) (us:List Value),us.length=ps.length->bindArgs (PySem.W.fnOf x x (aY st) (aS st) (aD st) .none kV doc pm an cdv ct) ⟨us,[]⟩=pure (ps.zip us))
  (h:oC ⟨P,w,K,mg,base,N,aD st,k,true,.none,""⟩ (aS st) t)
  (q:∀ us M Q,sp us M Q->us.length=ps.length/\t { nx:=fun _ M'=>iG Q .non M',rt:=iG Q } (dH N us) M):Callee P w K mg base (k + 1) x sp [] :=
 L8 F hm S bind (fun us M Q hs=>(q us M Q hs).1) h (fun us M Q hs=>(q us M Q hs).2)
end U2
namespace K15
open PySem L2 U2
def top (i:Nat):Stmt:=PySem.Challenge.pw_rowsmith_k15_bounds_of_tables.main.body.getD i (.Pass ⟨0,0,0,0⟩)
abbrev lH:Stmt:=top 11
theorem F5:aV ["thing"] ["thing"] (aD lH):=dX
abbrev j8:Stmt:=top 12
theorem DF:aV ["thing"] ["thing"] (aD j8):=dX
abbrev m7:Stmt:=top 13
theorem Ic:aV ["thing"] ["thing"] (aD m7):=dX
abbrev lJ:Stmt:=top 14
theorem jD:aV ["thing","is_leaf","most_pieces","most_within","count","waiting","entry","piece","depth"] ["thing","is_leaf","most_pieces","most_within"] (aD lJ):=dX
abbrev lN:Stmt:=top 15
theorem FX:aV ["shape"] ["shape"] (aD lN):=dX
abbrev i9:Stmt:=top 16
theorem nE:aV ["shape","found","number","part"] ["shape"] (aD i9):=dX
abbrev lE:Stmt:=top 17
theorem pB:aV ["shape","place","here","number"] ["shape","place"] (aD lE):=dX
abbrev mQ:Stmt:=top 18
theorem Ie:aV ["tile"] ["tile"] (aD mQ):=dX
abbrev iN:Stmt:=top 19
theorem oE:aV ["text","at","end"] ["text","at"] (aD iN):=dX
abbrev iL:Stmt:=top 20
theorem gO:aV ["text","at","number","end","longer"] ["text","at"] (aD iL):=dX
abbrev dF:Stmt:=top 21
theorem nD:aV ["text","found"] ["text"] (aD dF):=dX
abbrev jK:Stmt:=top 22
theorem dJ:aV ["text","read_leaf","brackets","shape","at","found"] ["text","read_leaf"] (aD jK):=dX
abbrev fL:Stmt:=top 23
theorem j3:aV ["text","at","brackets","here"] ["text","at","brackets"] (aD fL):=dX
abbrev iO:Stmt:=top 24
theorem gQ:aV ["text","shape","at","brackets","whole","here","bracket"] ["text","shape","at","brackets"] (aD iO):=dX
abbrev iQ:Stmt:=top 25
theorem t7:aV ["text","at","sign"] ["text","at"] (aD iQ):=dX
abbrev j9:Stmt:=top 26
theorem Ef:aV ["text","at","sign"] ["text","at","sign"] (aD j9):=dX
abbrev mS:Stmt:=top 28
theorem IH:aV ["thing"] ["thing"] (aD mS):=dX
abbrev jP:Stmt:=top 36
theorem Dk:aV ["names"] ["names"] (aD jP):=dX
abbrev iJ:Stmt:=top 37
theorem BM:aV ["thing"] ["thing"] (aD iJ):=dX
abbrev eM:Stmt:=top 38
theorem xO:aV ["thing","classes"] ["thing","classes"] (aD eM):=dX
abbrev eL:Stmt:=top 39
theorem Dh:aV ["thing","classes"] ["thing","classes"] (aD eL):=dX
abbrev mU:Stmt:=top 40
theorem IJ:aV ["thing","classes"] ["thing","classes"] (aD mU):=dX
abbrev j7:Stmt:=top 41
theorem EY:aV ["thing","classes"] ["thing","classes"] (aD j7):=dX
abbrev lF:Stmt:=top 42
theorem Ga:aV ["thing"] ["thing"] (aD lF):=dX
abbrev qZ:Stmt:=top 43
theorem Em:aV ["pattern","found"] ["pattern"] (aD qZ):=dX
abbrev gN:Stmt:=top 45
theorem nW:aV ["text","at","low","high"] ["text","at"] (aD gN):=dX
abbrev kF:Stmt:=top 46
theorem rP:aV ["text","at","sign","end"] ["text","at"] (aD kF):=dX
abbrev kC:Stmt:=top 47
theorem nN:aV ["text","row","fields","price","pattern"] ["text","row"] (aD kC):=dX
abbrev jM:Stmt:=top 48
theorem fV:aV ["text","rows","classes","tiles","row","line"] ["text"] (aD jM):=dX
abbrev kB:Stmt:=top 50
theorem DS:aV ["found"] ["found"] (aD kB):=dX
abbrev iP:Stmt:=top 51
theorem B6:aV ["script","k"] ["script","k"] (aD iP):=dX
abbrev jA:Stmt:=top 52
theorem rL:aV ["found","due","one","other"] ["found","due"] (aD jA):=dX
abbrev iK:Stmt:=top 53
theorem jO:aV ["number","name"] ["number"] (aD iK):=dX
abbrev i5:Stmt:=top 54
theorem sL:aV ["size","one","other"] ["size"] (aD i5):=dX
abbrev kD:Stmt:=top 55
theorem nM:aV ["deep","cls","item","k"] ["deep","cls"] (aD kD):=dX
abbrev jY:Stmt:=top 56
theorem tK:aV ["many","cls","one","other"] ["many","cls"] (aD jY):=dX
abbrev mW:Stmt:=top 57
theorem nB:aV ["way","draw","cls","low","high"] ["way","draw","cls"] (aD mW):=dX
abbrev iI:Stmt:=top 58
abbrev qV:Stmt:=top 59
theorem eF:aV ["script","draw","cell","way","most","many","base","classes","tiles","rows","k","one","at","cls","item","cost","due"] ["script"] (aD qV):=dX
section
variable {P:Program} {w:World} {K:PySem.W.Frag} {mg:Str->Option Value} {base:Heap} {f d d2 fl:Addr} {fd:FuncData}
def cO:List (Str × Fl):=[("turn",.int 1),("sum",.int 2),("less",.int 2),("by",.int 2)]
theorem uM {neg:Bool} {i j:Int} {M:aF} {Q:UK}:kK neg (.int i) (.int j) M Q=Q (.bl (if neg then !decide (i=j) else decide (i=j))) M:=rfl
theorem tY {neg:Bool} {i j:Str} {M:aF} {Q:UK}:kK neg (.str i) (.str j) M Q=Q (.bl (if neg then !decide (i=j) else decide (i=j))) M:=rfl
theorem small {n:Nat} (h:n<=100000):n<=sizeLine:=Nat.le_trans h (by decide)
theorem big {k:Nat} (h:k < 100000):k < sizeLine:=Nat.lt_of_lt_of_le h (by decide)
theorem KP {n:Nat} (h:n<=100000):(n<=sizeLine)=True:=eq_true (small h)
theorem aO {u v:US} {D:mH} {τ:SU} {M:aF} (h:∀ V:SU->aF->Prop,V=v D->u { D with nx:=V } τ M):tV u v D τ M:=h _ rfl
theorem bU {c:UT} {t u:US} {D:mH} {τ:SU} {M:aF} (h:∀ A B:aF->Prop,A=t D τ->B=u D τ->c τ M fun b M1=>if b=true then A M1 else B M1):u6 c t u D τ M:=h _ _ rfl rfl
def xM:Str:="abcdefghijklmnopqrstuvwxyz"
def isLetter (c:Nat):Bool:=!(Builtin.Str.occurrences xM ⟨#[c]⟩ 0 xM.length 1).isEmpty
def isName:U->Bool
 | .str z=>decide (1<=z.length) && decide (z.length<=8) && z.cps.toList.all isLetter
 | _=>false
def Wy:U->Prop
 | .str z=>z.length<=sizeLine
 | .ref _=>False
 | .ty _=>False
 | _=>True
def Ed:cH:=fun us M Q=>∃ x,us=[x]/\Wy x/\Q (.bl (isName x)) M
theorem Ly {z:Str} {x:U} (h:x∈chars z):∃ c,x=.str ⟨#[c]⟩:=by
 obtain ⟨c,_,e⟩:=List.mem_map.mp h
 exact ⟨c,e.symm⟩
theorem KA (z:Str):(chars z).length=z.length:=by simp [chars,Str.length]
def IP:U->Option U
 | .str y=>some (.bl (!(Builtin.Str.occurrences xM y 0 xM.length 1).isEmpty))
 | _=>none
theorem Sf:∀ l:List Nat,qF ((l.map fun c=>U.str ⟨#[c]⟩).filterMap IP)=some (l.map isLetter)
 | []=>rfl
 | c :: r=>by
  have:=Sf r
  simp only [List.map_cons,List.filterMap_cons,IP] at this ⊢
  simp only [qF,this,Option.map_some]
  rfl
local macro_rules | `(tactic| simp_all! only [$xs,*]) => `(tactic| simp only [$xs,*, Bool.false_eq_true, Bool.not_false, Bool.not_true, List.append_nil, List.cons_append, List.getElem?_cons_succ, List.getElem?_cons_zero, List.length_cons, List.length_nil, List.map_cons, List.map_nil, List.nil_append, List.replicate, List.set_cons_succ, List.set_cons_zero, Nat.add_sub_cancel, Nat.reduceAdd, Nat.reduceSub, Nat.sub_self, Option.some.injEq, and_true, yF, CI, at2, DN, wK, pD, vX, oY, qH, vS, Au, AA, lZ, DT, CT, CB, EH, eO, decide_false, decide_true, exists_eq_left', if_false, if_true, xI, dE, dC, dS, dD, dP, cU, fR, fT, hZ, fN, h7, eX, fW, fQ, gW, fM, gX, eU, gT, gY, i8, iE, jC, gB, fP, fX, iD, fO, iB, eY, gZ, hW, i7, gU, jB, fS, eV, eZ, fY, eS, gA, eJ, items, jS, rR, kA, tT, kZ, reduceCtorEq, dH, true_and, wQ, oQ, o7, u5, lD, Ao, vJ, uC, sM, qN, pF, mC, lL, aG, AE, uI, rS, BF, tS, qS, tD, vI, wU, AJ, oP, lI, vO, vG, qM, gF, Bk, wY, qP, qO, vN, m9, wV, vW, D0, jR, aK])
theorem Hw {t1 t2:Tok} (F:cE K "is_name" "is_name" mS f fd) (hm:mg "is_name"=some (.ref f)) (bH:mg "len"=none) (aN:mg "isinstance"=none) (eI:mg "str"=none) (qQ:mg "all"=none)
  (mR:mg "LETTERS"=some (.str xM t1)) (gS:mg "LONGEST_NAME"=some (.int 8 t2)):Callee P w K mg base 1 "is_name" Ed []:=by
 refine cD F hm IH (n9 fun _ _ _ _ _ _ _=>rfl) (aH (cA (jU.pt (jH (dB (cQ (cJ iU aN (aA (uv 0) (aA (iV (n:="str") eI) aB))))) (iY (dB (Du jJ jJ aJ (cJ eP bH (aA (uv 0) aB)) (lY gS))))))
 (aM (aR pQ))
 bA)
 (aM (aR (cJ IQ qQ (aA (mX false ["sign"] 1 [] (nJ (uv 0)) (cN (k:=1) 0 (by dsimp only [cP];decide +kernel)) m8 (gM HV (uv 0) (A6 mR))) aB))))) ?_
 rintro us M Q ⟨x,rfl,ok,q⟩
 refine ⟨rfl,?_⟩
 cases x with
 | str z =>
  simp_all! only [kR,nV,sG,kK,AQ,GA,nU,o6,tV,u6,bL,bI,zA,bJ,hName,mD,view,yA,eQ,rE,nO,zI]
  refine ⟨ok,?_⟩
  simp only [isName] at q
  by_cases h1:1<=(z.length:Int)
  ·rw [if_pos (by simpa using h1)]
   by_cases h8:(z.length:Int)<=8
   ·rw [if_neg (by simp [h8])]
    refine A4 (S:=⟨none,chars z⟩) (M1:=M) (hw:=fun R r=>r) IP (by rw [show (Src.mk none (chars z)).xs.length=z.length from KA z];exact ok) (fun a e=>by cases e) (fun x hx M' _ R r=>?_) ?_
    ·obtain ⟨c,rfl⟩:=Ly hx
     exact r
    ·show (match qF ((chars z).filterMap IP) with | some bs=>iG Q (U.bl (bs.all fun b=>b)) M | none=>False)
     unfold chars
     rw [Sf]
     refine aL ?_
     have e:((z.cps.toList.map isLetter).all fun b=>b)=(decide (1<=z.length) && decide (z.length<=8) && z.cps.toList.all isLetter):=by
      rw [decide_eq_true (show 1<=z.length by omega),decide_eq_true (show z.length<=8 by omega),List.all_map]
      rfl
     rw [e];exact q
   ·rw [if_pos (by simp [h8])]
    rw [decide_eq_false (show ¬ z.length<=8 by omega)] at q
    simp at q
    exact aL q
  ·rw [if_neg (by simpa using h1)]
   rw [decide_eq_false (show ¬ 1<=z.length by omega)] at q
   simp at q
   exact aL q
 | ref a=>exact ok.elim
 | ty a=>exact ok.elim
 | _=>simp_all! only [kR,nV,sG,kK,AQ,GA,nU,o6,tV,u6,bL,bI,zA,bJ,hName,mD,view,yA,eQ,rE,nO,zI];exact aL q
mutual
def pl:U->Prop
 | .non=>True
 | .bl _=>True
 | .int _=>True
 | .str z=>PyData.strOk z=true/\z.length<=1000
 | .tup us=>us.length<=1000/\Fs us
 | .lst us=>us.length<=1000/\Fs us
 | .ty _=>False
 | .ref _=>False
 | .dic _ _ _=>False
def Fs:List U->Prop
 | []=>True
 | u :: us=>pl u/\Fs us
end
theorem Gz:∀ {us:List U} {u:U},Fs us->u∈us->pl u
 | [],_,_,h=>by cases h
 | a :: us,u,h,m=>by
  simp only [Fs] at h
  rcases List.mem_cons.mp m with rfl | m
  ·exact h.1
  ·exact Gz h.2 m
def lay (u:U) (n:Nat):Prop:=∃ d,toD u=some d/\d.canLay0=true/\d.depth<=n
def Ou (us:List U) (n:Nat):Prop:=∃ ds,dR us=some ds/\PyData.canLayAll0 ds=true/\PyData.depthAll ds<=n
theorem EB:∀ {us:List U} {u:U} {n:Nat},Ou us n->u∈us->lay u n
 | [],_,_,_,h=>by cases h
 | a :: us,u,n,⟨ds,h1,h2,h3⟩,m=>by
  simp only [dR] at h1
  cases ha:toD a with
  | none=>rw [ha] at h1;cases h1
  | some d =>
   cases hs:dR us with
   | none=>rw [ha,hs] at h1;cases h1
   | some es =>
    rw [ha,hs] at h1
    cases h1
    simp only [PyData.canLayAll0,Bool.and_eq_true,PyData.depthAll] at h2 h3
    rcases List.mem_cons.mp m with rfl | m
    ·exact ⟨d,ha,h2.1,by omega⟩
    ·exact EB ⟨es,hs,h2.2,by omega⟩ m
theorem Qh {us:List U} {n:Nat} (h:lay (.tup us) n):Ou us n:=by
 obtain ⟨d,h1,h2,h3⟩:=h
 simp only [toD,Option.map_eq_some_iff] at h1
 obtain ⟨ds,e,rfl⟩:=h1
 simp only [PyData.canLay0,PyData.depth] at h2 h3
 exact ⟨ds,e,h2,by omega⟩
def plain (u:U):Prop:=pl u/\lay u 60
theorem jV {us:List U} {u:U} (h:plain (.tup us)) (m:u∈us):plain u:=by
 have h1:=h.1
 simp only [pl] at h1
 exact ⟨Gz h1.2 m,EB (Qh h.2) m⟩
theorem plain_len {us:List U} (h:plain (.tup us)):us.length<=1000:=by
 have h1:=h.1
 simp only [pl] at h1
 exact h1.1
theorem Ry (a b:Str):(a == b)=decide (a=b):=by
 by_cases h:a=b
 ·subst h;simp
 ·rw [decide_eq_false h];exact beq_eq_false_iff_ne.mpr h
def rC (z:Str):U->Bool
 | .str y=>decide (y=z)
 | _=>false
theorem eq_str {u:U} {z:Str} {M:aF} {Q:UK} (h:plain u) (hz:PyData.strOk z=true) (q:Q (.bl (rC z u)) M):kK false u (.str z) M Q:=by
 obtain ⟨h1,d,e,h2,h3⟩:=h
 have hs:(PyData.str z).canLay0=true:=by simp only [PyData.canLay0];exact hz
 cases u with
 | tup us =>
  simp only [toD,Option.map_eq_some_iff] at e
  obtain ⟨ds,e,rfl⟩:=e
  exact ⟨_,_,by simp only [wG,toD,e,Option.map_some],rfl,h2,hs,by simp only [PyData.depth];omega,q⟩
 | lst us =>
  simp only [toD,Option.map_eq_some_iff] at e
  obtain ⟨ds,e,rfl⟩:=e
  exact ⟨_,_,by simp only [wG,toD,e,Option.map_some],rfl,h2,hs,by simp only [PyData.depth];omega,q⟩
 | ty _=>exact h1.elim
 | ref _=>exact h1.elim
 | dic _ _ _=>exact h1.elim
 | _=>exact q
def xR (cs:List Str):U->Bool
 | .str y=>cs.contains y
 | _=>false
theorem GZ {neg:Bool} {u:U} {cs:List Str} {M:aF} {Q:UK} (h:plain u) (hc:∀ c∈cs,PyData.strOk c=true) (q:Q (.bl (if neg then !xR cs u else xR cs u)) M):JU neg u (.tup (cs.map U.str)) M Q:=by
 obtain ⟨h1,d,e,h2,h3⟩:=h
 have e1:∀ cs:List Str,dR (cs.map U.str)=some (cs.map PyData.str):=fun cs=>by
  induction cs with
  | nil=>rfl
  | cons c cs ih=>simp only [List.map_cons,dR,toD,ih]
 have e2:PyData.canLayAll0 (cs.map PyData.str)=true:=by
  clear q
  induction cs with
  | nil=>rfl
  | cons c cs ih =>
   simp only [List.map_cons,PyData.canLayAll0,PyData.canLay0,Bool.and_eq_true]
   exact ⟨hc c List.mem_cons_self,ih fun x hx=>hc x (List.mem_cons_of_mem _ hx)⟩
 have e3:wG M u=some d:=by
  cases u <;> first | exact e | exact h1.elim
 have e4:((cs.map PyData.str).any fun x=>PyData.eqv x d)=xR cs u:=by
  clear q hc e2
  induction cs with
  | nil=>cases u <;> rfl
  | cons c cs ih =>
   simp only [List.map_cons,List.any_cons,ih]
   cases u with
   | str y =>
    cases e
    simp only [xR,List.contains_cons]
    congr 1
    simp only [PyData.eqv]
    exact BEq.comm
   | tup us =>
    simp only [toD,Option.map_eq_some_iff] at e
    obtain ⟨ds,e,rfl⟩:=e
    rfl
   | lst us =>
    simp only [toD,Option.map_eq_some_iff] at e
    obtain ⟨ds,e,rfl⟩:=e
    rfl
   | ty _=>exact h1.elim
   | ref _=>exact h1.elim
   | dic _ _ _=>exact h1.elim
   | _=>cases e;rfl
 exact ⟨_,_,d,rfl,e1 cs,e3,e2,h2,h3,by rw [e4];exact q⟩
def Ee:U->Bool
 | .int _=>true
 | _=>false
def tX:U->Bool
 | .int i=>decide (0<=i) && decide (i<=1000000000000000000)
 | _=>false
def vY:cH:=fun us M Q=>∃ u,us=[u]/\plain u/\Q (.bl (Ee u)) M
local macro_rules | `(tactic| dsimp! only [$xs,*] $[$l]?) => `(tactic| simp only [$xs,*, Bool.false_eq_true, Bool.not_false, Bool.not_true, List.append_nil, List.cons_append, List.getElem?_cons_succ, List.getElem?_cons_zero, List.length_cons, List.length_nil, List.map_cons, List.map_nil, List.nil_append, List.replicate, List.set_cons_succ, List.set_cons_zero, Nat.add_sub_cancel, Nat.reduceAdd, Nat.reduceLeDiff, Nat.reduceSub, Nat.sub_self, Option.getD_some, Option.some.injEq, and_true, yF, CI, at2, DN, wK, Fx, pD, vX, oY, qH, vS, Au, AA, lZ, DT, CT, CB, EH, eO, decide_false, decide_true, uM, tY, exists_eq_left', if_false, if_true, xI, eQ, dE, dC, dS, dD, dP, cU, fR, fT, hZ, fN, h7, eX, fW, fQ, gW, fM, gX, eU, gT, gY, i8, iE, jC, gB, fP, fX, iD, fO, iB, eY, gZ, hW, i7, gU, jB, fS, eV, eZ, fY, eS, gA, eJ, items, jS, rR, kA, tT, xT, kZ, gR, bO, reduceCtorEq, dH, KP, true_and, wQ, oQ, o7, u5, lD, Ao, vJ, uC, sM, qN, pF, mC, lL, AE, uI, rS, BF, tS, qS, tD, vI, wU, xX, AJ, oP, lI, vO, vG, qM, gF, Bk, wY, qP, qO, vN, rE, m9, wV, vW, D0, jR, Ba, yG, yC, yW, uW, yO, yT] $[$l]?)
theorem Gn (F:cE K "is_whole" "is_whole" lH f fd) (hm:mg "is_whole"=some (.ref f)) (aN:mg "isinstance"=none) (zY:mg "int"=none) (nZ:mg "bool"=none):Callee P w K mg base 1 "is_whole" vY []:=by
 refine cD F hm F5 (n9 fun _ _ _ _ _ _ _=>rfl) (aM (aR (iA (cJ iU aN (aA (uv 0) (aA (iV (n:="int") zY) aB))) (iZ (ES (cJ iU aN (aA (uv 0) (aA (iV (n:="bool") nZ) aB)))))))) ?_
 rintro us M Q ⟨u,rfl,ho,q⟩
 refine ⟨rfl,?_⟩
 cases u with
 | ref a=>exact ho.1.elim
 | ty a=>exact ho.1.elim
 | dic a b c=>exact ho.1.elim
 | _=>dsimp! only [bI,aG,aK,aE];exact aL q
def Av:cH:=fun us M Q=>∃ u,us=[u]/\plain u/\Q (.bl (tX u)) M
theorem DZ {t1:Tok} (F:cE K "is_number" "is_number" j8 f fd) (hm:mg "is_number"=some (.ref f)) (lP:mg "GREATEST"=some (.int 1000000000000000000 t1)) (wC:Callee P w K mg base 1 "is_whole" vY []):Callee P w K mg base 2 "is_number" Av []:=by
 refine cD F hm DF (n9 fun _ _ _ _ _ _ _=>rfl) (aM (aR (iA (bF wC (aA (uv 0) aB)) (iZ (Wr jJ jJ aJ (uv 0) (lY lP)))))) ?_
 rintro us M Q ⟨u,rfl,ho,q⟩
 refine ⟨rfl,?_⟩
 dsimp! only [bI,aG,aK,aE]
 refine ⟨u,rfl,ho,?_⟩
 cases u with
 | ref a=>exact ho.1.elim
 | ty a=>exact ho.1.elim
 | dic a b c=>exact ho.1.elim
 | int i =>
  dsimp! only [Ee,aG,aK,aE]
  simp only [tX] at q
  by_cases h:0<=i
  ·simp only [h,decide_true,Bool.true_and,if_true] at q ⊢
   exact aL q
  ·simp only [h,decide_false,Bool.false_and,Bool.false_eq_true,if_false] at q ⊢
   exact aL q
 | _=>dsimp! only [Ee,aG,aK,aE];exact aL q
def Bq:U->Bool
 | .tup (.str z :: r)=>match bX cO z with
  | some (.int k)=>decide ((r.length:Int)=k)
  | _=>false
 | _=>false
def LF (u:U) (_:Bool):Prop:=plain u/\Bq u=false
def Ff:cH:=fun us M Q=>∃ u,us=[u]/\((∃ b,LF u b/\Q (.bl false) M)\/(∃ (z:Str) (r:List U),u=.tup (.str z :: r)/\bX cO z=some (.int (r.length:Nat))/\Q (.bl true) M))
theorem KS (z:Str):bX cO z=none\/∃ k:Nat,bX cO z=some (.int k):=by
 simp only [cO,bX]
 split
 ·exact .inr ⟨1,rfl⟩
 split
 ·exact .inr ⟨2,rfl⟩
 split
 ·exact .inr ⟨2,rfl⟩
 split
 ·exact .inr ⟨2,rfl⟩
 exact .inl rfl
local macro_rules | `(tactic| simp_all! only [$xs,*]) => `(tactic| simp only [$xs,*, Bool.false_eq_true, Bool.not_false, Bool.not_true, List.append_nil, List.cons_append, List.getElem?_cons_succ, List.getElem?_cons_zero, List.length_cons, List.length_nil, List.map_cons, List.map_nil, List.nil_append, List.replicate, List.set_cons_succ, List.set_cons_zero, Nat.add_sub_cancel, Nat.reduceAdd, Nat.reduceSub, Nat.sub_self, Option.some.injEq, and_true, yF, CI, at2, DN, wK, pD, vX, oY, qH, vS, Au, AA, lZ, DT, CT, CB, EH, eO, decide_false, decide_true, exists_eq_left', if_false, if_true, xI, dE, dC, dS, dD, dP, cU, fR, fT, hZ, fN, h7, eX, fW, fQ, gW, fM, gX, eU, gT, gY, i8, iE, jC, gB, fP, fX, iD, fO, iB, eY, gZ, hW, i7, gU, jB, fS, eV, eZ, fY, eS, gA, eJ, items, jS, rR, kA, tT, kZ, reduceCtorEq, dH, true_and, wQ, oQ, o7, u5, lD, Ao, vJ, uC, sM, qN, pF, mC, lL, aG, AE, uI, rS, BF, tS, qS, tD, vI, wU, AJ, oP, lI, vO, vG, qM, gF, Bk, wY, qP, qO, vN, m9, wV, vW, D0, jR, aK])
theorem JQ (F:cE K "is_sign" "is_sign" m7 f fd) (hm:mg "is_sign"=some (.ref f)) (aN:mg "isinstance"=none) (bM:mg "tuple"=none) (bH:mg "len"=none) (eI:mg "str"=none) (oG:oX P w K d cO) (oM:mg "SIGNS"=some (.ref d)):Callee P w K mg base 1 "is_sign" Ff []:=by
 refine cD F hm Ic (n9 fun _ _ _ _ _ _ _=>rfl) (aH (cA (jU.pt (jH (dB (cQ (cJ iU aN (aA (uv 0) (aA (iV (n:="tuple") bM) aB))))) (jH (bW cI (cJ eP bH (aA (uv 0) aB)) aJ) (iY (dB (cQ (cJ iU aN (aA (aW (uv 0) aJ) (aA (iV (n:="str") eI) aB)))))))))
 (aM (aR pQ))
 bA)
 (aM (aR (iA (gM (Hn oG) (aW (uv 0) aJ) (uO oM)) (iZ (gM cI (cJ eP bH (aA (uv 0) aB)) (aQ (own:=false) aJ (Mf oG (uO oM) (aW (uv 0) aJ))))))))) ?_
 rintro us M Q ⟨u,rfl,h⟩
 refine ⟨rfl,?_⟩
 have hne:∀ n:Nat,decide (((n + 1:Nat):Int)=0)=false:=fun n=>decide_eq_false (by omega)
 have no:∀ (z:Str) (r:List U),bX cO z=none->Q (.bl false) M->lD (gF (nU d cO false) (gF tD (jR 0) (uC (U.int 0))) (uC (U.ref d))) (gF (kK false) (sM qH (lL (jR 0) oP)) (gF (oQ false) (uC (U.int 1)) (gF (o6 d cO) (uC (U.ref d)) (gF tD (jR 0) (uC (U.int 0)))))) [some (.tup (.str z :: r))] M (iG Q):=fun z r h q=>by
  simp_all! only [h,Option.isSome_none,kR,nV,sG,kK,AQ,GA,nU,o6,tV,u6,bL,bI,zA,bJ,hName,mD,view,yA,eQ,rE,nO,zI]
  exact aL q
 have yes:∀ (z:Str) (r:List U) (k:Nat),bX cO z=some (.int k)->Q (.bl (decide (r.length=k))) M->lD (gF (nU d cO false) (gF tD (jR 0) (uC (U.int 0))) (uC (U.ref d))) (gF (kK false) (sM qH (lL (jR 0) oP)) (gF (oQ false) (uC (U.int 1)) (gF (o6 d cO) (uC (U.ref d)) (gF tD (jR 0) (uC (U.int 0)))))) [some (.tup (.str z :: r))] M (iG Q):=fun z r k h q=>by
  simp_all! only [h,Option.isSome_some,Fl.u,yA,kR,nV,sG,kK,AQ,GA,nU,o6,tV,u6,bL,bI,zA,bJ,hName,mD,view,yA,eQ,rE,nO,zI]
  refine aL ?_
  have e:decide (((r.length + 1:Nat):Int)=1 + (k:Int))=decide (r.length=k):=by
   by_cases e:r.length=k
   ·rw [decide_eq_true e];exact decide_eq_true (by omega)
   ·rw [decide_eq_false e];exact decide_eq_false (by omega)
  rw [e]
  exact q
 refine aO fun V1 hV1=>?_
 refine bU fun A B hA hB=>?_
 rcases h with ⟨b,⟨hp,hs⟩,q⟩ | ⟨z,r,rfl,hz,q⟩
 ·have fls:A M:=by
   subst hA
   dsimp! only [bI,aG,aK,aE]
   exact aL q
  cases u with
  | tup us =>
   cases us with
   | nil=>dsimp! only [show decide (((0:Nat):Int)=0)=true from rfl,aG,aK,aE];exact fls
   | cons x r =>
    have hx:=jV hp List.mem_cons_self
    cases x with
    | str z =>
     dsimp! only [hne,aG,aK,aE]
     subst hB
     simp only [bL]
     subst hV1
     simp only [bI,dH,List.length_nil,List.length_cons,List.map_cons,List.map_nil,Nat.sub_self,List.replicate,List.append_nil,Nat.reduceAdd]
     simp only [Bq] at hs
     rcases KS z with h | ⟨k,h⟩
     ·exact no z r h q
     ·rw [h] at hs
      simp only [decide_eq_false_iff_not,Int.natCast_inj] at hs
      exact yes z r k h (by rw [decide_eq_false hs];exact q)
    | ref a=>exact hx.1.elim
    | ty a=>exact hx.1.elim
    | dic a b c=>exact hx.1.elim
    | _=>dsimp! only [hne,aG,aK,aE];exact fls
  | ref a=>exact hp.1.elim
  | ty a=>exact hp.1.elim
  | dic a b c=>exact hp.1.elim
  | _=>dsimp! only [aG,aK,aE];exact fls
 ·dsimp! only [hne,aG,aK,aE]
  subst hB
  simp only [bL]
  subst hV1
  simp only [bI,dH,List.length_nil,List.length_cons,List.map_cons,List.map_nil,Nat.sub_self,List.replicate,List.append_nil,Nat.reduceAdd]
  exact yes z r r.length hz (by rw [decide_eq_true rfl];exact q)
def jG (cs:List Str):U->Bool
 | .tup (.str z :: r)=>if z=Str.ofString "at" then (match r with | [x]=>xR cs x | _=>false) else if z=Str.ofString "from" then (match r with | [a,b]=>tX a && (tX b && (match a,b with | .int i,.int j=>decide (i<=j) | _,_=>false)) | _=>false) else decide (z=Str.ofString "any") && r.isEmpty
 | _=>false
def B7:cH:=fun us M Q=>∃ (u:U) (cs:List Str),us=[u,.tup (cs.map U.str)]/\plain u/\(∀ c∈cs,PyData.strOk c=true)/\Q (.bl (jG cs u)) M
theorem Vf {x:U} {r:List U} {M:aF} {Q:UK} (h:plain (.tup (x :: r))) (q:Q (.bl (rC (Str.ofString "any") x && r.isEmpty)) M):kK false (.tup (x :: r)) (.tup [.str (Str.ofString "any")]) M Q:=by
 obtain ⟨h1,d,e,h2,h3⟩:=h
 have e':=e
 simp only [toD,Option.map_eq_some_iff] at e'
 obtain ⟨ds,e1,rfl⟩:=e'
 refine ⟨_,_,e,rfl,h2,by decide +kernel,by simp only [PyData.depth,PyData.depthAll];omega,?_⟩
 simp only [dR] at e1
 cases hx:toD x with
 | none=>rw [hx] at e1;cases e1
 | some dx =>
  cases hr:dR r with
  | none=>rw [hx,hr] at e1;cases e1
  | some dr =>
   rw [hx,hr] at e1
   cases e1
   have a1:PyData.eqv (.tuple (dx :: dr)) (.tuple [.str (Str.ofString "any")])=(rC (Str.ofString "any") x && r.isEmpty):=by
    have b1:PyData.eqv dx (.str (Str.ofString "any"))=rC (Str.ofString "any") x:=by
     simp only [pl,Fs] at h1
     cases x with
     | str y=>cases hx;simp only [rC,PyData.eqv];exact Ry _ _
     | tup us=>simp only [toD,Option.map_eq_some_iff] at hx;obtain ⟨ds,e,rfl⟩:=hx;rfl
     | lst us=>simp only [toD,Option.map_eq_some_iff] at hx;obtain ⟨ds,e,rfl⟩:=hx;rfl
     | ty _=>exact h1.2.1.elim
     | ref _=>exact h1.2.1.elim
     | dic _ _ _=>exact h1.2.1.elim
     | _=>cases hx;rfl
    have b2:PyData.eqvAll dr []=r.isEmpty:=by
     cases r with
     | nil=>cases hr;rfl
     | cons y r =>
      simp only [dR] at hr
      cases hy:toD y with
      | none=>rw [hy] at hr;cases hr
      | some dy =>
       cases hz:dR r with
       | none=>rw [hy,hz] at hr;cases hr
       | some dz=>rw [hy,hz] at hr;cases hr;rfl
    simp only [PyData.eqv,PyData.eqvAll] at b1 b2 ⊢
    rw [b1,b2]
   simp only [Bool.false_eq_true,if_false]
   rw [a1];exact q
theorem NH (F:cE K "is_pattern_leaf" "is_pattern_leaf" eM f fd) (hm:mg "is_pattern_leaf"=some (.ref f)) (aN:mg "isinstance"=none) (bM:mg "tuple"=none) (bH:mg "len"=none) (As:Callee P w K mg base 2 "is_number" Av []):Callee P w K mg base 3 "is_pattern_leaf" B7 []:=by
 refine cD F hm xO (n8 fun _ _ _ _ _ _ _ _=>rfl) (aH (cA (jU.pt (jH (dB (cQ (cJ iU aN (aA (uv 0) (aA (iV (n:="tuple") bM) aB))))) (iY (bW cI (cJ eP bH (aA (uv 0) aB)) aJ))))
 (aM (aR pQ))
 bA)
 (aH (cA (bW cI (aW (uv 0) aJ) b8)
 (aM (aR (iA (gM cI (cJ eP bH (aA (uv 0) aB)) aJ) (iZ (gM Vz (aW (uv 0) aJ) (uv 1))))))
 bA)
 (aH (cA (bW cI (aW (uv 0) aJ) b8)
 (aM (aR (iA (gM cI (cJ eP bH (aA (uv 0) aB)) aJ) (iA (bF As (aA (aW (uv 0) aJ) aB)) (iA (bF As (aA (aW (uv 0) aJ) aB)) (iZ (gM jJ (aW (uv 0) aJ) (aW (uv 0) aJ))))))))
 bA)
 (aM (aR (gM cI (uv 0) (bD (aA b8 aB)))))))) ?_
 rintro us M Q ⟨u,cs,rfl,hp,hc,q⟩
 refine ⟨rfl,?_⟩
 have hne:∀ n:Nat,decide (((n + 1:Nat):Int)=0)=false:=fun n=>decide_eq_false (by omega)
 have sat:PyData.strOk (Str.ofString "at")=true:=by decide +kernel
 have sfr:PyData.strOk (Str.ofString "from")=true:=by decide +kernel
 refine aO fun V1 hV1=>?_
 refine bU fun A B hA hB=>?_
 cases u with
 | tup us =>
  cases us with
  | nil =>
   dsimp! only [show decide (((0:Nat):Int)=0)=true from rfl,aG,aK,aE]
   subst hA
   dsimp! only [bI,aG,aK,aE]
   exact aL q
  | cons x r =>
   have hx:=jV hp List.mem_cons_self
   have hl:=plain_len hp
   dsimp! only [hne,aG,aK,aE]
   subst hB
   simp only [bL]
   subst hV1
   refine aO fun V2 hV2=>?_
   refine bU fun A B hA hB=>?_
   dsimp! only [aG,aK,aE]
   refine eq_str hx sat ?_
   have n2:∀ n:Nat,decide (((n + 1 + 1 + 1 + 1:Nat):Int)=2)=false:=fun n=>decide_eq_false (by omega)
   have n3:∀ n:Nat,decide (((n + 1 + 1 + 1 + 1:Nat):Int)=3)=false:=fun n=>decide_eq_false (by omega)
   have d1:decide (((0 + 1:Nat):Int)=2)=false:=rfl
   have d2:decide (((0 + 1 + 1:Nat):Int)=2)=true:=rfl
   have d3:decide (((0 + 1 + 1 + 1:Nat):Int)=2)=false:=rfl
   have c1:decide (((0 + 1:Nat):Int)=3)=false:=rfl
   have c2:decide (((0 + 1 + 1:Nat):Int)=3)=false:=rfl
   have c3:decide (((0 + 1 + 1 + 1:Nat):Int)=3)=true:=rfl
   have hra:∀ y∈r,plain y:=fun y hy=>jV hp (List.mem_cons_of_mem _ hy)
   have three:rC (Str.ofString "at") x=false->rC (Str.ofString "from") x=false->Q (.bl (rC (Str.ofString "any") x && r.isEmpty)) M->B M:=fun h1 h2 q=>by
    subst hB
    simp only [bL]
    subst hV2
    refine aO fun V3 hV3=>?_
    refine bU fun A B hA hB=>?_
    dsimp! only [aG,aK,aE]
    refine eq_str hx sfr ?_
    dsimp! only [h2,aG,aK,aE]
    subst hB
    simp only [bL]
    subst hV3
    dsimp! only [bI,aG,aK,aE]
    exact Vf hp (aL q)
   cases x with
   | str z =>
    by_cases hz:z=Str.ofString "at"
    ·subst hz
     simp only [rC,jG,decide_true,if_true] at q ⊢
     subst hA
     rcases r with _ | ⟨a,_ | ⟨b,_ | ⟨c,r⟩⟩⟩
     ·dsimp! only [bI,d1,aG,aK,aE];exact aL q
     ·dsimp! only [bI,d2,aG,aK,aE]
      exact GZ (neg:=false) (hra a (by simp)) hc (aL q)
     ·dsimp! only [bI,d3,aG,aK,aE];exact aL q
     ·dsimp! only [bI,n2,aG,aK,aE];exact aL q
    ·by_cases hz2:z=Str.ofString "from"
     ·subst hz2
      simp only [rC,jG,hz,decide_true,decide_false,if_true,if_false,Bool.false_eq_true] at q ⊢
      subst hB
      simp only [bL]
      subst hV2
      refine aO fun V3 hV3=>?_
      refine bU fun A B hA hB=>?_
      dsimp! only [aG,aK,aE]
      subst hA
      rcases r with _ | ⟨a,_ | ⟨b,_ | ⟨c,r⟩⟩⟩
      ·dsimp! only [bI,c1,aG,aK,aE];exact aL q
      ·dsimp! only [bI,c2,aG,aK,aE];exact aL q
      ·dsimp! only [bI,c3,aG,aK,aE]
       dsimp only at q
       refine ⟨a,rfl,hra a (by simp),?_⟩
       cases ha:tX a with
       | false =>
        rw [ha] at q
        dsimp! only [aG,aK,aE]
        exact aL q
       | true =>
        rw [ha] at q
        dsimp! only [aG,aK,aE]
        refine ⟨b,rfl,hra b (by simp),?_⟩
        cases hb:tX b with
        | false =>
         rw [hb] at q
         dsimp! only [aG,aK,aE]
         exact aL q
        | true =>
         rw [hb] at q
         cases a <;> first | cases ha | skip
         cases b <;> first | cases hb | skip
         dsimp! only [aG,aK,aE]
         exact aL q
      ·dsimp! only [bI,n3,aG,aK,aE];exact aL q
     ·simp only [rC,jG,hz,hz2,decide_false,if_false,Bool.false_eq_true] at q ⊢
      exact three (by simp [rC,hz]) (by simp [rC,hz2]) q
   | ref a=>exact hx.1.elim
   | ty a=>exact hx.1.elim
   | dic a b c=>exact hx.1.elim
   | _=>exact three rfl rfl q
 | ref a=>exact hp.1.elim
 | ty a=>exact hp.1.elim
 | dic a b c=>exact hp.1.elim
 | _ =>
  dsimp! only [aG,aK,aE]
  subst hA
  dsimp! only [bI,aG,aK,aE]
  exact aL q
inductive Op where
 | sum | less | by_
def Op.word:Op->Str
 | .sum=>"sum" | .less=>"less" | .by_=>"by"
inductive Tr where
 | num (n:Int) | name (x:Str) | turn (a:Tr) | two (o:Op) (a b:Tr)
def Tr.toU:Tr->U
 | .num n=>.tup [.str "num",.int n]
 | .name x=>.tup [.str "name",.str x]
 | .turn a=>.tup [.str "turn",a.toU]
 | .two o a b=>.tup [.str o.word,a.toU,b.toU]
def Tr.ok:Tr->Prop
 | .num _=>True
 | .name x=>PyData.strOk x=true/\x.length<=100
 | .turn a=>a.ok
 | .two _ a b=>a.ok/\b.ok
def Tr.dep:Tr->Nat
 | .num _=>1
 | .name _=>1
 | .turn a=>a.dep + 1
 | .two _ a b=>max a.dep b.dep + 1
inductive Pt where
 | hole (c:Str) | any | fr (l h:Int) | turn (a:Pt) | two (o:Op) (a b:Pt)
def Pt.toU:Pt->U
 | .hole c=>.tup [.str "at",.str c]
 | .any=>.tup [.str "any"]
 | .fr l h=>.tup [.str "from",.int l,.int h]
 | .turn a=>.tup [.str "turn",a.toU]
 | .two o a b=>.tup [.str o.word,a.toU,b.toU]
def Pt.ok:Pt->Prop
 | .hole c=>PyData.strOk c=true
 | .any=>True
 | .fr l h=>0<=l/\l<=h
 | .turn a=>a.ok
 | .two _ a b=>a.ok/\b.ok
def Pt.dep:Pt->Nat
 | .hole _=>1
 | .any=>1
 | .fr _ _=>1
 | .turn a=>a.dep + 1
 | .two _ a b=>max a.dep b.dep + 1
def Pt.holes:Pt->Nat
 | .hole _=>1
 | .any=>0
 | .fr _ _=>0
 | .turn a=>a.holes
 | .two _ a b=>a.holes + b.holes
def Pt.leafy:Pt->Bool
 | .turn _=>false
 | .two _ _ _=>false
 | _=>true
def Pt.ends:Pt->List Pt
 | .turn a=>a.ends
 | .two _ a b=>a.ends++b.ends
 | p=>[p]
instance:DecidableEq Op:=fun a b=>by cases a <;> cases b <;> first | exact isTrue rfl | exact isFalse (fun h=>nomatch h)
def Nn:Pt->Tr->Bool
 | .hole _,_=>true
 | .any,.name _=>true
 | .any,_=>false
 | .fr l h,.num n=>decide (l<=n) && decide (n<=h)
 | .fr _ _,_=>false
 | .turn p,.turn a=>Nn p a
 | .turn _,_=>false
 | .two o p q,.two o' a b=>decide (o=o') && (Nn p a && Nn q b)
 | .two _ _ _,_=>false
theorem HE (x y:Str):(x++y).cps.toList=x.cps.toList++y.cps.toList:=by
 show (x.cps++y.cps).toList=_
 simp
theorem NR:(Str.ofString "at"=Str.ofString "any")=False:=eq_false (by decide +kernel)
theorem LY:(Str.ofString "at"=Str.ofString "from")=False:=eq_false (by decide +kernel)
theorem Mh:(Str.ofString "at"=Str.ofString "turn")=False:=eq_false (by decide +kernel)
theorem N9:(Str.ofString "at"=Str.ofString "num")=False:=eq_false (by decide +kernel)
theorem Ml:(Str.ofString "at"=Str.ofString "name")=False:=eq_false (by decide +kernel)
theorem DW:(Str.ofString "any"=Str.ofString "at")=False:=eq_false (by decide +kernel)
theorem IV:(Str.ofString "any"=Str.ofString "from")=False:=eq_false (by decide +kernel)
theorem JX:(Str.ofString "any"=Str.ofString "turn")=False:=eq_false (by decide +kernel)
theorem Kd:(Str.ofString "any"=Str.ofString "num")=False:=eq_false (by decide +kernel)
theorem HQ:(Str.ofString "any"=Str.ofString "name")=False:=eq_false (by decide +kernel)
theorem CD:(Str.ofString "from"=Str.ofString "at")=False:=eq_false (by decide +kernel)
theorem Hy:(Str.ofString "from"=Str.ofString "any")=False:=eq_false (by decide +kernel)
theorem FA:(Str.ofString "from"=Str.ofString "turn")=False:=eq_false (by decide +kernel)
theorem Jt:(Str.ofString "from"=Str.ofString "num")=False:=eq_false (by decide +kernel)
theorem Fz:(Str.ofString "from"=Str.ofString "name")=False:=eq_false (by decide +kernel)
theorem Cp:(Str.ofString "turn"=Str.ofString "at")=False:=eq_false (by decide +kernel)
theorem Iw:(Str.ofString "turn"=Str.ofString "any")=False:=eq_false (by decide +kernel)
theorem FE:(Str.ofString "turn"=Str.ofString "from")=False:=eq_false (by decide +kernel)
theorem IE:(Str.ofString "turn"=Str.ofString "num")=False:=eq_false (by decide +kernel)
theorem Gm:(Str.ofString "turn"=Str.ofString "name")=False:=eq_false (by decide +kernel)
theorem NS:(Str.ofString "num"=Str.ofString "at")=False:=eq_false (by decide +kernel)
theorem Md:(Str.ofString "num"=Str.ofString "any")=False:=eq_false (by decide +kernel)
theorem Jw:(Str.ofString "num"=Str.ofString "from")=False:=eq_false (by decide +kernel)
theorem IZ:(Str.ofString "num"=Str.ofString "turn")=False:=eq_false (by decide +kernel)
theorem HP:(Str.ofString "num"=Str.ofString "name")=False:=eq_false (by decide +kernel)
theorem Lu:(Str.ofString "name"=Str.ofString "at")=False:=eq_false (by decide +kernel)
theorem JN:(Str.ofString "name"=Str.ofString "any")=False:=eq_false (by decide +kernel)
theorem FJ:(Str.ofString "name"=Str.ofString "from")=False:=eq_false (by decide +kernel)
theorem Gi:(Str.ofString "name"=Str.ofString "turn")=False:=eq_false (by decide +kernel)
theorem Je:(Str.ofString "name"=Str.ofString "num")=False:=eq_false (by decide +kernel)
theorem Ky (o:Op):(o.word=Str.ofString "at")=False:=eq_false (by cases o <;> decide +kernel)
theorem R7 (o:Op):(o.word=Str.ofString "any")=False:=eq_false (by cases o <;> decide +kernel)
theorem Na (o:Op):(o.word=Str.ofString "from")=False:=eq_false (by cases o <;> decide +kernel)
theorem MG (o:Op):(o.word=Str.ofString "turn")=False:=eq_false (by cases o <;> decide +kernel)
theorem Q4 (o:Op):(o.word=Str.ofString "num")=False:=eq_false (by cases o <;> decide +kernel)
theorem M8 (o:Op):(o.word=Str.ofString "name")=False:=eq_false (by cases o <;> decide +kernel)
theorem Tb (o:Op):(Str.ofString "at"=o.word)=False:=eq_false (by cases o <;> decide +kernel)
theorem QI (o:Op):(Str.ofString "any"=o.word)=False:=eq_false (by cases o <;> decide +kernel)
theorem OT (o:Op):(Str.ofString "from"=o.word)=False:=eq_false (by cases o <;> decide +kernel)
theorem N7 (o:Op):(Str.ofString "turn"=o.word)=False:=eq_false (by cases o <;> decide +kernel)
theorem Qi (o:Op):(Str.ofString "num"=o.word)=False:=eq_false (by cases o <;> decide +kernel)
theorem ME (o:Op):(Str.ofString "name"=o.word)=False:=eq_false (by cases o <;> decide +kernel)
theorem uF:(Str.ofString "at"=Str.ofString "any")=False/\(Str.ofString "at"=Str.ofString "from")=False/\(Str.ofString "at"=Str.ofString "turn")=False/\(Str.ofString "at"=Str.ofString "num")=False/\(Str.ofString "at"=Str.ofString "name")=False/\(Str.ofString "any"=Str.ofString "at")=False:=⟨NR,LY,Mh,N9,Ml,DW⟩
theorem uA:(Str.ofString "any"=Str.ofString "from")=False/\(Str.ofString "any"=Str.ofString "turn")=False/\(Str.ofString "any"=Str.ofString "num")=False/\(Str.ofString "any"=Str.ofString "name")=False/\(Str.ofString "from"=Str.ofString "at")=False/\(Str.ofString "from"=Str.ofString "any")=False:=⟨IV,JX,Kd,HQ,CD,Hy⟩
theorem tZ:(Str.ofString "from"=Str.ofString "turn")=False/\(Str.ofString "from"=Str.ofString "num")=False/\(Str.ofString "from"=Str.ofString "name")=False/\(Str.ofString "turn"=Str.ofString "at")=False/\(Str.ofString "turn"=Str.ofString "any")=False/\(Str.ofString "turn"=Str.ofString "from")=False:=⟨FA,Jt,Fz,Cp,Iw,FE⟩
theorem uP:(Str.ofString "turn"=Str.ofString "num")=False/\(Str.ofString "turn"=Str.ofString "name")=False/\(Str.ofString "num"=Str.ofString "at")=False/\(Str.ofString "num"=Str.ofString "any")=False/\(Str.ofString "num"=Str.ofString "from")=False/\(Str.ofString "num"=Str.ofString "turn")=False:=⟨IE,Gm,NS,Md,Jw,IZ⟩
theorem uT:(Str.ofString "num"=Str.ofString "name")=False/\(Str.ofString "name"=Str.ofString "at")=False/\(Str.ofString "name"=Str.ofString "any")=False/\(Str.ofString "name"=Str.ofString "from")=False/\(Str.ofString "name"=Str.ofString "turn")=False/\(Str.ofString "name"=Str.ofString "num")=False:=⟨HP,Lu,JN,FJ,Gi,Je⟩
theorem uL:(∀ o:Op,(o.word=Str.ofString "at")=False)/\(∀ o:Op,(o.word=Str.ofString "any")=False)/\(∀ o:Op,(o.word=Str.ofString "from")=False)/\(∀ o:Op,(o.word=Str.ofString "turn")=False)/\(∀ o:Op,(o.word=Str.ofString "num")=False)/\(∀ o:Op,(o.word=Str.ofString "name")=False):=⟨Ky,R7,Na,MG,Q4,M8⟩
theorem t8:(∀ o:Op,(Str.ofString "at"=o.word)=False)/\(∀ o:Op,(Str.ofString "any"=o.word)=False)/\(∀ o:Op,(Str.ofString "from"=o.word)=False)/\(∀ o:Op,(Str.ofString "turn"=o.word)=False)/\(∀ o:Op,(Str.ofString "num"=o.word)=False)/\(∀ o:Op,(Str.ofString "name"=o.word)=False):=⟨Tb,QI,OT,N7,Qi,ME⟩
def Pz:Str:=Str.ofString "abcdefghijklmnopqrstuvwxyz"
theorem len_app (x y:Str):(x++y).length=x.length + y.length:=by
 show (x.cps++y.cps).size=x.cps.size + y.cps.size
 simp
def v9:cH:=fun us M Q=>∃ (z:Str) (r:List U) (b:Bool),us=[.tup (.str z :: r)]/\(bX cO z).isSome=b/\r.length<=1000/\Q (.tup (if b then r else [])) M
local macro_rules | `(tactic| dsimp? only [$xs,*] $[$l]?) => `(tactic| dsimp! only [$xs,*, nV, hName, sG, kR, nU, o6, bJ, nO, zI, mD, u6, GA, bL, bI, zA, tV, DE] $[$l]?)
theorem FL (F:cE K "parts_of" "parts_of" lN f fd) (hm:mg "parts_of"=some (.ref f)) (oG:oX P w K d cO) (oM:mg "SIGNS"=some (.ref d)):Callee P w K mg base 1 "parts_of" v9 []:=by
 refine cD F hm FX (n9 fun _ _ _ _ _ _ _=>rfl) (aM (aR (VM (bW (Hn oG) (aW (uv 0) aJ) (uO oM)) (lW (own:=false) (uv 0) (eA aJ) B4) (bD aB)))) ?_
 rintro us M Q ⟨z,r,b,rfl,hb,hl,q⟩
 refine ⟨rfl,?_⟩
 dsimp? only [hb]
 cases b with
 | true =>
  dsimp? only [MN]
  exact aL q
 | false =>
  dsimp? only [true_and]
  exact aL q
theorem BR:(bX cO (Str.ofString "turn")).isSome=true:=by decide +kernel
theorem Bv (o:Op):(bX cO o.word).isSome=true:=by cases o <;> decide +kernel
theorem Oj:∀ p:Pt,1<=p.dep
 | .hole _=>Nat.le_refl _
 | .any=>Nat.le_refl _
 | .fr _ _=>Nat.le_refl _
 | .turn a=>by simp only [Pt.dep];omega
 | .two o a b=>by simp only [Pt.dep];omega
def nF:Pt->PyData
 | .hole c=>.tuple [.str "at",.str c]
 | .any=>.tuple [.str "any"]
 | .fr l h=>.tuple [.str "from",.int l,.int h]
 | .turn a=>.tuple [.str "turn",nF a]
 | .two o a b=>.tuple [.str o.word,nF a,nF b]
theorem JD:∀ p:Pt,toD p.toU=some (nF p)
 | .hole c=>by simp [Pt.toU,toD,dR,nF]
 | .any=>by simp [Pt.toU,toD,dR,nF]
 | .fr l h=>by simp [Pt.toU,toD,dR,nF]
 | .turn a=>by simp [Pt.toU,toD,dR,nF,JD a]
 | .two o a b=>by simp [Pt.toU,toD,dR,nF,JD a,JD b]
theorem M9:∀ p:Pt,p.ok->(nF p).canLay0=true
 | .hole c,h=>by
  have h':PyData.strOk c=true:=h
  simp only [nF,PyData.canLay0,PyData.canLayAll0,h'];decide +kernel
 | .any,_=>by decide +kernel
 | .fr l h,_=>by simp only [nF,PyData.canLay0,PyData.canLayAll0];decide +kernel
 | .turn a,h=>by simp only [nF,PyData.canLay0,PyData.canLayAll0,M9 a h];decide +kernel
 | .two o a b,h=>by
  have:PyData.strOk o.word=true:=by cases o <;> decide +kernel
  simp only [nF,PyData.canLay0,PyData.canLayAll0,M9 a h.1,M9 b h.2,this];decide +kernel
def oO:Tr->PyData
 | .num n=>.tuple [.str "num",.int n]
 | .name x=>.tuple [.str "name",.str x]
 | .turn a=>.tuple [.str "turn",oO a]
 | .two o a b=>.tuple [.str o.word,oO a,oO b]
theorem IS:∀ p:Tr,toD p.toU=some (oO p)
 | .num c=>by simp [Tr.toU,toD,dR,oO]
 | .name c=>by simp [Tr.toU,toD,dR,oO]
 | .turn a=>by simp [Tr.toU,toD,dR,oO,IS a]
 | .two o a b=>by simp [Tr.toU,toD,dR,oO,IS a,IS b]
theorem Nr:∀ p:Tr,p.ok->(oO p).canLay0=true
 | .num c,h=>by simp only [oO,PyData.canLay0,PyData.canLayAll0];decide +kernel
 | .name c,h=>by
  have h':PyData.strOk c=true:=h.1
  simp only [oO,PyData.canLay0,PyData.canLayAll0,h'];decide +kernel
 | .turn a,h=>by simp only [oO,PyData.canLay0,PyData.canLayAll0,Nr a h];decide +kernel
 | .two o a b,h=>by
  have:PyData.strOk o.word=true:=by cases o <;> decide +kernel
  simp only [oO,PyData.canLay0,PyData.canLayAll0,Nr a h.1,Nr b h.2,this];decide +kernel
def Xx (p:Pt):U:=.tup [p.toU,.int (p.dep:Nat)]
def B5:List Pt->Nat
 | []=>0
 | p :: r=>p.holes + B5 r
theorem OG:∀ l r:List Pt,B5 (l++r)=B5 l + B5 r
 | [],_=>by simp [B5]
 | t :: l,r=>by simp [B5,OG l r];omega
def XG (n:Int):Op:=if n % 3=0 then .sum else if n % 3=1 then .less else .by_
def fH (p:List Nat):U:=.tup (p.map fun (n:Nat)=>.int (n:Int))
def gK (x:List Nat × Pt):U:=.tup [fH x.1,x.2.toU]
def wH:Pt->List Nat->List (List Nat × Pt)
 | .turn a,pl=>wH a (pl++[0])
 | .two _ a b,pl=>wH a (pl++[0])++wH b (pl++[1])
 | p,pl=>[(pl,p)]
theorem wM:∀ (p:Pt) (pl:List Nat),(wH p pl).map (·.2)=p.ends
 | .turn a,pl=>by simp only [wH,Pt.ends,wM a]
 | .two _ a b,pl=>by simp only [wH,Pt.ends,List.map_append,wM a,wM b]
 | .hole _,pl=>rfl
 | .any,pl=>rfl
 | .fr _ _,pl=>rfl
def JY:Pt->Tr->List U
 | .any,.name x=>[.str x]
 | .fr _ _,.num n=>[.int n]
 | .turn p,.turn a=>JY p a
 | .two _ p q,.two _ a b=>JY p a++JY q b
 | _,_=>[]
theorem U1 {neg:Bool} {i j:Bool} {M:aF} {Q:UK}:kK neg (.bl i) (.bl j) M Q=Q (.bl (if neg then !decide (i=j) else decide (i=j))) M:=rfl
def iH:eC:=fun x y M Q=>match x,y with
 | .bl i,.bl j=>Q (.bl (decide (i=j))) M
 | _,_=>False
def Pt.parts:Pt->List Pt
 | .turn a=>[a]
 | .two _ a b=>[a,b]
 | _=>[]
def cR:Pt->List Nat->List (List Nat × Pt)
 | .turn a,pl=>(pl,.turn a) :: cR a (pl++[0])
 | .two o a b,pl=>(pl,.two o a b) :: (cR a (pl++[0])++cR b (pl++[1]))
 | p,pl=>[(pl,p)]
def Pt.places:Pt->List (List Nat)
 | .turn a=>[] :: a.places.map (0 :: ·)
 | .two _ a b=>[] :: (a.places.map (0 :: ·)++b.places.map (1 :: ·))
 | _=>[[]]
theorem lU:∀ (p:Pt) (pl:List Nat),(cR p pl).map (·.1)=p.places.map (pl++·)
 | .turn a,pl=>by simp [cR,Pt.places,lU a]
 | .two o a b,pl=>by
  simp only [cR,Pt.places,List.map_cons,List.map_append,lU a,lU b,List.map_map,List.append_nil]
  simp [Function.comp_def]
 | .hole _,pl=>by simp [cR,Pt.places]
 | .any,pl=>by simp [cR,Pt.places]
 | .fr _ _,pl=>by simp [cR,Pt.places]
theorem yN:∀ (p:Pt) (pl:List Nat),(cR p pl).filter (fun e=>e.2.leafy)=wH p pl
 | .turn a,pl=>by rw [cR,List.filter_cons_of_neg (by simp [Pt.leafy]),yN a];rfl
 | .two o a b,pl=>by rw [cR,List.filter_cons_of_neg (by simp [Pt.leafy]),List.filter_append,yN a,yN b];rfl
 | .hole _,pl=>rfl
 | .any,pl=>rfl
 | .fr _ _,pl=>rfl
theorem places_len:∀ p:Pt,p.places.length < 2 ^ p.dep
 | .turn a=>by have:=places_len a;simp only [Pt.places,Pt.dep,List.length_cons,List.length_map,Nat.pow_succ];omega
 | .two _ a b=>by
  have h1:=places_len a
  have h2:=places_len b
  have h3:2 ^ a.dep<=2 ^ max a.dep b.dep:=Nat.pow_le_pow_right (by decide) (Nat.le_max_left _ _)
  have h4:2 ^ b.dep<=2 ^ max a.dep b.dep:=Nat.pow_le_pow_right (by decide) (Nat.le_max_right _ _)
  simp only [Pt.places,Pt.dep,Nat.pow_succ,List.length_cons,List.length_append,List.length_map];omega
 | .hole _=>by simp [Pt.places,Pt.dep]
 | .any=>by simp [Pt.places,Pt.dep]
 | .fr _ _=>by simp [Pt.places,Pt.dep]
theorem o8:∀ (p:Pt) (pl:List Nat),pl∈p.places->pl.length < p.dep
 | .turn a,pl,h=>by
  simp only [Pt.places,List.mem_cons,List.mem_map] at h
  rcases h with rfl | ⟨q,hq,rfl⟩
  ·simp [Pt.dep]
  ·have:=o8 a q hq;simp only [Pt.dep,List.length_cons];omega
 | .two o a b,pl,h=>by
  simp only [Pt.places,List.mem_cons,List.mem_append,List.mem_map] at h
  rcases h with rfl | ⟨q,hq,rfl⟩ | ⟨q,hq,rfl⟩
  ·simp [Pt.dep]
  ·have:=o8 a q hq;simp only [Pt.dep,List.length_cons];omega
  ·have:=o8 b q hq;simp only [Pt.dep,List.length_cons];omega
 | .hole _,pl,h=>by simp [Pt.places] at h;subst h;simp [Pt.dep]
 | .any,pl,h=>by simp [Pt.places] at h;subst h;simp [Pt.dep]
 | .fr _ _,pl,h=>by simp [Pt.places] at h;subst h;simp [Pt.dep]
def sJ (n:Nat):cH:=fun us M Q=>∃ p:Pt,us=[p.toU]/\p.dep<=n/\n<=10/\Q (.lst (p.places.map fH)) M
theorem WW:(bX cO (Str.ofString "at")).isSome=false:=by decide +kernel
theorem Pr:(bX cO (Str.ofString "any")).isSome=false:=by decide +kernel
theorem K1:(bX cO (Str.ofString "from")).isSome=false:=by decide +kernel
theorem K3 (p:Pt):∃ z r,p.toU=.tup (.str z :: r)/\(bX cO z).isSome=!p.leafy/\(p.leafy=false->r=p.parts.map Pt.toU)/\r.length<=3:=by
 cases p with
 | hole c=>exact ⟨_,_,rfl,WW,(fun h=>by cases h),by simp⟩
 | any=>exact ⟨_,_,rfl,Pr,(fun h=>by cases h),by simp⟩
 | fr l h=>exact ⟨_,_,rfl,K1,(fun h=>by cases h),by simp⟩
 | turn a=>exact ⟨_,_,rfl,BR,fun _=>rfl,by simp⟩
 | two o a b=>exact ⟨_,_,rfl,Bv o,fun _=>rfl,by simp⟩
theorem Jv {p:Pt} (h:p.leafy=true):p.parts=[]:=by cases p <;> first | rfl | cases h
def fG:Nat->List Pt->List (List Nat)
 | _,[]=>[]
 | k,a :: r=>a.places.map (k :: ·)++fG (k + 1) r
theorem places_eq (p:Pt):p.places=[] :: fG 0 p.parts:=by cases p <;> simp [Pt.places,Pt.parts,fG]
theorem Im (l:List Pt) (a:Pt):∀ k,fG k (l++[a])=fG k l++a.places.map ((k + l.length) :: ·):=by
 induction l with
 | nil=>intro k;simp [fG]
 | cons b l ih=>intro k;simp only [List.cons_append,fG,ih,List.length_cons,List.append_assoc];rw [show k + 1 + l.length=k + (l.length + 1) by omega]
theorem OP (p:Pt) (i:Nat):(fG 0 (p.parts.take i)).length + 1<=p.places.length:=by
 have:∀ (l:List Pt) (k j:Nat),(fG k (l.take j)).length<=(fG k l).length:=by
  intro l
  induction l with
  | nil=>intro k j;simp [fG]
  | cons a l ih =>
   intro k j
   cases j with
   | zero=>simp [fG]
   | succ j=>simp only [List.take_succ_cons,fG,List.length_append];have:=ih (k + 1) j;omega
 have h1:=this p.parts 0 i
 rw [places_eq p,List.length_cons]
 omega
theorem MJ {p a:Pt} {i:Nat} (h:p.parts[i]?=some a):a.dep < p.dep:=by
 have hm:=List.mem_of_getElem? h
 cases p with
 | turn b =>
  have:a=b:=by simpa [Pt.parts] using hm
  subst this;simp only [Pt.dep];omega
 | two o b c =>
  have:a=b\/a=c:=by simpa [Pt.parts] using hm
  simp only [Pt.dep]
  rcases this with rfl | rfl <;> omega
 | _=>cases hm
def j4:U->Nat->Option U
 | .tup (.str z :: r),k=>if (bX cO z).isSome then (if r.length<=1000 then r[k]? else none) else none
 | _,_=>none
def qJ:U->List Nat->Option U
 | u,[]=>some u
 | u,k :: pl=>(j4 u k).bind fun v=>qJ v pl
theorem Ny {h w:U} {k:Nat} (e:j4 h k=some w):∃ z r,h=.tup (.str z :: r)/\(bX cO z).isSome=true/\r.length<=1000/\r[k]?=some w:=by
 match h,e with
 | .tup (.str z :: r),e =>
  simp only [j4] at e
  split at e
  ·rename_i h1
   split at e
   ·rename_i h2
    exact ⟨z,r,rfl,h1,h2,e⟩
   ·cases e
  ·cases e
 | .tup [],e=>cases e
 | .tup (.non :: _),e=>cases e
 | .tup (.bl _ :: _),e=>cases e
 | .tup (.int _ :: _),e=>cases e
 | .tup (.ty _ :: _),e=>cases e
 | .tup (.ref _ :: _),e=>cases e
 | .tup (.tup _ :: _),e=>cases e
 | .tup (.lst _ :: _),e=>cases e
 | .non,e=>cases e
 | .bl _,e=>cases e
 | .int _,e=>cases e
 | .str _,e=>cases e
 | .ty _,e=>cases e
 | .ref _,e=>cases e
 | .lst _,e=>cases e
theorem E3:∀ (l:List Nat) (u:U) (k:Nat),qJ u (l++[k])=(qJ u l).bind fun v=>j4 v k
 | [],u,k=>by simp only [List.nil_append,qJ,Option.bind_some];cases j4 u k <;> rfl
 | j :: l,u,k=>by
  simp only [List.cons_append,qJ]
  cases j4 u j with
  | none=>rfl
  | some v=>exact E3 l v k
theorem Fe:∀ (l r:List Nat) (u:U),qJ u l=none->qJ u (l++r)=none
 | [],r,u,z=>by cases z
 | j :: l,r,u,z=>by
  simp only [List.cons_append,qJ] at z ⊢
  cases hj:j4 u j with
  | none=>rfl
  | some v=>rw [hj] at z;exact Fe l r v z
def PN:cH:=fun us M Q=>∃ (u v:U) (pl:List Nat),us=[u,fH pl]/\qJ u pl=some v/\Q v M
theorem Sa (a:U):j4 (.tup [.str (Str.ofString "turn"),a]) 0=some a:=by
 simp only [j4];rw [if_pos BR,if_pos (by simp)];rfl
theorem R4 (o:Op) (a b:U):j4 (.tup [.str o.word,a,b]) 0=some a:=by
 simp only [j4];rw [if_pos (Bv o),if_pos (by simp)];rfl
theorem Qn (o:Op) (a b:U):j4 (.tup [.str o.word,a,b]) 1=some b:=by
 simp only [j4];rw [if_pos (Bv o),if_pos (by simp)];rfl
theorem zK:∀ (p:Pt) (pre:List Nat) (e:List Nat × Pt),e∈cR p pre->∃ s,e.1=pre++s/\qJ p.toU s=some e.2.toU
 | .turn a,pre,e,h=>by
  simp only [cR] at h
  rcases List.mem_cons.mp h with rfl | h
  ·exact ⟨[],by simp,rfl⟩
  ·obtain ⟨s,h1,h2⟩:=zK a _ e h
   refine ⟨0 :: s,by rw [h1];simp,?_⟩
   simp only [qJ,Pt.toU,Sa,Option.bind_some,h2]
 | .two o a b,pre,e,h=>by
  simp only [cR] at h
  rcases List.mem_cons.mp h with rfl | h
  ·exact ⟨[],by simp,rfl⟩
  ·rcases List.mem_append.mp h with h | h
   ·obtain ⟨s,h1,h2⟩:=zK a _ e h
    refine ⟨0 :: s,by rw [h1];simp,?_⟩
    simp only [qJ,Pt.toU,R4,Option.bind_some,h2]
   ·obtain ⟨s,h1,h2⟩:=zK b _ e h
    refine ⟨1 :: s,by rw [h1];simp,?_⟩
    simp only [qJ,Pt.toU,Qn,Option.bind_some,h2]
 | .hole _,pre,e,h=>by cases List.mem_singleton.mp h;exact ⟨[],by simp,rfl⟩
 | .any,pre,e,h=>by cases List.mem_singleton.mp h;exact ⟨[],by simp,rfl⟩
 | .fr _ _,pre,e,h=>by cases List.mem_singleton.mp h;exact ⟨[],by simp,rfl⟩
def A2 (e:List Nat × Pt):Bool:=decide (e.2.holes=0)
def fU:U->Option U
 | .tup [a,.tup (.str z :: r)]=>if (!decide (z=Str.ofString "at")) && !(bX cO z).isSome then some (.tup [a,.tup (.str z :: r)]) else none
 | _=>none
theorem Xk (e:List Nat × Pt):fU (gK e)=if e.2.leafy && A2 e then some (gK e) else none:=by
 obtain ⟨pl,q⟩:=e
 have e1:decide (Str.ofString "at"=Str.ofString "at")=true:=by simp
 cases q with
 | hole c=>simp only [gK,Pt.toU,fU,e1,Pt.leafy,A2,Pt.holes];rfl
 | any=>simp only [gK,Pt.toU,fU,uF,uA,tZ,uP,uT,uL,t8,Pr,Pt.leafy,A2,Pt.holes];rfl
 | fr l h=>simp only [gK,Pt.toU,fU,uF,uA,tZ,uP,uT,uL,t8,K1,Pt.leafy,A2,Pt.holes];rfl
 | turn a=>simp only [gK,Pt.toU,fU,uF,uA,tZ,uP,uT,uL,t8,BR,Pt.leafy];rfl
 | two o a b=>simp only [gK,Pt.toU,fU,uF,uA,tZ,uP,uT,uL,t8,Bv,Pt.leafy];rfl
def rY (l:List Nat):Str:=⟨l.toArray⟩
theorem zX (a b:List Nat):rY a++rY b=rY (a++b):=by
 show (⟨a.toArray++b.toArray⟩:Str)=⟨(a++b).toArray⟩
 simp
theorem zF (c:Nat):(⟨#[c]⟩:Str)=rY [c]:=rfl
theorem uU (l:List Nat):(rY l).length=l.length:=by show l.toArray.size=_;simp
theorem GG {a b:List Nat} (h:rY a=rY b):a=b:=by
 have h1:a.toArray=b.toArray:=congrArg Str.cps h
 simpa using h1
theorem Cz:Str.ofString ""=rY []:=by decide +kernel
theorem Uw (a:List Nat):decide (rY a=Str.ofString "")=a.isEmpty:=by
 rw [Cz]
 cases a with
 | nil=>simp
 | cons c r=>exact decide_eq_false fun h=>by cases GG h
def mM (m:Int):Nat:=97 + (m % 26).toNat
theorem Hc (m:Int):iT Pz.cps.toList (m % 26)=some (mM m):=by
 have e:Pz.cps.toList=(List.range 26).map (97 + ·):=by decide +kernel
 have h0:=Int.emod_nonneg m (show (26:Int)≠0 by decide)
 have h1:=Int.emod_lt_of_pos m (show (0:Int) < 26 by decide)
 have q:=jQ (xs:=Pz.cps.toList) (j:=(m % 26).toNat) (v:=mM m) (by
  rw [e,List.getElem?_map,List.getElem?_range (by omega)];rfl)
 rw [Int.toNat_of_nonneg h0] at q
 exact q
def kO:Nat->Int->List Nat
 | 0,_=>[]
 | k + 1,n=>if 0 < n then mM (n - 1) :: kO k ((n - 1) / 26) else []
def sU (n:Int):List Nat:=mM n :: kO 7 (n / 26)
def j0 (n:Int):Str:=rY (sU n)
theorem Cy:∀ (k:Nat) (n:Int),(kO k n).length<=k
 | 0,_=>by simp [kO]
 | k + 1,n=>by
  have:=Cy k ((n - 1) / 26)
  simp only [kO]
  split
  ·simp only [List.length_cons];omega
  ·simp
theorem GQ (m:Int):97<=mM m/\mM m<=122:=by
 have h0:=Int.emod_nonneg m (show (26:Int)≠0 by decide)
 have h1:=Int.emod_lt_of_pos m (show (0:Int) < 26 by decide)
 unfold mM;omega
theorem Cw:∀ (k:Nat) (n:Int),∀ c∈kO k n,97<=c/\c<=122
 | 0,_,c,h=>by cases h
 | k + 1,n,c,h=>by
  simp only [kO] at h
  split at h
  ·rcases List.mem_cons.mp h with rfl | h
   ·exact GQ _
   ·exact Cw k _ c h
  ·cases h
theorem Ck (n:Int):∀ c∈sU n,97<=c/\c<=122:=fun c h=>by
 rcases List.mem_cons.mp h with rfl | h
 ·exact GQ _
 ·exact Cw _ _ c h
theorem mP (n:Int):1<=(j0 n).length/\(j0 n).length<=8:=by
 have:=Cy 7 (n / 26)
 rw [j0,uU,sU,List.length_cons];omega
theorem vE (n:Int):PyData.strOk (j0 n)=true:=by
 unfold PyData.strOk j0 rY
 rw [<- Array.all_toList,List.all_eq_true]
 intro c hc
 have:=Ck n c (by simpa using hc)
 simp;omega
def DQ:cH:=fun us M Q=>∃ n:Int,us=[.int n]/\Q (.str (j0 n)) M
theorem Jn (F:cE K "_law_name_of" "_law_name_of" iK f fd) (hm:mg "_law_name_of"=some (.ref f)) (bH:mg "len"=none):Callee P w K mg base 1 "_law_name_of" DQ []:=by
 refine cD F hm jO (n9 fun _ _ _ _ _ _ _=>rfl) (aH (aT 1 jO.nd b8)
 (aH (vR (jU.pt (yM (bW sN (cJ eP bH (aA (uv 1) aB)) aJ) (zB (jU.pt (jH (bW cI (uv 1) b8) (iY (bW DV (uv 0) aJ)))))))
 (aH (cA (bW tG (uv 1) b8)
 (aM (aT 0 jO.nd (nS (uv 0) aJ)))
 bA)
 (aH (aT 1 jO.nd (aQ (own:=false) (uv 1) (aW b8 (cM (uv 0) aJ))))
 (aM (aT 0 jO.nd (kG (uv 0) aJ))))))
 (aM (aR (uv 1))))) ?_
 rintro us M Q ⟨n,rfl,q⟩
 refine ⟨rfl,?_⟩
 have hL2:Pz.length<=sizeLine:=by decide +kernel
 have sm:∀ A:List Nat,A.length < 8->(rY A).length + (⟨#[0]⟩:Str).length<=sizeLine:=fun A h=>small (by rw [uU];show A.length + 1<=_;omega)
 dsimp? only [iH]
 refine mJ (fun τ Mi=>∃ (A:List Nat) (m:Int),τ=[some (.int m),some (.str (rY A))]/\Mi=M/\A.length<=8/\(A=[]->m=n)/\(A≠[]->A++kO (8 - A.length) m=sU n))
  (fun τ _=>match τ with | [_,some (.str z)]=>8 - z.length | _=>0) ⟨[],n,by rw [Cz],rfl,by decide,fun _=>rfl,fun z=>absurd rfl z⟩ ?_
 rintro τ Mi ⟨A,m,rfl,rfl,hA,h1,h2⟩
 have fin:A≠[]->(A.length=8\/¬ 0 < m)->iG Q (.str (rY A)) Mi:=fun hne hh=>by
  have:=h2 hne
  have e:kO (8 - A.length) m=[]:=by
   rcases hh with hh | hh
   ·rw [hh];rfl
   ·cases hk:8 - A.length with
    | zero=>rfl
    | succ k=>show (if 0 < m then _ else _)=_;rw [if_neg hh]
  rw [e,List.append_nil] at this
  rw [this]
  exact aL q
 dsimp? only [uU,Uw,iH]
 cases A with
 | nil =>
  have hm':=h1 rfl
  subst hm'
  dsimp? only [List.isEmpty_nil,iH]
  refine ⟨by decide,hL2,_,Hc m,sm [] (by decide),⟨by decide,by decide⟩,⟨[mM m],m / 26,by rw [zF,zX];rfl,by simp,(fun z=>by cases z),fun _=>rfl⟩,?_⟩
  simp [uU,zF,zX]
 | cons c r =>
  dsimp? only [List.isEmpty_cons,iH]
  have e1:=h2 (by simp)
  refine ⟨small (by simp only [List.length_cons] at hA;omega),?_⟩
  refine qB (fun g1=>qB (fun g2=>?_) (fun g2=>?_)) (fun g1=>?_)
  ·have g1':=of_decide_eq_true g1
   have g2':=of_decide_eq_true g2
   have hlt:(c :: r).length < 8:=by simp only [List.length_cons];omega
   refine ⟨by decide,hL2,_,Hc (m - 1),sm (c :: r) hlt,⟨by decide,by decide⟩,⟨c :: r++[mM (m - 1)],(m - 1) / 26,by rw [zF,zX],by simp only [List.length_append,List.length_cons,List.length_nil] at hlt ⊢;omega,(fun z=>by simp at z),fun _=>?_⟩,?_⟩
   ·rw [<- e1]
    have e2:8 - (c :: r).length=(8 - (c :: r++[mM (m - 1)]).length) + 1:=by simp only [List.length_append,List.length_cons,List.length_nil] at hlt ⊢;omega
    rw [e2]
    have e3:kO (8 - (c :: r++[mM (m - 1)]).length + 1) m=mM (m - 1) :: kO (8 - (c :: r++[mM (m - 1)]).length) ((m - 1) / 26):=by
     show (if 0 < m then _ else _)=_
     rw [if_pos (by omega)]
    rw [e3]
    simp
   ·rw [zF,zX]
    simp only [uU,List.length_append,List.length_cons,List.length_nil] at hlt ⊢;omega
  ·exact fin (by simp) (.inr fun z=>g2 (decide_eq_true (by omega)))
  ·refine fin (by simp) (.inl ?_)
   have:¬ (((c :: r).length:Nat):Int) < 8:=fun z=>g1 (decide_eq_true (by simpa using z))
   omega
def Wu (cs:List Str):Prop:=cs≠[]/\cs.length<=6/\(∀ c∈cs,PyData.strOk c=true/\c.length<=8)
theorem JT {c:Nat} (h1:97<=c) (h2:c<=122):isLetter c=true:=by
 have:∀ k:Fin 26,isLetter (97 + k.val)=true:=by decide +kernel
 have:=this ⟨c - 97,by omega⟩
 rwa [show 97 + (c - 97)=c by omega] at this
theorem v7 (n:Int):isName (.str (j0 n))=true:=by
 have h:=mP n
 simp only [isName,Bool.and_eq_true,decide_eq_true_eq]
 refine ⟨⟨h.1,h.2⟩,List.all_eq_true.mpr fun c hc=>?_⟩
 have hc':c∈sU n:=by simpa [j0,rY] using hc
 obtain ⟨a,b⟩:=Ck n c hc'
 exact JT a b
structure qE (cs:List Str):Prop where
 ok:Wu cs
 nd:cs.Nodup
 nm:∀ c∈cs,isName (.str c)=true
def Pt.size:Pt->Nat
 | .turn a=>a.size + 1
 | .two _ a b=>a.size + b.size + 1
 | _=>1
def Op.mid:Op->Str
 | .sum=>" + " | .less=>" - " | .by_=>" * "
def Pt.text:Pt->Str
 | .hole c=>Str.ofString "@"++c
 | .any=>"?"
 | .fr l h=>Str.ofString (toString l)++Str.ofString ".."++Str.ofString (toString h)
 | .turn a=>Str.ofString "(- "++a.text++Str.ofString ")"
 | .two o a b=>Str.ofString "("++a.text++o.mid++b.text++Str.ofString ")"
def Pt.sm (cs:List Str):Pt->Prop
 | .hole c=>c.length<=8/\c∈cs
 | .any=>True
 | .fr _ h=>h<=10 ^ 18
 | .turn a=>a.sm cs
 | .two _ a b=>a.sm cs/\b.sm cs
theorem zL {n:Int} (h0:0<=n) (h1:n<=10 ^ 18):(Str.ofString (toString n)).length<=20:=by
 have h2:n.natAbs < 10 ^ 19:=by
  have:(10:Nat) ^ 19=10000000000000000000:=by decide
  rw [this];omega
 have h:=PySem.int_text_length_le10 (a:=n) (k:=19) (by decide) h2
 rw [PySem.ofString_length];exact h
theorem OV:(Str.ofString "@").length=1:=by decide +kernel
theorem Xf:(Str.ofString "?").length=1:=by decide +kernel
theorem yJ:(Str.ofString "..").length=2:=by decide +kernel
theorem EF:(Str.ofString "(- ").length=3:=by decide +kernel
theorem vC:(Str.ofString "(").length=1:=by decide +kernel
theorem E4:(Str.ofString ")").length=1:=by decide +kernel
theorem V0 (o:Op):o.mid.length=3:=by cases o <;> decide +kernel
theorem text_len {cs:List Str}:∀ {p:Pt},p.ok->p.sm cs->p.text.length<=50 * p.size
 | .hole c,h,k=>by
  have k':c.length<=8:=k.1
  simp only [Pt.text,Pt.size,len_app,OV];omega
 | .any,h,k=>by simp only [Pt.text,Pt.size];rw [Xf];omega
 | .fr l u,h,k=>by
  have h1:0<=l:=h.1
  have h2:l<=u:=h.2
  have h3:u<=10 ^ 18:=k
  have:=zL h1 (by omega)
  have:=zL (show 0<=u by omega) h3
  simp only [Pt.text,Pt.size,len_app,yJ];omega
 | .turn a,h,k=>by
  have:=text_len (p:=a) h k
  simp only [Pt.text,Pt.size,len_app,EF,E4];omega
 | .two o a b,h,k=>by
  have h1:=text_len h.1 k.1
  have h2:=text_len h.2 k.2
  simp only [Pt.text,Pt.size,len_app,vC,E4,V0];omega
def Xs (p:Pt):U:=.tup [p.toU,.int (p.size:Nat),.int (p.dep:Nat),.int (p.holes:Nat),.str p.text]
structure PD (cs:List Str) (p:Pt):Prop where
 ok:p.ok
 sm:p.sm cs
 dep:p.dep<=5
 hol:p.holes<=4
 siz:p.size<=9
theorem PD.len {cs:List Str} {p:Pt} (h:PD cs p):p.text.length<=450:=by have:=text_len h.ok h.sm;have:=h.siz;omega
def Xn (p:Addr) (M:aF):Nat:=match M p with
 | some (.lst us)=>us.length
 | _=>0
theorem Lh (a b c:Str):a++b++c=a++(b++c):=by
 show (⟨(a.cps++b.cps)++c.cps⟩:Str)=⟨a.cps++(b.cps++c.cps)⟩
 rw [Array.append_assoc]
theorem join_eq (z:Str) (l:List Str):Txt.join z l=Str.join z l:=StrLaws.glued_eq_join z l
theorem Wf (z a b c d:Str):Txt.join z [a,b,c,d]=a++z++b++z++c++z++d:=by
 rw [join_eq]
 simp only [Str.join,Lh]
theorem KY (B:Nat):∀ l:List Str,(∀ s∈l,s.length<=B)->(l.map (·.length)).sum<=B * l.length
 | [],_=>by simp
 | a :: r,h=>by
  have h1:=h a List.mem_cons_self
  have h2:=KY B r fun s hs=>h s (List.mem_cons_of_mem _ hs)
  simp only [List.map_cons,List.sum_cons,List.length_cons,Nat.mul_succ];omega
theorem rA {B n:Nat} {z:Str} {l:List Str} (hz:z.length<=1) (h:∀ s∈l,s.length<=B) (hl:l.length<=n) (hB:B * n + n<=100000):(l.map (·.length)).sum + l.length * z.length<=16777216/\(Txt.join z l).length<=B * n + n:=by
 have h1:=KY B l h
 have h2:B * l.length<=B * n:=Nat.mul_le_mul_left _ hl
 have h3:l.length * z.length<=l.length * 1:=Nat.mul_le_mul_left _ hz
 have h4:=StrLaws.join_length_le z l
 rw [join_eq]
 omega
theorem tJ (l:List Str):sW (l.map U.str)=some l:=by
 induction l with
 | nil=>rfl
 | cons a r ih=>simp only [List.map_cons,sW,ih];rfl
structure Tl where
 name:Str
 cls:Str
 pt:Pt
 cost:Int
def Tl.toU (t:Tl):U:=.tup [.str t.name,.str t.cls,t.pt.toU,.int t.cost]
def Tl.row (t:Tl):Str:=t.name++Str.ofString " "++t.cls++Str.ofString " "++Str.ofString (toString t.cost)++Str.ofString " "++t.pt.text
structure Tl.ok (cs:List Str) (t:Tl):Prop where
 nm:t.name.length<=8
 cl:t.cls.length<=8
 pt:PD cs t.pt
 c0:0<=t.cost
 c1:t.cost<=1000
 nn:isName (.str t.name)=true
 ci:t.cls∈cs
 np:t.pt≠.hole t.cls
 no:PyData.strOk t.name=true
theorem nQ:(Str.ofString " ").length=1:=by decide +kernel
theorem OO (t:Tl):Txt.join (Str.ofString " ") [t.name,t.cls,Str.ofString (toString t.cost),t.pt.text]=t.row:=Wf _ _ _ _ _
theorem N8:(Str.ofString "\n").length=1:=by decide +kernel
def linesOf (cs:List Str) (tl:List Tl):List Str:=Txt.join (Str.ofString " ") cs :: tl.map Tl.row
theorem zM {M:aF} {t:Tl}:view M t.toU=.tup [.str t.name,.str t.cls,t.pt.toU,.int t.cost]:=rfl
theorem EU {n:Nat} (F:cE K "places_of" "places_of" i9 f fd) (hm:mg "places_of"=some (.ref f)) (fD:mg "enumerate"=none)
  (lO:Callee P w K mg base 1 "parts_of" v9 []) (tM:Callee P w K mg base (n + 1) "places_of" (sJ n) []):Callee P w K mg base (n + 2) "places_of" (sJ (n + 1)) []:=by
 refine cD F hm nE (n9 fun _ _ _ _ _ _ _=>rfl) (aH (aT 1 nE.nd (pG (own:=true) (aA (bD aB) aB)))
 (aH (yU (Er fD (aA (bF lO (aA (uv 0) aB)) aB)) (yX (n:=2) (hX (cN (k:=1000) 2 nE.nd) (hX (cN (k:=1000) 3 nE.nd) uE)))
 (aM (qY (CA (uv 1) (aA (mX false ["place","number"] 1 [2] (nJ (bF tM (aA (uv 3) aB))) (cN (k:=1) 0 (by dsimp only [cP];decide +kernel)) m8 (aQ (own:=false) (bD (aA (uv 1) aB)) (uv 0))) aB)))))
 (aM (aR (uv 1))))) ?_
 rintro us M Q ⟨t,rfl,hd,hz,q⟩
 refine ⟨rfl,?_⟩
 have hbig:∀ a:Pt,a.dep<=10->a.places.length<=1024:=fun a ha=>by
  have h1:=places_len a
  have h2:2 ^ a.dep<=2 ^ 10:=Nat.pow_le_pow_right (by decide) ha
  omega
 dsimp? only [aG,aK,aE,iF,iH]
 refine fun p hp=>?_
 refine t9 (S:=⟨none,numbered (t.parts.map Pt.toU)⟩) (M1:=mup M p (.lst [.tup []])) (fun R r=>?_)
  (fun i τ Mi=>∃ b c,τ=[some t.toU,some (.ref p),b,c]/\Mi=mup M p (.lst (([] :: fG 0 (t.parts.take i)).map fH))) ⟨none,none,rfl,rfl⟩ nk ?_ ?_
 ·obtain ⟨z,rr,e,e1,e2,e3⟩:=K3 t
  refine ⟨z,rr,!t.leafy,by rw [<- e];rfl,e1,by omega,?_⟩
  cases hl:t.leafy with
  | true=>simp only [hl,Bool.not_true,Bool.false_eq_true,if_false];rw [Jv hl] at r;exact r
  | false=>simp only [hl,Bool.not_false,if_true];rw [e2 hl];exact r
 ·rintro i x τ Mi e ⟨b,c,rfl,rfl⟩
  obtain ⟨u,hu,rfl⟩:=yD e
  rw [List.getElem?_map] at hu
  cases hp':t.parts[i]? with
  | none=>rw [hp'] at hu;cases hu
  | some a =>
   rw [hp'] at hu
   cases hu
   have ha:=MJ hp'
   have hin:fG 0 (t.parts.take (i + 1))=fG 0 (t.parts.take i)++a.places.map (i :: ·):=by
    have hlt:=(List.getElem?_eq_some_iff.mp hp').1
    rw [List.take_add_one,hp']
    have:=Im (t.parts.take i) a 0
    rw [List.length_take,Nat.min_eq_left (Nat.le_of_lt hlt),Nat.zero_add] at this
    exact this
   have hb1:=hbig a (by omega)
   dsimp? only [aG,aK,aE,iF,iH]
   refine ⟨mV,iW (S:=⟨none,a.places.map fH⟩) (M1:=mup M p (MO.lst (fH [] :: List.map fH (fG 0 (List.take i t.parts))))) (a.places.map fun pl=>fH (i :: pl)) (fun R r'=>⟨a,rfl,by omega,by omega,r'⟩) (by simp) ?_ (fun a e=>by cases e) ?_ ?_⟩
   ·show (a.places.map fH).length<=sizeLine
    rw [List.length_map]
    exact small (by omega)
   ·intro j x y hx hy M' _ R r'
    have hx':(a.places.map fH)[j]?=some x:=hx
    rw [List.getElem?_map] at hx' hy
    cases hpl:a.places[j]? with
    | none=>rw [hpl] at hx';cases hx'
    | some pl =>
     rw [hpl] at hx' hy
     cases hx'
     cases hy
     have h1:=o8 a pl (List.mem_of_getElem? hpl)
     dsimp? only [fH,aG,aK,aE,iF,iH]
     refine ⟨small ?_,?_⟩
     ·simp only [List.length_cons,List.length_nil,List.length_map];omega
     ·simpa [fH] using r'
   ·have h1:=OP t i
    have h2:=hbig t (by omega)
    dsimp? only [aG,aK,aE,iF,iH]
    refine ⟨small ?_,_,_,rfl,?_⟩
    ·simp only [List.length_map];omega
    ·rw [hin,List.map_append,List.map_map];rfl
 ·rintro τ Mi ⟨b,c,rfl,rfl⟩
  rw [yE,List.length_map,List.take_length,<- places_eq]
  dsimp? only [aG,aK,aE,iF,iH]
  exact ⟨_,M,(Sub.refl M).mup hp,.inr ⟨p,_,rfl,bO,hp,rfl⟩,q⟩
theorem BC (F:cE K "places_of" "places_of" i9 f fd) (hm:mg "places_of"=some (.ref f)) (fD:mg "enumerate"=none) (lO:Callee P w K mg base 1 "parts_of" v9 []):∀ n,Callee P w K mg base (n + 1) "places_of" (sJ n) []
 | 0=>by
  have no:∀ us M Q,¬ sJ 0 us M Q:=fun us M Q h=>by
   obtain ⟨p,_,h,_⟩:=h
   have:=Oj p
   omega
  refine ⟨f,fd,["shape"],[],[],⟨fun vs H Q E h=>?_,fun A outer s H args us vs Q E _ _ _ _ h=>?_⟩,hm,F.kp,F.binds (n9 fun _ _ _ _ _ _ _=>rfl),.nil,fun H M=>.nil⟩
  ·obtain ⟨us,M,Q',_,_,h,_⟩:=h;exact absurd h (no us M Q')
  ·obtain ⟨us,M,Q',_,_,h,_⟩:=h;exact absurd h (no us M Q')
 | n + 1=>EU F hm fD lO (BC F hm fD lO n)
theorem FQ (F:cE K "shape_at" "shape_at" lE f fd) (hm:mg "shape_at"=some (.ref f)) (lO:Callee P w K mg base 1 "parts_of" v9 []):Callee P w K mg base 2 "shape_at" PN []:=by
 refine cD F hm pB (n8 fun _ _ _ _ _ _ _ _=>rfl) (aH (aT 2 pB.nd (uv 0))
 (aH (yU (nJ (uv 1)) (cN (k:=1000) 3 pB.nd)
 (aM (aT 2 pB.nd (aW (bF lO (aA (uv 2) aB)) (uv 3)))))
 (aM (aR (uv 2))))) ?_
 rintro us M Q ⟨u,v,pl,rfl,hpl,q⟩
 refine ⟨rfl,?_⟩
 dsimp? only [aG,aK,aE,iF,iH]
 refine t9 (S:=⟨none,pl.map fun (n:Nat)=>U.int (n:Int)⟩) (M1:=M) (fun R r=>r)
  (fun i τ Mi=>∃ (h:U) (c:Option U),τ=[some u,some (fH pl),some h,c]/\Mi=M/\qJ u (pl.take i)=some h) ⟨u,none,rfl,rfl,rfl⟩ nk ?_ ?_
 ·rintro i x τ Mi e ⟨h,c,rfl,rfl,hh⟩
  have e':(pl.map fun (n:Nat)=>U.int (n:Int))[i]?=some x:=e
  rw [List.getElem?_map] at e'
  cases hk:pl[i]? with
  | none=>rw [hk] at e';cases e'
  | some k =>
   rw [hk] at e'
   cases e'
   have hnx:qJ u (pl.take (i + 1))=j4 h k:=by
    rw [List.take_add_one,hk]
    show qJ u (pl.take i++[k])=_
    rw [E3,hh];rfl
   cases hs:j4 h k with
   | none =>
    rw [hs] at hnx
    have:=Fe (pl.take (i + 1)) (pl.drop (i + 1)) u hnx
    rw [List.take_append_drop,hpl] at this
    cases this
   | some w' =>
    rw [hs] at hnx
    obtain ⟨z,r,rfl,hz,hr,hs'⟩:=Ny hs
    dsimp? only [aG,aK,aE,iF,iH]
    refine ⟨z,r,true,rfl,hz,hr,?_⟩
    dsimp? only [aG,aK,aE,iF,iH]
    exact ⟨w',jQ hs',w',_,rfl,hnx⟩
 ·rintro τ Mi ⟨h,c,rfl,rfl,hh⟩
  simp only [List.length_map,List.take_length] at hh
  rw [hpl] at hh
  cases hh
  dsimp? only [aG,aK,aE,iF,iH]
  exact aL q
def hF (e:List Nat × Pt):Option (List Nat × Str):=match e.2 with
 | .hole c=>some (e.1,c)
 | _=>none
def tP (e:List Nat × Str):U:=.tup [fH e.1,.str e.2]
def T5 (p:Pt):List (List Nat × Str):=(cR p []).filterMap hF
def hU:U->Option U
 | .tup [a,.tup (.str z :: r)]=>if decide (z=Str.ofString "at") then (r.head?).map fun c=>.tup [a,c] else none
 | _=>none
theorem Lg (e:List Nat × Pt):hU (gK e)=(hF e).map tP:=by
 obtain ⟨pl,q⟩:=e
 have e1:decide (Str.ofString "at"=Str.ofString "at")=true:=by simp
 cases q with
 | hole c=>simp only [gK,Pt.toU,hU,e1,hF,tP];rfl
 | any=>simp only [gK,Pt.toU,hU,uF,uA,tZ,uP,uT,uL,t8,hF];rfl
 | fr l h=>simp only [gK,Pt.toU,hU,uF,uA,tZ,uP,uT,uL,t8,hF];rfl
 | turn a=>simp only [gK,Pt.toU,hU,uF,uA,tZ,uP,uT,uL,t8,hF];rfl
 | two o a b=>simp only [gK,Pt.toU,hU,uF,uA,tZ,uP,uT,uL,t8,hF];rfl
theorem TB (l:List (List Nat × Pt)):(l.map gK).filterMap hU=(l.filterMap hF).map tP:=by
 induction l with
 | nil=>rfl
 | cons e l ih =>
  rw [List.map_cons,List.filterMap_cons,List.filterMap_cons,Lg,ih]
  cases hF e <;> rfl
def Hf:cH:=fun us M Q=>∃ p:Pt,us=[p.toU]/\p.dep<=6/\Q (.lst ((T5 p).map tP)) M
theorem Nj (F:cE K "holes" "holes" qZ f fd) (hm:mg "holes"=some (.ref f)) (tM:Callee P w K mg base 7 "places_of" (sJ 6) []) (Hz:Callee P w K mg base 2 "shape_at" PN []):Callee P w K mg base 8 "holes" Hf []:=by
 refine cD F hm Em (n9 fun _ _ _ _ _ _ _=>rfl) (aH (RU 1 Em.nd false ["place","pattern"] 1 [0] (nJ (bF tM (aA (uv 0) aB))) (cN (k:=1) 0 (by dsimp only [cP];decide +kernel)) m8 (bD (aA (uv 0) (aA (bF Hz (aA (uv 1) (aA (uv 0) aB))) aB))))
 (aM (aR (mX false ["place","piece"] 2 [] (nJ (uv 1)) (yX (n:=2) (hX (cN (k:=2) 0 (by dsimp only [cP];decide +kernel)) (hX (cN (k:=2) 1 (by dsimp only [cP];decide +kernel)) uE))) (QL (bW cI (aW (uv 1) aJ) b8)) (bD (aA (uv 0) (aA (aW (uv 1) aJ) aB))))))) ?_
 rintro us M Q ⟨p,rfl,hd,q⟩
 refine ⟨rfl,?_⟩
 have hsp:(cR p []).map (·.1)=p.places:=by rw [lU];simp
 have hpl:p.places.length<=64:=by
  have h1:=places_len p
  have h2:2 ^ p.dep<=2 ^ 6:=Nat.pow_le_pow_right (by decide) hd
  omega
 have hsl:(cR p []).length=p.places.length:=by rw [<- hsp,List.length_map]
 dsimp? only [aG,aK,aE,iF,iH]
 refine iW (S:=⟨none,p.places.map fH⟩) (M1:=M) ((cR p []).map gK) (fun R r=>⟨p,rfl,hd,by decide,r⟩) (by simp [hsl]) (small (by show (p.places.map fH).length<=_;rw [List.length_map];omega)) (fun a e=>by cases e) ?_ ?_
 ·intro j x y hx hy M' _ R r'
  have hx':(p.places.map fH)[j]?=some x:=hx
  rw [<- hsp,List.map_map,List.getElem?_map] at hx'
  rw [List.getElem?_map] at hy
  cases hj:(cR p [])[j]? with
  | none=>rw [hj] at hy;cases hy
  | some e =>
   rw [hj] at hx' hy
   cases hx'
   cases hy
   obtain ⟨s,h1,h2⟩:=zK p [] e (List.mem_of_getElem? hj)
   rw [List.nil_append] at h1
   dsimp? only [aG,aK,aE,iF,iH]
   refine ⟨p.toU,e.2.toU,e.1,rfl,by rw [h1];exact h2,?_⟩
   dsimp? only [aG,aK,aE,iF,iH]
   exact r'
 ·dsimp? only [aG,aK,aE,iF,iH]
  refine A4 (S:=⟨none,(cR p []).map gK⟩) (M1:=M) hU (fun R r=>r) (small (by show ((cR p []).map gK).length<=_;rw [List.length_map];omega)) (fun a e=>by cases e) ?_ ?_
  ·intro x hx M' _ R r
   obtain ⟨e,he,rfl⟩:=List.mem_map.mp hx
   rw [Lg] at r
   obtain ⟨pl,pt⟩:=e
   cases pt with
   | hole c=>dsimp? only [gK,hF,tP,Pt.toU,uF,uA,tZ,uP,uT,uL,t8,Option.map_some,aG,aK,aE,iF,iH] at r ⊢;exact r
   | any=>dsimp? only [gK,hF,tP,Pt.toU,uF,uA,tZ,uP,uT,uL,t8,Option.map_none,aG,aK,aE,iF,iH] at r ⊢;exact r
   | fr l h=>dsimp? only [gK,hF,tP,Pt.toU,uF,uA,tZ,uP,uT,uL,t8,Option.map_none,aG,aK,aE,iF,iH] at r ⊢;exact r
   | turn a=>dsimp? only [gK,hF,tP,Pt.toU,uF,uA,tZ,uP,uT,uL,t8,Option.map_none,aG,aK,aE,iF,iH] at r ⊢;exact r
   | two o a b=>dsimp? only [gK,hF,tP,Pt.toU,uF,uA,tZ,uP,uT,uL,t8,Option.map_none,aG,aK,aE,iF,iH] at r ⊢;exact r
  ·rw [show (Src.mk none ((cR p []).map gK)).xs=(cR p []).map gK from rfl,TB]
   simp only [kZ]
   exact aL q
def Ay (p:List Nat):List Int:=p.map fun (n:Nat)=>(n:Int)
theorem W4 (k:Nat) (p q:List Nat):HT.lexLt (Ay (k :: p)) (Ay (k :: q))=HT.lexLt (Ay p) (Ay q):=by
 simp only [Ay,List.map_cons,HT.A1,if_true]
def Lx (a b:List Nat):Prop:=HT.lexLt (Ay a) (Ay b)=true
theorem Vy (p:Pt):(cR p []).map (·.1)=p.places:=by rw [lU];simp
theorem ND:bX cO (Str.ofString "turn")=some (.int 1):=by kernel_rfl
theorem RO (o:Op):bX cO o.word=some (.int 2):=by cases o <;> kernel_rfl
inductive G where
 | leaf (u:U) (b:Bool) | turn (a:G) | two (o:Op) (a b:G)
namespace G
def toU:G->U
 | leaf u _=>u
 | turn a=>.tup [.str "turn",a.toU]
 | two o a b=>.tup [.str o.word,a.toU,b.toU]
def size:G->Nat
 | leaf _ _=>1
 | turn a=>a.size + 1
 | two _ a b=>a.size + b.size + 1
def dep:G->Nat
 | leaf _ _=>1
 | turn a=>a.dep + 1
 | two _ a b=>max a.dep b.dep + 1
def fit:G->Bool
 | leaf _ b=>b
 | turn a=>a.fit
 | two _ a b=>a.fit && b.fit
def wf (L:U->Bool->Prop):G->Prop
 | leaf u b=>L u b
 | turn a=>a.wf L
 | two _ a b=>a.wf L/\b.wf L
end G
def ent (x:G × Nat):U:=.tup [x.1.toU,.int (x.2:Nat)]
def uV:List (G × Nat)->Nat
 | []=>0
 | x :: r=>x.1.size + uV r
theorem uR:∀ l r:List (G × Nat),uV (l++r)=uV l + uV r
 | [],_=>by simp [uV]
 | t :: l,r=>by simp [uV,uR l r];omega
def VV (c:Nat) (st:List (G × Nat)):Prop:=c + uV st<=9/\(∀ x∈st,x.2 + x.1.dep<=6)/\∀ x∈st,x.1.fit=true
def oA (g:G):Bool:=decide (g.size<=9) && (decide (g.dep<=5) && g.fit)
theorem DU (g:G):oA g=true ↔ VV 0 [(g,1)]:=by
 unfold oA VV
 simp only [Bool.and_eq_true,decide_eq_true_eq,uV,List.mem_cons,List.not_mem_nil,or_false,forall_eq]
 constructor
 ·rintro ⟨a,b,c⟩;exact ⟨by omega,by omega,c⟩
 ·rintro ⟨a,b,c⟩;exact ⟨by omega,by omega,c⟩
theorem P8 {c d:Nat} {st:List (G × Nat)} {a:G}:VV (c + 1) (st++[(a,d + 1)]) ↔ VV c (st++[(G.turn a,d)]):=by
 unfold VV
 simp only [uR,uV,List.mem_append,List.mem_cons,List.not_mem_nil,or_false,G.size]
 constructor
 ·rintro ⟨h1,h2,h3⟩
  refine ⟨by omega,fun x hx=>?_,fun x hx=>?_⟩
  ·rcases hx with hx | rfl
   ·exact h2 x (.inl hx)
   ·have:=h2 (a,d + 1) (.inr rfl);simp only [G.dep] at this ⊢;omega
  ·rcases hx with hx | rfl
   ·exact h3 x (.inl hx)
   ·exact h3 (a,d + 1) (.inr rfl)
 ·rintro ⟨h1,h2,h3⟩
  refine ⟨by omega,fun x hx=>?_,fun x hx=>?_⟩
  ·rcases hx with hx | rfl
   ·exact h2 x (.inl hx)
   ·have:=h2 (G.turn a,d) (.inr rfl);simp only [G.dep] at this ⊢;omega
  ·rcases hx with hx | rfl
   ·exact h3 x (.inl hx)
   ·exact h3 (G.turn a,d) (.inr rfl)
theorem SA {c d:Nat} {st:List (G × Nat)} {a b:G} {o:Op}:VV (c + 1) (st++[(a,d + 1),(b,d + 1)]) ↔ VV c (st++[(G.two o a b,d)]):=by
 unfold VV
 simp only [uR,uV,List.mem_append,List.mem_cons,List.not_mem_nil,or_false,G.size]
 constructor
 ·rintro ⟨h1,h2,h3⟩
  refine ⟨by omega,fun x hx=>?_,fun x hx=>?_⟩
  ·rcases hx with hx | rfl
   ·exact h2 x (.inl hx)
   ·have e1:=h2 (a,d + 1) (.inr (.inl rfl));have e2:=h2 (b,d + 1) (.inr (.inr rfl));simp only [G.dep] at e1 e2 ⊢;omega
  ·rcases hx with hx | rfl
   ·exact h3 x (.inl hx)
   ·have e1:=h3 (a,d + 1) (.inr (.inl rfl));have e2:=h3 (b,d + 1) (.inr (.inr rfl));simp only [G.fit] at e1 e2 ⊢;rw [e1,e2];rfl
 ·rintro ⟨h1,h2,h3⟩
  have e1:=h2 (G.two o a b,d) (.inr rfl)
  have e2:=h3 (G.two o a b,d) (.inr rfl)
  simp only [G.dep,G.fit,Bool.and_eq_true] at e1 e2
  refine ⟨by omega,fun x hx=>?_,fun x hx=>?_⟩
  ·rcases hx with hx | rfl | rfl
   ·exact h2 x (.inl hx)
   ·simp only;omega
   ·simp only;omega
  ·rcases hx with hx | rfl | rfl
   ·exact h3 x (.inl hx)
   ·exact e2.1
   ·exact e2.2
theorem QZ {c d:Nat} {st:List (G × Nat)} {u:U} (hd:d<=5):VV (c + 1) st ↔ VV c (st++[(G.leaf u true,d)]):=by
 unfold VV
 simp only [uR,uV,List.mem_append,List.mem_cons,List.not_mem_nil,or_false,G.size]
 constructor
 ·rintro ⟨h1,h2,h3⟩
  refine ⟨by omega,fun x hx=>?_,fun x hx=>?_⟩
  ·rcases hx with hx | rfl
   ·exact h2 x hx
   ·simp only [G.dep];omega
  ·rcases hx with hx | rfl
   ·exact h3 x hx
   ·rfl
 ·rintro ⟨h1,h2,h3⟩
  exact ⟨by omega,fun x hx=>h2 x (.inl hx),fun x hx=>h3 x (.inl hx)⟩
theorem QO {α:Type} (l:List α):l=[]\/∃ r x,l=r++[x]:=by
 rcases List.eq_nil_or_concat l with h | ⟨r,x,h⟩
 ·exact .inl h
 ·exact .inr ⟨r,x,by simpa using h⟩
def Gu (fl:Addr) (s:cH):cH:=fun us M Q=>∃ (g:G) (L:U->Bool->Prop),us=[g.toU,.ref fl,.int 9,.int 5]/\g.wf L/\(∀ u b,L u b->∃ b',LF u b')/\(∀ u b M' Q',Sub M M'->L u b->Q' (.bl b) M'->s [u] M' Q')/\Q (.bl (oA g)) M
theorem FV (F:cE K "is_shape" "is_shape" lJ f fd) (hm:mg "is_shape"=some (.ref f)) (LN:Callee P w K mg base 1 "is_sign" Ff []) {s:cH} {ka:Nat} (A_is_leaf:oJ P w K mg base (ka + 1) fl s):Callee P w K mg base (ka + 2) "is_shape" (Gu fl s) []:=by
 refine cD F hm jD (UW fun _ _ _ _ _ _ _ _ _ _=>rfl) (aH (aT 4 jD.nd aJ)
 (aH (aT 5 jD.nd (pG (own:=true) (aA (bD (aA (uv 0) (aA aJ aB))) aB)))
 (aH (vR (cQ (uv 5))
 (aH (aT 6 jD.nd (Ko (uv 5)))
 (aH (aT 7 jD.nd (aW (uv 6) aJ))
 (aH (aT 8 jD.nd (aW (uv 6) aJ))
 (aH (aT 4 jD.nd (aQ (own:=false) (uv 4) aJ))
 (aH (cA (jU.pt (jH (bW DV (uv 4) (uv 2)) (iY (bW DV (uv 8) (uv 3)))))
 (aM (aR pQ))
 bA)
 (aM (cA (cQ (bF LN (aA (uv 7) aB)))
 (aM (qY (CA (uv 5) (aA (mX false ["part","depth"] 1 [8] (nJ (lW (own:=false) (uv 7) (eA aJ) B4)) (cN (k:=1) 0 (by dsimp only [cP];decide +kernel)) m8 (bD (aA (uv 0) (aA (aQ (own:=false) (uv 1) aJ) aB)))) aB))))
 (aM (cA (dB (cQ (OY 1 A_is_leaf (aA (uv 7) aB))))
 (aM (aR pQ))
 bA))))))))))
 (aM (aR pQ))))) ?_
 rintro us M Q ⟨g,L,rfl,hwf,hLF,hs,q⟩
 refine ⟨rfl,?_⟩
 dsimp? only [aG,aK,aE,dU,mK,eE,rH,rJ,fK,iR,i4]
 refine fun p hp=>?_
 refine mJ (fun τ M'=>∃ (c:Nat) (st:List (G × Nat)) (e1 e2 e3:Option U),τ=[some g.toU,some (.ref fl),some (.int 9),some (.int 5),some (.int (c:Nat)),some (.ref p),e1,e2,e3]/\M'=mup M p (.lst (st.map ent))/\(∀ x∈st,x.1.wf L)/\c<=9/\st.length<=c + 1/\(VV c st ↔ VV 0 [(g,1)]))
  (fun τ _=>match τ with | [_,_,_,_,some (.int c),_,_,_,_]=>10 - c.toNat | _=>0) ⟨0,[(g,1)],none,none,none,rfl,rfl,(fun x hx=>by cases List.mem_singleton.mp hx;exact hwf),by omega,by simp,Iff.rfl⟩ ?_
 rintro τ M' ⟨c,st,e1,e2,e3,rfl,rfl,hst,hc,hlen,hV⟩
 have no:¬ VV c st->Q (.bl false) M:=fun h=>by
  have:oA g=false:=by
   cases hv:oA g with
   | false=>rfl
   | true=>exact absurd (hV.mpr ((DU g).mp hv)) h
  rw [this] at q
  exact q
 have fin:∀ us,iG Q (.bl false) (mup M p (.lst us)) ↔ iG Q (.bl false) (mup M p (.lst us)):=fun _=>Iff.rfl
 have out:∀ us,Q (.bl false) M->iG Q (.bl false) (mup M p (.lst us)):=fun us h=>⟨_,M,(Sub.refl M).mup hp,.inl rfl,h⟩
 rcases QO st with rfl | ⟨st,⟨x,dd⟩,rfl⟩
 ·dsimp? only [List.isEmpty_nil,aG,aK,aE,dU,mK,eE,rH,rJ,fK,iR,i4]
  have:oA g=true:=by
   rw [DU,<- hV]
   exact ⟨by simp only [uV];omega,(fun x hx=>by cases hx),(fun x hx=>by cases hx)⟩
  rw [this] at q
  exact ⟨_,M,(Sub.refl M).mup hp,.inl rfl,q⟩
 ·have hlen':st.length<=c:=by simpa using hlen
  have hxw:x.wf L:=hst (x,dd) (by simp)
  have hse:(st.map ent++[U.tup [x.toU,U.int (dd:Nat)]]).isEmpty=false:=by simp
  dsimp? only [List.map_append,hse,WO,WT,ent,aG,aK,aE,dU,mK,eE,rH,rJ,fK,iR,i4]
  refine ⟨mV,qB (fun h=>?_) (fun h=>qB (fun h2=>?_) (fun h2=>?_))⟩
  ·refine out _ (no fun hv=>?_)
   have:=of_decide_eq_true h
   have h3:=hv.1
   rw [uR] at h3
   have h4:1<=x.size:=by cases x <;> simp only [G.size] <;> omega
   simp only [uV] at h3
   omega
  ·refine out _ (no fun hv=>?_)
   have:=of_decide_eq_true h2
   have h3:=hv.2.1 (x,dd) (by simp)
   have h4:1<=x.dep:=by cases x <;> simp only [G.dep] <;> omega
   simp only at h3
   omega
  ·have hc1:c + 1<=9:=by
    have:¬ (9:Int) < (c:Int) + 1:=fun z=>h (decide_eq_true z)
    omega
   have hdd:dd<=5:=by
    have:¬ (5:Int) < (dd:Int):=fun z=>h2 (decide_eq_true z)
    omega
   have hst':∀ y∈st,y.1.wf L:=fun y hy=>hst y (by simp [hy])
   cases x with
   | leaf u b =>
    obtain ⟨b',hb'⟩:=hLF u b hxw
    refine ⟨_,rfl,.inl ⟨b',hb',?_⟩⟩
    dsimp? only [aG,aK,aE,dU,mK,eE,rH,rJ,fK,iR,i4]
    refine hs u b _ _ ((Sub.refl M).mup hp) hxw ?_
    cases b with
    | false =>
     dsimp? only [aG,aK,aE,dU,mK,eE,rH,rJ,fK,iR,i4]
     refine out _ (no fun hv=>?_)
     have:=hv.2.2 (G.leaf u false,dd) (by simp)
     cases this
    | true =>
     dsimp? only [aG,aK,aE,dU,mK,eE,rH,rJ,fK,iR,i4]
     refine ⟨⟨c + 1,st,_,_,_,rfl,rfl,hst',hc1,by omega,?_⟩,by omega⟩
     rw [<- hV]
     exact QZ hdd
   | turn a =>
    refine ⟨_,rfl,.inr ⟨_,_,rfl,ND,?_⟩⟩
    dsimp? only [G.toU,aG,aK,aE,dU,mK,eE,rH,rJ,fK,iR,i4]
    refine ⟨mV,iW (S:=⟨none,[a.toU]⟩) (M1:=mup M p (.lst (st.map ent))) [ent (a,dd + 1)] (fun R r=>?_) rfl (show 1<=sizeLine by decide) (fun a e=>by cases e) ?_ ?_⟩
    ·dsimp? only [MN,aG,aK,aE,dU,mK,eE,rH,rJ,fK,iR,i4]
     exact r
    ·intro j x y hx hy M' _ R r'
     match j,hx,hy with
     | 0,hx,hy =>
      cases hx;cases hy
      dsimp? only [aG,aK,aE,dU,mK,eE,rH,rJ,fK,iR,i4]
      first | refine ⟨by decide,?_⟩ | skip
      have e:U.tup [a.toU,U.int ((dd:Int) + 1)]=ent (a,dd + 1):=rfl
      rw [e];exact r'
     | j + 1,hx,hy=>cases hx
    ·dsimp? only [aG,aK,aE,dU,mK,eE,rH,rJ,fK,iR,i4]
     refine ⟨small (by simp;omega),⟨c + 1,st++[(a,dd + 1)],_,_,_,rfl,by rw [List.map_append];rfl,?_,hc1,by simp;omega,?_⟩,by omega⟩
     ·intro y hy
      rcases List.mem_append.mp hy with hy | hy
      ·exact hst' y hy
      ·cases List.mem_singleton.mp hy;exact hxw
     ·rw [<- hV];exact P8
   | two o a b =>
    refine ⟨_,rfl,.inr ⟨_,_,rfl,RO o,?_⟩⟩
    dsimp? only [G.toU,aG,aK,aE,dU,mK,eE,rH,rJ,fK,iR,i4]
    refine ⟨mV,iW (S:=⟨none,[a.toU,b.toU]⟩) (M1:=mup M p (.lst (st.map ent))) [ent (a,dd + 1),ent (b,dd + 1)] (fun R r=>?_) rfl (show 2<=sizeLine by decide) (fun a e=>by cases e) ?_ ?_⟩
    ·dsimp? only [MN,aG,aK,aE,dU,mK,eE,rH,rJ,fK,iR,i4]
     exact r
    ·intro j x y hx hy M' _ R r'
     match j,hx,hy with
     | 0,hx,hy =>
      cases hx;cases hy
      dsimp? only [aG,aK,aE,dU,mK,eE,rH,rJ,fK,iR,i4]
      first | refine ⟨by decide,?_⟩ | skip
      have e:U.tup [a.toU,U.int ((dd:Int) + 1)]=ent (a,dd + 1):=rfl
      rw [e];exact r'
     | 1,hx,hy =>
      cases hx;cases hy
      dsimp? only [aG,aK,aE,dU,mK,eE,rH,rJ,fK,iR,i4]
      first | refine ⟨by decide,?_⟩ | skip
      have e:U.tup [b.toU,U.int ((dd:Int) + 1)]=ent (b,dd + 1):=rfl
      rw [e];exact r'
     | j + 2,hx,hy=>cases hx
    ·dsimp? only [aG,aK,aE,dU,mK,eE,rH,rJ,fK,iR,i4]
     refine ⟨small (by simp;omega),⟨c + 1,st++[(a,dd + 1),(b,dd + 1)],_,_,_,rfl,by rw [List.map_append];rfl,?_,hc1,by simp;omega,?_⟩,by omega⟩
     ·intro y hy
      rcases List.mem_append.mp hy with hy | hy
      ·exact hst' y hy
      ·simp only [List.mem_cons,List.not_mem_nil,or_false] at hy
       rcases hy with rfl | rfl
       ·exact hxw.1
       ·exact hxw.2
     ·rw [<- hV];exact SA
def LP (cs:List Str) (u:U) (b:Bool):Prop:=plain u/\Bq u=false/\b=jG cs u
def QP:Str:=Str.ofString "is_pattern"++Str.ofString ".<locals>."++Str.ofString "<lambda>"
def isAt:U->Bool
 | .tup (.str z :: _)=>decide (z=Str.ofString "at")
 | _=>false
namespace G
def holes:G->Nat
 | leaf u _=>if isAt u then 1 else 0
 | turn a=>a.holes
 | two _ a b=>a.holes + b.holes
end G
def oV (g:G):Bool:=oA g && decide (g.holes<=4)
theorem Qw {cs:List Str} {u:U} (hp:plain u) (h:jG cs u=true):∃ p:Pt,p.toU=u/\p.dep=1/\p.holes=(if isAt u then 1 else 0):=by
 cases u with
 | tup us =>
  cases us with
  | nil=>cases h
  | cons x r =>
   cases x with
   | str z =>
    simp only [jG] at h
    by_cases h1:z=Str.ofString "at"
    ·subst h1
     rw [if_pos rfl] at h
     rcases r with _ | ⟨a,_ | ⟨b,r⟩⟩
     ·cases h
     ·cases a with
      | str y=>exact ⟨.hole y,rfl,rfl,by simp [isAt,Pt.holes]⟩
      | _=>cases h
     ·cases h
    ·rw [if_neg h1] at h
     by_cases h2:z=Str.ofString "from"
     ·subst h2
      rw [if_pos rfl] at h
      rcases r with _ | ⟨a,_ | ⟨b,_ | ⟨c,r⟩⟩⟩
      ·cases h
      ·cases h
      ·dsimp only at h
       cases a with
       | int i =>
        cases b with
        | int j=>exact ⟨.fr i j,rfl,rfl,by simp [isAt,Pt.holes,h1]⟩
        | _=>simp [tX] at h
       | _=>simp [tX] at h
      ·cases h
     ·rw [if_neg h2,Bool.and_eq_true] at h
      obtain ⟨h3,h4⟩:=h
      have:=of_decide_eq_true h3
      subst this
      cases r with
      | nil=>exact ⟨.any,rfl,rfl,by simp [isAt,Pt.holes,h1]⟩
      | cons a r=>cases h4
   | _=>cases h
 | _=>cases h
theorem xZ {cs:List Str}:∀ (g:G),g.wf (LP cs)->g.fit=true->∃ p:Pt,p.toU=g.toU/\p.dep=g.dep/\p.holes=g.holes
 | .leaf u b,⟨hp,_,hb⟩,h=>by
  simp only [G.fit] at h
  rw [h] at hb
  obtain ⟨p,h1,h2,h3⟩:=Qw hp hb.symm
  exact ⟨p,h1,h2,h3⟩
 | .turn a,h1,h=>by
  obtain ⟨p,e1,e2,e3⟩:=xZ a h1 h
  exact ⟨.turn p,by simp only [Pt.toU,G.toU,e1],by simp only [Pt.dep,G.dep,e2],e3⟩
 | .two o a b,h1,h=>by
  simp only [G.fit,Bool.and_eq_true] at h
  obtain ⟨p,e1,e2,e3⟩:=xZ a h1.1 h.1
  obtain ⟨p',f1,f2,f3⟩:=xZ b h1.2 h.2
  exact ⟨.two o p p',by simp only [Pt.toU,G.toU,e1,f1],by simp only [Pt.dep,G.dep,e2,f2],by simp only [Pt.holes,G.holes,e3,f3]⟩
theorem Rr:∀ (p:Pt) (pl:List Nat),((cR p pl).filterMap hF).length=p.holes:=by
 intro p
 induction p with
 | hole c=>intro pl;rfl
 | any=>intro pl;rfl
 | fr l h=>intro pl;rfl
 | turn a ih=>intro pl;simp only [cR,Pt.holes,List.filterMap_cons,hF];exact ih _
 | two o a b iha ihb=>intro pl;simp only [cR,Pt.holes,List.filterMap_cons,List.filterMap_append,List.length_append,hF,iha,ihb]
def G6 (Pt:Addr):cH:=fun us M Q=>∃ (g:G) (cs:List Str),us=[g.toU,.tup (cs.map U.str)]/\g.wf (LP cs)/\(∀ c∈cs,PyData.strOk c=true)/\M Pt=some (.tbl QP)/\Q (.bl (oV g)) M
theorem CY {c0 Pt fsh:Addr} {t1 t2 t3:Tok} (F:cE K "is_pattern" "is_pattern" eL f fd) (hfd:fd.code=.ref c0) (hm:mg "is_pattern"=some (.ref f)) (hK:PySem.W.codeHdIn K c0 Pt=true) (hB:kJ base mg) (qT:mg "is_shape"=some (.ref fsh)) (k_is_shape:PySem.W.keepIn K (.ref fsh)=true) (bH:mg "len"=none)
  (qC:mg "MOST_PIECES"=some (.int 9 t1)) (pY:mg "MOST_WITHIN"=some (.int 5 t2)) (rK:mg "MOST_HOLES"=some (.int 4 t3))
  (Ib:∀ (base:Heap) (fl:Addr) (s:cH),kJ base mg->oJ P w K mg base 4 fl s->Callee P w K mg base 5 "is_shape" (Gu fl s) []) (CL_is_pattern_leaf:∀ base,kJ base mg->Callee P w K mg base 3 "is_pattern_leaf" B7 []) (P6:Callee P w K mg base 8 "holes" Hf []):Callee P w K mg base 9 "is_pattern" (G6 Pt) []:=by
 refine IL F hfd hm Dh (n8 fun _ _ _ _ _ _ _ _=>rfl) (fun us M Q h=>by obtain ⟨_,_,rfl,_⟩:=h;rfl) (aH (cA (dB (cQ (Nb (P:=Pt) (q:=QP) 3 ["leaf","classes"] ["leaf"] [1] qT k_is_shape Ib hB (B1 (uv 0) (Ua (P:=Pt) (q:=QP) hK hB (B1 (lY qC) (B1 (lY pY) T8)))) (fun base hBm=>(bF (CL_is_pattern_leaf base hBm) (aA (uv 0) (aA (uv 1) aB)) (hj:=by dsimp only [MH];omega))))))
 (aM (aR pQ))
 bA)
 (aM (aR (gM jJ (cJ eP bH (aA (bF P6 (aA (uv 0) aB)) aB)) (lY rK))))) ?_
 rintro us M Q ⟨g,cs,rfl,hw,hc,hP,q⟩
 refine aO fun V1 hV1=>?_
 refine bU fun A B hA hB'=>?_
 dsimp! only [eE,JF,fK,iR,i4,aG,aK,aE]
 have back:∀ ps vs,mup (mup M Pt (.cap ps vs [.tup (cs.map U.str)])) Pt (.tbl QP)=M:=fun ps vs=>by
  rw [gR]
  funext b
  by_cases hb:b=Pt
  ·subst hb;rw [bO,hP]
  ·rw [cB hb]
 refine ⟨hP,fun fl=>⟨hP,[.tup (cs.map U.str)],rfl,fun ps vs hno=>⟨g,LP cs,rfl,hw,fun u b h=>⟨b,h.1,h.2.1⟩,fun u b M' Q' hS h hq=>?_,hno,bO,?_⟩⟩⟩
 ·refine ⟨hS Pt _ bO,rfl,?_⟩
  dsimp! only [aG,aK,aE]
  exact ⟨u,cs,rfl,h.1,hc,by rw [<- h.2.2];exact hq⟩
 ·rw [back]
  cases hv:oA g with
  | false =>
   dsimp! only [aG,aK,aE]
   subst hA
   dsimp! only [bI,aG,aK,aE]
   have e:oV g=false:=by unfold oV;rw [hv];rfl
   rw [e] at q
   exact aL q
  | true =>
   dsimp! only [aG,aK,aE]
   subst hB'
   simp only [bL]
   subst hV1
   have hv':=hv
   unfold oA at hv'
   simp only [Bool.and_eq_true,decide_eq_true_eq] at hv'
   obtain ⟨h1,h2,h3⟩:=hv'
   obtain ⟨p,e1,e2,e3⟩:=xZ g hw h3
   dsimp! only [bI,aG,aK,aE]
   refine ⟨p,by rw [e1],by omega,?_⟩
   dsimp! only [aG,aK,aE]
   have e:oV g=decide ((((T5 p).map tP).length:Int)<=4):=by
    unfold oV T5
    rw [hv,Bool.true_and,List.length_map,Rr,e3]
    by_cases hh:g.holes<=4
    ·rw [decide_eq_true hh];exact (decide_eq_true (by omega)).symm
    ·rw [decide_eq_false hh];exact (decide_eq_false (by omega)).symm
   rw [e] at q
   exact aL q
def WU (u:U):Prop:=∃ a k p d,u=.tup [a,k,p,d]
def sI:U->Bool
 | .int i=>decide (0<=i) && decide (i<=1000)
 | _=>false
def nK:U->U->Bool
 | .tup [.str z,.str c],.str y=>!(decide (z=Str.ofString "at") && decide (c=y))
 | _,_=>true
def wD (cs:List Str) (u:U) (b:Bool):Prop:=plain u/\((¬ WU u/\b=false)\/∃ (a k:U) (g:G) (d:U),u=.tup [a,k,g.toU,d]/\g.wf (LP cs)/\b=(isName a && (xR cs k && (oV g && (sI d && nK g.toU k)))))
theorem Ei {u:U} (h:plain u):Wy u:=by
 cases u with
 | str z=>exact small (Nat.le_trans h.1.2 (by decide))
 | ref a=>exact h.1.elim
 | ty a=>exact h.1.elim
 | _=>trivial
theorem Gk (z:Pt) (k:U):nK (.tup [.str (Str.ofString "turn"),z.toU]) k=true:=by
 cases z <;> cases k <;> rfl
theorem HI (z a b:U) (k:U):nK (.tup [z,a,b]) k=true:=by
 unfold nK
 split
 ·rename_i h;cases h
 ·rfl
def Li:cH:=fun us M Q=>∃ (a k d:U) (p:Pt),us=[.tup [a,k,p.toU,d]]/\Q (.bl (isAt p.toU)) M
theorem IK (F:cE K "is_pass" "is_pass" mQ f fd) (hm:mg "is_pass"=some (.ref f)):Callee P w K mg base 1 "is_pass" Li []:=by
 refine cD F hm Ie (n9 fun _ _ _ _ _ _ _=>rfl) (aM (aR (gM cI (aW (aW (uv 0) aJ) aJ) b8))) ?_
 rintro us M Q ⟨a,k,d,p,rfl,q⟩
 refine ⟨rfl,?_⟩
 cases p <;> (dsimp! only [bI,Pt.toU,aG,aK,aE];exact aL q)
def Fc (Pt:Addr):cH:=fun us M Q=>∃ (u:U) (cs:List Str) (b:Bool),us=[u,.tup (cs.map U.str)]/\wD cs u b/\(∀ c∈cs,PyData.strOk c=true)/\M Pt=some (.tbl QP)/\Q (.bl b) M
theorem HL {Pl:Addr} {t1:Tok} (F:cE K "is_tile" "is_tile" mU f fd) (hm:mg "is_tile"=some (.ref f)) (aN:mg "isinstance"=none) (bM:mg "tuple"=none) (bH:mg "len"=none) (mL:mg "GREATEST_PRICE"=some (.int 1000 t1))
  (x9:Callee P w K mg base 1 "is_name" Ed []) (Eo:Callee P w K mg base 9 "is_pattern" (G6 Pl) []) (wC:Callee P w K mg base 1 "is_whole" vY []) (KW:Callee P w K mg base 1 "is_pass" Li []):Callee P w K mg base 10 "is_tile" (Fc Pl) []:=by
 refine cD F hm IJ (n8 fun _ _ _ _ _ _ _ _=>rfl) (aH (cA (jU.pt (jH (dB (cQ (cJ iU aN (aA (uv 0) (aA (iV (n:="tuple") bM) aB))))) (iY (bW tG (cJ eP bH (aA (uv 0) aB)) aJ))))
 (aM (aR pQ))
 bA)
 (aH (cA (jU.pt (jH (dB (cQ (bF x9 (aA (aW (uv 0) aJ) aB)))) (jH (bW Nt (aW (uv 0) aJ) (uv 1)) (iY (dB (cQ (bF Eo (aA (aW (uv 0) aJ) (aA (uv 1) aB)))))))))
 (aM (aR pQ))
 bA)
 (aH (cA (jU.pt (jH (dB (cQ (bF wC (aA (aW (uv 0) aJ) aB)))) (iY (dB (Du jJ jJ aJ (aW (uv 0) aJ) (lY mL))))))
 (aM (aR pQ))
 bA)
 (aM (aR (VN (ES (bF KW (aA (uv 0) aB))) (iZ (gM tG (aW (aW (uv 0) aJ) aJ) (aW (uv 0) aJ))))))))) ?_
 rintro us M Q ⟨u,cs,b,rfl,⟨hp,h⟩,hc,hP,q⟩
 refine ⟨rfl,?_⟩
 have neX:∀ (i j:Int) (M:aF) (Q:UK),kK true (.int i) (.int j) M Q=Q (.bl (!decide (i=j))) M:=fun i j M Q=>rfl
 refine aO fun V1 hV1=>?_
 refine bU fun A B hA hB=>?_
 rcases h with ⟨n4,rfl⟩ | ⟨a,k,g,d,rfl,hw,rfl⟩
 ·have fls:A M:=by
   subst hA
   dsimp! only [bI,aG,aK,aE]
   exact aL q
  cases u with
  | tup us =>
   have hl:decide ((us.length:Int)=4)=false:=decide_eq_false fun z=>n4 (by
    have z:us.length=4:=by omega
    match us,z with
    | [a,k,p,d],_=>exact ⟨a,k,p,d,rfl⟩)
   dsimp! only [neX,hl,aG,aK,aE]
   exact fls
  | ref a=>exact hp.1.elim
  | ty a=>exact hp.1.elim
  | dic a b c=>exact hp.1.elim
  | _=>dsimp! only [aG,aK,aE];exact fls
 ·have d4:decide (((0 + 1 + 1 + 1 + 1:Nat):Int)=4)=true:=rfl
  dsimp! only [neX,d4,aG,aK,aE]
  subst hB
  simp only [bL]
  subst hV1
  refine aO fun V2 hV2=>?_
  refine bU fun A B hA hB=>?_
  have pa:plain a:=jV hp (by simp)
  have pk:plain k:=jV hp (by simp)
  have pd:plain d:=jV hp (by simp)
  have fls:Q (.bl false) M->A M:=fun q=>by
   subst hA
   dsimp! only [bI,aG,aK,aE]
   exact aL q
  dsimp! only [aG,aK,aE]
  refine ⟨a,rfl,Ei pa,?_⟩
  cases ha:isName a with
  | false =>
   rw [ha] at q
   dsimp! only [aG,aK,aE]
   exact fls q
  | true =>
   rw [ha] at q
   dsimp! only [aG,aK,aE]
   refine GZ (neg:=true) pk hc ?_
   cases hk:xR cs k with
   | false =>
    rw [hk] at q
    dsimp! only [aG,aK,aE]
    exact fls q
   | true =>
    rw [hk] at q
    dsimp! only [aG,aK,aE]
    refine ⟨g,cs,rfl,hw,hc,hP,?_⟩
    cases hg:oV g with
    | false =>
     rw [hg] at q
     dsimp! only [aG,aK,aE]
     exact fls q
    | true =>
     rw [hg] at q
     dsimp! only [aG,aK,aE]
     clear fls hA
     subst hB
     simp only [bL]
     subst hV2
     refine aO fun V3 hV3=>?_
     refine bU fun A B hA hB=>?_
     have fls:Q (.bl false) M->A M:=fun q=>by
      subst hA
      dsimp! only [bI,aG,aK,aE]
      exact aL q
     dsimp! only [aG,aK,aE]
     refine ⟨d,rfl,pd,?_⟩
     cases d with
     | int i =>
      dsimp! only [Ee,aG,aK,aE]
      simp only [sI,Bool.true_and] at q
      by_cases h0:0<=i
      ·dsimp! only [h0,Bool.true_and,aG,aK,aE] at q ⊢
       by_cases h1:i<=1000
       ·dsimp! only [h1,Bool.true_and,aG,aK,aE] at q ⊢
        clear fls hA
        subst hB
        simp only [bL]
        subst hV3
        unfold oV oA at hg
        simp only [Bool.and_eq_true,decide_eq_true_eq] at hg
        obtain ⟨⟨_,_,hf⟩,_⟩:=hg
        obtain ⟨p,e1,_,_⟩:=xZ g hw hf
        rw [<- e1] at q ⊢
        obtain ⟨y,rfl⟩:∃ y,k=.str y:=by
         cases k with
         | str y=>exact ⟨y,rfl⟩
         | _=>cases hk
        dsimp! only [bI,aG,aK,aE]
        refine ⟨a,_,_,p,rfl,?_⟩
        cases p with
        | hole c =>
         dsimp! only [Pt.toU,isAt,nK,Bool.true_and,aG,aK,aE] at q ⊢
         exact aL q
        | any=>dsimp! only [Pt.toU,isAt,nK,DW,aG,aK,aE] at q ⊢;exact aL q
        | fr l h=>dsimp! only [Pt.toU,isAt,nK,CD,aG,aK,aE] at q ⊢;exact aL q
        | turn z=>dsimp! only [Pt.toU,isAt,Gk,Cp,aG,aK,aE] at q ⊢;exact aL q
        | two o y z=>dsimp! only [Pt.toU,isAt,HI,Ky,aG,aK,aE] at q ⊢;exact aL q
       ·dsimp! only [h1,aG,aK,aE] at q ⊢
        exact fls q
      ·dsimp! only [h0,Bool.false_and,aG,aK,aE] at q ⊢
       exact fls q
     | ref a=>exact pd.1.elim
     | ty a=>exact pd.1.elim
     | dic a b c=>exact pd.1.elim
     | _=>dsimp! only [Ee,aG,aK,aE];exact fls q
def strOf:U->Str
 | .str z=>z
 | _=>Str.ofString ""
theorem Bl:∀ {us:List U},us.all isName=true->us=(us.map strOf).map U.str
 | [],_=>rfl
 | u :: us,h=>by
  rw [List.all_cons,Bool.and_eq_true] at h
  cases u with
  | str z=>simp only [List.map_cons,strOf];rw [<- Bl h.2]
  | _=>cases h.1
def Hm (ss:List Str):Bool:=decide ((fA ss).length=ss.length)
def AO:cH:=fun us M Q=>∃ (u:U) (ss:List Str),us=[u]/\(u=.tup (ss.map U.str)\/u=.lst (ss.map U.str))/\ss.length < 1000/\Q (.bl (Hm ss)) M
theorem Kg (F:cE K "are_unlike" "are_unlike" jP f fd) (hm:mg "are_unlike"=some (.ref f)) (bH:mg "len"=none) (JL:mg "set"=none):Callee P w K mg base 1 "are_unlike" AO []:=by
 refine cD F hm Dk (n9 fun _ _ _ _ _ _ _=>rfl) (aM (aR (gM cI (IX bH JL (aA (uv 0) aB)) (cJ eP bH (aA (uv 0) aB))))) ?_
 rintro us M Q ⟨u,ss,rfl,hu,hl,q⟩
 refine ⟨rfl,?_⟩
 have e:∀ n m:Nat,decide ((n:Int)=(m:Int))=decide (n=m):=fun n m=>by
  by_cases h:n=m
  ·subst h;simp
  ·rw [decide_eq_false h];exact decide_eq_false (by omega)
 rcases hu with rfl | rfl <;>
 ·dsimp! only [bI,Fo,List.length_map,aG,aK,aE]
  refine ⟨ss,rfl,hl,?_⟩
  dsimp! only [e,aG,aK,aE]
  exact aL q
theorem GC (f:U->Bool):∀ us:List U,qF (us.map fun u=>U.bl (f u))=some (us.map f)
 | []=>rfl
 | u :: us=>by simp only [List.map_cons,qF,GC f us,Option.map_some]
theorem Mw:∀ bs:List Bool,qF (bs.map U.bl)=some bs
 | []=>rfl
 | b :: bs=>by simp only [List.map_cons,qF,Mw bs,Option.map_some]
def jI:U->Bool
 | .tup us=>decide (1<=us.length) && (decide (us.length<=6) && (us.all isName && Hm (us.map strOf)))
 | _=>false
def u4:cH:=fun us M Q=>∃ u:U,us=[u]/\plain u/\Q (.bl (jI u)) M
theorem BX {t1:Tok} (F:cE K "are_classes" "are_classes" iJ f fd) (hm:mg "are_classes"=some (.ref f)) (aN:mg "isinstance"=none) (bM:mg "tuple"=none) (bH:mg "len"=none) (qQ:mg "all"=none) (oN:mg "MOST_CLASSES"=some (.int 6 t1)) (x9:Callee P w K mg base 1 "is_name" Ed []) (rM:Callee P w K mg base 1 "are_unlike" AO []):Callee P w K mg base 2 "are_classes" u4 []:=by
 refine cD F hm BM (n9 fun _ _ _ _ _ _ _=>rfl) (aH (cA (jU.pt (jH (dB (cQ (cJ iU aN (aA (uv 0) (aA (iV (n:="tuple") bM) aB))))) (iY (dB (Du jJ jJ aJ (cJ eP bH (aA (uv 0) aB)) (lY oN))))))
 (aM (aR pQ))
 bA)
 (aM (aR (iA (cJ IQ qQ (aA (mX false ["name"] 1 [] (nJ (uv 0)) (cN (k:=1) 0 (by dsimp only [cP];decide +kernel)) m8 (bF x9 (aA (uv 0) aB))) aB)) (iZ (bF rM (aA (uv 0) aB))))))) ?_
 rintro us M Q ⟨u,rfl,hp,q⟩
 refine ⟨rfl,?_⟩
 refine aO fun V1 hV1=>?_
 refine bU fun A B hA hB=>?_
 have fls:Q (.bl false) M->A M:=fun q=>by
  subst hA
  dsimp! only [bI,aG,aK,aE]
  exact aL q
 cases u with
 | tup us =>
  have hl:=plain_len hp
  simp only [jI] at q
  dsimp! only [aG,aK,aE]
  by_cases h1:1<=us.length
  ·have h1':(1:Int)<=(us.length:Int):=by omega
   dsimp! only [h1,h1',Bool.true_and,aG,aK,aE] at q ⊢
   by_cases h2:us.length<=6
   ·have h2':(us.length:Int)<=6:=by omega
    dsimp! only [h2,h2',Bool.true_and,aG,aK,aE] at q ⊢
    subst hB
    simp only [bL]
    subst hV1
    simp only [bI,lD,sM,lL,oP]
    refine iW (S:=⟨none,us⟩) (M1:=M) (us.map fun x=>U.bl (isName x)) (fun R r=>?_) (by simp) (small (by show us.length<=_;omega)) (fun a e=>by cases e) (fun i x y hx hy M' _ R r=>?_) ?_
    ·dsimp! only [aG,aK,aE];exact r
    ·rw [List.getElem?_map,hx] at hy
     cases hy
     dsimp! only [hName,aG,aK,aE]
     exact ⟨x,rfl,Ei (jV hp (List.mem_of_getElem? hx)),r⟩
    ·dsimp! only [GC,aG,aK,aE]
     cases ha:us.all isName with
     | false =>
      rw [ha] at q
      have e:((us.map isName).all fun b=>b)=false:=by rw [List.all_map];exact ha
      dsimp! only [e,aG,aK,aE]
      exact aL q
     | true =>
      rw [ha] at q
      have e:((us.map isName).all fun b=>b)=true:=by rw [List.all_map];exact ha
      dsimp! only [e,aG,aK,aE]
      exact ⟨_,us.map strOf,rfl,.inl (by rw [<- Bl ha]),by rw [List.length_map];omega,aL q⟩
   ·have h2':¬ (us.length:Int)<=6:=by omega
    dsimp! only [h2,h2',Bool.false_and,aG,aK,aE] at q ⊢
    exact fls q
  ·have h1':¬ (1:Int)<=(us.length:Int):=by omega
   dsimp! only [h1,h1',Bool.false_and,aG,aK,aE] at q ⊢
   exact fls q
 | ref a=>exact hp.1.elim
 | ty a=>exact hp.1.elim
 | dic a b c=>exact hp.1.elim
 | _=>dsimp! only [aG,aK,aE];exact fls q
def Ll (cs:List Str) (u:U) (b:Bool):Prop:=plain u/\(((∀ ts,u≠.tup ts)/\b=false)\/∃ (ts:List U) (bs:List Bool),u=.tup ts/\Paired (wD cs) ts bs/\b=(decide (1<=ts.length) && (decide (ts.length<=40) && ((bs.all fun x=>x) && Hm (ts.map fun t=>match t with | .tup (.str z :: _)=>z | _=>Str.ofString "")))))
theorem K0 {cs:List Str} {u:U} (h:wD cs u true):∃ z r,u=.tup (.str z :: r):=by
 rcases h.2 with ⟨_,z⟩ | ⟨a,k,g,d,rfl,_,e⟩
 ·cases z
 ·cases a with
  | str z=>exact ⟨z,_,rfl⟩
  | _=>cases e
theorem wA {α β:Type} {R:α->β->Prop}:∀ {xs:List α} {ys:List β},Paired R xs ys->∀ {i:Nat} {x:α} {y:β},xs[i]?=some x->ys[i]?=some y->R x y
 | _,_,.nil,i,_,_,h,_=>by simp at h
 | _,_,.cons h t,0,_,_,h1,h2=>by cases h1;cases h2;exact h
 | _,_,.cons h t,i + 1,_,_,h1,h2=>wA t (by simpa using h1) (by simpa using h2)
def Fq (Pt:Addr):cH:=fun us M Q=>∃ (u:U) (cs:List Str) (b:Bool),us=[u,.tup (cs.map U.str)]/\Ll cs u b/\(∀ c∈cs,PyData.strOk c=true)/\M Pt=some (.tbl QP)/\Q (.bl b) M
theorem ED {Pl:Addr} {t1:Tok} (F:cE K "are_tiles" "are_tiles" j7 f fd) (hm:mg "are_tiles"=some (.ref f)) (aN:mg "isinstance"=none) (bM:mg "tuple"=none) (bH:mg "len"=none) (qQ:mg "all"=none) (rW:mg "MOST_TILES"=some (.int 40 t1)) (Kl:Callee P w K mg base 10 "is_tile" (Fc Pl) []) (rM:Callee P w K mg base 1 "are_unlike" AO []):Callee P w K mg base 11 "are_tiles" (Fq Pl) []:=by
 refine cD F hm EY (n8 fun _ _ _ _ _ _ _ _=>rfl) (aH (cA (jU.pt (jH (dB (cQ (cJ iU aN (aA (uv 0) (aA (iV (n:="tuple") bM) aB))))) (iY (dB (Du jJ jJ aJ (cJ eP bH (aA (uv 0) aB)) (lY rW))))))
 (aM (aR pQ))
 bA)
 (aM (aR (iA (cJ IQ qQ (aA (mX false ["tile","classes"] 1 [1] (nJ (uv 0)) (cN (k:=1) 0 (by dsimp only [cP];decide +kernel)) m8 (bF Kl (aA (uv 0) (aA (uv 1) aB)))) aB)) (iZ (bF rM (aA (mX false ["tile"] 1 [] (nJ (uv 0)) (cN (k:=1) 0 (by dsimp only [cP];decide +kernel)) m8 (aW (uv 0) aJ)) aB))))))) ?_
 rintro us M Q ⟨u,cs,b,rfl,⟨hp,h⟩,hc,hP,q⟩
 refine ⟨rfl,?_⟩
 refine aO fun V1 hV1=>?_
 refine bU fun A B hA hB=>?_
 have fls:Q (.bl false) M->A M:=fun q=>by
  subst hA
  dsimp! only [bI,aG,aK,aE]
  exact aL q
 rcases h with ⟨nt,rfl⟩ | ⟨ts,bs,rfl,hb,rfl⟩
 ·cases u with
  | tup us=>exact (nt us rfl).elim
  | ref a=>exact hp.1.elim
  | ty a=>exact hp.1.elim
  | dic a b c=>exact hp.1.elim
  | _=>dsimp! only [aG,aK,aE];exact fls q
 ·have hl:=plain_len hp
  have hlb:=hb.length
  dsimp! only [aG,aK,aE]
  by_cases h1:1<=ts.length
  ·have h1':(1:Int)<=(ts.length:Int):=by omega
   dsimp! only [h1,h1',Bool.true_and,aG,aK,aE] at q ⊢
   by_cases h2:ts.length<=40
   ·have h2':(ts.length:Int)<=40:=by omega
    dsimp! only [h2,h2',Bool.true_and,aG,aK,aE] at q ⊢
    subst hB
    simp only [bL]
    subst hV1
    simp only [bI,lD,sM,lL,oP]
    refine iW (S:=⟨none,ts⟩) (M1:=M) (bs.map U.bl) (fun R r=>?_) (by simp [hlb]) (small (by show ts.length<=_;omega)) (fun a e=>by cases e) (fun i x y hx hy M' hS R r=>?_) ?_
    ·dsimp! only [aG,aK,aE];exact r
    ·rw [List.getElem?_map] at hy
     cases hbi:bs[i]? with
     | none=>rw [hbi] at hy;cases hy
     | some bb =>
      rw [hbi] at hy
      cases hy
      dsimp! only [hName,aG,aK,aE]
      exact ⟨x,cs,bb,rfl,wA hb hx hbi,hc,hS Pl _ hP,r⟩
    ·dsimp! only [Mw,aG,aK,aE]
     cases ha:bs.all fun x=>x with
     | false =>
      rw [ha] at q
      dsimp! only [ha,aG,aK,aE]
      exact aL q
     | true =>
      rw [ha] at q
      dsimp! only [ha,aG,aK,aE]
      have hall:∀ (i:Nat) x,ts[i]?=some x->∃ z r,x=.tup (.str z :: r):=fun i x hx=>by
       have hi:i < bs.length:=by have:=(List.getElem?_eq_some_iff.mp hx).1;omega
       obtain ⟨bb,hbi⟩:∃ bb,bs[i]?=some bb:=⟨_,List.getElem?_eq_getElem hi⟩
       have:bb=true:=List.all_eq_true.mp ha bb (List.mem_of_getElem? hbi)
       subst this
       exact K0 (wA hb hx hbi)
      refine iW (S:=⟨none,ts⟩) (M1:=M) ((ts.map fun t=>match t with | .tup (.str z :: _)=>z | _=>Str.ofString "").map U.str) (fun R r=>?_) (by simp) (small (by show ts.length<=_;omega)) (fun a e=>by cases e) (fun i x y hx hy M' hS R r=>?_) ?_
      ·dsimp! only [aG,aK,aE];exact r
      ·obtain ⟨z,rr,rfl⟩:=hall i x hx
       rw [List.getElem?_map,List.getElem?_map,hx] at hy
       cases hy
       dsimp! only [hName,aG,aK,aE]
       exact r
      ·dsimp! only [aG,aK,aE]
       exact ⟨_,_,rfl,.inr rfl,by simp;omega,aL q⟩
   ·have h2':¬ (ts.length:Int)<=40:=by omega
    dsimp! only [h2,h2',Bool.false_and,aG,aK,aE] at q ⊢
    exact fls q
  ·have h1':¬ (1:Int)<=(ts.length:Int):=by omega
   dsimp! only [h1,h1',Bool.false_and,aG,aK,aE] at q ⊢
   exact fls q
def rT (u:U) (b:Bool):Prop:=plain u/\(((∀ c t,u≠.tup [c,t])/\b=false)\/∃ c t,u=.tup [c,t]/\((jI c=false/\b=false)\/∃ cs:List Str,c=.tup (cs.map U.str)/\jI c=true/\(∀ x∈cs,PyData.strOk x=true)/\Ll cs t b))
def AD (Pt:Addr):cH:=fun us M Q=>∃ (u:U) (b:Bool),us=[u]/\rT u b/\M Pt=some (.tbl QP)/\Q (.bl b) M
theorem FI {Pl:Addr} (F:cE K "is_table" "is_table" lF f fd) (hm:mg "is_table"=some (.ref f)) (aN:mg "isinstance"=none) (bM:mg "tuple"=none) (bH:mg "len"=none) (pV:Callee P w K mg base 2 "are_classes" u4 []) (Gd:Callee P w K mg base 11 "are_tiles" (Fq Pl) []):Callee P w K mg base 12 "is_table" (AD Pl) []:=by
 refine cD F hm Ga (n9 fun _ _ _ _ _ _ _=>rfl) (aH (cA (jU.pt (jH (dB (cQ (cJ iU aN (aA (uv 0) (aA (iV (n:="tuple") bM) aB))))) (iY (bW tG (cJ eP bH (aA (uv 0) aB)) aJ))))
 (aM (aR pQ))
 bA)
 (aM (aR (iA (bF pV (aA (aW (uv 0) aJ) aB)) (iZ (bF Gd (aA (aW (uv 0) aJ) (aA (aW (uv 0) aJ) aB)))))))) ?_
 rintro us M Q ⟨u,b,rfl,⟨hp,h⟩,hP,q⟩
 refine ⟨rfl,?_⟩
 have neX:∀ (i j:Int) (M:aF) (Q:UK),kK true (.int i) (.int j) M Q=Q (.bl (!decide (i=j))) M:=fun i j M Q=>rfl
 refine aO fun V1 hV1=>?_
 refine bU fun A B hA hB=>?_
 rcases h with ⟨n2,rfl⟩ | ⟨c,t,rfl,h⟩
 ·have fls:A M:=by
   subst hA
   dsimp! only [bI,aG,aK,aE]
   exact aL q
  cases u with
  | tup us =>
   have hl:decide ((us.length:Int)=2)=false:=decide_eq_false fun z=>by
    have z:us.length=2:=by omega
    match us,z with
    | [c,t],_=>exact n2 c t rfl
   dsimp! only [neX,hl,aG,aK,aE]
   exact fls
  | ref a=>exact hp.1.elim
  | ty a=>exact hp.1.elim
  | dic a b c=>exact hp.1.elim
  | _=>dsimp! only [aG,aK,aE];exact fls
 ·have d2:decide (((0 + 1 + 1:Nat):Int)=2)=true:=rfl
  dsimp! only [neX,d2,aG,aK,aE]
  subst hB
  simp only [bL]
  subst hV1
  dsimp! only [bI,aG,aK,aE]
  refine ⟨c,rfl,jV hp (by simp),?_⟩
  rcases h with ⟨hc,rfl⟩ | ⟨cs,rfl,hc,hs,ht⟩
  ·dsimp! only [hc,aG,aK,aE]
   exact aL q
  ·dsimp! only [hc,aG,aK,aE]
   exact ⟨t,cs,b,rfl,ht,hs,hP,aL q⟩
def Xa:Pt->List Nat->Option Pt
 | p,[]=>some p
 | p,k :: w=>match p.parts[k]? with
  | some a=>Xa a w
  | none=>none
def Xp:Pt->Bool
 | .turn _=>true
 | .two _ _ _=>true
 | _=>false
def gP:Pt->G
 | .turn a=>.turn (gP a)
 | .two o a b=>.two o (gP a) (gP b)
 | p=>.leaf p.toU true
theorem DI:∀ p:Pt,(gP p).toU=p.toU
 | .turn a=>by simp only [gP,G.toU,Pt.toU,DI a]
 | .two o a b=>by simp only [gP,G.toU,Pt.toU,DI a,DI b]
 | .hole _=>rfl
 | .any=>rfl
 | .fr _ _=>rfl
def pN (n:Nat) (u:U):Prop:=pl u/\lay u n
def CO (n:Nat) (us:List U):Prop:=Fs us/\Ou us n
theorem sQ {n:Nat}:CO n []:=⟨trivial,[],rfl,rfl,Nat.zero_le _⟩
theorem gC {n:Nat} {u:U} {us:List U} (h:pN n u) (g:CO n us):CO n (u :: us):=by
 obtain ⟨h1,d,e1,e2,e3⟩:=h
 obtain ⟨g1,ds,f1,f2,f3⟩:=g
 refine ⟨⟨h1,g1⟩,d :: ds,by simp only [dR,e1,f1],by simp only [PyData.canLayAll0,e2,f2];rfl,by simp only [PyData.depthAll];omega⟩
theorem pT {n:Nat} {us:List U} (h:CO n us) (hl:us.length<=1000):pN (n + 1) (.tup us):=by
 obtain ⟨g1,ds,f1,f2,f3⟩:=h
 exact ⟨⟨hl,g1⟩,.tuple ds,by simp only [toD,f1,Option.map_some],by simp only [PyData.canLay0];exact f2,by simp only [PyData.depth];omega⟩
theorem pI {n:Nat} {i:Int}:pN n (.int i):=⟨trivial,_,rfl,rfl,Nat.zero_le _⟩
theorem pS {n:Nat} {z:Str} (h:PyData.strOk z=true) (hl:z.length<=1000):pN n (.str z):=⟨⟨h,hl⟩,_,rfl,(by simp only [PyData.canLay0];exact h),Nat.zero_le _⟩
theorem pN.mono {n m:Nat} {u:U} (h:pN n u) (hm:n<=m):pN m u:=let ⟨a,d,b,c,e⟩:=h;⟨a,d,b,c,Nat.le_trans e hm⟩
theorem pN.plain {n:Nat} {u:U} (h:pN n u) (hn:n<=60):plain u:=h.mono hn
theorem pP {cs:List Str}:∀ {p:Pt},p.ok->p.sm cs->pN p.dep p.toU
 | .hole c,h,k=>pT (gC (pS (by decide +kernel) (by decide +kernel)) (gC (pS h (by have:=k.1;omega)) sQ)) (by simp)
 | .any,h,k=>pT (gC (pS (by decide +kernel) (by decide +kernel)) sQ) (by simp)
 | .fr l u,h,k=>pT (gC (pS (by decide +kernel) (by decide +kernel)) (gC pI (gC pI sQ))) (by simp)
 | .turn a,h,k=>pT (gC (pS (by decide +kernel) (by decide +kernel)) (gC (pP (p:=a) h k) sQ)) (by simp)
 | .two o a b,h,k=>pT (gC (pS (by cases o <;> decide +kernel) (by cases o <;> decide +kernel)) (gC ((pP (p:=a) h.1 k.1).mono (Nat.le_max_left _ _)) (gC ((pP (p:=b) h.2 k.2).mono (Nat.le_max_right _ _)) sQ))) (by simp)
theorem zQ {z:Str} {r:List U} (h:bX cO z=none):Bq (.tup (.str z :: r))=false:=by simp only [Bq,h]
theorem Be {cs:List Str}:∀ {p:Pt},p.ok->p.sm cs->p.dep<=50->(gP p).wf (LP cs)
 | .hole c,h,k,_=>⟨(pP (p:=.hole c) h k).plain (by simp [Pt.dep]),zQ (by decide +kernel),by
   have:c∈cs:=k.2
   show true=jG cs (.tup [.str (Str.ofString "at"),.str c])
   simp only [jG,if_true,xR]
   exact (by simpa using this:cs.contains c=true).symm⟩
 | .any,h,k,_=>⟨(pP (cs:=cs) (p:=.any) h k).plain (by decide),zQ (by decide +kernel),by
   have h1:Str.ofString "any"≠Str.ofString "at":=by decide +kernel
   have h2:Str.ofString "any"≠Str.ofString "from":=by decide +kernel
   show true=jG cs (.tup [.str (Str.ofString "any")])
   simp only [jG,h1,h2,if_false,decide_true]
   rfl⟩
 | .fr l u,h,k,_=>⟨(pP (p:=.fr l u) h k).plain (by simp [Pt.dep]),zQ (by decide +kernel),by
   have h1:0<=l:=h.1
   have h2:l<=u:=h.2
   have h3:u<=10 ^ 18:=k
   have hne:Str.ofString "from"≠Str.ofString "at":=by decide +kernel
   show true=jG cs (.tup [.str (Str.ofString "from"),.int l,.int u])
   simp only [jG,hne,if_true,if_false,tX]
   have a1:decide (0<=l)=true:=decide_eq_true h1
   have a2:decide (l<=1000000000000000000)=true:=decide_eq_true (by omega)
   have a3:decide (0<=u)=true:=decide_eq_true (by omega)
   have a4:decide (u<=1000000000000000000)=true:=decide_eq_true (by omega)
   have a5:decide (l<=u)=true:=decide_eq_true h2
   rw [a1,a2,a3,a4,a5];rfl⟩
 | .turn a,h,k,hd=>Be (p:=a) h k (by simp only [Pt.dep] at hd;omega)
 | .two o a b,h,k,hd=>⟨Be (p:=a) h.1 k.1 (by simp only [Pt.dep] at hd;omega),Be (p:=b) h.2 k.2 (by simp only [Pt.dep] at hd;omega)⟩
theorem Qu {cs:List Str} {p:Pt} {c:Str} (h:p.toU=.tup [.str (Str.ofString "at"),.str c]):p=.hole c:=by
 cases p with
 | hole d=>simp only [Pt.toU,U.tup.injEq,List.cons.injEq,U.str.injEq,and_true,true_and] at h;rw [h]
 | any=>simp [Pt.toU] at h
 | fr l u=>simp [Pt.toU] at h
 | turn a =>
  simp only [Pt.toU,U.tup.injEq,List.cons.injEq,U.str.injEq] at h
  exact absurd h.1 (by decide +kernel)
 | two o a b=>simp [Pt.toU] at h
theorem Cf {p:Pt} {c:Str} (h:p≠.hole c):nK p.toU (.str c)=true:=by
 unfold nK
 split
 ·rename_i z d y e1 e2
  cases e2
  cases hz:decide (z=Str.ofString "at") && decide (d=c) with
  | false=>rfl
  | true =>
   rw [Bool.and_eq_true] at hz
   have h1:=of_decide_eq_true hz.1
   have h2:=of_decide_eq_true hz.2
   subst h1;subst h2
   exact (h (Qu (cs:=[]) e1)).elim
 ·rfl
theorem yR:∀ p:Pt,(gP p).fit=true
 | .turn a=>by simp only [gP,G.fit];exact yR a
 | .two o a b=>by simp only [gP,G.fit,yR a,yR b];rfl
 | .hole _=>rfl
 | .any=>rfl
 | .fr _ _=>rfl
theorem uN:∀ p:Pt,(gP p).size=p.size/\(gP p).dep=p.dep/\(gP p).holes=p.holes
 | .turn a=>by obtain ⟨a1,a2,a3⟩:=uN a;simp only [gP,G.size,G.dep,G.holes,Pt.size,Pt.dep,Pt.holes,a1,a2,a3];exact ⟨trivial,trivial,trivial⟩
 | .two o a b=>by obtain ⟨a1,a2,a3⟩:=uN a;obtain ⟨b1,b2,b3⟩:=uN b;simp only [gP,G.size,G.dep,G.holes,Pt.size,Pt.dep,Pt.holes,a1,a2,a3,b1,b2,b3];exact ⟨trivial,trivial,trivial⟩
 | .hole c=>⟨rfl,rfl,by simp [gP,G.holes,isAt,Pt.toU,Pt.holes]⟩
 | .any=>⟨rfl,rfl,by
   have:Str.ofString "any"≠Str.ofString "at":=by decide +kernel
   simp [gP,G.holes,isAt,Pt.toU,Pt.holes,this]⟩
 | .fr l u=>⟨rfl,rfl,by
   have:Str.ofString "from"≠Str.ofString "at":=by decide +kernel
   simp [gP,G.holes,isAt,Pt.toU,Pt.holes,this]⟩
theorem Ea {cs:List Str} (hc:qE cs) {t:Tl} (ht:t.ok cs):pN 20 t.toU :=
 (pT (n:=6) (gC (pS ht.no (by have:=ht.nm;omega)) (gC (pS (hc.ok.2.2 _ ht.ci).1 (by have:=ht.cl;omega)) (gC ((pP ht.pt.ok ht.pt.sm).mono (by have:=ht.pt.dep;omega)) (gC pI sQ)))) (by simp)).mono (by decide)
theorem Qa {cs:List Str} (hc:qE cs) {t:Tl} (ht:t.ok cs):wD cs t.toU true:=by
 have hf:=ht.pt
 obtain ⟨s1,s2,s3⟩:=uN t.pt
 have e:=DI t.pt
 refine ⟨(Ea hc ht).plain (by decide),.inr ⟨.str t.name,.str t.cls,gP t.pt,.int t.cost,by rw [e];rfl,Be hf.ok hf.sm (by have:=hf.dep;omega),?_⟩⟩
 have h1:oV (gP t.pt)=true:=by
  unfold oV oA
  rw [yR,s1,s2,s3,decide_eq_true hf.siz,decide_eq_true hf.dep,decide_eq_true hf.hol]
  rfl
 have h2:xR cs (.str t.cls)=true:=by show cs.contains t.cls=true;simpa using ht.ci
 have h3:sI (.int t.cost)=true:=by
  simp only [sI]
  rw [decide_eq_true ht.c0,decide_eq_true ht.c1];rfl
 rw [ht.nn,h1,h2,h3,e,Cf ht.np]
 rfl
theorem qR:∀ {cs:List Str},(∀ c∈cs,PyData.strOk c=true/\c.length<=8)->∀ n,CO n (cs.map U.str)
 | [],_,n=>sQ
 | c :: cs,h,n=>gC (pS (h c List.mem_cons_self).1 (by have:=(h c List.mem_cons_self).2;omega)) (qR (fun x hx=>h x (List.mem_cons_of_mem _ hx)) n)
theorem Oh (tl:List Tl):((tl.map Tl.toU).map fun t=>match t with | .tup (.str z :: _)=>z | _=>Str.ofString "")=tl.map Tl.name:=by
 rw [List.map_map];rfl
theorem Ma (cs:List Str):(cs.map U.str).map strOf=cs:=by
 rw [List.map_map]
 conv=>rhs;rw [<- List.map_id cs]
 rfl
theorem Gx (l:List Str):Hm l=true ↔ l.Nodup:=by
 unfold Hm
 rw [decide_eq_true_eq]
 exact KC l
theorem LW {cs:List Str} (h:∀ c∈cs,isName (.str c)=true):(cs.map U.str).all isName=true:=by
 rw [List.all_map,List.all_eq_true]
 exact h
theorem AR {cs:List Str} (hc:qE cs):jI (.tup (cs.map U.str))=true:=by
 have h1:=List.length_pos_iff.mpr hc.ok.1
 have h2:=hc.ok.2.1
 simp only [jI,List.length_map,Ma]
 rw [decide_eq_true (show 1<=cs.length by omega),decide_eq_true h2,LW hc.nm,(Gx cs).mpr hc.nd]
 rfl
theorem LL {cs:List Str} (hc:qE cs) {ts:List U} {bs:List Bool} {b:Bool} (hp:CO 20 ts) (hl:ts.length<=1000) (h:Paired (wD cs) ts bs) (hb:b=(decide (1<=ts.length) && (decide (ts.length<=40) && ((bs.all fun x=>x) && Hm (ts.map fun t=>match t with | .tup (.str z :: _)=>z | _=>Str.ofString ""))))):rT (.tup [.tup (cs.map U.str),.tup ts]) b:=by
 have p1:pN 21 (.tup (cs.map U.str)):=pT (qR hc.ok.2.2 20) (by rw [List.length_map];have:=hc.ok.2.1;omega)
 have p2:pN 21 (.tup ts):=pT hp hl
 have p3:pN 22 (.tup [.tup (cs.map U.str),.tup ts]):=pT (gC p1 (gC p2 sQ)) (by simp)
 exact ⟨p3.plain (by decide),.inr ⟨_,_,rfl,.inr ⟨cs,rfl,AR hc,(fun x hx=>(hc.ok.2.2 x hx).1),p2.plain (by decide),.inr ⟨ts,bs,rfl,h,hb⟩⟩⟩⟩
def tx (s:List Nat):Str:=⟨s.toArray⟩
theorem VA (s:List Nat):(tx s).cps.toList=s:=by simp [tx]
theorem HA (z:Str):tx z.cps.toList=z:=by cases z;simp [tx]
theorem Bg {a b:List Nat}:(tx a=tx b)=(a=b):=by
 refine propext ⟨fun h=>?_,fun h=>by rw [h]⟩
 have:=congrArg (fun z:Str=>z.cps.toList) h
 simpa [VA] using this
theorem dZ {L:List Nat} {i:Nat} {c:Nat} {r:List Nat} (h:L.drop i=c :: r):L[i]?=some c/\i < L.length/\L.drop (i + 1)=r:=by
 have hl:i < L.length:=by
  have:=congrArg List.length h
  rw [List.length_drop] at this
  simp at this
  omega
 rw [List.drop_eq_getElem_cons hl] at h
 injection h with h1 h2
 exact ⟨by rw [List.getElem?_eq_getElem hl,h1],hl,h2⟩
theorem kP {L:List Nat} {i:Nat} {s r:List Nat} (h:L.drop i=s++r):L.drop (i + s.length)=r:=by
 rw [<- List.drop_drop,h,List.drop_left'];rfl
def dig (n:Nat):List Nat:=if h:n < 10 then [48 + n] else dig (n / 10)++[48 + n % 10]
termination_by n
decreasing_by omega
def val (l:List Nat):Nat:=l.foldl (fun a c=>a * 10 + (c - 48)) 0
theorem EL (l:List Nat) (c:Nat):val (l++[c])=val l * 10 + (c - 48):=by simp [val,List.foldl_append]
theorem BV (n:Nat):1<=(dig n).length:=by
 rw [dig];split
 ·simp
 ·simp
theorem yZ:∀ (n k:Nat),k<=(dig n).length->val ((dig n).take k)=n / 10 ^ ((dig n).length - k):=by
 intro n
 induction n using Nat.strongRecOn with
 | _ n ih =>
  intro k hk
  by_cases h:n < 10
  ·have e:dig n=[48 + n]:=by rw [dig,dif_pos h]
   rw [e] at hk ⊢
   simp only [List.length_cons,List.length_nil] at hk ⊢
   have:k=0\/k=1:=by omega
   rcases this with rfl | rfl
   ·simp [val];omega
   ·simp [val]
  ·have e:dig n=dig (n / 10)++[48 + n % 10]:=by rw [dig,dif_neg h]
   rw [e] at hk ⊢
   simp only [List.length_append,List.length_cons,List.length_nil] at hk ⊢
   by_cases hk2:k<=(dig (n / 10)).length
   ·rw [List.take_append_of_le_length hk2,ih (n / 10) (by omega) k hk2,Nat.div_div_eq_div_mul]
    congr 1
    rw [show (dig (n / 10)).length + (0 + 1) - k=((dig (n / 10)).length - k) + 1 by omega,Nat.pow_succ,Nat.mul_comm]
   ·have:k=(dig (n / 10)).length + 1:=by omega
    subst this
    rw [List.take_of_length_le (by simp),EL]
    have:=ih (n / 10) (by omega) _ (Nat.le_refl _)
    rw [List.take_length,Nat.sub_self] at this
    rw [this]
    simp
    omega
theorem KZ:∀ n:Nat,1<=n->10 ^ ((dig n).length - 1)<=n:=by
 intro n
 induction n using Nat.strongRecOn with
 | _ n ih =>
  intro h1
  by_cases h:n < 10
  ·have e:dig n=[48 + n]:=by rw [dig,dif_pos h]
   rw [e];simpa using h1
  ·have e:dig n=dig (n / 10)++[48 + n % 10]:=by rw [dig,dif_neg h]
   rw [e]
   simp only [List.length_append,List.length_cons,List.length_nil]
   have:=ih (n / 10) (by omega) (by omega)
   have hp:=BV (n / 10)
   rw [show (dig (n / 10)).length + (0 + 1) - 1=((dig (n / 10)).length - 1) + 1 by omega,Nat.pow_succ]
   omega
theorem oF:∀ n:Nat,∀ c∈dig n,48<=c/\c<=57:=by
 intro n
 induction n using Nat.strongRecOn with
 | _ n ih =>
  intro c hc
  by_cases h:n < 10
  ·have e:dig n=[48 + n]:=by rw [dig,dif_pos h]
   rw [e] at hc
   cases List.mem_singleton.mp hc
   omega
  ·have e:dig n=dig (n / 10)++[48 + n % 10]:=by rw [dig,dif_neg h]
   rw [e] at hc
   rcases List.mem_append.mp hc with hc | hc
   ·exact ih (n / 10) (by omega) c hc
   ·cases List.mem_singleton.mp hc
    omega
theorem Io:∀ n:Nat,(Nat.toDigits 10 n).map Char.toNat=dig n:=by
 intro n
 have hd:∀ k:Fin 10,(Nat.digitChar k.val).toNat=48 + k.val:=by decide
 induction n using Nat.strongRecOn with
 | _ n ih =>
  by_cases h:n < 10
  ·rw [Nat.toDigits_of_lt_base h,dig,dif_pos h]
   have:=hd ⟨n,h⟩
   simp only [List.map_cons,List.map_nil]
   rw [this]
  ·rw [Nat.toDigits_of_base_le (by decide) (by omega),dig,dif_neg h,List.map_append,ih (n / 10) (by omega)]
   have:=hd ⟨n % 10,by omega⟩
   simp only [List.map_cons,List.map_nil]
   rw [this]
theorem yS {n:Int} (h:0<=n):(Str.ofString (toString n)).cps.toList=dig n.toNat:=by
 obtain ⟨k,rfl⟩:∃ k:Nat,n=k:=⟨n.toNat,by omega⟩
 rw [Str.ofString_eq_toList]
 have e:(toString (k:Int)).toList=Nat.toDigits 10 k:=by
  show (toString k).toList=_
  rw [show toString k=k.repr from rfl,Nat.toList_repr]
 rw [e]
 simp only [Int.toNat_natCast]
 rw [<- Io]
theorem aU {t u:gH} {De:mH} {E:Aq} {τ:SU} {M:aF} (h:∀ V,V=u De E->t { De with nx:=V } E τ M):DD t u De E τ M:=h _ rfl
theorem iM {c:UT} {t u:gH} {De:mH} {E:Aq} {τ:SU} {M:aF} (h:∀ A B:aF->Prop,A=t De E τ->B=u De E τ->c τ M fun b M1=>if b=true then A M1 else B M1):Sb c t u De E τ M:=h _ _ rfl rfl
theorem SI {Q:UK} {v:U} {M:aF} {p:Addr} {o o':MO} (h:M p=some o) (q:Q v (mup M p o')):iG Q v (mup M p o'):=aL q
theorem pX (z:Str):z.cps.toList.length=z.length:=by simp [Str.length]
theorem OC (i j len:Nat):Builtin.Str.strSliceIndices (some (i:Int)) (some (j:Int)) 1 len=Builtin.Str.strSliceIndices (some ((min i len:Nat):Int)) (some ((min j len:Nat):Int)) 1 len:=by
 unfold Builtin.Str.strSliceIndices
 have h1:∀ k:Nat,max (0:Int) (min (if ((k:Nat):Int) < 0 then ((k:Nat):Int) + (len:Int) else ((k:Nat):Int)) (len:Int))=max (0:Int) (min (if ((min k len:Nat):Int) < 0 then ((min k len:Nat):Int) + (len:Int) else ((min k len:Nat):Int)) (len:Int)):=fun k=>by
  rw [if_neg (by omega),if_neg (by omega)];omega
 simp only [show ((1:Int) > 0)=True by decide,if_true,h1 i,h1 j]
theorem Ia (z:Str) {i j:Nat} (h:i<=j):Txt.slice z (some (i:Int)) (some (j:Int))=tx ((z.cps.toList.drop i).take (j - i)):=by
 have hl:=pX z
 have e:=PySem.StrLaws.sliced_plain z (a:=min i z.length) (b:=min j z.length) (by omega) (by omega)
 have e0:(z.cps.toList.drop (min i z.length)).take (min j z.length - min i z.length)=(z.cps.toList.drop i).take (j - i):=by
  by_cases hi:i<=z.length
  ·rw [Nat.min_eq_left hi]
   by_cases hj:j<=z.length
   ·rw [Nat.min_eq_left hj]
   ·rw [Nat.min_eq_right (by omega),List.take_of_length_le (by rw [List.length_drop];omega),List.take_of_length_le (by rw [List.length_drop];omega)]
  ·rw [List.drop_eq_nil_of_le (by omega:z.cps.toList.length<=i),List.take_nil]
   have:min j z.length - min i z.length=0:=by omega
   rw [this,List.take_zero]
 unfold Txt.slice
 rw [OC i j z.length]
 split
 ·rename_i hc
  have hc':(Builtin.Str.strSliceIndices (some ((min i z.length:Nat):Int)) (some ((min j z.length:Nat):Int)) 1 z.length).length=z.length:=by simpa using hc
  rw [PySem.StrLaws.strSliceIndices_plain (by omega) (by omega)] at hc'
  simp only [List.length_map,List.length_range] at hc'
  rw [<- e0,List.take_of_length_le (by rw [List.length_drop];omega)]
  by_cases h0:z.length=0
  ·have:z.cps.toList=[]:=List.length_eq_zero_iff.mp (by omega)
   rw [this,List.drop_nil,<- HA z,this]
  ·have:min i z.length=0:=by omega
   rw [this,List.drop_zero,HA]
 ·rw [e,e0];rfl
theorem take1 (L:List Nat) (i:Nat):(L.drop i).take 1=L[i]?.toList:=by
 cases h:L[i]? with
 | none=>rw [List.drop_eq_nil_of_le (List.getElem?_eq_none_iff.mp h)];rfl
 | some c =>
  obtain ⟨hi,e⟩:=List.getElem?_eq_some_iff.mp h
  rw [List.drop_eq_getElem_cons hi,e];rfl
theorem uZ (L:List Nat) (i c:Nat):decide (tx ((L.drop i).take 1)=tx [c])=decide (L[i]?=some c):=by
 refine decide_eq_decide.mpr ?_
 rw [take1]
 cases L[i]? with
 | none=>simp [tx]
 | some x=>simp [tx]
theorem Jo (z:Str) (i:Nat):Txt.slice z (some (i:Int)) (some ((i:Int) + 1))=tx ((z.cps.toList.drop i).take 1):=by
 have:=Ia z (i:=i) (j:=i + 1) (by omega)
 rw [show i + 1 - i=1 by omega] at this
 exact this
def Ct:Str:="0123456789"
def condT (v:V):Prop:=∃ i:Nat,v=.int (i:Int)/\i<=1000000
def Aj (i:Nat):List (Str × U):=[(Str.ofString "at",.int (i:Int))]
theorem zR {i:Nat} (h:i<=1000000):∃ v,U2.kM (.int (i:Int))=some v/\condT v:=⟨_,rfl,i,rfl,h⟩
def zP (N:Addr):jL:=fun us M Q E=>∃ (z:Str) (i c:Nat),us=[.str z,.int (i:Int),.str (tx [c])]/\z.length<=100000/\i<=200000/\(if z.cps.toList[i]?=some c then Q .non M else E N (Aj i) M)
local macro_rules | `(tactic| simp! only [$xs,*] $[$l]?) => `(tactic| simp only [$xs,*, Bool.false_eq_true, Bool.not_false, Bool.not_true, List.append_nil, List.cons_append, List.getElem?_cons_succ, List.getElem?_cons_zero, List.length_cons, List.length_nil, List.map_cons, List.map_nil, List.nil_append, List.replicate, List.set_cons_succ, List.set_cons_zero, Nat.add_sub_cancel, Nat.reduceAdd, Nat.reduceLeDiff, Nat.reduceSub, Nat.sub_self, Option.getD_some, Option.some.injEq, and_true, yF, CI, at2, DN, wK, Fx, pD, vX, oY, qH, vS, Au, AA, lZ, DT, CT, CB, EH, eO, decide_false, decide_true, uM, tY, exists_eq_left', if_false, if_true, xI, eQ, dE, dC, dS, dD, dP, cU, fR, fT, hZ, fN, h7, eX, fW, fQ, gW, fM, gX, eU, gT, gY, i8, iE, jC, gB, fP, fX, iD, fO, iB, eY, gZ, hW, i7, gU, jB, fS, eV, eZ, fY, eS, gA, eJ, items, jS, rR, kA, tT, xT, kZ, gR, bO, reduceCtorEq, dH, KP, true_and, wQ, oQ, o7, u5, lD, Ao, vJ, uC, sM, qN, pF, mC, lL, aG, aE, AE, uI, rS, BF, tS, qS, tD, vI, wU, xX, AJ, oP, lI, vO, vG, qM, gF, Bk, wY, qP, qO, vN, rE, m9, wV, vW, D0, jR, aK, Al, A9, zT, Ba, yG, yC, yW, uW, yO, yT] $[$l]?)
theorem MD {N:Addr} (F:cE K "need_sign" "need_sign" j9 f fd) (hm:mg "need_sign"=some (.ref f)) (X_NoText:qD P w K mg base 1 "NoText" N "at" condT):bY P w K mg base 3 "need_sign" (zP N) []:=by
 refine eD F hm Ef (Su fun _ _ _ _ _ _ _ _ _=>rfl) (fun us M Q E h=>by obtain ⟨_,_,_,rfl,_⟩:=h;rfl) (cF (mG (bW tG (lW (own:=false) (uv 0) (eA (uv 1)) (eA (aQ (own:=false) (uv 1) aJ))) (uv 2))
 (cF (i6 X_NoText (uv 1)))
 (kY bA))) ?_
 rintro us M Q E ⟨z,i,c,rfl,hz,hi,q⟩
 refine iM fun A B hA hB=>?_
 simp! only [Jo,uZ]
 refine ⟨small hz,?_⟩
 by_cases h:z.cps.toList[i]?=some c
 ·rw [if_pos h] at q
  rw [decide_eq_true h]
  subst hB
  simp! only [bL]
  exact aL q
 ·rw [if_neg h] at q
  rw [decide_eq_false h]
  subst hA
  simp! only [lA]
  exact ⟨zR (by omega),M,Sub.refl M,q⟩
def GR:Nat:=1000000000000000000
def jN (v k:Nat):List Nat->Nat × Nat
 | []=>(v,k)
 | c :: r=>if 48<=c/\c<=57 then (if v * 10 + (c - 48) > GR\/(v=0/\0 < k) then (v,k) else jN (v * 10 + (c - 48)) (k + 1) r) else (v,k)
def jW (L:List Nat) (i:Nat):Except Nat (Nat × Nat):=if (jN 0 0 (L.drop i)).2=0 then .error i else .ok ((jN 0 0 (L.drop i)).1,i + (jN 0 0 (L.drop i)).2)
def Ez (N:Addr):jL:=fun us M Q E=>∃ (z:Str) (i:Nat),us=[.str z,.int (i:Int)]/\z.length<=100000/\i<=200000/\(match jW z.cps.toList i with
 | .ok (v,j)=>Q (.tup [.int (v:Int),.int (j:Int)]) M
 | .error k=>E N (Aj k) M)
theorem R3 (c:Nat):decide (c∈Ct.cps.toList)=decide (48<=c/\c<=57):=by
 have:Ct.cps.toList=[48,49,50,51,52,53,54,55,56,57]:=by decide +kernel
 rw [this]
 refine decide_eq_decide.mpr ?_
 simp only [List.mem_cons,List.not_mem_nil,or_false]
 omega
theorem Sv (c:Nat):(!(Builtin.Str.occurrences Ct ⟨#[c]⟩ 0 Ct.length 1).isEmpty)=decide (48<=c/\c<=57):=by rw [PySem.StrLaws.found_one,R3]
theorem OU {c:Nat} (h:48<=c/\c<=57):findF Ct ⟨#[c]⟩=((c - 48:Nat):Int):=by
 have:∀ k:Fin 10,findF Ct ⟨#[48 + k.val]⟩=(k.val:Int):=by decide +kernel
 have:=this ⟨c - 48,by omega⟩
 simp only at this
 rw [show 48 + (c - 48)=c by omega] at this
 exact this
theorem DM {L:List Nat} {i c:Nat} (h:L[i]?=some c):iT L (i:Int)=some c:=by
 have hl:=(List.getElem?_eq_some_iff.mp h).1
 unfold iT w9
 rw [if_pos (by omega),if_pos (by omega)]
 simpa using h
theorem L0 {v:Int} (h1:-1000000000000000000<=v) (h2:v<=1000000000000000000):Builtin.Int.intBits v<=60:=PySem.intBits_le_iff.mpr (by omega)
theorem NQ {i j:Int} (h1:-1000000000000000000<=i) (h2:i<=1000000000000000000) (h3:-1000000000000000000<=j) (h4:j<=1000000000000000000):vK i j:=.inr ⟨Nat.le_trans (L0 h1 h2) (by decide),Nat.le_trans (L0 h3 h4) (by decide)⟩
theorem P5 {N:Addr} {t1 t2:Tok} (F:cE K "read_number" "read_number" iL f fd) (hm:mg "read_number"=some (.ref f)) (bH:mg "len"=none) (lP:mg "GREATEST"=some (.int 1000000000000000000 t1)) (sY:mg "FIGURES"=some (.str Ct t2)) (X_NoText:qD P w K mg base 1 "NoText" N "at" condT):bY P w K mg base 3 "read_number" (Ez N) []:=by
 refine eD F hm gO (n8 fun _ _ _ _ _ _ _ _=>rfl) (fun us M Q E h=>by obtain ⟨_,_,rfl,_⟩:=h;rfl) (aZ (cG (aT 2 gO.nd aJ))
 (aZ (cG (aT 3 gO.nd (uv 1)))
 (aZ (cG (vR (jU.pt (yM (bW sN (uv 3) (cJ eP bH (aA (uv 0) aB))) (zB (bW HV (aW (uv 0) (uv 3)) (A6 sY)))))
 (aH (aT 4 gO.nd (aQ (own:=false) (BU (own:=false) (uv 2) aJ) (QR (A6 sY) (aA (aW (uv 0) (uv 3)) aB))))
 (aH (cA (jU.pt (jH (bW DV (uv 4) (lY lP)) (iY (jU.pt (yM (bW cI (uv 2) aJ) (zB (bW DV (uv 3) (uv 1))))))))
 (aM NC)
 bA)
 (aH (aT 2 gO.nd (uv 4))
 (aM (aT 3 gO.nd (aQ (own:=false) (uv 3) aJ))))))))
 (aZ (mG (bW cI (uv 3) (uv 1))
 (cF (i6 X_NoText (uv 1)))
 (kY bA))
 (cF (cG (aR (bD (aA (uv 2) (aA (uv 3) aB)))))))))) ?_
 rintro us M Q E ⟨z,i,rfl,hz,hi,q⟩
 have hL:=pX z
 refine aU fun V1 hV1=>?_
 simp! only [bJ,hName]
 subst hV1
 refine aU fun V2 hV2=>?_
 simp! only [bJ,hName]
 subst hV2
 refine aU fun V3 hV3=>?_
 simp only [Al]
 refine mJ (fun τ M'=>∃ (k v:Nat) (e:Option U),τ=[some (.str z),some (.int (i:Int)),some (.int (v:Int)),some (.int ((i + k:Nat):Int)),e]/\M'=M/\v<=GR/\jN v k (z.cps.toList.drop (i + k))=jN 0 0 (z.cps.toList.drop i)) (fun τ _=>match τ with | [_,_,_,some (.int e),_]=>z.length - e.toNat | _=>0) ⟨0,0,none,rfl,rfl,by decide,rfl⟩ ?_
 rintro τ M' ⟨k,v,e,rfl,rfl,hv,hn⟩
 have fin:∀ (e:Option U),jN 0 0 (z.cps.toList.drop i)=(v,k)->V3 [some (U.str z),some (U.int (i:Int)),some (U.int (v:Int)),some (U.int ((i + k:Nat):Int)),e] M':=fun e he=>by
  subst hV3
  refine aU fun V4 hV4=>?_
  refine iM fun A B hA hB=>?_
  simp! only [true_and]
  unfold jW at q
  rw [he] at q
  by_cases hk:k=0
  ·rw [decide_eq_true (by omega),if_pos rfl]
   rw [if_pos hk] at q
   subst hA
   simp! only [lA]
   exact ⟨zR (by omega),M',Sub.refl M',q⟩
  ·rw [decide_eq_false (by omega),if_neg (by simp)]
   rw [if_neg hk] at q
   subst hB
   simp! only [bL]
   subst hV4
   simp! only [bI]
   exact aL q
 simp! only [true_and]
 refine ⟨small hz,?_⟩
 cases hd:z.cps.toList.drop (i + k) with
 | nil =>
  rw [hd] at hn
  have hlt:z.cps.toList.length<=i + k:=List.drop_eq_nil_iff.mp hd
  rw [if_neg (fun e=>by have:=of_decide_eq_true e;omega)]
  exact fin e hn.symm
 | cons c r =>
  obtain ⟨a1,a2,a3⟩:=dZ hd
  rw [hd] at hn
  rw [if_pos (decide_eq_true (by omega))]
  refine ⟨small hz,c,DM a1,?_⟩
  rw [Sv]
  by_cases hc:48<=c/\c<=57
  ·rw [decide_eq_true hc,if_pos rfl]
   simp only [jN,if_pos hc] at hn
   refine aO fun V4 hV4=>?_
   have hG:(GR:Nat)=1000000000000000000:=rfl
   simp! only [bJ,hName,xV,DC,E9]
   refine ⟨NQ (by omega) (by omega) (by decide) (by decide),⟨_,rfl⟩,small hz,_,DM a1,?_⟩
   rw [OU hc]
   have ev:((v:Int) * 10 + ((c - 48:Nat):Int))=((v * 10 + (c - 48):Nat):Int):=by omega
   rw [ev]
   generalize hx:v * 10 + (c - 48)=x at hn
   subst hV4
   refine aO fun V5 hV5=>?_
   refine bU fun A B hA hB=>?_
   simp! only [true_and]
   by_cases hstop:x > GR\/(v=0/\0 < k)
   ·rw [if_pos hstop] at hn
    have hA':A M':=by
     subst hA
     simp! only [nO]
     exact fin _ hn.symm
    refine qB (fun _=>hA') (fun b1=>qB (fun _=>qB (fun _=>hA') fun b3=>?_) fun b2=>?_)
    ·have h1:¬ ((1000000000000000000:Int) < (x:Int)):=fun z=>b1 (decide_eq_true z)
     have h3:¬ ((i:Int) < ((i + k:Nat):Int)):=fun z=>b3 (decide_eq_true z)
     omega
    ·have h1:¬ ((1000000000000000000:Int) < (x:Int)):=fun z=>b1 (decide_eq_true z)
     have h2:¬ ((v:Int)=0):=fun z=>b2 (decide_eq_true z)
     omega
   ·rw [if_neg hstop] at hn
    have hB':B M':=by
     subst hB
     simp only [bL]
     subst hV5
     simp! only [tV,bJ,hName]
     refine ⟨⟨k + 1,x,some (.int (x:Int)),by rw [show (((i + k:Nat):Int) + 1)=((i + (k + 1):Nat):Int) by omega],by omega,?_⟩,by omega⟩
     rw [show i + (k + 1)=i + k + 1 by omega,a3]
     exact hn
    refine qB (fun b1=>?_) (fun _=>qB (fun b2=>qB (fun b3=>?_) fun _=>hB') fun _=>hB')
    ·have:=of_decide_eq_true b1
     omega
    ·have h2:=of_decide_eq_true b2
     have h3:=of_decide_eq_true b3
     omega
  ·rw [decide_eq_false hc,if_neg (by simp)]
   simp only [jN,if_neg hc] at hn
   exact fin e hn.symm
def qI:Nat->List Nat->Nat
 | 0,_=>0
 | _,[]=>0
 | n + 1,c :: r=>if 97<=c/\c<=122 then qI n r + 1 else 0
theorem Mr:∀ (n:Nat) (l:List Nat),qI n l<=n/\qI n l<=l.length
 | 0,l=>⟨Nat.le_refl _,Nat.zero_le _⟩
 | n + 1,[]=>⟨Nat.zero_le _,Nat.le_refl _⟩
 | n + 1,c :: r=>by
  have:=Mr n r
  simp only [qI,List.length_cons]
  split <;> omega
theorem Qz (c:Nat):decide (c∈xM.cps.toList)=decide (97<=c/\c<=122):=by
 have:xM.cps.toList=[97,98,99,100,101,102,103,104,105,106,107,108,109,110,111,112,113,114,115,116,117,118,119,120,121,122]:=by decide +kernel
 rw [this]
 refine decide_eq_decide.mpr ?_
 simp only [List.mem_cons,List.not_mem_nil,or_false]
 omega
theorem Ln (c:Nat):(!(Builtin.Str.occurrences xM ⟨#[c]⟩ 0 xM.length 1).isEmpty)=decide (97<=c/\c<=122):=by rw [PySem.StrLaws.found_one,Qz]
def KJ:cH:=fun us M Q=>∃ (z:Str) (i:Nat),us=[.str z,.int (i:Int)]/\z.length<=100000/\Q (.int ((i + qI 8 (z.cps.toList.drop i):Nat):Int)) M
theorem QD {t1 t2:Tok} (F:cE K "end_of_name" "end_of_name" iN f fd) (hm:mg "end_of_name"=some (.ref f)) (bH:mg "len"=none) (gS:mg "LONGEST_NAME"=some (.int 8 t1)) (mR:mg "LETTERS"=some (.str xM t2)):Callee P w K mg base 1 "end_of_name" KJ []:=by
 refine cD F hm oE (n8 fun _ _ _ _ _ _ _ _=>rfl) (aH (aT 2 oE.nd (uv 1))
 (aH (vR (jU.pt (yM (bW sN (uv 2) (cJ eP bH (aA (uv 0) aB))) (yM (bW sN (uv 2) (aQ (own:=false) (uv 1) (lY gS))) (zB (bW HV (aW (uv 0) (uv 2)) (A6 mR))))))
 (aM (aT 2 oE.nd (aQ (own:=false) (uv 2) aJ))))
 (aM (aR (uv 2))))) ?_
 rintro us M Q ⟨z,i,rfl,hz,q⟩
 refine ⟨rfl,?_⟩
 have hL:=pX z
 refine aO fun V1 hV1=>?_
 simp! only [bJ,hName]
 subst hV1
 refine aO fun V2 hV2=>?_
 refine mJ (fun τ M'=>∃ k:Nat,τ=[some (.str z),some (.int (i:Int)),some (.int ((i + k:Nat):Int))]/\M'=M/\k<=8/\k + qI (8 - k) (z.cps.toList.drop (i + k))=qI 8 (z.cps.toList.drop i)) (fun τ _=>match τ with | [_,_,some (.int e)]=>i + 8 - e.toNat | _=>0) ⟨0,rfl,rfl,by decide,by rw [Nat.zero_add,Nat.add_zero]⟩ ?_
 rintro τ M' ⟨k,rfl,rfl,hk,hn⟩
 have fin:qI (8 - k) (z.cps.toList.drop (i + k))=0->V2 [some (U.str z),some (U.int (i:Int)),some (U.int ((i + k:Nat):Int))] M':=fun h0=>by
  rw [h0] at hn
  subst hV2
  simp! only [bI]
  rw [<- hn] at q
  exact aL q
 simp! only [true_and]
 refine ⟨small hz,?_⟩
 cases hd:z.cps.toList.drop (i + k) with
 | nil =>
  have hlt:z.cps.toList.length<=i + k:=List.drop_eq_nil_iff.mp hd
  rw [if_neg (fun e=>by have:=of_decide_eq_true e;omega)]
  refine fin ?_
  rw [hd];cases (8 - k) <;> rfl
 | cons c r =>
  obtain ⟨a1,a2,a3⟩:=dZ hd
  rw [if_pos (decide_eq_true (by omega))]
  by_cases h8:k=8
  ·subst h8
   rw [if_neg (fun e=>by have:=of_decide_eq_true e;omega)]
   exact fin rfl
  ·rw [if_pos (decide_eq_true (by omega))]
   refine ⟨small hz,c,DM a1,?_⟩
   rw [Ln]
   obtain ⟨m,hm8⟩:∃ m,8 - k=m + 1:=⟨7 - k,by omega⟩
   by_cases hc:97<=c/\c<=122
   ·rw [decide_eq_true hc,if_pos rfl]
    simp! only [bJ,hName]
    refine ⟨⟨k + 1,by rw [show (((i + k:Nat):Int) + 1)=((i + (k + 1):Nat):Int) by omega],by omega,?_⟩,by omega⟩
    rw [hd,hm8] at hn
    simp only [qI,if_pos hc] at hn
    rw [show i + (k + 1)=i + k + 1 by omega,a3,show 8 - (k + 1)=m by omega]
    omega
   ·rw [decide_eq_false hc,if_neg (by simp)]
    refine fin ?_
    rw [hd,hm8]
    simp only [qI,if_neg hc]
def sT (L:List Nat) (i:Nat):Except Nat (Pt × Nat):=match jW L i with
 | .error k=>.error k
 | .ok (l,j)=>if (L.drop j).take 2=[46,46] then (match jW L (j + 2) with
  | .error k=>.error k
  | .ok (h,j2)=>.ok (.fr (l:Int) (h:Int),j2)) else .error j
theorem D4:∀ (l:List Nat) (v k:Nat),(jN v k l).2<=k + l.length
 | [],v,k=>Nat.le_refl _
 | c :: r,v,k=>by
  simp only [jN]
  split
  ·split
   ·simp
   ·have:=D4 r (v * 10 + (c - 48)) (k + 1)
    simp only [List.length_cons];omega
  ·simp
theorem vU {L:List Nat} {i v j:Nat} (h:jW L i=.ok (v,j)):i < j/\j<=L.length:=by
 unfold jW at h
 split at h
 ·cases h
 ·rename_i h0
  injection h with h
  injection h with h1 h2
  have:=D4 (L.drop i) 0 0
  rw [List.length_drop] at this
  omega
def Ke (N:Addr):jL:=fun us M Q E=>∃ (z:Str) (i:Nat),us=[.str z,.int (i:Int)]/\z.length<=100000/\i<=150000/\(match sT z.cps.toList i with
 | .ok (p,j)=>Q (.tup [p.toU,.int (j:Int)]) M
 | .error k=>E N (Aj k) M)
theorem Wg:Str.ofString ".."=tx [46,46]:=by decide +kernel
theorem Rl {N:Addr} (F:cE K "read_stretch" "read_stretch" gN f fd) (hm:mg "read_stretch"=some (.ref f)) (X_NoText:qD P w K mg base 1 "NoText" N "at" condT) (CX_read_number:bY P w K mg base 3 "read_number" (Ez N) []):bY P w K mg base 4 "read_stretch" (Ke N) []:=by
 refine eD F hm nW (n8 fun _ _ _ _ _ _ _ _=>rfl) (fun us M Q E h=>by obtain ⟨_,_,rfl,_⟩:=h;rfl) (aZ (lV 2 nW.nd (eT CX_read_number (aA (uv 0) (aA (uv 1) aB))))
 (aZ (mG (bW tG (lW (own:=false) (uv 0) (eA (aW (uv 2) aJ)) (eA (aQ (own:=false) (aW (uv 2) aJ) aJ))) b8)
 (cF (i6 X_NoText (aW (uv 2) aJ)))
 (kY bA))
 (aZ (lV 3 nW.nd (eT CX_read_number (aA (uv 0) (aA (aQ (own:=false) (aW (uv 2) aJ) aJ) aB))))
 (cF (cG (aR (bD (aA (bD (aA b8 (aA (aW (uv 2) aJ) (aA (aW (uv 3) aJ) aB)))) (aA (aW (uv 3) aJ) aB))))))))) ?_
 rintro us M Q E ⟨z,i,rfl,hz,hi,q⟩
 have hL:=pX z
 unfold sT at q
 refine aU fun V1 hV1=>?_
 simp! only [nG]
 refine ⟨z,i,rfl,hz,by omega,?_⟩
 cases hr:jW z.cps.toList i with
 | error k =>
  rw [hr] at q
  exact ⟨M,Sub.refl M,q⟩
 | ok vj =>
  obtain ⟨l,j⟩:=vj
  rw [hr] at q
  have hj:=vU hr
  dsimp only at q ⊢
  subst hV1
  refine aU fun V2 hV2=>?_
  refine iM fun A B hA hB=>?_
  have e2:(j:Int) + 2=((j + 2:Nat):Int):=by omega
  have hs:=Ia z (i:=j) (j:=j + 2) (by omega)
  rw [show j + 2 - j=2 by omega] at hs
  simp! only [e2,hs,Wg,Bg]
  refine ⟨small hz,?_⟩
  by_cases hdd:(z.cps.toList.drop j).take 2=[46,46]
  ·rw [if_pos hdd] at q
   rw [decide_eq_true hdd]
   subst hB
   simp! only [bL]
   subst hV2
   refine aU fun V3 hV3=>?_
   simp! only [nG,e2]
   refine ⟨z,j + 2,rfl,hz,by omega,?_⟩
   cases hr2:jW z.cps.toList (j + 2) with
   | error k =>
    rw [hr2] at q
    exact ⟨M,Sub.refl M,q⟩
   | ok vj2 =>
    obtain ⟨h,j2⟩:=vj2
    rw [hr2] at q
    dsimp only at q ⊢
    subst hV3
    simp! only [bI]
    exact aL q
  ·rw [if_neg hdd] at q
   rw [decide_eq_false hdd]
   subst hA
   simp! only [lA]
   exact ⟨zR (by omega),M,Sub.refl M,q⟩
def kW (L:List Nat) (i:Nat):Except Nat (Pt × Nat):=if L[i]?=some 63 then .ok (.any,i + 1) else if L[i]?=some 64 then .ok (.hole (tx ((L.drop (i + 1)).take (qI 8 (L.drop (i + 1))))),i + 1 + qI 8 (L.drop (i + 1))) else sT L i
def G7 (N:Addr):jL:=fun us M Q E=>∃ (z:Str) (i:Nat),us=[.str z,.int (i:Int)]/\z.length<=100000/\i<=150000/\(match kW z.cps.toList i with
 | .ok (p,j)=>Q (.tup [p.toU,.int (j:Int)]) M
 | .error k=>E N (Aj k) M)
theorem VL:Str.ofString "?"=tx [63]:=by decide +kernel
theorem Wd:Str.ofString "@"=tx [64]:=by decide +kernel
theorem NU {N:Addr} (F:cE K "read_leaf" "read_leaf" kF f fd) (hm:mg "read_leaf"=some (.ref f)) (C3:Callee P w K mg base 1 "end_of_name" KJ []) (CX_read_stretch:bY P w K mg base 4 "read_stretch" (Ke N) []):bY P w K mg base 5 "read_leaf" (G7 N) []:=by
 refine eD F hm rP (n8 fun _ _ _ _ _ _ _ _=>rfl) (fun us M Q E h=>by obtain ⟨_,_,rfl,_⟩:=h;rfl) (aZ (cG (aT 2 rP.nd (lW (own:=false) (uv 0) (eA (uv 1)) (eA (aQ (own:=false) (uv 1) aJ)))))
 (aZ (cG (cA (bW cI (uv 2) b8)
 (aM (aR (bD (aA (bD (aA b8 aB)) (aA (aQ (own:=false) (uv 1) aJ) aB)))))
 bA))
 (aZ (cG (cA (bW cI (uv 2) b8)
 (aH (aT 3 rP.nd (bF C3 (aA (uv 0) (aA (aQ (own:=false) (uv 1) aJ) aB))))
 (aM (aR (bD (aA (bD (aA b8 (aA (lW (own:=false) (uv 0) (eA (aQ (own:=false) (uv 1) aJ)) (eA (uv 3))) aB))) (aA (uv 3) aB))))))
 bA))
 (cF (TC (eT CX_read_stretch (aA (uv 0) (aA (uv 1) aB)))))))) ?_
 rintro us M Q E ⟨z,i,rfl,hz,hi,q⟩
 have hL:=pX z
 have e1:(i:Int) + 1=((i + 1:Nat):Int):=by omega
 unfold kW at q
 refine aU fun V1 hV1=>?_
 simp! only [bJ,hName,Jo]
 refine ⟨small hz,?_⟩
 subst hV1
 refine aU fun V2 hV2=>?_
 simp only [Al]
 refine bU fun A B hA hB=>?_
 simp! only [VL,uZ]
 by_cases h1:z.cps.toList[i]?=some 63
 ·rw [if_pos h1] at q
  rw [decide_eq_true h1,if_pos rfl]
  subst hA
  simp! only [bI,e1]
  exact aL q
 rw [if_neg h1] at q
 rw [decide_eq_false h1,if_neg (by simp)]
 subst hB
 simp only [bL]
 subst hV2
 refine aU fun V3 hV3=>?_
 simp only [Al]
 refine bU fun A B hA hB=>?_
 simp! only [Wd,uZ]
 by_cases h2:z.cps.toList[i]?=some 64
 ·rw [if_pos h2] at q
  rw [decide_eq_true h2,if_pos rfl]
  subst hA
  refine aO fun V4 hV4=>?_
  simp! only [bJ,hName,e1]
  refine ⟨z,i + 1,rfl,hz,?_⟩
  subst hV4
  have hs:=Ia z (i:=i + 1) (j:=i + 1 + qI 8 (z.cps.toList.drop (i + 1))) (by omega)
  rw [Nat.add_sub_cancel_left] at hs
  simp! only [bI,e1,hs]
  exact ⟨small hz,aL q⟩
 ·rw [if_neg h2] at q
  rw [decide_eq_false h2,if_neg (by simp)]
  subst hB
  simp only [bL]
  subst hV3
  simp! only [PL]
  refine ⟨z,i,rfl,hz,hi,?_⟩
  cases hr:sT z.cps.toList i with
  | error k =>
   rw [hr] at q
   exact ⟨M,Sub.refl M,q⟩
  | ok pj =>
   rw [hr] at q
   exact aL q
theorem Pn (z:Str) {i j k:Nat} (hj:j=i + k) (n:Nat) (hn:n=j + 1):Txt.slice z (some (j:Int)) (some (n:Int))=tx ((z.cps.toList.drop j).take 1):=by
 subst hn
 have:=Ia z (i:=j) (j:=j + 1) (by omega)
 rw [show j + 1 - j=1 by omega] at this
 exact this
def oc:Op->Nat
 | .sum=>43 | .less=>45 | .by_=>42
def D8:Option Nat->Option Op
 | some 43=>some .sum
 | some 45=>some .less
 | some 42=>some .by_
 | _=>none
def sR (L:List Nat) (i:Nat):Except Nat Op:=if L[i]?=some 32 then (match D8 L[i + 1]? with
 | none=>.error (i + 1)
 | some o=>if L[i + 2]?=some 32 then .ok o else .error (i + 2)) else .error i
def AL:List (Str × Fl):=[("+",.str "sum"),("-",.str "less"),("*",.str "by")]
theorem Ep (x:Option Nat):bX AL (tx x.toList)=(D8 x).map fun o=>Fl.str o.word:=by
 cases x with
 | none=>kernel_rfl
 | some c =>
  by_cases h1:c=43
  ·subst h1;kernel_rfl
  by_cases h2:c=45
  ·subst h2;kernel_rfl
  by_cases h3:c=42
  ·subst h3;kernel_rfl
  have e0:D8 (some c)=none:=by
   unfold D8
   split
   ·rename_i h;cases h;exact (h1 rfl).elim
   ·rename_i h;cases h;exact (h2 rfl).elim
   ·rename_i h;cases h;exact (h3 rfl).elim
   ·rfl
  rw [e0]
  have t1:("+":Str)=tx [43]:=by decide +kernel
  have t2:("-":Str)=tx [45]:=by decide +kernel
  have t3:("*":Str)=tx [42]:=by decide +kernel
  show bX AL (tx [c])=none
  simp only [AL,bX]
  rw [t1,t2,t3,if_neg,if_neg,if_neg]
  ·rw [Bg];simp;omega
  ·rw [Bg];simp;omega
  ·rw [Bg];simp;omega
theorem Jg:Str.ofString " "=tx [32]:=by decide +kernel
theorem VQ:Str.ofString "("=tx [40]:=by decide +kernel
theorem PK:Str.ofString ")"=tx [41]:=by decide +kernel
theorem VO:Str.ofString "-"=tx [45]:=by decide +kernel
def La (N:Addr):jL:=fun us M Q E=>∃ (z:Str) (i:Nat),us=[.str z,.int (i:Int)]/\z.length<=100000/\i<=150000/\(match sR z.cps.toList i with
 | .ok o=>Q (.str o.word) M
 | .error k=>E N (Aj k) M)
theorem Ra {N:Addr} (F:cE K "read_middle" "read_middle" iQ f fd) (hm:mg "read_middle"=some (.ref f)) (lC:oX P w K d AL) (lG:mg "MIDDLE_WORDS"=some (.ref d)) (X_NoText:qD P w K mg base 1 "NoText" N "at" condT) (CX_need_sign:bY P w K mg base 3 "need_sign" (zP N) []):bY P w K mg base 4 "read_middle" (La N) []:=by
 refine eD F hm t7 (n8 fun _ _ _ _ _ _ _ _=>rfl) (fun us M Q E h=>by obtain ⟨_,_,rfl,_⟩:=h;rfl) (aZ (uX (eT CX_need_sign (aA (uv 0) (aA (uv 1) (aA b8 aB)))))
 (aZ (cG (aT 2 t7.nd (lW (own:=false) (uv 0) (eA (aQ (own:=false) (uv 1) aJ)) (eA (aQ (own:=false) (uv 1) aJ)))))
 (aZ (mG (bW (HY lC) (uv 2) (uO lG))
 (cF (i6 X_NoText (aQ (own:=false) (uv 1) aJ)))
 (kY bA))
 (aZ (uX (eT CX_need_sign (aA (uv 0) (aA (aQ (own:=false) (uv 1) aJ) (aA b8 aB)))))
 (cF (cG (aR (Mf lC (uO lG) (uv 2))))))))) ?_
 rintro us M Q E ⟨z,i,rfl,hz,hi,q⟩
 have e1:(i:Int) + 1=((i + 1:Nat):Int):=by omega
 have e2:(i:Int) + 2=((i + 2:Nat):Int):=by omega
 unfold sR at q
 refine aU fun V1 hV1=>?_
 simp! only [rD,Jg]
 refine ⟨z,i,32,rfl,hz,by omega,?_⟩
 by_cases h1:z.cps.toList[i]?=some 32
 rotate_left
 ·rw [if_neg h1] at q ⊢
  exact ⟨M,Sub.refl M,q⟩
 rw [if_pos h1] at q ⊢
 subst hV1
 refine aU fun V2 hV2=>?_
 have hs:Txt.slice z (some ((i + 1:Nat):Int)) (some ((i + 2:Nat):Int))=tx z.cps.toList[i + 1]?.toList:=by rw [Pn z (i:=i) (k:=1) rfl (i + 2) rfl,take1]
 simp! only [bJ,hName,e1,e2,hs]
 refine ⟨small hz,?_⟩
 subst hV2
 refine aU fun V3 hV3=>?_
 refine iM fun A B hA hB=>?_
 simp! only [nU,Ep,Option.isSome_map]
 cases ho:D8 z.cps.toList[i + 1]? with
 | none =>
  rw [ho] at q
  rw [if_pos (by rfl)]
  subst hA
  simp! only [lA,e1]
  exact ⟨zR (by omega),M,Sub.refl M,q⟩
 | some o =>
  rw [ho] at q
  dsimp only at q
  rw [if_neg (by simp)]
  subst hB
  simp! only [bL]
  subst hV3
  refine aU fun V4 hV4=>?_
  simp! only [rD,e2,Jg]
  refine ⟨z,i + 2,32,rfl,hz,by omega,?_⟩
  by_cases h2:z.cps.toList[i + 2]?=some 32
  ·rw [if_pos h2] at q ⊢
   subst hV4
   simp! only [bI,o6,Ep,ho,Option.map_some]
   exact aL q
  ·rw [if_neg h2] at q ⊢
   exact ⟨M,Sub.refl M,q⟩
inductive Fr where
 | t | l | r (o:Op) (a:Pt)
def DG:Fr->U
 | .t=>.lst [.str (Str.ofString "turn")]
 | .l=>.lst [.str (Str.ofString "")]
 | .r o a=>.lst [.str o.word,a.toU]
def qK (c:List Fr):List U:=(c.map DG).reverse
theorem rU (f:Fr) (c:List Fr):qK (f :: c)=qK c++[DG f]:=by simp [qK]
theorem oR (c:List Fr):(qK c).length=c.length:=by simp [qK]
theorem kQ {L:List Nat} {i c:Nat} (h:L[i]?=some c):i < L.length:=(List.getElem?_eq_some_iff.mp h).1
def kT (L:List Nat) (i:Nat) (c:List Fr):Except Nat (Nat × List Fr) :=
 if h:L[i]?=some 40 then (if L[i + 1]?=some 45 then (if L[i + 2]?=some 32 then kT L (i + 3) (.t :: c) else .error (i + 2)) else kT L (i + 1) (.l :: c)) else .ok (i,c)
termination_by L.length - i
decreasing_by all_goals (have:=kQ h;omega)
def Ms (N:Addr):jL:=fun us M Q E=>∃ (z:Str) (i:Nat) (p:Addr) (c:List Fr),us=[.str z,.int (i:Int),.ref p]/\z.length<=100000/\i<=100000/\c.length<=i/\M p=some (.lst (qK c))/\(match kT z.cps.toList i c with
 | .ok (j,c')=>Q (.int (j:Int)) (mup M p (.lst (qK c')))
 | .error k=>∀ c',E N (Aj k) (mup M p (.lst (qK c'))))
theorem Lz {M:aF} {a:Addr} {o:MO} (h:M a=some o):mup M a o=M:=by
 funext b
 unfold mup
 split
 ·rename_i e;subst e;exact h.symm
 ·rfl
theorem Qk {N:Addr} (F:cE K "read_openings" "read_openings" fL f fd) (hm:mg "read_openings"=some (.ref f)) (CX_need_sign:bY P w K mg base 3 "need_sign" (zP N) []):bY P w K mg base 4 "read_openings" (Ms N) []:=by
 refine eD F hm j3 (Su fun _ _ _ _ _ _ _ _ _=>rfl) (fun us M Q E h=>by obtain ⟨_,_,_,_,rfl,_⟩:=h;rfl) (aZ (cG (aT 3 j3.nd (uv 1)))
 (aZ (AI (bW cI (lW (own:=false) (uv 0) (eA (uv 3)) (eA (aQ (own:=false) (uv 3) aJ))) b8)
 (cF (mG (bW cI (lW (own:=false) (uv 0) (eA (aQ (own:=false) (uv 3) aJ)) (eA (aQ (own:=false) (uv 3) aJ))) b8)
 (aZ (uX (eT CX_need_sign (aA (uv 0) (aA (aQ (own:=false) (uv 3) aJ) (aA b8 aB)))))
 (aZ (cG (qY (sV (uv 2) (aA (pG (own:=false) (aA b8 aB)) aB))))
 (cF (cG (aT 3 j3.nd (aQ (own:=false) (uv 3) aJ))))))
 (aZ (cG (qY (sV (uv 2) (aA (pG (own:=false) (aA b8 aB)) aB))))
 (cF (cG (aT 3 j3.nd (aQ (own:=false) (uv 3) aJ))))))))
 (cF (cG (aR (uv 3)))))) ?_
 rintro us M Q E ⟨z,i0,p,c0,rfl,hz,hi0,hc0,hM,q⟩
 have hL:=pX z
 refine aU fun V1 hV1=>?_
 simp! only [bJ,hName]
 subst hV1
 refine aU fun V2 hV2=>?_
 refine mJ (fun τ M'=>∃ (i:Nat) (c:List Fr),τ=[some (.str z),some (.int (i0:Int)),some (.ref p),some (.int (i:Int))]/\M'=mup M p (.lst (qK c))/\c.length<=i/\i<=100000/\kT z.cps.toList i c=kT z.cps.toList i0 c0) (fun τ _=>match τ with | [_,_,_,some (.int e)]=>z.length - e.toNat | _=>0) ⟨i0,c0,rfl,(Lz hM).symm,hc0,hi0,rfl⟩ ?_
 rintro τ M' ⟨i,c,rfl,rfl,hc,hi,he⟩
 have e1:(i:Int) + 1=((i + 1:Nat):Int):=by omega
 have e2:(i:Int) + 2=((i + 2:Nat):Int):=by omega
 have e3:(i:Int) + 3=((i + 3:Nat):Int):=by omega
 rw [kT] at he
 simp! only [Jo,VQ,uZ]
 refine ⟨small hz,?_⟩
 by_cases h1:z.cps.toList[i]?=some 40
 rotate_left
 ·rw [dif_neg h1] at he
  rw [decide_eq_false h1,if_neg (by simp)]
  rw [<- he] at q
  subst hV2
  simp! only [bI]
  exact SI hM q
 have hlt:=kQ h1
 rw [dif_pos h1] at he
 rw [decide_eq_true h1,if_pos rfl]
 refine iM fun A B hA hB=>?_
 have hs:Txt.slice z (some ((i + 1:Nat):Int)) (some ((i + 2:Nat):Int))=tx ((z.cps.toList.drop (i + 1)).take 1):=Pn z (i:=i) (k:=1) rfl (i + 2) rfl
 simp! only [e1,e2,hs,VO,uZ]
 refine ⟨small hz,?_⟩
 by_cases h2:z.cps.toList[i + 1]?=some 45
 ·rw [if_pos h2] at he
  rw [decide_eq_true h2,if_pos rfl]
  subst hA
  refine aU fun V3 hV3=>?_
  simp! only [rD,e2,Jg]
  refine ⟨z,i + 2,32,rfl,hz,by omega,?_⟩
  by_cases h3:z.cps.toList[i + 2]?=some 32
  ·have hlt3:=kQ h3
   rw [if_pos h3] at he ⊢
   subst hV3
   refine aU fun V4 hV4=>?_
   simp! only [mD,oR]
   refine ⟨mV,big (by omega),?_⟩
   subst hV4
   simp! only [bJ,hName,e3]
   exact ⟨⟨i + 3,.t :: c,rfl,by rw [rU];rfl,by simp only [List.length_cons];omega,by omega,he⟩,by omega⟩
  ·rw [if_neg h3] at he ⊢
   rw [<- he] at q
   exact ⟨_,Sub.refl _,q c⟩
 ·rw [if_neg h2] at he
  rw [decide_eq_false h2,if_neg (by simp)]
  subst hB
  refine aU fun V3 hV3=>?_
  simp! only [mD,oR]
  refine ⟨mV,big (by omega),?_⟩
  subst hV3
  simp! only [bJ,hName,e1]
  exact ⟨⟨i + 1,.l :: c,rfl,by rw [rU];rfl,by simp only [List.length_cons];omega,by omega,he⟩,by omega⟩
def mB (L:List Nat):Pt->Nat->List Fr->Except Nat (Option Pt × Nat × List Fr)
 | t,i,[]=>.ok (some t,i,[])
 | t,i,.l :: c=>match sR L i with
  | .error k=>.error k
  | .ok o=>.ok (none,i + 3,.r o t :: c)
 | t,i,.t :: c=>if L[i]?=some 41 then mB L (.turn t) (i + 1) c else .error i
 | t,i,.r o a :: c=>if L[i]?=some 41 then mB L (.two o a t) (i + 1) c else .error i
theorem Nd {L:List Nat} {i:Nat} {o:Op} (h:sR L i=.ok o):L[i]?=some 32/\D8 L[i + 1]?=some o/\L[i + 2]?=some 32:=by
 unfold sR at h
 split at h
 ·rename_i h1
  split at h
  ·cases h
  ·rename_i o' h2
   split at h
   ·rename_i h3;cases h;exact ⟨h1,h2,h3⟩
   ·cases h
 ·cases h
theorem ER (L:List Nat):∀ (c:List Fr) (t:Pt) (i:Nat) (r:Option Pt) (k:Nat) (c':List Fr),mB L t i c=.ok (r,k,c')->i<=k/\k<=i + c.length + 3/\c'.length<=c.length/\(r=none->i + 3<=k/\k<=L.length)
 | [],t,i,r,k,c',h=>by cases h;exact ⟨Nat.le_refl _,by simp,Nat.le_refl _,fun z=>by cases z⟩
 | .l :: c,t,i,r,k,c',h=>by
  simp only [mB] at h
  split at h
  ·cases h
  ·rename_i o ho
   cases h
   obtain ⟨_,_,h3⟩:=Nd ho
   have:=kQ h3
   exact ⟨by omega,by simp only [List.length_cons];omega,by simp,fun _=>⟨by omega,by omega⟩⟩
 | .t :: c,t,i,r,k,c',h=>by
  simp only [mB] at h
  split at h
  ·obtain ⟨a1,a2,a3,a4⟩:=ER L c _ _ _ _ _ h
   exact ⟨by omega,by simp only [List.length_cons];omega,by simp only [List.length_cons];omega,fun z=>by have:=a4 z;omega⟩
  ·cases h
 | .r o a :: c,t,i,r,k,c',h=>by
  simp only [mB] at h
  split at h
  ·obtain ⟨a1,a2,a3,a4⟩:=ER L c _ _ _ _ _ h
   exact ⟨by omega,by simp only [List.length_cons];omega,by simp only [List.length_cons];omega,fun z=>by have:=a4 z;omega⟩
  ·cases h
theorem UQ (L:List Nat):∀ (m i:Nat) (c:List Fr) (j:Nat) (c':List Fr),L.length - i<=m->kT L i c=.ok (j,c')->i<=L.length->i<=j/\j<=L.length/\c'.length + i<=c.length + j:=by
 intro m
 induction m with
 | zero =>
  intro i c j c' hm h hi
  rw [kT] at h
  split at h
  ·rename_i h1;have:=kQ h1;omega
  ·cases h;exact ⟨Nat.le_refl _,hi,Nat.le_refl _⟩
 | succ m ih =>
  intro i c j c' hm h hi
  rw [kT] at h
  split at h
  ·rename_i h1
   have:=kQ h1
   split at h
   ·split at h
    ·rename_i h3
     have:=kQ h3
     have:=ih _ _ _ _ (by omega) h (by omega)
     simp only [List.length_cons] at this
     omega
    ·cases h
   ·have:=ih _ _ _ _ (by omega) h (by omega)
    simp only [List.length_cons] at this
    omega
  ·cases h;exact ⟨Nat.le_refl _,hi,Nat.le_refl _⟩
theorem Of {L:List Nat} {i j:Nat} {p:Pt} (h:sT L i=.ok (p,j)):i < j/\j<=L.length:=by
 unfold sT at h
 split at h
 ·cases h
 ·rename_i l j1 h1
  have:=vU h1
  split at h
  ·split at h
   ·cases h
   ·rename_i h' j2 h2
    have:=vU h2
    cases h
    omega
  ·cases h
theorem Mq {L:List Nat} {i j:Nat} {p:Pt} (h:kW L i=.ok (p,j)):i < j/\j<=L.length:=by
 unfold kW at h
 split at h
 ·rename_i h1;have:=kQ h1;cases h;omega
 ·split at h
  ·rename_i h1
   have:=kQ h1
   have:=(Mr 8 (L.drop (i + 1))).2
   rw [List.length_drop] at this
   cases h;omega
  ·exact Of h
def LK (N:Addr):jL:=fun us M Q E=>∃ (z:Str) (t:Pt) (i:Nat) (p:Addr) (c:List Fr),us=[.str z,t.toU,.int (i:Int),.ref p]/\z.length<=100000/\i<=100000/\c.length<=100000/\M p=some (.lst (qK c))/\(match mB z.cps.toList t i c with
 | .ok (some T,j,_)=>Q (.tup [T.toU,.int (j:Int)]) (mup M p (.lst []))
 | .ok (none,j,c')=>Q (.tup [.non,.int (j:Int)]) (mup M p (.lst (qK c')))
 | .error k=>∀ c',E N (Aj k) (mup M p (.lst (qK c'))))
theorem VT {α:Type} {l:List α} {a:α}:(l++[a]).getLast?=some a:=by simp
theorem VR {α:Type} {l:List α} {a:α}:(l++[a]).dropLast=l:=by simp
theorem RA {N:Addr} (F:cE K "read_behind" "read_behind" iO f fd) (hm:mg "read_behind"=some (.ref f)) (bM:mg "tuple"=none) (CX_need_sign:bY P w K mg base 3 "need_sign" (zP N) []) (CX_read_middle:bY P w K mg base 4 "read_middle" (La N) []):bY P w K mg base 5 "read_behind" (LK N) []:=by
 refine eD F hm gQ (UW fun _ _ _ _ _ _ _ _ _ _=>rfl) (fun us M Q E h=>by obtain ⟨_,_,_,_,_,rfl,_⟩:=h;rfl) (aZ (cG (aT 4 gQ.nd (uv 1)))
 (aZ (cG (aT 5 gQ.nd (uv 2)))
 (aZ (AI (cQ (uv 3))
 (aZ (cG (aT 6 gQ.nd (Ko (uv 3))))
 (aZ (mG (bW cI (aW (uv 6) aJ) b8)
 (aZ (uX (Kx (uv 3) (BY (S6 (own:=false) (BY (eT CX_read_middle (aA (uv 0) (aA (uv 5) aB))) (Jr (aA (uv 4) aB)))) (Jr aB))))
 (cF (cG (aR (bD (aA G5 (aA (aQ (own:=false) (uv 5) aJ) aB)))))))
 (kY bA))
 (aZ (uX (eT CX_need_sign (aA (uv 0) (aA (uv 5) (aA b8 aB)))))
 (aZ (cG (aT 4 gQ.nd (pZ qX bM (aA (aQ (own:=false) (uv 6) (pG (own:=false) (aA (uv 4) aB))) aB))))
 (cF (cG (aT 5 gQ.nd (aQ (own:=false) (uv 5) aJ)))))))))
 (cF (cG (aR (bD (aA (uv 4) (aA (uv 5) aB))))))))) ?_
 rintro us M Q E ⟨z,t0,i0,p,c0,rfl,hz,hi0,hc0,hM,q⟩
 have hL:=pX z
 refine aU fun V1 hV1=>?_
 simp! only [bJ,hName]
 subst hV1
 refine aU fun V2 hV2=>?_
 simp! only [bJ,hName]
 subst hV2
 refine aU fun V3 hV3=>?_
 refine mJ (fun τ M'=>∃ (i:Nat) (t:Pt) (c:List Fr) (e:Option U),τ=[some (.str z),some t0.toU,some (.int (i0:Int)),some (.ref p),some t.toU,some (.int (i:Int)),e]/\M'=mup M p (.lst (qK c))/\i<=100000/\c.length<=100000/\mB z.cps.toList t i c=mB z.cps.toList t0 i0 c0) (fun _ M'=>match M' p with | some (.lst l)=>l.length | _=>0) ⟨i0,t0,c0,none,rfl,(Lz hM).symm,hi0,hc0,rfl⟩ ?_
 rintro τ M' ⟨i,t,c,e,rfl,rfl,hic,hc,he⟩
 have e1:(i:Int) + 1=((i + 1:Nat):Int):=by omega
 have e3:(i:Int) + 3=((i + 3:Nat):Int):=by omega
 cases c with
 | nil =>
  simp only [mB] at he
  rw [<- he] at q
  simp! only [qK,List.reverse_nil,List.isEmpty_nil]
  subst hV3
  simp! only [bI]
  exact aL q
 | cons fm c =>
  simp only [List.length_cons] at hc
  have hne:(qK (fm :: c)).isEmpty=false:=by rw [rU];simp
  simp! only [hne]
  refine aU fun V4 hV4=>?_
  simp! only [bJ,hName,rU,VT,VR]
  refine ⟨mV,?_⟩
  subst hV4
  refine aU fun V5 hV5=>?_
  refine iM fun A B hA hB=>?_
  cases fm with
  | l =>
   simp! only [DG]
   subst hA
   simp only [mB] at he
   refine aU fun V6 hV6=>?_
   simp! only [rD,Uc,Fm,Pb]
   refine ⟨mV,z,i,rfl,hz,by omega,?_⟩
   cases ho:sR z.cps.toList i with
   | error k =>
    rw [ho] at he
    rw [<- he] at q
    exact ⟨_,Sub.refl _,q c⟩
   | ok o =>
    rw [ho] at he
    rw [<- he] at q
    dsimp only at q ⊢
    simp! only [oR]
    subst hV6
    rw [rU] at q
    simp! only [bI,e3]
    exact ⟨big (by omega),aL q⟩
  | t =>
   simp! only [DG,show decide (Str.ofString "turn"=Str.ofString "")=false by decide +kernel]
   subst hB
   simp only [bL,Al]
   subst hV5
   simp only [mB] at he
   refine aU fun V6 hV6=>?_
   simp! only [rD,PK]
   refine ⟨z,i,41,rfl,hz,by omega,?_⟩
   by_cases h1:z.cps.toList[i]?=some 41
   ·have hlt:=kQ h1
    rw [if_pos h1] at he ⊢
    subst hV6
    refine aU fun V7 hV7=>?_
    simp! only [bJ,hName,DG]
    subst hV7
    simp! only [bJ,hName,e1]
    exact ⟨⟨i + 1,.turn t,c,_,rfl,rfl,by omega,by omega,he⟩,by rw [oR,oR];simp⟩
   ·rw [if_neg h1] at he ⊢
    rw [<- he] at q
    exact ⟨_,Sub.refl _,q c⟩
  | r o a =>
   have hw:decide (o.word=Str.ofString "")=false:=by cases o <;> decide +kernel
   simp! only [DG,hw]
   subst hB
   simp only [bL,Al]
   subst hV5
   simp only [mB] at he
   refine aU fun V6 hV6=>?_
   simp! only [rD,PK]
   refine ⟨z,i,41,rfl,hz,by omega,?_⟩
   by_cases h1:z.cps.toList[i]?=some 41
   ·have hlt:=kQ h1
    rw [if_pos h1] at he ⊢
    subst hV6
    refine aU fun V7 hV7=>?_
    simp! only [bJ,hName,DG]
    subst hV7
    simp! only [bJ,hName,e1]
    exact ⟨⟨i + 1,.two o a t,c,_,rfl,rfl,by omega,by omega,he⟩,by rw [oR,oR];simp⟩
   ·rw [if_neg h1] at he ⊢
    rw [<- he] at q
    exact ⟨_,Sub.refl _,q c⟩
def rG (L:List Nat):Nat->Nat->List Fr->Except Nat Pt
 | 0,_,_=>.error 0
 | n + 1,i,c=>match kT L i c with
  | .error k=>.error k
  | .ok (i1,c1)=>match kW L i1 with
   | .error k=>.error k
   | .ok (t,j)=>match mB L t j c1 with
    | .error k=>.error k
    | .ok (some T,k,_)=>if k < L.length then .error k else .ok T
    | .ok (none,k,c2)=>rG L n k c2
def dW (L:List Nat):Except Nat Pt:=rG L (L.length + 2) 0 []
def Mz (N fl:Addr):jL:=fun us M Q E=>∃ z:Str,us=[.str z,.ref fl]/\z.length<=100000/\(match dW z.cps.toList with
 | .ok T=>Q T.toU M
 | .error k=>E N (Aj k) M)
theorem QA {N:Addr} (F:cE K "read_shape" "read_shape" jK f fd) (hm:mg "read_shape"=some (.ref f)) (bH:mg "len"=none) (X_NoText:qD P w K mg base 1 "NoText" N "at" condT) (AX_read_leaf:xP P w K mg base 5 fl (G7 N)) (CX_read_openings:bY P w K mg base 4 "read_openings" (Ms N) []) (CX_read_behind:bY P w K mg base 5 "read_behind" (LK N) []):bY P w K mg base 6 "read_shape" (Mz N fl) []:=by
 refine eD F hm dJ (n8 fun _ _ _ _ _ _ _ _=>rfl) (fun us M Q E h=>by obtain ⟨_,rfl,_⟩:=h;rfl) (aZ (cG (aT 2 dJ.nd (pG (own:=true) aB)))
 (aZ (cG (aT 3 dJ.nd G5))
 (aZ (cG (aT 4 dJ.nd aJ))
 (aZ (AI (bW Py (uv 3) G5)
 (aZ (lV 4 dJ.nd (eT CX_read_openings (aA (uv 0) (aA (uv 4) (aA (uv 2) aB)))))
 (aZ (lV 5 dJ.nd (Oz 1 AX_read_leaf (aA (uv 0) (aA (uv 4) aB))))
 (aZ (lV 5 dJ.nd (eT CX_read_behind (aA (uv 0) (aA (aW (uv 5) aJ) (aA (aW (uv 5) aJ) (aA (uv 2) aB))))))
 (aZ (cG (aT 3 dJ.nd (aW (uv 5) aJ)))
 (cF (cG (aT 4 dJ.nd (aW (uv 5) aJ)))))))))
 (aZ (mG (bW sN (uv 4) (cJ eP bH (aA (uv 0) aB)))
 (cF (i6 X_NoText (uv 4)))
 (kY bA))
 (cF (cG (aR (uv 3))))))))) ?_
 rintro us M Q E ⟨z,rfl,hz,q⟩
 have hL:=pX z
 generalize hR:dW z.cps.toList=R at q
 refine aU fun V1 hV1=>?_
 simp! only [bJ,hName]
 intro p hp
 subst hV1
 refine aU fun V2 hV2=>?_
 simp! only [bJ,hName]
 subst hV2
 refine aU fun V3 hV3=>?_
 simp! only [bJ,hName]
 subst hV3
 refine aU fun V4 hV4=>?_
 have no:∀ k o,R=.error k->∃ M',U2.Sub M' (mup M p o)/\E N (Aj k) M':=fun k o h=>by
  subst h
  exact ⟨M,(Sub.refl M).mup hp,q⟩
 refine mJ (fun τ M'=>∃ (s:U) (i:Nat) (e:Option U) (c:List Fr),τ=[some (.str z),some (.ref fl),some (.ref p),some s,some (.int (i:Int)),e]/\M'=mup M p (.lst (qK c))/\((∃ T:Pt,s=T.toU/\i<=300000/\R=if i < z.cps.toList.length then .error i else .ok T)\/(s=.non/\∃ n,i<=z.cps.toList.length/\z.cps.toList.length + 2<=n + i/\c.length<=i/\rG z.cps.toList n i c=R))) (fun τ _=>match τ with | [_,_,_,_,some (.int i),_]=>400000 - i.toNat | _=>0) ⟨.non,0,none,[],rfl,rfl,.inr ⟨rfl,_,Nat.zero_le _,by omega,by simp,hR⟩⟩ ?_
 rintro τ M' ⟨s,i,e,c,rfl,rfl,(⟨T,rfl,hi,hT⟩ | ⟨rfl,n,hi,hn,hc,hs⟩)⟩
 ·have hnn:eQ T.toU=false:=by cases T <;> rfl
  simp_all! only [hnn,uM,tY,yW,Ba,yG,yO,yT,yC,uW,bO,gR,rE,xX,Fx,xT,aE,KP,Nat.reduceLeDiff,Option.getD_some,Al,A9,zT]
  subst hV4
  refine aU fun V5 hV5=>?_
  refine iM fun A B hA hB=>?_
  simp! only [true_and]
  refine ⟨small hz,?_⟩
  by_cases hlt:i < z.cps.toList.length
  ·rw [if_pos hlt] at hT
   rw [if_pos (decide_eq_true (by omega))]
   subst hA
   simp! only [lA]
   exact ⟨zR (by omega),no i _ hT⟩
  ·rw [if_neg hlt] at hT
   rw [if_neg (fun z=>by have:=of_decide_eq_true z;omega)]
   subst hB
   simp! only [bL]
   subst hV5
   simp! only [bI]
   subst hT
   exact ⟨_,M,(Sub.refl M).mup hp,.inl rfl,q⟩
 ·obtain ⟨m,rfl⟩:∃ m,n=m + 1:=⟨n - 1,by omega⟩
  simp only [rG] at hs
  simp! only [true_and]
  refine aU fun V5 hV5=>?_
  simp! only [nG]
  refine ⟨z,i,p,c,rfl,hz,by omega,hc,bO,?_⟩
  cases ho:kT z.cps.toList i c with
  | error k =>
   rw [ho] at hs
   dsimp only at hs ⊢
   intro c'
   rw [gR]
   exact no k _ hs.symm
  | ok jc =>
   obtain ⟨i1,c1⟩:=jc
   rw [ho] at hs
   have o1:=UQ z.cps.toList _ i c i1 c1 (Nat.le_refl _) ho hi
   dsimp only at hs ⊢
   rw [gR]
   subst hV5
   refine aU fun V6 hV6=>?_
   simp! only [nG]
   refine ⟨z,i1,rfl,hz,by omega,?_⟩
   cases hl:kW z.cps.toList i1 with
   | error k =>
    rw [hl] at hs
    dsimp only at hs ⊢
    exact no k _ hs.symm
   | ok tj =>
    obtain ⟨t,j⟩:=tj
    rw [hl] at hs
    have l1:=Mq hl
    dsimp only at hs ⊢
    subst hV6
    refine aU fun V7 hV7=>?_
    simp! only [nG]
    refine ⟨z,t,j,p,c1,rfl,hz,by omega,by omega,bO,?_⟩
    cases hb:mB z.cps.toList t j c1 with
    | error k =>
     rw [hb] at hs
     dsimp only at hs ⊢
     intro c'
     rw [gR]
     exact no k _ hs.symm
    | ok r =>
     obtain ⟨r,k,c2⟩:=r
     have b1:=ER z.cps.toList c1 t j r k c2 hb
     rw [hb] at hs
     cases r with
     | some T =>
      dsimp only at hs ⊢
      rw [gR]
      subst hV7
      simp! only [DD,bJ,hName]
      exact ⟨⟨_,k,_,[],rfl,rfl,.inl ⟨T,rfl,by omega,hs.symm⟩⟩,by omega⟩
     | none =>
      have b2:=b1.2.2.2 rfl
      dsimp only at hs ⊢
      rw [gR]
      subst hV7
      simp! only [DD,bJ,hName]
      exact ⟨⟨_,k,_,c2,rfl,rfl,.inr ⟨rfl,m,by omega,by omega,by omega,hs⟩⟩,by omega⟩
def Ii (L:List Nat):Except Nat Nat:=match jW L 0 with
 | .error k=>.error k
 | .ok (v,j)=>if j < L.length then .error j else .ok v
def PJ (N:Addr):jL:=fun us M Q E=>∃ z:Str,us=[.str z]/\z.length<=100000/\(match Ii z.cps.toList with
 | .ok v=>Q (.int (v:Int)) M
 | .error k=>E N (Aj k) M)
theorem SW {N:Addr} (F:cE K "read_whole_number" "read_whole_number" dF f fd) (hm:mg "read_whole_number"=some (.ref f)) (bH:mg "len"=none) (X_NoText:qD P w K mg base 1 "NoText" N "at" condT) (CX_read_number:bY P w K mg base 3 "read_number" (Ez N) []):bY P w K mg base 4 "read_whole_number" (PJ N) []:=by
 refine eD F hm nD (n9 fun _ _ _ _ _ _ _=>rfl) (fun us M Q E h=>by obtain ⟨_,rfl,_⟩:=h;rfl) (aZ (lV 1 nD.nd (eT CX_read_number (aA (uv 0) (aA aJ aB))))
 (aZ (mG (bW sN (aW (uv 1) aJ) (cJ eP bH (aA (uv 0) aB)))
 (cF (i6 X_NoText (aW (uv 1) aJ)))
 (kY bA))
 (cF (cG (aR (aW (uv 1) aJ)))))) ?_
 rintro us M Q E ⟨z,rfl,hz,q⟩
 have hL:=pX z
 unfold Ii at q
 refine aU fun V1 hV1=>?_
 simp! only [nG]
 refine ⟨z,0,rfl,hz,by omega,?_⟩
 cases hr:jW z.cps.toList 0 with
 | error k =>
  rw [hr] at q
  exact ⟨M,Sub.refl M,q⟩
 | ok vj =>
  obtain ⟨v,j⟩:=vj
  rw [hr] at q
  have hj:=vU hr
  dsimp only at q ⊢
  subst hV1
  refine aU fun V2 hV2=>?_
  refine iM fun A B hA hB=>?_
  simp! only [true_and]
  refine ⟨small hz,?_⟩
  by_cases hlt:j < z.cps.toList.length
  ·rw [if_pos hlt] at q
   rw [if_pos (decide_eq_true (by omega))]
   subst hA
   simp! only [lA]
   exact ⟨zR (by omega),M,Sub.refl M,q⟩
  ·rw [if_neg hlt] at q
   rw [if_neg (fun z=>by have:=of_decide_eq_true z;omega)]
   subst hB
   simp! only [bL]
   subst hV2
   simp! only [bI]
   exact aL q
theorem vZ (x y:Str):(x++y).cps.toList=x.cps.toList++y.cps.toList:=HE x y
theorem bQ {c:Str} (h:isName (.str c)=true):(1<=c.length/\c.length<=8)/\∀ x∈c.cps.toList,97<=x/\x<=122:=by
 simp only [isName,Bool.and_eq_true,decide_eq_true_eq] at h
 refine ⟨h.1,fun x hx=>?_⟩
 have:=List.all_eq_true.mp h.2 x hx
 unfold isLetter at this
 rw [Ln] at this
 exact of_decide_eq_true this
def pL:Str:=⟨#[32]⟩
theorem Dx:Str.ofString " "=pL:=by decide +kernel
theorem VZ:Str.ofString "\n"=⟨#[10]⟩:=by decide +kernel
theorem y6 (z:Str) (l:List Str):Txt.join z l=Str.join z l:=StrLaws.glued_eq_join z l
theorem Rq {a b:Str} (h:a.cps.toList=b.cps.toList):a=b:=by cases a;cases b;simp only at h;congr 1;exact Array.toList_inj.mp h
theorem oH (z a:Str) {l:List Str} (h:l≠[]):Str.join z (a :: l)=a++z++Str.join z l:=by
 cases l with
 | nil=>exact (h rfl).elim
 | cons b r=>rfl
theorem UN {a b c d:Str} (ha:32 ∉ a.cps.toList) (hb:32 ∉ b.cps.toList) (hc:32 ∉ c.cps.toList):Txt.splitMax (Str.join pL [a,b,c,d]) pL 3=[a,b,c,d]:=by
 have hn:=Ew d pL
 have hf:=StrLaws.split_free d 32
 have hj:=StrLaws.join_split d pL
 have hf':∀ p∈Txt.split d pL,32 ∉ p.cps.toList:=hf
 generalize Txt.split d pL=ps at hn hf' hj
 have e:Str.join pL [a,b,c,d]=Str.join pL (a :: b :: c :: ps):=by
  rw [oH _ a (by simp),oH _ b (by simp),oH _ c (by simp),oH _ a (by simp),oH _ b (by simp),oH _ c hn,hj]
  rfl
 have hs:Txt.split (Str.join pL [a,b,c,d]) pL=a :: b :: c :: ps:=by
  rw [e]
  refine wX (by simp) fun p hp=>?_
  rcases List.mem_cons.mp hp with rfl | hp
  ·exact ha
  ·rcases List.mem_cons.mp hp with rfl | hp
   ·exact hb
   ·rcases List.mem_cons.mp hp with rfl | hp
    ·exact hc
    ·exact hf' p hp
 have:=FH (Str.join pL [a,b,c,d]) pL 3 (by decide)
 rw [hs] at this
 have this':Txt.splitMax (Str.join pL [a,b,c,d]) pL 3=_:=this
 rw [this']
 split
 ·rename_i h
  have:ps.length=1:=by
   have:=List.length_pos_iff.mpr hn
   simp only [List.length_cons] at h
   omega
  obtain ⟨x,rfl⟩:=List.length_eq_one_iff.mp this
  have hj':x=d:=hj
  rw [hj']
 ·show a :: b :: c :: [Str.join pL ps]=_
  rw [hj]
theorem GN {n:Int} (h:0<=n):∀ x∈(Str.ofString (toString n)).cps.toList,48<=x/\x<=57:=fun x hx=>by
 rw [yS h] at hx
 exact oF _ x hx
theorem Fd {c:Nat}:∀ {l:List Str} {x:Nat},x∈(Str.join ⟨#[c]⟩ l).cps.toList->x=c\/∃ s∈l,x∈s.cps.toList
 | [],x,h=>by cases h
 | [a],x,h=>.inr ⟨a,List.mem_singleton.mpr rfl,h⟩
 | a :: b :: r,x,h=>by
  rw [oH _ a (by simp)] at h
  simp only [vZ,List.mem_append] at h
  rcases h with (h | h) | h
  ·exact .inr ⟨a,List.mem_cons_self,h⟩
  ·left;simpa using h
  ·rcases Fd h with h | ⟨s,h1,h2⟩
   ·exact .inl h
   ·exact .inr ⟨s,List.mem_cons_of_mem _ h1,h2⟩
theorem OI {α:Type} (a:α) (l:List α):pW (a :: l) (some 1) none=l:=by
 unfold pW
 simp only [HT.bS]
 rw [if_neg (by decide)]
 have e1:(1:Int).toNat=1:=rfl
 rw [e1]
 simp
structure Rw (t:Tl):Prop where
 nm:isName (.str t.name)=true
 cl:isName (.str t.cls)=true
 c0:0<=t.cost
 c1:t.cost<=10 ^ 18
 pn:10 ∉ t.pt.text.cps.toList
 pl:t.pt.text.length<=1000
theorem Rw.split {t:Tl} (h:Rw t):Txt.splitMax t.row (Str.ofString " ") 3=[t.name,t.cls,Str.ofString (toString t.cost),t.pt.text]:=by
 have e:t.row=Str.join pL [t.name,t.cls,Str.ofString (toString t.cost),t.pt.text]:=by
  rw [<- OO,Dx]
  exact y6 _ _
 rw [e,Dx]
 refine UN (fun z=>?_) (fun z=>?_) (fun z=>?_)
 ·have:=(bQ h.nm).2 _ z;omega
 ·have:=(bQ h.cl).2 _ z;omega
 ·have:=GN h.c0 _ z;omega
theorem Rw.no {t:Tl} (h:Rw t):10 ∉ t.row.cps.toList:=fun z=>by
 have hb:(Str.ofString " ").cps.toList=[32]:=by decide +kernel
 simp only [Tl.row,vZ,List.mem_append,hb,List.mem_singleton] at z
 rcases z with (((((z | z) | z) | z) | z) | z) | z
 ·have:=(bQ h.nm).2 _ z;omega
 ·omega
 ·have:=(bQ h.cl).2 _ z;omega
 ·omega
 ·have:=GN h.c0 _ z;omega
 ·omega
 ·exact h.pn z
theorem Rw.len {t:Tl} (h:Rw t):t.row.length<=1100:=by
 have h1:=(bQ h.nm).1
 have h2:=(bQ h.cl).1
 have h3:=zL h.c0 h.c1
 have h4:=h.pl
 have hb:(Str.ofString " ").length=1:=by decide +kernel
 simp only [Tl.row,len_app,hb]
 omega
def BD (v:V):Prop:=∃ i:Nat,v=.int (i:Int)/\i<=1000000
def eR (i:Nat):List (Str × U):=[(Str.ofString "row",.int (i:Int))]
def Ss (i:Nat):List (Str × U):=[(Str.ofString "row",.int (i:Int)),(Str.ofString "row",.int (i:Int))]
theorem DO:∀ (l:List Nat) (v k:Nat),v<=GR->(jN v k l).1<=GR/\∃ pre post,l=pre++post/\(jN v k l).2=k + pre.length/\(jN v k l).1=pre.foldl (fun a c=>a * 10 + (c - 48)) v
 | [],v,k,h=>⟨h,[],[],rfl,rfl,rfl⟩
 | c :: r,v,k,h=>by
  simp only [jN]
  split
  ·split
   ·exact ⟨h,[],c :: r,rfl,rfl,rfl⟩
   ·rename_i h2
    obtain ⟨a1,pre,post,a2,a3,a4⟩:=DO r (v * 10 + (c - 48)) (k + 1) (by omega)
    exact ⟨a1,c :: pre,post,by rw [a2];rfl,by rw [a3];simp only [List.length_cons];omega,by rw [a4];rfl⟩
  ·exact ⟨h,[],c :: r,rfl,rfl,rfl⟩
theorem OW {n:Nat} (hn:n<=GR) {R:List Nat} (hR:∀ c r,R=c :: r->¬ (48<=c/\c<=57)):jN 0 0 (dig n++R)=(n,(dig n).length):=by
 have key:∀ m k,m + k=(dig n).length->jN (val ((dig n).take k)) k ((dig n).drop k++R)=(n,(dig n).length):=by
  intro m
  induction m with
  | zero =>
   intro k hk
   have hk':k=(dig n).length:=by omega
   subst hk'
   have hv:=yZ n (dig n).length (Nat.le_refl _)
   rw [Nat.sub_self,Nat.pow_zero,Nat.div_one] at hv
   rw [hv,List.drop_length,List.nil_append]
   cases R with
   | nil=>rfl
   | cons c r=>simp only [jN,if_neg (hR c r rfl)]
  | succ m ih =>
   intro k hk
   have hk2:k < (dig n).length:=by omega
   have hwk:(dig n).drop k=(dig n)[k] :: (dig n).drop (k + 1):=List.drop_eq_getElem_cons hk2
   have hc:=oF n (dig n)[k] (List.getElem_mem hk2)
   have htk:(dig n).take (k + 1)=(dig n).take k++[(dig n)[k]]:=by rw [List.take_add_one,List.getElem?_eq_getElem hk2];rfl
   have hv1:=yZ n (k + 1) hk2
   have hv0:=yZ n k (by omega)
   have hle:n / 10 ^ ((dig n).length - (k + 1))<=n:=Nat.div_le_self _ _
   have hx:val ((dig n).take k) * 10 + ((dig n)[k] - 48)=val ((dig n).take (k + 1)):=by rw [htk,EL]
   have hbig:k=0\/1<=val ((dig n).take k):=by
    by_cases k0:k=0
    ·exact .inl k0
    ·right
     have h1:1<=n:=by
      rcases Nat.eq_zero_or_pos n with z0 | z0
      ·subst z0
       have:(dig 0).length=1:=by rw [dig];simp
       omega
      ·exact z0
     have h2:=KZ n h1
     rw [hv0]
     refine (Nat.le_div_iff_mul_le (Nat.pow_pos (by decide))).mpr ?_
     rw [Nat.one_mul]
     exact Nat.le_trans (Nat.pow_le_pow_right (by decide) (by omega)) h2
   rw [hwk]
   simp only [List.cons_append,jN,if_pos hc,hx]
   rw [if_neg (by rintro (z | ⟨z1,z2⟩);rw [hv1] at z;omega;omega)]
   exact ih (k + 1) (by omega)
 have:=key (dig n).length 0 (by omega)
 simpa [val] using this
theorem tE {L:List Nat} {i n:Nat} (hn:n<=GR) {R:List Nat} (hd:L.drop i=dig n++R) (hR:∀ c r,R=c :: r->¬ (48<=c/\c<=57)):jW L i=.ok (n,i + (dig n).length):=by
 unfold jW
 rw [hd,OW hn hR]
 have:=BV n
 rw [if_neg (by show ¬ (dig n).length=0;omega)]
theorem NA {n:Nat} (hn:n<=GR):Ii (dig n)=.ok n:=by
 unfold Ii
 rw [tE (L:=dig n) (i:=0) (R:=[]) hn (by simp) (fun c r e=>by cases e)]
 simp
def Hj (N fl:Addr):jL:=fun us M Q E=>∃ (t:Tl) (r:Nat),us=[.str t.row,.int (r:Int)]/\Rw t/\r<=1000/\(match dW t.pt.text.cps.toList with
 | .ok p=>Q (.tup [.str t.name,.str t.cls,p.toU,.int t.cost]) M
 | .error _=>E N (Ss r) M)
theorem WZ:(decide ((3:Int) < -(2 ^ 63:Int)) || decide ((3:Int) ≥ 2 ^ 63))=false:=by decide
theorem IB {i:Nat} (h:i<=1000000):∃ v,U2.kM (.int (i:Int))=some v/\BD v:=⟨_,rfl,i,rfl,h⟩
theorem Ox {NT N fl:Addr} (F:cE K "read_tile" "read_tile" kC f fd) (hm:mg "read_tile"=some (.ref f)) (bH:mg "len"=none) (lS:mg "read_leaf"=some (.ref fl)) (MZ:mg "NoText"=some (.ref NT)) (H_NoText:AF K NT) (hsub:PySem.W.subIn K (.ref NT) (.ref NT)=some true) (X_NoRow:qD P w K mg base 1 "NoRow" N "row" BD) (CX_read_whole_number:bY P w K mg base 4 "read_whole_number" (PJ NT) []) (CX_read_shape:bY P w K mg base 6 "read_shape" (Mz NT fl) []):bY P w K mg base 7 "read_tile" (Hj N fl) []:=by
 refine eD F hm nN (n8 fun _ _ _ _ _ _ _ _=>rfl) (fun us M Q E h=>by obtain ⟨_,_,rfl,_⟩:=h;rfl) (aZ (cG (aT 2 nN.nd (Lm (own:=false) (uv 0) (aA b8 (aA aJ aB)))))
 (aZ (mG (bW sN (cJ eP bH (aA (uv 2) aB)) aJ)
 (cF (i6 X_NoRow (uv 1)))
 (kY bA))
 (aZ (Ul MZ H_NoText (aZ (lV 3 nN.nd (eT CX_read_whole_number (aA (aW (uv 2) aJ) aB)))
 (cF (lV 4 nN.nd (eT CX_read_shape (aA (aW (uv 2) aJ) (aA (uO lS) aB)))))) (fun a C fs hl=>N6 hl X_NoRow (PR 1)))
 (cF (cG (aR (bD (aA (aW (uv 2) aJ) (aA (aW (uv 2) aJ) (aA (uv 4) (aA (uv 3) aB))))))))))) ?_
 rintro us M Q E ⟨t,r,rfl,ht,hr,q⟩
 have hrow:=ht.len
 refine aU fun V1 hV1=>?_
 simp! only [bJ,hName,xV,sH,E9,ht.split]
 refine ⟨⟨_,rfl⟩,rfl,by omega,WZ,?_⟩
 subst hV1
 refine aU fun V2 hV2=>?_
 refine iM fun A B hA hB=>?_
 simp! only [true_and]
 refine qB (fun e=>absurd (of_decide_eq_true e) (by omega)) (fun _=>?_)
 subst hB
 simp! only [bL]
 subst hV2
 refine aU fun V3 hV3=>?_
 simp only [Pm]
 refine aU fun V4 hV4=>?_
 simp! only [nG]
 have h1:=ht.c1
 have h0:=ht.c0
 have h18:(10:Int) ^ 18=1000000000000000000:=by decide
 have hGR:GR=1000000000000000000:=rfl
 have hnl:=zL h0 h1
 refine ⟨_,rfl,by omega,?_⟩
 rw [yS h0,NA (by omega)]
 dsimp only
 have hn:((t.cost.toNat:Nat):Int)=t.cost:=by omega
 rw [hn]
 subst hV4
 simp! only [nG]
 refine ⟨_,rfl,by have:=ht.pl;omega,?_⟩
 cases hs:dW t.pt.text.cps.toList with
 | error k =>
  rw [hs] at q
  refine ⟨rfl,hsub,fun a=>?_⟩
  simp! only [Ft]
  exact ⟨IB (by omega),M,Sub.refl M,q⟩
 | ok p =>
  rw [hs] at q
  dsimp only at q ⊢
  subst hV3
  simp! only [bI]
  exact aL q
theorem Fn {cs:List Str} (h0:cs≠[]) (hc:∀ c∈cs,isName (.str c)=true) {tl:List Tl} (h:∀ t∈tl,Rw t):Txt.split (Txt.join (Str.ofString "\n") (linesOf cs tl)) (Str.ofString "\n")=linesOf cs tl:=by
 rw [y6,VZ]
 refine wX (by simp [linesOf]) fun p hp z=>?_
 rcases List.mem_cons.mp hp with rfl | hp
 ·rw [y6,Dx] at z
  rcases Fd z with z | ⟨s,h1,h2⟩
  ·cases z
  ·have:=(bQ (hc s h1)).2 _ h2;omega
 ·obtain ⟨t,h1,rfl⟩:=List.mem_map.mp hp
  exact (h t h1).no z
theorem IU {cs:List Str} (h0:cs≠[]) (hc:∀ c∈cs,isName (.str c)=true):Txt.split (Txt.join (Str.ofString " ") cs) (Str.ofString " ")=cs:=by
 rw [y6,Dx]
 refine wX h0 fun p hp z=>?_
 have:=(bQ (hc p hp)).2 _ z
 omega
def Goes (cs:List Str) (tl:List Tl) (i:Nat):Prop:=∃ t,tl[i]?=some t/\dW t.pt.text.cps.toList=.ok t.pt/\rT (.tup [.tup (cs.map U.str),.tup ((tl.take (i + 1)).map Tl.toU)]) true
def UP (cs:List Str) (tl:List Tl) (i:Nat):Prop:=∃ t,tl[i]?=some t/\((∃ k,dW t.pt.text.cps.toList=.error k)\/(dW t.pt.text.cps.toList=.ok t.pt/\rT (.tup [.tup (cs.map U.str),.tup ((tl.take (i + 1)).map Tl.toU)]) false))
def Kt (N Pt:Addr):jL:=fun us M Q E=>∃ (cs:List Str) (tl:List Tl),us=[.str (Txt.join (Str.ofString "\n") (linesOf cs tl))]/\cs≠[]/\cs.length<=20/\(∀ c∈cs,isName (.str c)=true)/\(∀ c∈cs,PyData.strOk c=true)/\1<=tl.length/\tl.length<=60/\(∀ t∈tl,Rw t)/\M Pt=some (.tbl QP) /\
 ((jI (.tup (cs.map U.str))=false/\E N (eR 0) M)\/(jI (.tup (cs.map U.str))=true/\∃ J,(∀ i,i < J->Goes cs tl i)/\((J=tl.length/\Q (.tup [.tup (cs.map U.str),.tup (tl.map Tl.toU)]) M)\/(UP cs tl J/\E N (eR (J + 1)) M/\E N (Ss (J + 1)) M))))
theorem Rc {N fl Pl:Addr} (F:cE K "read_table" "read_table" jM f fd) (hm:mg "read_table"=some (.ref f)) (bH:mg "len"=none) (bM:mg "tuple"=none) (fD:mg "enumerate"=none) (X_NoRow:qD P w K mg base 1 "NoRow" N "row" BD) (pV:Callee P w K mg base 2 "are_classes" u4 []) (CX_read_tile:bY P w K mg base 7 "read_tile" (Hj N fl) []) (v5:Callee P w K mg base 12 "is_table" (AD Pl) []):bY P w K mg base 13 "read_table" (Kt N Pl) []:=by
 refine eD F hm fV (n9 fun _ _ _ _ _ _ _=>rfl) (fun us M Q E h=>by obtain ⟨_,_,rfl,_⟩:=h;rfl) (aZ (cG (aT 1 fV.nd (Cv (own:=false) (uv 0) (aA b8 aB))))
 (aZ (cG (aT 2 fV.nd (pZ qX bM (aA (Cv (own:=false) (aW (uv 1) aJ) (aA b8 aB)) aB))))
 (aZ (mG (dB (cQ (bF pV (aA (uv 2) aB))))
 (cF (i6 X_NoRow aJ))
 (kY bA))
 (aZ (mG (bW cI (cJ eP bH (aA (uv 1) aB)) aJ)
 (cF (i6 X_NoRow aJ))
 (kY bA))
 (aZ (cG (aT 3 fV.nd (bD aB)))
 (aZ (T9 (N1 fD (aA (lW (own:=false) (uv 1) (eA aJ) B4) aB)) (yX (n:=2) (hX (cN (k:=1000) 4 fV.nd) (hX (cN (k:=1000) 5 fV.nd) uE)))
 (aZ (lV 3 fV.nd (Ti (own:=false) (uv 3) (SV (BY (eT CX_read_tile (aA (uv 5) (aA (uv 4) aB))) (Jr aB)))))
 (cF (mG (dB (cQ (bF v5 (aA (bD (aA (uv 2) (aA (uv 3) aB))) aB))))
 (cF (i6 X_NoRow (uv 4)))
 (kY bA)))))
 (cF (cG (aR (bD (aA (uv 2) (aA (uv 3) aB)))))))))))) ?_
 rintro us M Q E ⟨cs,tl,rfl,hne,hcl,hcn,hco,h1,h60,ht,hP,q⟩
 have hll:∀ s∈linesOf cs tl,s.length<=1100:=fun s hs=>by
  rcases List.mem_cons.mp hs with rfl | hs
  ·have:=rA (B:=8) (n:=20) (z:=Str.ofString " ") (l:=cs) (by rw [nQ];omega) (fun s hs=>(bQ (hcn s hs)).1.2) hcl (by decide)
   omega
  ·obtain ⟨t,h1,rfl⟩:=List.mem_map.mp hs
   exact (ht t h1).len
 have hzl:(Txt.join (Str.ofString "\n") (linesOf cs tl)).length<=100000:=by
  have:=rA (B:=1100) (n:=61) (z:=Str.ofString "\n") (l:=linesOf cs tl) (by rw [N8];omega) hll (by simp only [linesOf,List.length_cons,List.length_map];omega) (by decide)
  omega
 have hcz:(Txt.join (Str.ofString " ") cs).length<=1100:=hll _ List.mem_cons_self
 refine aU fun V1 hV1=>?_
 simp! only [bJ,hName,xV,sH,E9]
 rw [Fn hne hcn ht]
 refine ⟨⟨_,rfl⟩,rfl,hzl,?_⟩
 generalize Txt.join (Str.ofString "\n") (linesOf cs tl)=z
 subst hV1
 refine aU fun V2 hV2=>?_
 simp! only [bJ,hName,xV,sH,E9,linesOf,IU hne hcn]
 refine ⟨⟨_,rfl⟩,rfl,by omega,?_⟩
 subst hV2
 refine aU fun V3 hV3=>?_
 refine iM fun A B hA hB=>?_
 simp! only [true_and]
 have pC:pN 21 (.tup (cs.map U.str)):=pT (qR (fun c hc=>⟨hco c hc,(bQ (hcn c hc)).1.2⟩) 20) (by rw [List.length_map];omega)
 refine ⟨_,rfl,pC.plain (by decide),?_⟩
 rcases q with ⟨qb,q⟩ | ⟨qb,q⟩
 ·simp! only [qb]
  subst hA
  simp! only [lA]
  exact ⟨IB (i:=0) (by omega),M,Sub.refl M,q⟩
 obtain ⟨J,qg,q⟩:=q
 simp! only [qb]
 subst hB
 simp! only [bL]
 subst hV3
 refine aU fun V4 hV4=>?_
 refine iM fun A B hA hB=>?_
 simp! only [true_and]
 rw [if_neg (fun e=>by have:=of_decide_eq_true e;simp only [List.length_map] at this;omega)]
 subst hB
 simp! only [bL]
 subst hV4
 refine aU fun V5 hV5=>?_
 simp! only [bJ,hName]
 subst hV5
 refine aU fun V6 hV6=>?_
 refine t9 (S:=⟨none,o9 ((tl.map Tl.row).map U.str)⟩) (M1:=M) (fun R r=>by simp! only [Ek,OI];exact r)
  (fun i τ Mi=>(∃ (a b:Option U),τ=[some (.str z),some (.lst (.str (Txt.join (Str.ofString " ") cs) :: (tl.map Tl.row).map U.str)),some (.tup (cs.map U.str)),some (.tup ((tl.take i).map Tl.toU)),a,b])/\Mi=M/\i<=J) ⟨⟨_,_,rfl⟩,rfl,Nat.zero_le _⟩ nk ?_ ?_
 ·rintro i x τ Mi e ⟨⟨a,b,rfl⟩,rfl,hg⟩
  obtain ⟨u,e1,rfl⟩:=CP e
  rw [List.getElem?_map,List.getElem?_map] at e1
  cases hk:tl[i]? with
  | none=>rw [hk] at e1;cases e1
  | some t =>
   rw [hk] at e1
   cases e1
   have hti:=ht t (List.mem_of_getElem? hk)
   have hil:i < tl.length:=(List.getElem?_eq_some_iff.mp hk).1
   have hnext:(tl.take i).map Tl.toU++[t.toU]=(tl.take (i + 1)).map Tl.toU:=by
    rw [List.take_add_one,hk];simp
   have hgb:(i < J/\Goes cs tl i)\/(UP cs tl i/\E N (eR (i + 1)) Mi/\E N (Ss (i + 1)) Mi):=by
    by_cases hij:i < J
    ·exact .inl ⟨hij,qg i hij⟩
    ·have e:i=J:=by omega
     subst e
     rcases q with ⟨e,_⟩ | q
     ·omega
     ·exact .inr q
   simp! only [kR,nV,sG,hName]
   refine aU fun V7 hV7=>?_
   simp! only [nG,Sm,PZ,Fm]
   refine ⟨t,i + 1,rfl,hti,by omega,?_⟩
   have go:∀ b,dW t.pt.text.cps.toList=.ok t.pt->rT (.tup [.tup (cs.map U.str),.tup ((tl.take (i + 1)).map Tl.toU)]) b->(b=true->i < J)->(b=false->E N (eR (i + 1)) Mi)->V7 [some (U.str z),some (U.lst (U.str (Txt.join (Str.ofString " ") cs) :: (tl.map Tl.row).map U.str)),some (U.tup (cs.map U.str)),some (U.tup ((tl.take (i + 1)).map Tl.toU)),some (U.int ((i + 1:Nat):Int)),some (U.str t.row)] Mi:=fun b hs hT g1 g2=>by
    subst hV7
    refine iM fun A B hA hB=>?_
    simp! only [true_and]
    refine ⟨_,b,rfl,hT,hP,?_⟩
    cases b with
    | true =>
     simp! only [true_and]
     subst hB
     simp! only [bL]
     exact ⟨⟨_,_,rfl⟩,g1 rfl⟩
    | false =>
     simp! only [true_and]
     subst hA
     simp! only [lA]
     exact ⟨IB (by omega),Mi,Sub.refl Mi,g2 rfl⟩
   rcases hgb with ⟨hij,t',a1,a2,a3⟩ | ⟨⟨t',b1,b2⟩,b3,b4⟩
   ·rw [hk] at a1;cases a1
    rw [a2]
    dsimp only
    rw [show [U.tup [U.str t.name,U.str t.cls,t.pt.toU,U.int t.cost]]=[t.toU] from rfl,hnext]
    refine ⟨Nat.le_trans (show _<=61 by rw [List.length_map,List.length_take];omega) (by decide),go true a2 a3 (fun _=>hij) (fun z=>by cases z)⟩
   ·rw [hk] at b1;cases b1
    rcases b2 with ⟨k,b2⟩ | ⟨b2,b5⟩
    ·rw [b2]
     exact ⟨Mi,Sub.refl Mi,b4⟩
    ·rw [b2]
     dsimp only
     rw [show [U.tup [U.str t.name,U.str t.cls,t.pt.toU,U.int t.cost]]=[t.toU] from rfl,hnext]
     refine ⟨Nat.le_trans (show _<=61 by rw [List.length_map,List.length_take];omega) (by decide),go false b2 b5 (fun z=>by cases z) (fun _=>b3)⟩
 ·rintro τ Mi ⟨⟨a,b,rfl⟩,rfl,hg⟩
  have hl2:(Src.mk none (o9 ((tl.map Tl.row).map U.str))).xs.length=tl.length:=by simp [o9]
  rw [hl2] at hg ⊢
  rw [List.take_length]
  subst hV6
  simp! only [bI]
  rcases q with ⟨_,q⟩ | ⟨⟨t2,b1,_⟩,_⟩
  ·exact aL q
  ·have:=(List.getElem?_eq_some_iff.mp b1).1
   omega
def cT (t:Pt):List Nat:=t.text.cps.toList
def Pt.rd:Pt->Prop
 | .hole c=>c.length<=8/\∀ x∈c.cps.toList,97<=x/\x<=122
 | .any=>True
 | .fr l h=>(0<=l/\l<=10 ^ 18)/\0<=h/\h<=10 ^ 18
 | .turn a=>a.rd
 | .two _ a b=>a.rd/\b.rd
theorem zZ (a:Pt):cT (.turn a)=40 :: 45 :: 32 :: (cT a++[41]):=by
 unfold cT
 simp only [Pt.text,vZ]
 rw [show (Str.ofString "(- ").cps.toList=[40,45,32] by decide +kernel,show (Str.ofString ")").cps.toList=[41] by decide +kernel]
 simp
theorem Bi (o:Op) (a b:Pt):cT (.two o a b)=40 :: (cT a++32 :: oc o :: 32 :: (cT b++[41])):=by
 unfold cT
 simp only [Pt.text,vZ]
 rw [show (Str.ofString "(").cps.toList=[40] by decide +kernel,show (Str.ofString ")").cps.toList=[41] by decide +kernel]
 have:o.mid.cps.toList=[32,oc o,32]:=by cases o <;> decide +kernel
 rw [this]
 simp
theorem Ru:(Str.ofString "..").cps.toList=[46,46]:=by decide +kernel
theorem y9 {l h:Int} (h1:0<=l) (h2:0<=h):cT (.fr l h)=dig l.toNat++46 :: 46 :: dig h.toNat:=by
 unfold cT
 simp only [Pt.text,vZ,yS h1,yS h2,Ru]
 simp
theorem uK (c:Str):cT (.hole c)=64 :: c.cps.toList:=by
 unfold cT
 simp only [Pt.text,vZ]
 rw [show (Str.ofString "@").cps.toList=[64] by decide +kernel]
 rfl
theorem xQ:cT .any=[63]:=by unfold cT;decide +kernel
theorem sP (n:Nat):∃ c r,dig n=c :: r/\48<=c/\c<=57:=by
 have hp:=BV n
 cases hd:dig n with
 | nil=>rw [hd] at hp;simp at hp
 | cons c r=>exact ⟨c,r,rfl,oF n c (by rw [hd];exact List.mem_cons_self)⟩
theorem Fv:∀ t:Pt,t.rd->∃ c r,cT t=c :: r/\c≠45/\(t.leafy=true->c≠40)
 | .fr l u,h=>by
  obtain ⟨c,r,e,h1,h2⟩:=sP l.toNat
  exact ⟨c,_,by rw [y9 h.1.1 h.2.1,e];rfl,by omega,fun _=>by omega⟩
 | .hole x,h=>⟨64,_,uK x,by decide,fun _=>by decide⟩
 | .any,h=>⟨63,_,xQ,by decide,fun _=>by decide⟩
 | .turn a,h=>⟨40,_,zZ a,by decide,fun z=>by cases z⟩
 | .two o a b,h=>⟨40,_,Bi o a b,by decide,fun z=>by cases z⟩
def HK (R:List Nat):Prop:=∀ c r,R=c :: r->c=32\/c=41
theorem Gw:∀ (x:List Nat) (n:Nat) (R:List Nat),(∀ c∈x,97<=c/\c<=122)->x.length<=n->HK R->qI n (x++R)=x.length
 | [],n,R,_,_,hR=>by
  cases n with
  | zero=>rfl
  | succ n =>
   cases R with
   | nil=>rfl
   | cons c r =>
    have:=hR c r rfl
    simp only [List.nil_append,qI]
    rw [if_neg (by omega)];rfl
 | c :: x,0,R,_,h,_=>by simp at h
 | c :: x,n + 1,R,hx,h,hR=>by
  simp only [List.cons_append,qI,if_pos (hx c List.mem_cons_self)]
  rw [Gw x n R (fun y hy=>hx y (List.mem_cons_of_mem _ hy)) (by simpa using h) hR]
  rfl
theorem Kq {L:List Nat} {i:Nat} {t:Pt} {R:List Nat} (ht:t.rd) (hl:t.leafy=true) (hd:L.drop i=cT t++R) (hR:HK R):kW L i=.ok (t,i + (cT t).length):=by
 have hG:GR=1000000000000000000:=rfl
 have h18:(10:Int) ^ 18=1000000000000000000:=by decide
 unfold kW
 cases t with
 | turn a=>cases hl
 | two o a b=>cases hl
 | any =>
  rw [xQ] at hd
  rw [if_pos (dZ hd).1,xQ]
  rfl
 | hole x =>
  rw [uK] at hd
  obtain ⟨a1,a2,a3⟩:=dZ (show L.drop i=64 :: (x.cps.toList++R) from hd)
  rw [if_neg (by rw [a1];simp),if_pos a1,a3,Gw x.cps.toList 8 R ht.2 (by rw [pX];exact ht.1) hR,List.take_left' rfl,HA,uK]
  simp only [List.length_cons]
  congr 2
  omega
 | fr l h =>
  obtain ⟨⟨k1,k2⟩,k3,k4⟩:=ht
  rw [y9 k1 k3] at hd ⊢
  obtain ⟨c,r,e,c1,c2⟩:=sP l.toNat
  have g0:L[i]?=some c:=by
   have:L.drop i=c :: (r++46 :: 46 :: dig h.toNat++R):=by rw [hd,e];simp
   exact (dZ this).1
  rw [if_neg (by rw [g0];simp;omega),if_neg (by rw [g0];simp;omega)]
  unfold sT
  have d1:L.drop i=dig l.toNat++(46 :: 46 :: (dig h.toNat++R)):=by rw [hd];simp
  rw [tE (n:=l.toNat) (by omega) d1 (fun c r e=>by cases e;omega)]
  have d2:=kP d1
  have d3:=kP (s:=[46,46]) (r:=dig h.toNat++R) (show L.drop (i + (dig l.toNat).length)=[46,46]++(dig h.toNat++R) from d2)
  dsimp only
  rw [d2]
  rw [if_pos (by rfl)]
  rw [show i + (dig l.toNat).length + 2=i + (dig l.toNat).length + ([46,46]:List Nat).length from rfl,tE (n:=h.toNat) (by omega) d3 (fun c r e=>by have:=hR c r e;omega)]
  dsimp only
  rw [show ((l.toNat:Nat):Int)=l by omega,show ((h.toNat:Nat):Int)=h by omega]
  congr 2
  simp only [List.length_append,List.length_cons,List.length_nil]
  omega
def vQ (L:List Nat) (n:Nat) (t:Pt) (j:Nat) (c:List Fr):Except Nat Pt:=match mB L t j c with
 | .error k=>.error k
 | .ok (some T,k,_)=>if k < L.length then .error k else .ok T
 | .ok (none,k,c2)=>rG L n k c2
def lv:Pt->Nat
 | .turn a=>lv a
 | .two _ a b=>lv a + lv b
 | _=>1
theorem Ht {L:List Nat} {m i i':Nat} {c c':List Fr} (h:kT L i c=kT L i' c'):rG L m i c=rG L m i' c':=by
 cases m with
 | zero=>rfl
 | succ m=>simp only [rG,h]
theorem MF {L:List Nat} {n i j:Nat} {c:List Fr} {t:Pt} (h1:kT L i c=.ok (i,c)) (h2:kW L i=.ok (t,j)):rG L (n + 1) i c=vQ L n t j c:=by
 simp only [rG,h1,h2,vQ]
 rfl
theorem Vb (o:Op):D8 (some (oc o))=some o:=by cases o <;> rfl
theorem P9:∀ (t:Pt) (L:List Nat) (n i:Nat) (c:List Fr) (R:List Nat),t.rd->L.drop i=cT t++R->HK R->rG L (n + lv t) i c=vQ L n t (i + (cT t).length) c:=by
 have leafC:∀ (t:Pt) (L:List Nat) (n i:Nat) (c:List Fr) (R:List Nat),t.rd->t.leafy=true->lv t=1->L.drop i=cT t++R->HK R->rG L (n + lv t) i c=vQ L n t (i + (cT t).length) c:=by
  intro t L n i c R ht hl h1 hd hR
  rw [h1]
  refine MF ?_ (Kq ht hl hd hR)
  obtain ⟨a,r,e,_,h40⟩:=Fv t ht
  rw [kT,dif_neg]
  rw [(dZ (show L.drop i=a :: (r++R) by rw [hd,e];rfl)).1]
  intro z
  exact h40 hl (Option.some.inj z)
 intro t
 induction t with
 | hole x=>intro L n i c R ht hd hR;exact leafC _ L n i c R ht rfl rfl hd hR
 | any=>intro L n i c R ht hd hR;exact leafC _ L n i c R ht rfl rfl hd hR
 | fr l h=>intro L n i c R ht hd hR;exact leafC _ L n i c R ht rfl rfl hd hR
 | turn a ih =>
  intro L n i c R ht hd hR
  rw [zZ] at hd ⊢
  obtain ⟨a1,_,d1⟩:=dZ (show L.drop i=40 :: (45 :: 32 :: (cT a++[41])++R) from hd)
  obtain ⟨a2,_,d2⟩:=dZ (show L.drop (i + 1)=45 :: (32 :: (cT a++[41])++R) from d1)
  obtain ⟨a3,_,d3⟩:=dZ (show L.drop (i + 2)=32 :: ((cT a++[41])++R) from d2)
  have e:kT L i c=kT L (i + 3) (.t :: c):=by rw [kT,dif_pos a1,if_pos a2,if_pos a3]
  have d3':L.drop (i + 3)=cT a++(41 :: R):=by rw [d3];simp
  rw [Ht e,show lv (.turn a)=lv a from rfl,ih L n (i + 3) (.t :: c) (41 :: R) ht d3' (fun c r z=>by cases z;exact .inr rfl)]
  have g:=(dZ (kP d3')).1
  unfold vQ
  rw [mB,if_pos g]
  have:i + 3 + (cT a).length + 1=i + (40 :: 45 :: 32 :: (cT a++[41])).length:=by simp;omega
  rw [this]
 | two o a b iha ihb =>
  intro L n i c R ht hd hR
  rw [Bi] at hd ⊢
  obtain ⟨a1,_,d1⟩:=dZ (show L.drop i=40 :: ((cT a++32 :: oc o :: 32 :: (cT b++[41]))++R) from hd)
  obtain ⟨x,r,ex,hx,_⟩:=Fv a ht.1
  have d1':L.drop (i + 1)=cT a++(32 :: oc o :: 32 :: (cT b++41 :: R)):=by rw [d1];simp
  have a2:L[i + 1]?=some x:=(dZ (show L.drop (i + 1)=x :: (r++(32 :: oc o :: 32 :: (cT b++41 :: R))) by rw [d1',ex];rfl)).1
  have e:kT L i c=kT L (i + 1) (.l :: c):=by rw [kT,dif_pos a1,if_neg (by rw [a2];simpa using hx)]
  rw [Ht e,show n + lv (.two o a b)=(n + lv b) + lv a by simp only [lv];omega,iha L (n + lv b) (i + 1) (.l :: c) _ ht.1 d1' (fun c r z=>by cases z;exact .inl rfl)]
  have d4:=kP d1'
  obtain ⟨m1,_,d5⟩:=dZ d4
  obtain ⟨m2,_,d6⟩:=dZ d5
  obtain ⟨m3,_,d7⟩:=dZ d6
  have hmid:sR L (i + 1 + (cT a).length)=.ok o:=by
   unfold sR
   rw [if_pos m1,m2,Vb]
   dsimp only
   rw [if_pos m3]
  have e2:vQ L (n + lv b) a (i + 1 + (cT a).length) (.l :: c)=rG L (n + lv b) (i + 1 + (cT a).length + 3) (.r o a :: c):=by
   unfold vQ
   rw [mB,hmid]
  rw [e2,ihb L n _ (.r o a :: c) (41 :: R) ht.2 d7 (fun c r z=>by cases z;exact .inr rfl)]
  have g:=(dZ (kP d7)).1
  unfold vQ
  rw [mB,if_pos g]
  have:i + 1 + (cT a).length + 3 + (cT b).length + 1=i + (40 :: (cT a++32 :: oc o :: 32 :: (cT b++[41]))).length:=by simp;omega
  rw [this]
theorem Dt:∀ {t:Pt},t.rd->lv t<=(cT t).length
 | .hole x,_=>by rw [uK];simp [lv]
 | .any,_=>by rw [xQ];simp [lv]
 | .fr l u,h=>by
  obtain ⟨c,r,e,_⟩:=sP l.toNat
  rw [y9 h.1.1 h.2.1,e];simp [lv]
 | .turn a,h=>by have:=Dt (t:=a) h;rw [zZ];simp only [lv,List.length_cons,List.length_append,List.length_nil];omega
 | .two o a b,h=>by have:=Dt h.1;have:=Dt h.2;rw [Bi];simp only [lv,List.length_cons,List.length_append,List.length_nil];omega
theorem vV {t:Pt} (ht:t.rd):dW t.text.cps.toList=.ok t:=by
 have hl:=Dt ht
 unfold dW
 show rG (cT t) ((cT t).length + 2) 0 []=_
 rw [show (cT t).length + 2=((cT t).length + 2 - lv t) + lv t by omega,P9 t (cT t) _ 0 [] [] ht (by simp) (fun c r z=>by cases z)]
 unfold vQ
 simp [mB]
theorem JK {l h:Int} (h1:0<=l) (h2:l<=10 ^ 18) (h3:10 ^ 18 < h):∃ k,dW (Pt.fr l h).text.cps.toList=.error k:=by
 have hG:GR=1000000000000000000:=rfl
 have h18:(10:Int) ^ 18=1000000000000000000:=by decide
 have hc:=y9 h1 (show 0<=h by omega)
 show ∃ k,dW (cT (.fr l h))=.error k
 generalize hL:cT (.fr l h)=L at hc
 obtain ⟨c,r,e,c1,c2⟩:=sP l.toNat
 have hd0:L.drop 0=c :: (r++46 :: 46 :: dig h.toNat):=by rw [List.drop_zero,hc,e];rfl
 have g0:=(dZ hd0).1
 unfold dW
 simp only [rG]
 have ho:kT L 0 []=.ok (0,[]):=by rw [kT,dif_neg (by rw [g0];simp;omega)]
 rw [ho]
 dsimp only
 have d1:L.drop 0=dig l.toNat++(46 :: 46 :: dig h.toNat):=by rw [List.drop_zero,hc]
 have d2:=kP d1
 have d3:=kP (s:=[46,46]) (r:=dig h.toNat) (show L.drop (0 + (dig l.toNat).length)=[46,46]++dig h.toNat from d2)
 have hlf:kW L 0=match jW L (0 + (dig l.toNat).length + 2) with
   | .error k=>.error k
   | .ok (h',j2)=>.ok (.fr (l.toNat:Int) (h':Int),j2):=by
  unfold kW
  rw [if_neg (by rw [g0];simp;omega),if_neg (by rw [g0];simp;omega)]
  unfold sT
  rw [tE (n:=l.toNat) (by omega) d1 (fun c r e=>by cases e;omega)]
  dsimp only
  rw [d2,if_pos (by rfl)]
  rfl
 rw [hlf]
 cases hr:jW L (0 + (dig l.toNat).length + 2) with
 | error k=>exact ⟨_,rfl⟩
 | ok vj =>
  obtain ⟨v,j⟩:=vj
  dsimp only
  simp only [mB]
  have hj:j < L.length:=by
   unfold jW at hr
   split at hr
   ·cases hr
   ·injection hr with hr
    injection hr with r1 r2
    obtain ⟨n1,pre,post,n2,n3,n4⟩:=DO (dig h.toNat) 0 0 (by omega)
    have e3:L.drop (0 + (dig l.toNat).length + 2)=dig h.toNat:=d3
    rw [e3] at r2
    have hp:post≠[]:=fun z=>by
     subst z
     rw [List.append_nil] at n2
     have hv:=yZ h.toNat (dig h.toNat).length (Nat.le_refl _)
     rw [Nat.sub_self,Nat.pow_zero,Nat.div_one,List.take_length] at hv
     rw [<- n2] at n4
     have:(jN 0 0 (dig h.toNat)).1=h.toNat:=by rw [n4];exact hv
     omega
    have hlen:=congrArg List.length n2
    rw [List.length_append] at hlen
    have hpl:=List.length_pos_iff.mpr hp
    have hLl:L.length=(dig l.toNat).length + 2 + (dig h.toNat).length:=by rw [hc];simp;omega
    omega
  rw [if_pos hj]
  exact ⟨_,rfl⟩
def AV:List Nat->Int
 | []=>0
 | c :: r=>1 + ((c:Int) - 97) + 26 * AV r
def Fj:Nat->Int
 | 0=>0
 | k + 1=>26 + 26 * Fj k
theorem AM:∀ (k:Nat) (m:Int),0<=m->m<=Fj k->AV (kO k m)=m
 | 0,m,h0,h1=>by simp only [Fj] at h1;simp only [kO,AV];omega
 | k + 1,m,h0,h1=>by
  simp only [Fj] at h1
  simp only [kO]
  split
  ·have:=AM k ((m - 1) / 26) (by omega) (by omega)
   simp only [AV,this,mM]
   omega
  ·simp only [AV];omega
theorem xU {a b:Int} (ha:0<=a) (ha2:a<=100000000000) (hb:0<=b) (hb2:b<=100000000000) (h:j0 a=j0 b):a=b:=by
 have hc:Fj 7=8353082582:=by decide
 have e:sU a=sU b:=GG h
 have e2:=congrArg AV e
 have d1:=AM 7 (a / 26) (by omega) (by rw [hc];omega)
 have d2:=AM 7 (b / 26) (by omega) (by rw [hc];omega)
 simp only [sU,AV,d1,d2,mM] at e2
 omega
structure Kk (cs:List Str) (p:Pt) (cost:Int) (due:Bool):Prop where
 c0:0<=cost
 c1:cost<=10 ^ 18
 tl:p.text.length<=1000
 t10:10 ∉ p.text.cps.toList
 pn:pN 15 p.toU
 np:∀ c,p≠.hole c
 dp:p.dep<=14
 gg:∃ g:G,g.toU=p.toU/\g.wf (LP cs)/\(oV g && sI (.int cost))=due
 rd:dW p.text.cps.toList=.ok p\/(due=false/\∃ k,dW p.text.cps.toList=.error k)
theorem zO:∀ {p:Pt},p.rd->∀ x∈cT p,32<=x
 | .hole c,h,x,hx=>by
  rw [uK] at hx
  rcases List.mem_cons.mp hx with rfl | hx
  ·decide
  ·have:=h.2 x hx;omega
 | .any,h,x,hx=>by
  rw [xQ] at hx
  cases List.mem_singleton.mp hx;decide
 | .fr l u,h,x,hx=>by
  rw [y9 h.1.1 h.2.1] at hx
  rcases List.mem_append.mp hx with hx | hx
  ·have:=oF _ x hx;omega
  ·rcases List.mem_cons.mp hx with rfl | hx
   ·decide
   ·rcases List.mem_cons.mp hx with rfl | hx
    ·decide
    ·have:=oF _ x hx;omega
 | .turn a,h,x,hx=>by
  rw [zZ] at hx
  simp only [List.mem_cons,List.mem_append,List.not_mem_nil,or_false] at hx
  rcases hx with rfl | rfl | rfl | hx | rfl
  ·decide
  ·decide
  ·decide
  ·exact zO (p:=a) h x hx
  ·decide
 | .two o a b,h,x,hx=>by
  rw [Bi] at hx
  simp only [List.mem_cons,List.mem_append,List.not_mem_nil,or_false] at hx
  rcases hx with rfl | hx | rfl | rfl | rfl | hx | rfl
  ·decide
  ·exact zO (p:=a) h.1 x hx
  ·decide
  ·cases o <;> decide
  ·decide
  ·exact zO (p:=b) h.2 x hx
  ·decide
theorem Bt {cs:List Str} {p:Pt} {cost:Int} {due:Bool} (h0:0<=cost) (h1:cost<=1000000) (ok:p.ok) (sm:p.sm cs) (rd:p.rd) (np:∀ c,p≠.hole c) (hs:p.size<=15) (hd:p.dep<=14) (due_:((decide (p.size<=9) && (decide (p.dep<=5) && decide (p.holes<=4))) && decide (cost<=1000))=due):Kk cs p cost due:=by
 obtain ⟨s1,s2,s3⟩:=uN p
 refine ⟨h0,by omega,by have:=text_len ok sm;omega,fun z=>by have:=zO rd _ z;omega,(pP ok sm).mono (by omega),np,hd,⟨gP p,DI p,Be ok sm (by omega),?_⟩,.inl (vV rd)⟩
 rw [<- due_]
 unfold oV oA
 rw [yR,s1,s2,s3]
 simp only [sI,decide_eq_true h0,Bool.true_and,Bool.and_true,Bool.and_assoc]
theorem BW {n:Nat} (h:n < 10 ^ 20):(dig n).length<=20:=by
 rcases Nat.eq_zero_or_pos n with z | z
 ·subst z;rw [dig];simp
 ·have h1:=KZ n z
  by_cases hl:(dig n).length<=20
  ·exact hl
  ·have:10 ^ 20<=10 ^ ((dig n).length - 1):=Nat.pow_le_pow_right (by decide) (by omega)
   omega
theorem PU (l h:Int):pN 15 (Pt.fr l h).toU:=(pT (n:=0) (gC (pS (by decide +kernel) (by decide +kernel)) (gC pI (gC pI sQ))) (by simp)).mono (by decide)
theorem J5 {cs:List Str} {l h cost:Int} {due:Bool} (h0:0<=cost) (h1:cost<=1000) (hl:0<=l) (hl2:l<=10 ^ 18) (hh:0<=h) (hh2:h < 10 ^ 20) (due_:(decide (h<=10 ^ 18) && decide (l<=h))=due):Kk cs (.fr l h) cost due:=by
 have h18:(10:Int) ^ 18=1000000000000000000:=by decide
 have h20:(10:Int) ^ 20=100000000000000000000:=by decide
 have h20n:(10:Nat) ^ 20=100000000000000000000:=by decide
 have ec:=y9 hl hh
 have e1:=BW (n:=l.toNat) (by omega)
 have e2:=BW (n:=h.toNat) (by omega)
 have hlen:(Pt.fr l h).text.length<=1000:=by
  rw [<- pX]
  show (cT (.fr l h)).length<=1000
  rw [ec]
  simp only [List.length_append,List.length_cons]
  omega
 have hten:10 ∉ (Pt.fr l h).text.cps.toList:=fun z=>by
  have z':10∈cT (.fr l h):=z
  rw [ec] at z'
  simp only [List.mem_append,List.mem_cons] at z'
  rcases z' with z | z | z | z
  ·have:=oF _ _ z;omega
  ·omega
  ·omega
  ·have:=oF _ _ z;omega
 refine ⟨h0,by omega,hlen,hten,PU l h,(fun c z=>nomatch z),(show 1<=14 by decide),⟨.leaf (Pt.fr l h).toU (jG cs (Pt.fr l h).toU),rfl,⟨(PU l h).plain (by decide),zQ (by decide +kernel),rfl⟩,?_⟩,?_⟩
 ·rw [<- due_]
  have n1:Str.ofString "from"≠Str.ofString "at":=by decide +kernel
  have e3:jG cs (Pt.fr l h).toU=(decide (h<=10 ^ 18) && decide (l<=h)):=by
   simp only [Pt.toU,jG,if_neg n1,if_true,tX,decide_eq_true hl,decide_eq_true hh,Bool.true_and]
   rw [decide_eq_true (show l<=1000000000000000000 by omega),Bool.true_and,h18]
  have e4:isAt (Pt.fr l h).toU=false:=by simp [isAt,Pt.toU,n1]
  unfold oV oA
  simp only [G.size,G.dep,G.fit,G.holes,e3,e4,sI,decide_eq_true h0,decide_eq_true h1,Bool.and_true,Bool.true_and]
  simp
 ·by_cases hb:h<=10 ^ 18
  ·exact .inl (vV (t:=.fr l h) ⟨⟨hl,hl2⟩,hh,hb⟩)
  ·refine .inr ⟨?_,JK hl hl2 (by omega)⟩
   rw [<- due_,decide_eq_false hb];rfl
structure Tv (cs:List Str) (t:Tl) (b:Bool):Prop where
 rw_:Rw t
 ti:wD cs t.toU b
 pl:pN 20 t.toU
 rd:dW t.pt.text.cps.toList=.ok t.pt\/(b=false/\∃ k,dW t.pt.text.cps.toList=.error k)
theorem Sr {cs:List Str} (hc:qE cs) {nm cl:Str} {p:Pt} {cost:Int} {due:Bool} (h1:isName (.str nm)=true) (h2:PyData.strOk nm=true) (h3:cl∈cs) (o:Kk cs p cost due):Tv cs ⟨nm,cl,p,cost⟩ due:=by
 obtain ⟨g,g1,g2,g3⟩:=o.gg
 have hpl:pN 20 (Tl.toU ⟨nm,cl,p,cost⟩):=(pT (n:=15) (gC (pS h2 (by have:=(bQ h1).1;omega)) (gC (pS (hc.ok.2.2 _ h3).1 (by have:=(hc.ok.2.2 _ h3).2;omega)) (gC o.pn (gC pI sQ)))) (by simp)).mono (by decide)
 refine ⟨⟨h1,hc.nm _ h3,o.c0,o.c1,o.t10,o.tl⟩,⟨hpl.plain (by decide),.inr ⟨.str nm,.str cl,g,.int cost,by rw [g1];rfl,g2,?_⟩⟩,hpl,o.rd⟩
 have e2:xR cs (.str cl)=true:=by show cs.contains cl=true;simpa using h3
 rw [h1,e2,g1,Cf (o.np cl),Bool.and_true,g3]
 rfl
theorem Hr {cs:List Str} (hc:qE cs) {t:Tl} (h:t.ok cs):Tv cs t true:=by
 have rd:t.pt.rd:=by
  have key:∀ {p:Pt},p.ok->p.sm cs->p.rd:=by
   intro p
   induction p with
   | hole c=>intro _ k;exact ⟨(bQ (hc.nm c k.2)).1.2,(bQ (hc.nm c k.2)).2⟩
   | any=>intro _ _;trivial
   | fr l u=>intro h k;exact ⟨⟨h.1,by have:=h.2;have k':u<=10 ^ 18:=k;omega⟩,by have:=h.1;have:=h.2;omega,k⟩
   | turn a ih=>intro h k;exact ih h k
   | two o a b iha ihb=>intro h k;exact ⟨iha h.1 k.1,ihb h.2 k.2⟩
  exact key h.pt.ok h.pt.sm
 exact ⟨⟨h.nn,hc.nm _ h.ci,h.c0,by have:=h.c1;omega,fun z=>by have:=zO rd _ z;omega,by have:=h.pt.len;omega⟩,Qa hc h,Ea hc h,.inl (vV rd)⟩
theorem B0 {cs:List Str} {V:Tl->Bool}:∀ {tl:List Tl},(∀ t∈tl,Tv cs t (V t))->CO 20 (tl.map Tl.toU)/\Paired (wD cs) (tl.map Tl.toU) (tl.map V)
 | [],_=>⟨sQ,.nil⟩
 | t :: tl,h=>⟨gC (h t List.mem_cons_self).pl (B0 fun x hx=>h x (List.mem_cons_of_mem _ hx)).1,.cons (h t List.mem_cons_self).ti (B0 fun x hx=>h x (List.mem_cons_of_mem _ hx)).2⟩
theorem Ju {cs:List Str} (hc:qE cs) {V:Tl->Bool} {tl:List Tl} (h:∀ t∈tl,Tv cs t (V t)) (hl:tl.length<=1000) (hn:(tl.map Tl.name).Nodup) {b:Bool} (hb:(decide (1<=tl.length) && (decide (tl.length<=40) && tl.all V))=b):rT (.tup [.tup (cs.map U.str),.tup (tl.map Tl.toU)]) b:=by
 obtain ⟨p1,p2⟩:=B0 h
 refine LL hc p1 (by rw [List.length_map];exact hl) p2 ?_
 rw [List.length_map,Oh,(Gx _).mpr hn,List.all_map,Bool.and_true,<- hb]
 rfl
def Due (cs:List Str) (tl:List Tl) (due:Bool) (at_:Nat):Prop :=
  cs≠[]/\cs.length<=20/\(∀ c∈cs,isName (.str c)=true)/\(∀ c∈cs,PyData.strOk c=true)/\1<=tl.length/\tl.length<=60/\(∀ t∈tl,Rw t) /\
  rT (.tup [.tup (cs.map U.str),.tup (tl.map Tl.toU)]) due /\
  ((due=true/\jI (.tup (cs.map U.str))=true/\∀ i,i < tl.length->Goes cs tl i) \/
   (due=false/\jI (.tup (cs.map U.str))=false/\at_=0) \/
   (due=false/\jI (.tup (cs.map U.str))=true/\∃ J,at_=J + 1/\J<=60/\(∀ i,i < J->Goes cs tl i)/\UP cs tl J))
theorem Bf {tl:List Tl} (h:(tl.map Tl.name).Nodup) (n:Nat):((tl.take n).map Tl.name).Nodup:=by
 rw [List.map_take];exact h.sublist (List.take_sublist _ _)
theorem AG {cs:List Str} (hc:qE cs) {V:Tl->Bool} {tl:List Tl} (h:∀ t∈tl,Tv cs t (V t)) (h1:1<=tl.length) (h60:tl.length<=60) (hn:(tl.map Tl.name).Nodup) {due:Bool} {J:Nat} (hJ:J < tl.length) (hJ4:J<=40) (hpre:∀ i t,i < J->tl[i]?=some t->V t=true)
  (hd:due=(decide (tl.length<=40) && tl.all V)) (hbad:due=false->J=40\/∃ t,tl[J]?=some t/\V t=false):Due cs tl due (J + 1):=by
 have goes:∀ i t,i < tl.length->i < 40->tl[i]?=some t->(∀ k t',k < i + 1->tl[k]?=some t'->V t'=true)->Goes cs tl i:=fun i t hi h40 ht hv=>by
  have hV:=hv i t (by omega) ht
  have tv:=h t (List.mem_of_getElem? ht)
  refine ⟨t,ht,?_,Ju hc (V:=V) (fun x hx=>h x (List.mem_of_mem_take hx)) (by rw [List.length_take];omega) (Bf hn _) ?_⟩
  ·rcases tv.rd with r | ⟨r,_⟩
   ·exact r
   ·rw [hV] at r;cases r
  ·rw [List.length_take,decide_eq_true (by omega),decide_eq_true (by omega)]
   have:(tl.take (i + 1)).all V=true:=by
    rw [List.all_eq_true]
    intro x hx
    obtain ⟨k,hk,e⟩:=List.mem_take_iff_getElem.mp hx
    exact hv k x (by omega) (by rw [List.getElem?_eq_getElem (by omega),e])
   rw [this];rfl
 refine ⟨hc.ok.1,by have:=hc.ok.2.1;omega,hc.nm,fun c hx=>(hc.ok.2.2 c hx).1,h1,h60,fun t ht=>(h t ht).rw_,Ju hc h (by omega) hn (by rw [decide_eq_true h1,Bool.true_and,hd]),?_⟩
 cases due with
 | true =>
  have hd':=hd.symm
  rw [Bool.and_eq_true,decide_eq_true_eq,List.all_eq_true] at hd'
  exact .inl ⟨rfl,AR hc,fun i hi=>goes i tl[i] hi (by omega) (List.getElem?_eq_getElem hi) fun k t' hk e=>hd'.2 t' (List.mem_of_getElem? e)⟩
 | false =>
  refine .inr (.inr ⟨rfl,AR hc,J,rfl,by omega,fun i hi=>goes i tl[i] (by omega) (by omega) (List.getElem?_eq_getElem (by omega)) fun k t' hk e=>hpre k t' (by omega) e,tl[J],List.getElem?_eq_getElem hJ,?_⟩)
  have tv:=h tl[J] (List.getElem_mem hJ)
  rcases tv.rd with r | ⟨r,k,e⟩
  ·refine .inr ⟨r,Ju hc (V:=V) (fun x hx=>h x (List.mem_of_mem_take hx)) (by rw [List.length_take];omega) (Bf hn _) ?_⟩
   rw [List.length_take]
   rcases hbad rfl with e | ⟨t,ht,hv⟩
   ·rw [decide_eq_false (show ¬ (min (J + 1) tl.length<=40) by omega)];simp
   ·have:(tl.take (J + 1)).all V=false:=by
     rw [List.all_eq_false]
     refine ⟨t,?_,by rw [hv];simp⟩
     refine List.mem_take_iff_getElem.mpr ⟨J,by omega,?_⟩
     exact (List.getElem?_eq_some_iff.mp ht).2
    rw [this];simp
  ·exact .inl ⟨k,e⟩
mutual
def al:U->Nat->Prop
 | .str _,n=>1<=n
 | .int _,n=>1<=n
 | .tup us,n=>us.length<=1000/\∃ m,n=m + 1/\GX us m
 | _,_=>False
def GX:List U->Nat->Prop
 | [],_=>True
 | u :: us,n=>al u n/\GX us n
end
theorem Gv:∀ {us:List U} {n i:Nat} {u:U},GX us n->us[i]?=some u->al u n
 | a :: us,n,0,u,h,e=>by cases e;exact h.1
 | a :: us,n,i + 1,u,h,e=>Gv (us:=us) h.2 e
theorem EV:∀ {u:U} {n:Nat},al u n->1<=n
 | .str _,n,h=>h
 | .int _,n,h=>h
 | .tup us,n,h=>by obtain ⟨_,m,rfl,_⟩:=h;omega
def uG (n:Nat):cH:=fun us M Q=>∃ u:U,us=[u,u]/\al u n/\n<=30/\Q (.bl true) M
def vM:cH:=fun us M Q=>∃ i:Int,us=[.int i]/\Q (.bl true) M
local macro_rules | `(tactic| dsimp! only [$xs,*] $[$l]?) => `(tactic| simp only [$xs,*, Bool.false_eq_true, Bool.not_false, Bool.not_true, List.append_nil, List.cons_append, List.getElem?_cons_succ, List.getElem?_cons_zero, List.length_cons, List.length_nil, List.map_cons, List.map_nil, List.nil_append, List.replicate, List.set_cons_succ, List.set_cons_zero, Nat.add_sub_cancel, Nat.reduceAdd, Nat.reduceLeDiff, Nat.reduceSub, Nat.sub_self, Option.getD_some, Option.some.injEq, and_true, yF, CI, at2, DN, wK, Fx, pD, vX, oY, qH, vS, Au, AA, lZ, DT, CT, CB, EH, eO, decide_false, decide_true, uM, tY, exists_eq_left', if_false, if_true, xI, eQ, dE, dC, dS, dD, dP, cU, fR, fT, hZ, fN, h7, eX, fW, fQ, gW, fM, gX, eU, gT, gY, i8, iE, jC, gB, fP, fX, iD, fO, iB, eY, gZ, hW, i7, gU, jB, fS, eV, eZ, fY, eS, gA, eJ, items, jS, rR, kA, tT, xT, kZ, gR, bO, reduceCtorEq, dH, KP, true_and, wQ, oQ, o7, u5, lD, Ao, vJ, uC, sM, qN, pF, mC, lL, AE, uI, rS, BF, tS, qS, tD, vI, wU, xX, AJ, oP, lI, vO, vG, qM, gF, Bk, wY, qP, qO, vN, rE, m9, wV, vW, D0, jR, Ba, yG, yC, yW, uW, yO, yT] $[$l]?)
theorem Kf (F:cE K "_law_whole" "_law_whole" kB f fd) (hm:mg "_law_whole"=some (.ref f)) (aN:mg "isinstance"=none) (zY:mg "int"=none) (nZ:mg "bool"=none):Callee P w K mg base 1 "_law_whole" vM []:=by
 refine cD F hm DS (n9 fun _ _ _ _ _ _ _=>rfl) (aM (aR (iA (cJ iU aN (aA (uv 0) (aA (iV (n:="int") zY) aB))) (iZ (ES (cJ iU aN (aA (uv 0) (aA (iV (n:="bool") nZ) aB)))))))) ?_
 rintro us M Q ⟨i,rfl,q⟩
 refine ⟨rfl,?_⟩
 dsimp! only [bI,aG,aK,aE]
 exact aL q
theorem zip_get {us:List U} {i:Nat} {x:U} (h:(gD us us)[i]?=some x):∃ u,us[i]?=some u/\x=.tup [u,u]:=by
 obtain ⟨u,w,e1,e2,e3⟩:=vB h
 rw [e1] at e2;cases e2
 exact ⟨u,e1,e3⟩
theorem N0 {n:Nat} (F:cE K "_law_alike" "_law_alike" jA f fd) (hm:mg "_law_alike"=some (.ref f)) (aN:mg "isinstance"=none) (bM:mg "tuple"=none) (bH:mg "len"=none) (zS:mg "zip"=none) (eI:mg "str"=none) (kH:Callee P w K mg base 1 "_law_whole" vM []) (tR:Callee P w K mg base (n + 1) "_law_alike" (uG n) []):Callee P w K mg base (n + 2) "_law_alike" (uG (n + 1)) []:=by
 refine cD F hm rL (n8 fun _ _ _ _ _ _ _ _=>rfl) (aH (cA (cQ (cJ iU aN (aA (uv 1) (aA (iV (n:="tuple") bM) aB))))
 (aH (cA (jU.pt (jH (dB (cQ (cJ iU aN (aA (uv 0) (aA (iV (n:="tuple") bM) aB))))) (iY (bW tG (cJ eP bH (aA (uv 0) aB)) (cJ eP bH (aA (uv 1) aB))))))
 (aM (aR pQ))
 bA)
 (aH (yU (Up zS (aA (uv 0) (aA (uv 1) aB))) (yX (n:=2) (hX (cN (k:=1000) 2 rL.nd) (hX (cN (k:=1000) 3 rL.nd) uE)))
 (aM (cA (dB (cQ (bF tR (aA (uv 2) (aA (uv 3) aB)))))
 (aM (aR pQ))
 bA)))
 (aM (aR pQ))))
 bA)
 (aH (cA (cQ (cJ iU aN (aA (uv 1) (aA (iV (n:="str") eI) aB))))
 (aM (aR (iA (cJ iU aN (aA (uv 0) (aA (iV (n:="str") eI) aB))) (iZ (gM cI (uv 0) (uv 1))))))
 bA)
 (aM (aR (iA (bF kH (aA (uv 0) aB)) (iZ (gM cI (uv 0) (uv 1)))))))) ?_
 rintro us M Q ⟨u,rfl,ha,hn,q⟩
 refine ⟨rfl,?_⟩
 refine aO fun V1 hV1=>?_
 refine bU fun A B hA hB=>?_
 cases u with
 | str z =>
  dsimp! only [aG,aK,aE]
  subst hB
  simp only [bL]
  subst hV1
  refine aO fun V2 hV2=>?_
  refine bU fun A B hA hB=>?_
  dsimp! only [aG,aK,aE]
  subst hA
  dsimp! only [bI,aG,aK,aE]
  exact aL q
 | int z =>
  dsimp! only [aG,aK,aE]
  subst hB
  simp only [bL]
  subst hV1
  refine aO fun V2 hV2=>?_
  refine bU fun A B hA hB=>?_
  dsimp! only [aG,aK,aE]
  subst hB
  simp only [bL]
  subst hV2
  dsimp! only [bI,aG,aK,aE]
  refine ⟨z,rfl,?_⟩
  dsimp! only [aG,aK,aE]
  exact aL q
 | tup ws =>
  obtain ⟨hl,m,e,has⟩:=ha
  cases e
  dsimp! only [aG,aK,aE]
  subst hA
  refine aO fun V2 hV2=>?_
  refine bU fun A B hA hB=>?_
  dsimp! only [aG,aK,aE]
  subst hB
  simp only [bL]
  subst hV2
  refine aO fun V3 hV3=>?_
  refine t9 (S:=⟨none,gD ws ws⟩) (M1:=M) (fun R r=>by dsimp! only [aK,aG,aK,aE];exact r)
   (fun i τ Mi=>∃ (a b:Option U),τ=[some (.tup ws),some (.tup ws),a,b]/\Mi=M) ⟨_,_,rfl,rfl⟩ nk ?_ ?_
  ·rintro i x τ Mi e ⟨a,b,rfl,rfl⟩
   obtain ⟨v,e1,rfl⟩:=zip_get e
   dsimp! only [kR,nV,sG,hName,aG,aK,aE]
   refine bU fun A B hA hB=>?_
   dsimp! only [aG,aK,aE]
   refine ⟨v,rfl,Gv has e1,by omega,?_⟩
   dsimp! only [aG,aK,aE]
   subst hB
   exact ⟨_,_,rfl,rfl⟩
  ·rintro τ Mi ⟨a,b,rfl,rfl⟩
   subst hV3
   dsimp! only [bI,aG,aK,aE]
   exact aL q
 | _=>exact ha.elim
theorem Cj (F:cE K "_law_alike" "_law_alike" jA f fd) (hm:mg "_law_alike"=some (.ref f)) (aN:mg "isinstance"=none) (bM:mg "tuple"=none) (bH:mg "len"=none) (zS:mg "zip"=none) (eI:mg "str"=none) (kH:Callee P w K mg base 1 "_law_whole" vM []):∀ n,Callee P w K mg base (n + 1) "_law_alike" (uG n) []
 | 0=>by
  have no:∀ us M Q,¬ uG 0 us M Q:=fun us M Q h=>by
   obtain ⟨p,_,h,_⟩:=h
   have:=EV h
   omega
  refine ⟨f,fd,["found","due"],[],[],⟨fun vs H Q E h=>?_,fun A outer s H args us vs Q E _ _ _ _ h=>?_⟩,hm,F.kp,F.binds (n8 fun _ _ _ _ _ _ _ _=>rfl),.nil,fun H M=>.nil⟩
  ·obtain ⟨us,M,Q',_,_,h,_⟩:=h;exact absurd h (no us M Q')
  ·obtain ⟨us,M,Q',_,_,h,_⟩:=h;exact absurd h (no us M Q')
 | n + 1=>N0 F hm aN bM bH zS eI kH (Cj F hm aN bM bH zS eI kH n)
theorem QM:∀ {u:U} {n:Nat},al u n->al u (n + 1):=by
 have key:∀ n,(∀ u,al u n->al u (n + 1))/\∀ us,GX us n->GX us (n + 1):=by
  intro n
  induction n with
  | zero =>
   refine ⟨fun u h=>absurd (EV h) (by omega),fun us=>?_⟩
   cases us with
   | nil=>exact fun _=>trivial
   | cons u us=>exact fun h=>absurd (EV h.1) (by omega)
  | succ n ih =>
   have h1:∀ u,al u (n + 1)->al u (n + 1 + 1):=fun u h=>by
    cases u with
    | str z=>exact (show 1<=_ by omega)
    | int z=>exact (show 1<=_ by omega)
    | tup ws =>
     obtain ⟨hl,m,e,has⟩:=h
     cases e
     exact ⟨hl,_,rfl,ih.2 ws has⟩
    | _=>exact h.elim
   refine ⟨h1,fun us=>?_⟩
   induction us with
   | nil=>exact fun _=>trivial
   | cons u us ih2=>exact fun h=>⟨h1 u h.1,ih2 h.2⟩
 exact fun {u n} h=>(key n).1 u h
theorem Ds {u:U} {n m:Nat} (h:al u n) (hm:n<=m):al u m:=by
 induction hm with
 | refl=>exact h
 | step _ ih=>exact QM ih
theorem DB:∀ p:Pt,al p.toU (p.dep + 1)
 | .hole c=>⟨by simp,_,rfl,(show 1<=_ by simp [Pt.dep]),(show 1<=_ by simp [Pt.dep]),trivial⟩
 | .any=>⟨by simp,_,rfl,(show 1<=_ by simp [Pt.dep]),trivial⟩
 | .fr l h=>⟨by simp,_,rfl,(show 1<=_ by simp [Pt.dep]),(show 1<=_ by simp [Pt.dep]),(show 1<=_ by simp [Pt.dep]),trivial⟩
 | .turn a=>⟨by simp,_,rfl,(show 1<=_ by simp [Pt.dep]),Ds (DB a) (by simp [Pt.dep]),trivial⟩
 | .two o a b=>⟨by simp,_,rfl,(show 1<=_ by simp [Pt.dep]),Ds (DB a) (by simp only [Pt.dep];omega),Ds (DB b) (by simp only [Pt.dep];omega),trivial⟩
theorem BP {α:Type} {g:α->U} {n:Nat}:∀ {l:List α},(∀ x∈l,al (g x) n)->GX (l.map g) n
 | [],_=>trivial
 | x :: l,h=>⟨h x List.mem_cons_self,BP fun y hy=>h y (List.mem_cons_of_mem _ hy)⟩
def LB:cH:=fun us M Q=>∃ (ns:List Int) (k:Nat),us=[.lst (ns.map .int),.int (k:Int)]/\Q (.int (ns.getD k 0)) M
local macro_rules | `(tactic| simp_all! only [$xs,*]) => `(tactic| simp only [$xs,*, Bool.false_eq_true, Bool.not_false, Bool.not_true, List.append_nil, List.cons_append, List.getElem?_cons_succ, List.getElem?_cons_zero, List.length_cons, List.length_nil, List.map_cons, List.map_nil, List.nil_append, List.replicate, List.set_cons_succ, List.set_cons_zero, Nat.add_sub_cancel, Nat.reduceAdd, Nat.reduceSub, Nat.sub_self, Option.some.injEq, and_true, yF, CI, at2, DN, wK, pD, vX, oY, qH, vS, Au, AA, lZ, DT, CT, CB, EH, eO, decide_false, decide_true, exists_eq_left', if_false, if_true, xI, dE, dC, dS, dD, dP, cU, fR, fT, hZ, fN, h7, eX, fW, fQ, gW, fM, gX, eU, gT, gY, i8, iE, jC, gB, fP, fX, iD, fO, iB, eY, gZ, hW, i7, gU, jB, fS, eV, eZ, fY, eS, gA, eJ, items, jS, rR, kA, tT, kZ, reduceCtorEq, dH, true_and, wQ, oQ, o7, u5, lD, Ao, vJ, uC, sM, qN, pF, mC, lL, aG, AE, uI, rS, BF, tS, qS, tD, vI, wU, AJ, oP, lI, vO, vG, qM, gF, Bk, wY, qP, qO, vN, m9, wV, vW, D0, jR, aK])
theorem HN (F:cE K "_law_cell_at" "_law_cell_at" iP f fd) (hm:mg "_law_cell_at"=some (.ref f)) (bH:mg "len"=none):Callee P w K mg base 1 "_law_cell_at" LB []:=by
 refine cD F hm B6 (n8 fun _ _ _ _ _ _ _ _=>rfl) (aH (cA (bW sN (uv 1) (cJ eP bH (aA (uv 0) aB)))
 (aM (aR (aW (uv 0) (uv 1))))
 bA)
 (aM (aR aJ))) ?_
 rintro us M Q ⟨ns,k,rfl,q⟩
 refine ⟨rfl,?_⟩
 simp_all! only [kR,nV,sG,kK,AQ,GA,nU,o6,tV,u6,bL,bI,zA,bJ,hName,mD,view,yA,eQ,Xl,nO,zI]
 refine qB (fun h=>?_) (fun h=>?_)
 ·have hk:k < ns.length:=by
   have:=of_decide_eq_true h
   rw [List.length_map] at this
   omega
  refine ⟨.int (ns.getD k 0),jQ ?_,aL q⟩
  simp [hk]
 ·have hk:¬ k < ns.length:=fun z=>h (by simpa using z)
  have:ns.getD k 0=0:=by simp [hk]
  rw [this] at q
  exact aL q
theorem Dy (i:Int):Js i 2:=by first | exact ⟨by decide,by decide⟩ | decide
structure EG (n:Nat) (p:Pt):Prop where
 ok:p.ok
 sm:∀ cs,p.sm cs
 rd:p.rd
 np:∀ c,p≠.hole c
 siz:p.size=n
 hol:p.holes=0
 d3:n<=3->p.dep<=2
 d7:n<=7->p.dep<=3
 d11:n<=11->p.dep<=4
def uJ (m:Nat):cH:=fun us M Q=>∃ n:Nat,us=[.int (n:Int)]/\1<=n/\n<=m/\m<=11/\∀ p,EG n p->Q (.tup [p.toU,.str p.text]) M
theorem mY:∀ p:Pt,1<=p.size:=fun p=>by cases p <;> simp only [Pt.size] <;> omega
theorem Sk:EG 1 .any:=⟨trivial,fun _=>trivial,trivial,(fun c z=>nomatch z),rfl,rfl,fun _=>by decide,fun _=>by decide,fun _=>by decide⟩
theorem RG:EG 2 (.turn (.fr 0 9)):=⟨⟨by decide,by decide⟩,fun _=>(show (9:Int)<=10 ^ 18 by decide),⟨⟨by decide,by decide⟩,by decide,by decide⟩,(fun c z=>nomatch z),rfl,rfl,fun _=>by decide,fun _=>by decide,fun _=>by decide⟩
theorem Ui {n a b:Nat} {p q:Pt} (h1:EG a p) (h2:EG b q) (ha:a=(n - 1) / 2) (hb:b=n - 1 - (n - 1) / 2) (hn:3<=n):EG n (.two .less p q):=by
 have s1:=h1.siz;have s2:=h2.siz;have o1:=h1.hol;have o2:=h2.hol
 have a3:=h1.d3;have a7:=h1.d7;have a11:=h1.d11;have b3:=h2.d3;have b7:=h2.d7;have b11:=h2.d11
 refine ⟨⟨h1.ok,h2.ok⟩,fun cs=>⟨h1.sm cs,h2.sm cs⟩,⟨h1.rd,h2.rd⟩,(fun c z=>nomatch z),by simp only [Pt.size];omega,by simp only [Pt.holes];omega,fun h=>?_,fun h=>?_,fun h=>?_⟩
 ·have ha1:a=1:=by omega
  have hb1:b=1:=by omega
  subst ha1;subst hb1
  have:p.dep<=1:=by
   have:=h1.siz
   cases p with
   | two o x y=>simp only [Pt.size] at this;have:=mY x;have:=mY y;omega
   | turn x=>simp only [Pt.size] at this;have:=mY x;omega
   | _=>simp [Pt.dep]
  have:q.dep<=1:=by
   have:=h2.siz
   cases q with
   | two o x y=>simp only [Pt.size] at this;have:=mY x;have:=mY y;omega
   | turn x=>simp only [Pt.size] at this;have:=mY x;omega
   | _=>simp [Pt.dep]
  simp only [Pt.dep];omega
 ·have:=a3 (by omega);have:=b3 (by omega)
  simp only [Pt.dep];omega
 ·have:=a7 (by omega);have:=b7 (by omega)
  simp only [Pt.dep];omega
theorem KG {p:Pt} {n:Nat} (h:EG n p):p.text.length<=50 * n:=by
 have:=text_len (cs:=[]) h.ok (h.sm []);rw [h.siz] at this;exact this
theorem RK:(Pt.turn (.fr 0 9)).text=Str.ofString "(- 0..9)":=by decide +kernel
local macro_rules | `(tactic| simp! only [$xs,*] $[$l]?) => `(tactic| simp only [$xs,*, Bool.false_eq_true, Bool.not_false, Bool.not_true, List.append_nil, List.cons_append, List.getElem?_cons_succ, List.getElem?_cons_zero, List.length_cons, List.length_nil, List.map_cons, List.map_nil, List.nil_append, List.replicate, List.set_cons_succ, List.set_cons_zero, Nat.add_sub_cancel, Nat.reduceAdd, Nat.reduceLeDiff, Nat.reduceSub, Nat.sub_self, Option.getD_some, Option.some.injEq, and_true, yF, CI, at2, DN, wK, Fx, pD, vX, oY, qH, vS, Au, AA, lZ, DT, CT, CB, EH, eO, decide_false, decide_true, uM, tY, exists_eq_left', if_false, if_true, xI, eQ, dE, dC, dS, dD, dP, cU, fR, fT, hZ, fN, h7, eX, fW, fQ, gW, fM, gX, eU, gT, gY, i8, iE, jC, gB, fP, fX, iD, fO, iB, eY, gZ, hW, i7, gU, jB, fS, eV, eZ, fY, eS, gA, eJ, items, jS, rR, kA, tT, xT, kZ, gR, bO, reduceCtorEq, dH, KP, true_and, wQ, oQ, o7, u5, lD, Ao, vJ, uC, sM, qN, pF, mC, lL, aG, aE, AE, uI, rS, BF, tS, qS, tD, vI, wU, xX, AJ, oP, lI, vO, vG, qM, gF, Bk, wY, qP, qO, vN, rE, m9, wV, vW, D0, jR, aK, Al, A9, zT, Ba, yG, yC, yW, uW, yO, yT] $[$l]?)
theorem MX {m:Nat} (F:cE K "_law_sized" "_law_sized" i5 f fd) (hm:mg "_law_sized"=some (.ref f)) (pA:Callee P w K mg base (m + 1) "_law_sized" (uJ m) []):Callee P w K mg base (m + 2) "_law_sized" (uJ (m + 1)) []:=by
 refine cD F hm sL (n9 fun _ _ _ _ _ _ _=>rfl) (aH (cA (bW cI (uv 0) aJ)
 (aM (aR (bD (aA (bD (aA b8 aB)) (aA b8 aB)))))
 bA)
 (aH (cA (bW cI (uv 0) aJ)
 (aM (aR (bD (aA (bD (aA b8 (aA (bD (aA b8 (aA aJ (aA aJ aB)))) aB))) (aA b8 aB)))))
 bA)
 (aH (aT 1 sL.nd (bF pA (aA (kG (nS (uv 0) aJ) aJ) aB)))
 (aH (aT 2 sL.nd (bF pA (aA (nS (nS (uv 0) aJ) (kG (nS (uv 0) aJ) aJ)) aB)))
 (aM (aR (bD (aA (bD (aA b8 (aA (aW (uv 1) aJ) (aA (aW (uv 2) aJ) aB)))) (aA (aQ (own:=false) (aQ (own:=false) (aQ (own:=false) (aQ (own:=false) b8 (aW (uv 1) aJ)) b8) (aW (uv 2) aJ)) b8) aB))))))))) ?_
 rintro us M Q ⟨n,rfl,h1,hm1,h11,q⟩
 refine ⟨rfl,?_⟩
 refine aO fun V1 hV1=>?_
 refine bU fun A B hA hB=>?_
 simp! only [true_and]
 by_cases n1:n=1
 ·subst n1
  rw [if_pos (decide_eq_true (by rfl))]
  subst hA
  simp! only [bI]
  exact aL (q _ Sk)
 rw [if_neg (fun e=>by have:=of_decide_eq_true e;omega)]
 subst hB
 simp only [bL]
 subst hV1
 refine aO fun V2 hV2=>?_
 refine bU fun A B hA hB=>?_
 simp! only [true_and]
 by_cases n2:n=2
 ·subst n2
  rw [if_pos (decide_eq_true (by rfl))]
  subst hA
  simp! only [bI]
  have q2:=q _ RG
  rw [RK] at q2
  exact aL q2
 rw [if_neg (fun e=>by have:=of_decide_eq_true e;omega)]
 subst hB
 simp only [bL]
 subst hV2
 refine aO fun V3 hV3=>?_
 simp! only [bJ,hName]
 have e1:((n:Int) - 1) / 2=(((n - 1) / 2:Nat):Int):=by omega
 have e2:((n:Int) - 1) - (((n - 1) / 2:Nat):Int)=((n - 1 - (n - 1) / 2:Nat):Int):=by omega
 refine ⟨by first | decide | exact Dy _,?_⟩
 rw [e1]
 refine ⟨_,rfl,by omega,by omega,by omega,fun p hp=>?_⟩
 have l1:=KG hp
 subst hV3
 refine aO fun V4 hV4=>?_
 simp! only [bJ,hName]
 refine ⟨by first | decide | exact Dy _,?_⟩
 rw [e1,e2]
 refine ⟨_,rfl,by omega,by omega,by omega,fun r hr=>?_⟩
 have l2:=KG hr
 subst hV4
 have q3:=q _ (Ui (n:=n) hp hr rfl rfl (by omega))
 simp! only [bI]
 have w1:(Str.ofString " - ").length=3:=by decide +kernel
 refine ⟨small (by simp only [vC];omega),small (by simp only [len_app,vC,w1];omega),small (by simp only [len_app,vC,w1];omega),small (by simp only [len_app,vC,w1,E4];omega),aL q3⟩
theorem Cu (F:cE K "_law_sized" "_law_sized" i5 f fd) (hm:mg "_law_sized"=some (.ref f)):∀ n,Callee P w K mg base (n + 1) "_law_sized" (uJ n) []
 | 0=>by
  have no:∀ us M Q,¬ uJ 0 us M Q:=fun us M Q h=>by
   obtain ⟨n,_,h1,h2,_⟩:=h
   omega
  refine ⟨f,fd,["size"],[],[],⟨fun vs H Q E h=>?_,fun A outer s H args us vs Q E _ _ _ _ h=>?_⟩,hm,F.kp,F.binds (n9 fun _ _ _ _ _ _ _=>rfl),.nil,fun H M=>.nil⟩
  ·obtain ⟨us,M,Q',_,_,h,_⟩:=h;exact absurd h (no us M Q')
  ·obtain ⟨us,M,Q',_,_,h,_⟩:=h;exact absurd h (no us M Q')
 | n + 1=>MX F hm (Cu F hm n)
structure GL (n:Nat) (c:Str) (p:Pt):Prop where
 ok:p.ok
 sm:∀ cs,c∈cs->p.sm cs
 rd:p.rd
 np:2<=n->∀ c,p≠.hole c
 siz:p.size + 1=2 * n
 hol:p.holes=n
 dep:p.dep<=n
def CS (c:Str):Prop:=PyData.strOk c=true/\isName (.str c)=true
theorem Vp {c:Str} (h:CS c):GL 1 c (.hole c):=⟨h.1,fun cs hc=>⟨(bQ h.2).1.2,hc⟩,⟨(bQ h.2).1.2,(bQ h.2).2⟩,fun z=>by omega,rfl,rfl,Nat.le_refl _⟩
theorem U6 {n a b:Nat} {c:Str} {p q:Pt} (h1:GL a c p) (h2:GL b c q) (ha:1<=a) (hb:1<=b) (hn:a + b=n):GL n c (.two .by_ p q):=by
 have s1:=h1.siz;have s2:=h2.siz;have o1:=h1.hol;have o2:=h2.hol;have d1:=h1.dep;have d2:=h2.dep
 exact ⟨⟨h1.ok,h2.ok⟩,fun cs hc=>⟨h1.sm cs hc,h2.sm cs hc⟩,⟨h1.rd,h2.rd⟩,(fun _ c z=>nomatch z),by simp only [Pt.size];omega,by simp only [Pt.holes];omega,by simp only [Pt.dep];omega⟩
theorem J0 {n:Nat} {c:Str} {p:Pt} (h:GL n c p):p.text.length<=100 * n:=by
 have:=text_len (cs:=[c]) h.ok (h.sm [c] List.mem_cons_self);have:=h.siz;omega
def xS (m:Nat):cH:=fun us M Q=>∃ (n:Nat) (c:Str),us=[.int (n:Int),.str c]/\1<=n/\n<=m/\m<=11/\CS c/\∀ p,GL n c p->Q (.tup [p.toU,.str p.text]) M
theorem Qr {m:Nat} (F:cE K "_law_gaps" "_law_gaps" jY f fd) (hm:mg "_law_gaps"=some (.ref f)) (qU:Callee P w K mg base (m + 1) "_law_gaps" (xS m) []):Callee P w K mg base (m + 2) "_law_gaps" (xS (m + 1)) []:=by
 refine cD F hm tK (n8 fun _ _ _ _ _ _ _ _=>rfl) (aH (cA (bW cI (uv 0) aJ)
 (aM (aR (bD (aA (bD (aA b8 (aA (uv 1) aB))) (aA (aQ (own:=false) b8 (uv 1)) aB)))))
 bA)
 (aH (aT 2 tK.nd (bF qU (aA (kG (uv 0) aJ) (aA (uv 1) aB))))
 (aH (aT 3 tK.nd (bF qU (aA (nS (uv 0) (kG (uv 0) aJ)) (aA (uv 1) aB))))
 (aM (aR (bD (aA (bD (aA b8 (aA (aW (uv 2) aJ) (aA (aW (uv 3) aJ) aB)))) (aA (aQ (own:=false) (aQ (own:=false) (aQ (own:=false) (aQ (own:=false) b8 (aW (uv 2) aJ)) b8) (aW (uv 3) aJ)) b8) aB)))))))) ?_
 rintro us M Q ⟨n,c,rfl,h1,hm1,h11,hc,q⟩
 refine ⟨rfl,?_⟩
 have hcl:=(bQ hc.2).1
 refine aO fun V1 hV1=>?_
 refine bU fun A B hA hB=>?_
 simp! only [true_and]
 by_cases n1:n=1
 ·subst n1
  rw [if_pos (decide_eq_true (by rfl))]
  subst hA
  simp! only [bI]
  exact ⟨small (by simp only [OV];omega),aL (q _ (Vp hc))⟩
 rw [if_neg (fun e=>by have:=of_decide_eq_true e;omega)]
 subst hB
 simp only [bL]
 subst hV1
 refine aO fun V3 hV3=>?_
 simp! only [bJ,hName]
 have e1:(n:Int) / 2=((n / 2:Nat):Int):=by omega
 have e2:(n:Int) - ((n / 2:Nat):Int)=((n - n / 2:Nat):Int):=by omega
 refine ⟨by first | decide | exact Dy _,?_⟩
 rw [e1]
 refine ⟨_,c,rfl,by omega,by omega,by omega,hc,fun p hp=>?_⟩
 have l1:=J0 hp
 subst hV3
 refine aO fun V4 hV4=>?_
 simp! only [bJ,hName]
 refine ⟨by first | decide | exact Dy _,?_⟩
 rw [e1,e2]
 refine ⟨_,c,rfl,by omega,by omega,by omega,hc,fun r hr=>?_⟩
 have l2:=J0 hr
 subst hV4
 have q3:=q _ (U6 (n:=n) hp hr (by omega) (by omega) (by omega))
 simp! only [bI]
 have w1:(Str.ofString " * ").length=3:=by decide +kernel
 refine ⟨small (by simp only [vC];omega),small (by simp only [len_app,vC,w1];omega),small (by simp only [len_app,vC,w1];omega),small (by simp only [len_app,vC,w1,E4];omega),aL q3⟩
theorem Eh (F:cE K "_law_gaps" "_law_gaps" jY f fd) (hm:mg "_law_gaps"=some (.ref f)):∀ n,Callee P w K mg base (n + 1) "_law_gaps" (xS n) []
 | 0=>by
  have no:∀ us M Q,¬ xS 0 us M Q:=fun us M Q h=>by
   obtain ⟨n,_,_,h1,h2,_⟩:=h
   omega
  refine ⟨f,fd,["many","cls"],[],[],⟨fun vs H Q E h=>?_,fun A outer s H args us vs Q E _ _ _ _ h=>?_⟩,hm,F.kp,F.binds (n8 fun _ _ _ _ _ _ _ _=>rfl),.nil,fun H M=>.nil⟩
  ·obtain ⟨us,M,Q',_,_,h,_⟩:=h;exact absurd h (no us M Q')
  ·obtain ⟨us,M,Q',_,_,h,_⟩:=h;exact absurd h (no us M Q')
 | n + 1=>Qr F hm (Eh F hm n)
def rO (c:Str):Nat->Pt
 | 0=>.hole c
 | n + 1=>.turn (rO c n)
theorem E1 {c:Str} (h:CS c):∀ n,(rO c n).ok/\(∀ cs,c∈cs->(rO c n).sm cs)/\(rO c n).rd/\(rO c n).size=n + 1/\(rO c n).holes=1/\(rO c n).dep=n + 1
 | 0=>⟨h.1,fun cs hc=>⟨(bQ h.2).1.2,hc⟩,⟨(bQ h.2).1.2,(bQ h.2).2⟩,rfl,rfl,rfl⟩
 | n + 1=>by
  obtain ⟨a1,a2,a3,a4,a5,a6⟩:=E1 h n
  exact ⟨a1,a2,a3,by simp only [rO,Pt.size,a4],by simp only [rO,Pt.holes,a5],by simp only [rO,Pt.dep,a6]⟩
def G8:cH:=fun us M Q=>∃ (n:Nat) (c:Str),us=[.int ((n + 1:Nat):Int),.str c]/\n<=10/\CS c/\Q (.tup [(rO c n).toU,.str (rO c n).text]) M
theorem Uu {c:Str} (h:CS c) (n:Nat):(rO c n).text.length<=50 * (n + 1):=by
 obtain ⟨a1,a2,_,a4,_⟩:=E1 h n
 have:=text_len (cs:=[c]) a1 (a2 [c] List.mem_cons_self)
 rw [a4] at this;exact this
theorem OQ (F:cE K "_law_chain" "_law_chain" kD f fd) (hm:mg "_law_chain"=some (.ref f)) (oW:mg "range"=none):Callee P w K mg base 1 "_law_chain" G8 []:=by
 refine cD F hm nM (n8 fun _ _ _ _ _ _ _ _=>rfl) (aH (aT 2 nM.nd (bD (aA (bD (aA b8 (aA (uv 1) aB))) (aA (aQ (own:=false) b8 (uv 1)) aB))))
 (aH (yU (Ca oW (aA (nS (uv 0) aJ) aB)) (cN (k:=1000) 3 nM.nd)
 (aM (aT 2 nM.nd (bD (aA (bD (aA b8 (aA (aW (uv 2) aJ) aB))) (aA (aQ (own:=false) (aQ (own:=false) b8 (aW (uv 2) aJ)) b8) aB))))))
 (aM (aR (uv 2))))) ?_
 rintro us M Q ⟨n,c,rfl,hn,hc,q⟩
 refine ⟨rfl,?_⟩
 have hcl:=(bQ hc.2).1
 refine aO fun V1 hV1=>?_
 simp! only [bJ,hName]
 refine ⟨small (by simp only [OV];omega),?_⟩
 subst hV1
 refine aO fun V2 hV2=>?_
 have e1:((n + 1:Nat):Int) - 1=(n:Int):=by omega
 refine t9 (S:=⟨none,dA 0 n⟩) (M1:=M) (fun R r=>by simp! only [e1];refine ⟨by omega,by omega,?_⟩;first | exact r | simpa using r)
  (fun i τ Mi=>∃ (a:Option U),τ=[some (.int ((n + 1:Nat):Int)),some (.str c),some (.tup [(rO c i).toU,.str (rO c i).text]),a]/\Mi=M) ⟨_,rfl,rfl⟩ nk ?_ ?_
 ·rintro i x τ Mi e ⟨a,rfl,rfl⟩
  obtain ⟨rfl,hi⟩:=wB e
  have l1:=Uu hc i
  simp! only [hName,bJ]
  refine ⟨small (by simp only [EF];omega),small (by simp only [len_app,EF,E4];omega),_,rfl⟩
 ·rintro τ Mi ⟨a,rfl,rfl⟩
  have hl2:(Src.mk none (dA 0 n)).xs.length=n:=by simp [dA]
  rw [hl2]
  subst hV2
  simp! only [bI]
  exact aL q
def O1:cH:=fun us M Q=>∃ (way draw:Int) (c:Str) (cs:List Str),us=[.int way,.int draw,.str c]/\2<=way/\way<=7/\c∈cs/\CS c/\∀ p cost due,Kk cs p cost due->Q (.tup [.tup [p.toU,.str p.text],.int cost,.bl due]) M
theorem K2 (l h:Int):(Pt.fr l h).text=Str.ofString (toString l)++Str.ofString ".."++Str.ofString (toString h):=rfl
theorem jT {n:Int} (h:0<=n) (h2:n < 100000000000000000000):n.natAbs.log2 < 1920:=by
 have e70:(2:Nat) ^ 70=1180591620717411303424:=by decide
 by_cases h0:n.natAbs=0
 ·rw [h0];decide
 ·have h3:n.natAbs.log2 < 70:=(Nat.log2_lt h0).mpr (by rw [e70];omega)
  omega
theorem i3 {n:Int} (h:0<=n) (h2:n < 100000000000000000000):(Str.ofString (toString n)).length<=20:=by
 have e20:(10:Nat) ^ 20=100000000000000000000:=by decide
 rw [<- pX,yS h]
 exact BW (by rw [e20];omega)
theorem Uo (F:cE K "_law_odd" "_law_odd" mW f fd) (hm:mg "_law_odd"=some (.ref f)) (eI:mg "str"=none) (pA:Callee P w K mg base 12 "_law_sized" (uJ 11) []) (FK:Callee P w K mg base 1 "_law_chain" G8 []) (qU:Callee P w K mg base 12 "_law_gaps" (xS 11) []):Callee P w K mg base 13 "_law_odd" O1 []:=by
 refine cD F hm nB (Su fun _ _ _ _ _ _ _ _ _=>rfl) (aH (aT 3 nB.nd (nS (Br aJ aJ) aJ))
 (aH (cA (bW cI (uv 0) aJ)
 (aM (aR (bD (aA (bF pA (aA (aQ (own:=false) aJ (cM (uv 1) aJ)) aB)) (aA aJ (aA (gM jJ (cM (uv 1) aJ) aJ) aB))))))
 bA)
 (aH (cA (bW cI (uv 0) aJ)
 (aM (aR (bD (aA (bF FK (aA (aQ (own:=false) aJ (cM (uv 1) aJ)) (aA (uv 2) aB))) (aA aJ (aA (gM jJ (cM (uv 1) aJ) aJ) aB))))))
 bA)
 (aH (cA (bW cI (uv 0) aJ)
 (aM (aR (bD (aA (bF qU (aA (aQ (own:=false) aJ (cM (uv 1) aJ)) (aA (uv 2) aB))) (aA aJ (aA (gM jJ (cM (uv 1) aJ) aJ) aB))))))
 bA)
 (aH (cA (bW cI (uv 0) aJ)
 (aM (aR (bD (aA (bD (aA (bD (aA b8 aB)) (aA b8 aB))) (aA (aQ (own:=false) aJ (cM (uv 1) aJ)) (aA (gM jJ (cM (uv 1) aJ) aJ) aB))))))
 bA)
 (aH (cA (bW cI (uv 0) aJ)
 (aH (aT 4 nB.nd (aQ (own:=false) (uv 3) (cM (uv 1) aJ)))
 (aM (aR (bD (aA (bD (aA (bD (aA b8 (aA (cM (uv 1) aJ) (aA (uv 4) aB)))) (aA (aQ (own:=false) (aQ (own:=false) (pZ zD eI (aA (cM (uv 1) aJ) aB)) b8) (pZ zD eI (aA (uv 4) aB))) aB))) (aA aJ (aA (gM jJ (cM (uv 1) aJ) aJ) aB)))))))
 bA)
 (aH (aT 4 nB.nd (aQ (own:=false) aJ (cM (kG (uv 1) aJ) (Br aJ aJ))))
 (aH (aT 3 nB.nd (aQ (own:=false) (nS (uv 4) aJ) (cM (uv 1) aJ)))
 (aM (aR (bD (aA (bD (aA (bD (aA b8 (aA (uv 3) (aA (uv 4) aB)))) (aA (aQ (own:=false) (aQ (own:=false) (pZ zD eI (aA (uv 3) aB)) b8) (pZ zD eI (aA (uv 4) aB))) aB))) (aA aJ (aA (gM jJ (cM (uv 1) aJ) aJ) aB)))))))))))))) ?_
 rintro us M Q ⟨way,d,c,cs,rfl,hw1,hw2,hcs,hc,q⟩
 refine ⟨rfl,?_⟩
 have m6:=Int.emod_nonneg d (show (6:Int)≠0 by decide)
 have m6':=Int.emod_lt_of_pos d (show (0:Int) < 6 by decide)
 have m5:=Int.emod_nonneg d (show (5:Int)≠0 by decide)
 have m5':=Int.emod_lt_of_pos d (show (0:Int) < 5 by decide)
 have m4:=Int.emod_nonneg d (show (4:Int)≠0 by decide)
 have m4':=Int.emod_lt_of_pos d (show (0:Int) < 4 by decide)
 have m3:=Int.emod_nonneg d (show (3:Int)≠0 by decide)
 have m3':=Int.emod_lt_of_pos d (show (0:Int) < 3 by decide)
 refine aO fun V1 hV1=>?_
 simp! only [bJ,hName]
 refine ⟨⟨by decide,by decide,by decide⟩,?_⟩
 rw [show (10:Int) ^ Int.toNat 18 - 2=999999999999999998 by decide]
 subst hV1
 refine aO fun V2 hV2=>?_
 refine bU fun A B hA hB=>?_
 simp! only [true_and]
 by_cases w2:way=2
 ·subst w2
  rw [if_pos (decide_eq_true rfl)]
  subst hA
  simp! only [bI]
  refine ⟨by decide,(6 + d % 6).toNat,by rw [Int.toNat_of_nonneg (by omega)],by omega,by omega,by decide,fun p hp=>?_⟩
  refine ⟨by decide,aL (q p 0 _ (Bt (by decide) (by decide) hp.ok (hp.sm cs) hp.rd hp.np (by rw [hp.siz];omega) (by have:=hp.d11 (by omega);omega) ?_))⟩
  rw [hp.siz,hp.hol,decide_eq_true (show p.dep<=5 by have:=hp.d11 (by omega);omega)]
  by_cases hd:d % 6<=3
  ·rw [decide_eq_true hd,decide_eq_true (by omega)];rfl
  ·rw [decide_eq_false hd,decide_eq_false (by omega)];rfl
 rw [if_neg (fun e=>w2 (of_decide_eq_true e))]
 subst hB
 simp only [bL]
 subst hV2
 refine aO fun V3 hV3=>?_
 refine bU fun A B hA hB=>?_
 simp! only [true_and]
 by_cases w3:way=3
 ·subst w3
  rw [if_pos (decide_eq_true rfl)]
  subst hA
  simp! only [bI]
  obtain ⟨k1,k2,k3,k4,k5,k6⟩:=E1 hc (2 + d % 5).toNat
  have e0:(3:Int) + d % 5=(((2 + d % 5).toNat + 1:Nat):Int):=by omega
  refine ⟨by decide,(2 + d % 5).toNat,c,by rw [e0],by omega,hc,?_⟩
  refine ⟨by decide,aL (q _ 0 _ (Bt (by decide) (by decide) k1 (k2 cs hcs) k3 ?_ (by rw [k4];omega) (by rw [k6];omega) ?_))⟩
  ·obtain ⟨m,hm⟩:∃ m,(2 + d % 5).toNat=m + 1:=⟨(1 + d % 5).toNat,by omega⟩
   rw [hm]
   exact fun c z=>nomatch z
  ·rw [k4,k5,k6]
   by_cases hd:d % 5<=2
   ·rw [decide_eq_true hd,decide_eq_true (by omega),decide_eq_true (by omega)];rfl
   ·rw [decide_eq_false hd,decide_eq_true (show (2 + d % 5).toNat + 1<=9 by omega),decide_eq_false (show ¬ (2 + d % 5).toNat + 1<=5 by omega)];rfl
 rw [if_neg (fun e=>w3 (of_decide_eq_true e))]
 subst hB
 simp only [bL]
 subst hV3
 refine aO fun V4 hV4=>?_
 refine bU fun A B hA hB=>?_
 simp! only [true_and]
 by_cases w4:way=4
 ·subst w4
  rw [if_pos (decide_eq_true rfl)]
  subst hA
  simp! only [bI]
  refine ⟨by decide,(2 + d % 4).toNat,c,by rw [Int.toNat_of_nonneg (by omega)],by omega,by omega,by decide,hc,fun p hp=>?_⟩
  have s1:=hp.siz;have s2:=hp.dep;have s3:=hp.hol
  refine ⟨by decide,aL (q p 0 _ (Bt (by decide) (by decide) hp.ok (hp.sm cs hcs) hp.rd (hp.np (by omega)) (by omega) (by omega) ?_))⟩
  rw [s3,decide_eq_true (show p.size<=9 by omega),decide_eq_true (show p.dep<=5 by omega)]
  by_cases hd:d % 4<=2
  ·rw [decide_eq_true hd,decide_eq_true (by omega)];rfl
  ·rw [decide_eq_false hd,decide_eq_false (by omega)];rfl
 rw [if_neg (fun e=>w4 (of_decide_eq_true e))]
 subst hB
 simp only [bL]
 subst hV4
 refine aO fun V5 hV5=>?_
 refine bU fun A B hA hB=>?_
 simp! only [true_and]
 by_cases w5:way=5
 ·subst w5
  rw [if_pos (decide_eq_true rfl)]
  subst hA
  simp! only [bI]
  refine ⟨by decide,by decide,aL (q .any (997 + d % 6) _ (Bt (by omega) (by omega) trivial trivial trivial (fun c z=>nomatch z) (by decide) (by decide) ?_))⟩
  by_cases hd:d % 6<=3
  ·rw [decide_eq_true hd,decide_eq_true (show 997 + d % 6<=1000 by omega)];rfl
  ·rw [decide_eq_false hd,decide_eq_false (show ¬ 997 + d % 6<=1000 by omega)];rfl
 rw [if_neg (fun e=>w5 (of_decide_eq_true e))]
 subst hB
 simp only [bL]
 subst hV5
 refine aO fun V6 hV6=>?_
 refine bU fun A B hA hB=>?_
 simp! only [true_and]
 have h18:(10:Int) ^ 18=1000000000000000000:=by decide
 have h20:(10:Int) ^ 20=100000000000000000000:=by decide
 by_cases w6:way=6
 ·subst w6
  rw [if_pos (decide_eq_true rfl)]
  subst hA
  refine aO fun V7 hV7=>?_
  simp! only [bJ,hName]
  refine ⟨by decide,?_⟩
  subst hV7
  simp! only [bI]
  have q6:=q (.fr (d % 3) (999999999999999998 + d % 5)) 7 (decide (d % 5<=2)) (J5 (by decide) (by decide) (by omega) (by omega) (by omega) (by omega) (by
   rw [decide_eq_true (show d % 3<=999999999999999998 + d % 5 by omega),Bool.and_true]
   exact decide_eq_decide.mpr (by omega)))
  rw [K2] at q6
  have r1:=i3 (n:=d % 3) (by omega) (by omega)
  have r2:=i3 (n:=999999999999999998 + d % 5) (by omega) (by omega)
  refine ⟨by decide,by decide,jT (by omega) (by omega),small (by simp only [yJ];omega),jT (by omega) (by omega),small (by simp only [len_app,yJ];omega),by decide,aL q6⟩
 have w7:way=7:=by omega
 subst w7
 rw [if_neg (fun e=>w6 (of_decide_eq_true e))]
 subst hB
 simp only [bL]
 subst hV6
 refine aO fun V7 hV7=>?_
 simp! only [bJ,hName]
 refine ⟨⟨by decide,by decide⟩,⟨by decide,by decide,by decide⟩,by decide,?_⟩
 rw [show (10:Int) ^ Int.toNat 17=100000000000000000 by decide]
 have n1:=Int.emod_nonneg (d / 3) (show (100000000000000000:Int)≠0 by decide)
 have n2:=Int.emod_lt_of_pos (d / 3) (show (0:Int) < 100000000000000000 by decide)
 generalize d / 3 % 100000000000000000=e at n1 n2
 subst hV7
 refine aO fun V8 hV8=>?_
 simp! only [bJ,hName]
 refine ⟨by decide,?_⟩
 subst hV8
 simp! only [bI]
 have q7:=q (.fr (1 + e - 1 + d % 3) (1 + e)) 1000 (decide (d % 3<=1)) (J5 (by decide) (by decide) (by omega) (by omega) (by omega) (by omega) (by
  rw [decide_eq_true (show 1 + e<=10 ^ 18 by omega),Bool.true_and]
  exact decide_eq_decide.mpr (by omega)))
 rw [K2] at q7
 have r1:=i3 (n:=1 + e - 1 + d % 3) (by omega) (by omega)
 have r2:=i3 (n:=1 + e) (by omega) (by omega)
 refine ⟨jT (by omega) (by omega),small (by simp only [yJ];omega),jT (by omega) (by omega),small (by simp only [len_app,yJ];omega),by decide,aL q7⟩
theorem VC {cs:List Str} {tl:List Tl} (hc:cs.length<=20) (h60:tl.length<=60) (hd:∀ t∈tl,t.pt.dep<=14):al (.tup [.tup (cs.map U.str),.tup (tl.map Tl.toU)]) 20:=by
 refine ⟨by simp,19,rfl,⟨?_,18,rfl,BP fun x _=>(show 1<=18 by decide)⟩,⟨?_,18,rfl,BP fun t h=>?_⟩,trivial⟩
 ·rw [List.length_map];omega
 ·rw [List.length_map];omega
 ·exact ⟨by simp,17,rfl,(show 1<=17 by decide),(show 1<=17 by decide),Ds (DB t.pt) (by have:=hd t h;omega),(show 1<=17 by decide),trivial⟩
def Pk (Pt:Addr):cH:=fun us M Q=>∃ (cs:List Str) (tl:List Tl) (due:Bool) (at_:Nat),us=[.tup [.tup (cs.map U.str),.tup (tl.map Tl.toU)],.str (Txt.join (Str.ofString "\n") (linesOf cs tl)),.bl due,.int (at_:Int)]/\Due cs tl due at_/\(∀ t∈tl,t.pt.dep<=14)/\M Pt=some (.tbl QP)/\Q (.bl true) M
theorem eK:aV ["table","text","due","at","found","told","row","e"] ["table","text","due","at"] (aD iI):=dX
theorem Tj {N Pl:Addr} (F:cE K "_law_answers" "_law_answers" iI f fd) (hm:mg "_law_answers"=some (.ref f)) (aN:mg "isinstance"=none) (nZ:mg "bool"=none) (Rb:mg "NoRow"=some (.ref N)) (H_NoRow:AF K N) (hs0:PySem.W.subIn K (.ref N) (.ref N)=some true) (cg:∃ R fI,qG K N R fI/\PySem.W.findIn K (.ref N) "row"=some none) (v5:Callee P w K mg base 12 "is_table" (AD Pl) []) (CX_read_table:bY P w K mg base 13 "read_table" (Kt N Pl) []) (tR:Callee P w K mg base 21 "_law_alike" (uG 20) []) (kH:Callee P w K mg base 1 "_law_whole" vM []):Callee P w K mg base 22 "_law_answers" (Pk Pl) []:=by
 refine cD F hm eK (UW fun _ _ _ _ _ _ _ _ _ _=>rfl) (aH (aT 4 eK.nd (bF v5 (aA (uv 0) aB)))
 (aH (cA (jU.pt (jH (dB (cQ (cJ iU aN (aA (uv 4) (aA (iV (n:="bool") nZ) aB))))) (iY (bW tG (uv 4) (uv 2)))))
 (aM (aR pQ))
 bA)
 (aH (aT 5 eK.nd G5)
 (aH (aT 6 eK.nd G5)
 (aH (S7 7 eK.nd Rb H_NoRow (cF (lV 5 eK.nd (eT CX_read_table (aA (uv 1) aB)))) (fun a C fs=>Us (VB 6 eK.nd (Uk (PR 7)))))
 (aH (cA (cQ (uv 2))
 (aM (aR (iA (gM Py (uv 6) G5) (iZ (bF tR (aA (uv 5) (aA (uv 0) aB)))))))
 bA)
 (aM (aR (iA (bF kH (aA (uv 6) aB)) (iZ (gM cI (uv 6) (uv 3)))))))))))) ?_
 rintro us M Q ⟨cs,tl,due,at_,rfl,⟨d1,d2,d3,d4,d5,d6,d7,d8,d9⟩,hdp,hP,q⟩
 refine ⟨rfl,?_⟩
 refine aO fun V1 hV1=>?_
 simp! only [bJ,hName]
 refine ⟨_,due,rfl,d8,hP,?_⟩
 subst hV1
 refine aO fun V2 hV2=>?_
 refine bU fun A B hA hB=>?_
 simp! only [U1]
 subst hB
 simp only [bL]
 subst hV2
 refine aO fun V3 hV3=>?_
 simp! only [bJ,hName]
 subst hV3
 refine aO fun V4 hV4=>?_
 simp! only [bJ,hName]
 subst hV4
 refine aO fun V5 hV5=>?_
 have fin1:due=true->V5 [some (U.tup [U.tup (cs.map U.str),U.tup (tl.map Tl.toU)]),some (U.str (Txt.join (Str.ofString "\n") (linesOf cs tl))),some (U.bl due),some (U.int (at_:Int)),some (U.bl due),some (U.tup [U.tup (cs.map U.str),U.tup (tl.map Tl.toU)]),some U.non,none] M:=fun hd=>by
  subst hd
  subst hV5
  refine aO fun V6 hV6=>?_
  refine bU fun A B hA hB=>?_
  simp! only [true_and]
  subst hA
  simp! only [bI]
  exact ⟨_,rfl,VC d2 d6 hdp,by decide,aL q⟩
 have fin2:due=false->V5 [some (U.tup [U.tup (cs.map U.str),U.tup (tl.map Tl.toU)]),some (U.str (Txt.join (Str.ofString "\n") (linesOf cs tl))),some (U.bl due),some (U.int (at_:Int)),some (U.bl due),some U.non,some (U.int (at_:Int)),none] M:=fun hd=>by
  subst hd
  subst hV5
  refine aO fun V6 hV6=>?_
  refine bU fun A B hA hB=>?_
  simp! only [true_and]
  subst hB
  simp only [bL]
  subst hV6
  simp! only [bI]
  refine ⟨_,rfl,?_⟩
  simp! only [true_and]
  exact aL q
 simp! only [TH,nG]
 refine ⟨cs,tl,rfl,d1,d2,d3,d4,d5,d6,d7,hP,?_⟩
 have hexc:∀ fs:List (Str × U),fs.lookup (Str.ofString "row")=some (.int (at_:Int))->due=false->PySem.W.subIn K (Value.ref N) (Value.ref N)=some true /\
      ∀ (a:Addr),
       bJ (Iz K a N fs (Str.ofString "row") (jR 7)) (hName 6)
        { nx:=fun τ M=>V5 (List.set τ 7 none) M,rt:=iG Q }
        [some (U.tup [U.tup (List.map U.str cs),U.tup (List.map Tl.toU tl)]),
         some (U.str (Txt.join (Str.ofString "\n") (linesOf cs tl))),some (U.bl due),some (U.int ↑at_),
         some (U.bl due),some U.non,some U.non,some (U.ref a)]
        M:=fun fs hfs hd=>⟨hs0,fun a=>by
  simp! only [bJ,hName,Iz]
  exact ⟨cg,_,_,hfs,rfl,fin2 hd⟩⟩
 rcases d9 with ⟨e1,e2,e3⟩ | ⟨e1,e2,e3⟩ | ⟨e1,e2,J,e3,e4,e5,e6⟩
 ·exact .inr ⟨e2,tl.length,e3,.inl ⟨rfl,fin1 e1⟩⟩
 ·subst e3
  exact .inl ⟨e2,hexc _ rfl e1⟩
 ·subst e3
  exact .inr ⟨e2,J,e5,.inr ⟨e6,hexc _ rfl e1,hexc _ rfl e1⟩⟩
def eW (b:Int) (n:Nat):List Str:=(List.range n).map fun (k:Nat)=>j0 (b + 3 * (k:Int))
def bG (b:Int) (cs:List Str) (k:Nat):Tl:=⟨j0 (b + 5 * (k:Int) + 1),cs.getD ((b + (k:Int)) % (cs.length:Int)).toNat (Str.ofString ""),.any,(b + (k:Int)) % 1001⟩
def bP (b:Int) (cs:List Str) (n:Nat):List Tl:=(List.range n).map (bG b cs)
theorem pJ (b:Int) (n:Nat):(eW b n).length=n:=by simp [eW]
theorem dG (b:Int) (cs:List Str) (n:Nat):(bP b cs n).length=n:=by simp [bP]
theorem nodup_range {α:Type} {g:Nat->α} {n:Nat} (h:∀ i j,i < n->j < n->g i=g j->i=j):((List.range n).map g).Nodup:=by
 unfold List.Nodup
 rw [List.pairwise_map]
 refine List.Pairwise.imp_of_mem (fun {x y} hx hy hlt e=>?_) (List.pairwise_lt_range (n:=n))
 have:=h x y (List.mem_range.mp hx) (List.mem_range.mp hy) e
 omega
theorem N3 {b:Int} (hb:0<=b) (hb2:b<=1000000000) {n:Nat} (hn:n<=20):(eW b n).Nodup:=nodup_range fun i j hi hj e=>by
 have:=xU (by omega) (by omega) (by omega) (by omega) e
 omega
theorem nX {b:Int} {n:Nat}:∀ c∈eW b n,CS c:=fun c hc=>by
 obtain ⟨k,_,rfl⟩:=List.mem_map.mp hc
 exact ⟨vE _,v7 _⟩
theorem EM {b:Int} (hb:0<=b) (hb2:b<=1000000000) {n:Nat} (h1:1<=n) (hn:n<=6):qE (eW b n):=by
 refine ⟨⟨fun z=>?_,by rw [pJ];exact hn,fun c hc=>⟨(nX c hc).1,(bQ (nX c hc).2).1.2⟩⟩,N3 hb hb2 (by omega),fun c hc=>(nX c hc).2⟩
 have:=congrArg List.length z
 rw [pJ] at this
 simp at this;omega
theorem AH {b:Int} (hb:0<=b) (hb2:b<=1000000000) {cs:List Str} {n:Nat} (hn:n<=60):((bP b cs n).map Tl.name).Nodup:=by
 unfold bP
 rw [List.map_map]
 exact nodup_range fun i j hi hj e=>by
  have:=xU (a:=b + 5 * (i:Int) + 1) (b:=b + 5 * (j:Int) + 1) (by omega) (by omega) (by omega) (by omega) e
  omega
theorem pK {b:Int} {cs:List Str} (h:cs≠[]) (k:Nat):(bG b cs k).cls∈cs:=by
 have hl:=List.length_pos_iff.mpr h
 have h0:=Int.emod_nonneg (b + (k:Int)) (show (cs.length:Int)≠0 by omega)
 have h1:=Int.emod_lt_of_pos (b + (k:Int)) (show (0:Int) < (cs.length:Int) by omega)
 have hlt:((b + (k:Int)) % (cs.length:Int)).toNat < cs.length:=by omega
 show cs.getD _ _∈cs
 rw [List.getD_eq_getElem?_getD,List.getElem?_eq_getElem hlt]
 exact List.getElem_mem hlt
theorem R8 (cs:List Str):PD cs .any:=⟨trivial,trivial,by decide,by decide,by decide⟩
theorem O9 {b:Int} {cs:List Str} (hc:qE cs) (k:Nat):(bG b cs k).ok cs:=by
 have h0:=Int.emod_nonneg (b + (k:Int)) (show (1001:Int)≠0 by decide)
 have h1:=Int.emod_lt_of_pos (b + (k:Int)) (show (0:Int) < 1001 by decide)
 have hm:=pK (b:=b) hc.ok.1 k
 exact ⟨(mP _).2,(hc.ok.2.2 _ hm).2,R8 cs,h0,by show (b + (k:Int)) % 1001<=1000;omega,v7 _,hm,(fun z=>nomatch z),vE _⟩
theorem EX {b:Int} (hb:0<=b) (hb2:b<=1000000000) {cs:List Str} (hc:qE cs) {n:Nat} (h1:1<=n) (h60:n<=60):Due cs (bP b cs n) (decide (n<=40)) 41:=by
 have hall:(bP b cs n).all (fun _=>true)=true:=by rw [List.all_eq_true];intro _ _;rfl
 have htv:∀ t∈bP b cs n,Tv cs t true:=fun t ht=>by
  obtain ⟨k,_,rfl⟩:=List.mem_map.mp ht
  exact Hr hc (O9 hc k)
 by_cases h40:n<=40
 ·have:=AG hc (V:=fun _=>true) (tl:=bP b cs n) htv (by rw [dG];exact h1) (by rw [dG];exact h60) (AH hb hb2 h60) (due:=true) (J:=0) (by rw [dG];omega) (by omega) (fun i t hi=>by omega) (by rw [hall,dG,decide_eq_true h40];rfl) (fun z=>by cases z)
  rw [decide_eq_true h40]
  obtain ⟨a1,a2,a3,a4,a5,a6,a7,a8,a9⟩:=this
  refine ⟨a1,a2,a3,a4,a5,a6,a7,a8,?_⟩
  rcases a9 with a9 | ⟨z,_⟩ | ⟨z,_⟩
  ·exact .inl a9
  ·cases z
  ·cases z
 ·rw [decide_eq_false h40]
  exact AG hc (V:=fun _=>true) (tl:=bP b cs n) htv (by rw [dG];exact h1) (by rw [dG];exact h60) (AH hb hb2 h60) (due:=false) (J:=40) (by rw [dG];omega) (by omega) (fun i t hi _=>rfl) (by rw [hall,dG,decide_eq_false h40];rfl) (fun _=>.inl rfl)
theorem SR {cs:List Str} {tl:List Tl} {a b:Nat} (h:Due cs tl true a):Due cs tl true b:=by
 obtain ⟨a1,a2,a3,a4,a5,a6,a7,a8,a9⟩:=h
 refine ⟨a1,a2,a3,a4,a5,a6,a7,a8,?_⟩
 rcases a9 with a9 | ⟨z,_⟩ | ⟨z,_⟩
 ·exact .inl a9
 ·cases z
 ·cases z
theorem FT {b:Int} (hb:0<=b) (hb2:b<=1000000000) {m n:Nat} (hm1:1<=m) (hm:m<=8) (h1:1<=n) (h40:n<=40):Due (eW b m) (bP b (eW b m) n) (decide (m<=6)) 0:=by
 by_cases h6:m<=6
 ·have:=EX hb hb2 (EM hb hb2 hm1 h6) h1 (show n<=60 by omega)
  rw [decide_eq_true h40] at this
  rw [decide_eq_true h6]
  exact SR this
 ·rw [decide_eq_false h6]
  have hne:eW b m≠[]:=fun z=>by have:=congrArg List.length z;rw [pJ] at this;simp at this;omega
  have hcl:jI (.tup ((eW b m).map U.str))=false:=by
   simp only [jI,List.length_map,pJ]
   rw [decide_eq_false h6];simp
  have hnc:∀ c∈eW b m,PyData.strOk c=true/\c.length<=8:=fun c hc=>⟨(nX c hc).1,(bQ (nX c hc).2).1.2⟩
  have p1:pN 21 (.tup ((eW b m).map U.str)):=pT (qR hnc 20) (by rw [List.length_map,pJ];omega)
  have pt:∀ k,pN 20 (bG b (eW b m) k).toU:=fun k=>(pT (n:=6) (gC (pS (vE _) (by have:=(mP (b + 5 * (k:Int) + 1)).2;omega)) (gC (pS (nX _ (pK hne k)).1 (by have:=(bQ (nX _ (pK (b:=b) hne k)).2).1;omega)) (gC ((pP (cs:=[]) (p:=.any) trivial trivial).mono (by decide)) (gC pI sQ)))) (by simp)).mono (by decide)
  have p2:CO 20 ((bP b (eW b m) n).map Tl.toU):=by
   unfold bP
   rw [List.map_map]
   generalize List.range n=l
   induction l with
   | nil=>exact sQ
   | cons x l ih=>exact gC (pt x) ih
  have p3:pN 22 (.tup [.tup ((eW b m).map U.str),.tup ((bP b (eW b m) n).map Tl.toU)]):=pT (gC p1 (gC (pT p2 (by rw [List.length_map,dG];omega)) sQ)) (by simp)
  refine ⟨hne,by rw [pJ];omega,fun c hc=>(nX c hc).2,fun c hc=>(nX c hc).1,by rw [dG];exact h1,by rw [dG];omega,fun t ht=>?_,⟨p3.plain (by decide),.inr ⟨_,_,rfl,.inl ⟨hcl,rfl⟩⟩⟩,.inr (.inl ⟨rfl,hcl,rfl⟩)⟩
  obtain ⟨k,_,rfl⟩:=List.mem_map.mp ht
  have h0:=Int.emod_nonneg (b + (k:Int)) (show (1001:Int)≠0 by decide)
  have h1:=Int.emod_lt_of_pos (b + (k:Int)) (show (0:Int) < 1001 by decide)
  exact ⟨v7 _,(nX _ (pK hne k)).2,h0,by show (b + (k:Int)) % 1001<=10 ^ 18;omega,fun z=>by have:=zO (p:=.any) trivial _ z;omega,(show (Pt.any).text.length<=1000 by decide +kernel)⟩
theorem Rn {b:Int} (hb:0<=b) (hb2:b<=1000000000) {cs:List Str} (hc:qE cs) {n a:Nat} (h40:n<=40) (ha:a < n) {p:Pt} {cost:Int} {due:Bool} (o:Kk cs p cost due):Due cs ((bP b cs n).set a ⟨(bG b cs a).name,(bG b cs a).cls,p,cost⟩) due (a + 1):=by
 have hx:(bP b cs n)[a]?=some (bG b cs a):=by unfold bP;rw [List.getElem?_map,List.getElem?_range ha];rfl
 have hset:∀ i t,((bP b cs n).set a ⟨(bG b cs a).name,(bG b cs a).cls,p,cost⟩)[i]?=some t->(i=a/\t=⟨(bG b cs a).name,(bG b cs a).cls,p,cost⟩)\/(i≠a/\i < n/\t=bG b cs i):=fun i t h=>by
  rw [List.getElem?_set] at h
  split at h
  ·rename_i e
   subst e
   split at h
   ·cases h;exact .inl ⟨rfl,rfl⟩
   ·cases h
  ·rename_i e
   unfold bP at h
   rw [List.getElem?_map] at h
   by_cases hi:i < n
   ·rw [List.getElem?_range hi] at h;cases h;exact .inr ⟨fun z=>e z.symm,hi,rfl⟩
   ·rw [List.getElem?_eq_none (by simp;omega)] at h;cases h
 have hnames:(((bP b cs n).set a ⟨(bG b cs a).name,(bG b cs a).cls,p,cost⟩).map Tl.name)=(bP b cs n).map Tl.name:=by
  rw [List.map_set]
  refine List.ext_getElem? fun i=>?_
  rw [List.getElem?_set]
  split
  ·rename_i e
   subst e
   rw [List.getElem?_map,hx]
   split
   ·rfl
   ·rename_i z;rw [List.length_map,dG] at z;omega
  ·rfl
 classical
 let V:Tl->Bool:=fun t=>if t.name=(bG b cs a).name then due else true
 have hnm:∀ i,i < n->i≠a->(bG b cs i).name≠(bG b cs a).name:=fun i hi hia z=>by
  have:=xU (a:=b + 5 * (i:Int) + 1) (b:=b + 5 * (a:Int) + 1) (by omega) (by omega) (by omega) (by omega) z
  omega
 have hV1:∀ i,i < n->i≠a->V (bG b cs i)=true:=fun i hi hia=>if_neg (hnm i hi hia)
 have hV2:V ⟨(bG b cs a).name,(bG b cs a).cls,p,cost⟩=due:=if_pos rfl
 have hlen:((bP b cs n).set a ⟨(bG b cs a).name,(bG b cs a).cls,p,cost⟩).length=n:=by rw [List.length_set,dG]
 have htv:∀ t∈(bP b cs n).set a ⟨(bG b cs a).name,(bG b cs a).cls,p,cost⟩,Tv cs t (V t):=fun t ht=>by
  obtain ⟨i,hi⟩:=List.getElem?_of_mem ht
  rcases hset i t hi with ⟨rfl,rfl⟩ | ⟨h1,h2,rfl⟩
  ·rw [hV2];exact Sr hc (v7 _) (vE _) (pK hc.ok.1 _) o
  ·rw [hV1 i h2 h1];exact Hr hc (O9 hc i)
 have hall:((bP b cs n).set a ⟨(bG b cs a).name,(bG b cs a).cls,p,cost⟩).all V=due:=by
  cases due with
  | true =>
   rw [List.all_eq_true]
   intro t ht
   obtain ⟨i,hi⟩:=List.getElem?_of_mem ht
   rcases hset i t hi with ⟨rfl,rfl⟩ | ⟨h1,h2,rfl⟩
   ·exact hV2
   ·exact hV1 i h2 h1
  | false =>
   rw [List.all_eq_false]
   refine ⟨⟨(bG b cs a).name,(bG b cs a).cls,p,cost⟩,List.mem_of_getElem? (i:=a) (by rw [List.getElem?_set,if_pos rfl,if_pos (by rw [dG];exact ha)]),by rw [hV2];simp⟩
 exact AG hc (V:=V) htv (by rw [hlen];omega) (by rw [hlen];omega) (by rw [hnames];exact AH hb hb2 (by omega)) (J:=a) (by rw [hlen];exact ha) (by omega) (fun i t hi h=>by
  rcases hset i t h with ⟨rfl,_⟩ | ⟨h1,h2,rfl⟩
  ·omega
  ·exact hV1 i h2 h1) (by rw [hall,hlen,decide_eq_true h40,Bool.true_and]) (fun hd=>.inr ⟨_,(by rw [List.getElem?_set,if_pos rfl,if_pos (by rw [dG];exact ha)]),by rw [hV2];exact hd⟩)
theorem Gj (a b c:Str):a++b++c=a++(b++c):=Rq (by simp only [vZ,List.append_assoc])
theorem Rv (t:Tl) (h:t.pt=.any):t.row=t.name++Str.ofString " "++t.cls++Str.ofString " "++Str.ofString (toString t.cost)++Str.ofString " ?":=by
 unfold Tl.row
 rw [h,Gj (t.name++Str.ofString " "++t.cls++Str.ofString " "++Str.ofString (toString t.cost)) (Str.ofString " ")]
 congr 1
def A3 (Pt:Addr):cH:=fun us M Q=>∃ ns:List Int,us=[.lst (ns.map .int)]/\ns.length<=63/\(∀ m∈ns,Builtin.Int.intBits m<=2 ^ 20)/\M Pt=some (.tbl QP)/\Q (.bl true) M
theorem Uz {Pl:Addr} (F:cE K "law" "law" qV f fd) (bM:mg "tuple"=none) (oW:mg "range"=none) (eI:mg "str"=none) (mF:Callee P w K mg base 1 "_law_cell_at" LB []) (xB:Callee P w K mg base 1 "_law_name_of" DQ []) (qA:Callee P w K mg base 22 "_law_answers" (Pk Pl) []) (L7:Callee P w K mg base 13 "_law_odd" O1 []):fJ P w K mg base jF 24 f fd ["script"] (gE K (A3 Pl)):=by
 refine P0 F eF (fun us M Q h=>by obtain ⟨x,rfl,_⟩:=h;rfl) (aH (aT 1 eF.nd (bF mF (aA (uv 0) (aA aJ aB))))
 (aH (aT 2 eF.nd (bF mF (aA (uv 0) (aA aJ aB))))
 (aH (aT 3 eF.nd (cM (uv 2) aJ))
 (aH (aT 4 eF.nd (aQ (own:=false) aJ (cM (bF mF (aA (uv 0) (aA aJ aB))) aJ)))
 (aH (aT 5 eF.nd (aQ (own:=false) aJ (cM (bF mF (aA (uv 0) (aA aJ aB))) aJ)))
 (aH (cA (bW cI (uv 3) aJ)
 (aM (aT 5 eF.nd (aQ (own:=false) aJ (cM (kG (uv 2) aJ) aJ))))
 bA)
 (aH (cA (bW cI (uv 3) aJ)
 (aM (aT 4 eF.nd (aQ (own:=false) aJ (cM (kG (uv 2) aJ) aJ))))
 bA)
 (aH (aT 6 eF.nd (cM (uv 1) (Br aJ aJ)))
 (aH (aT 7 eF.nd (pZ qX bM (aA (mX false ["k","base"] 1 [6] (Ca oW (aA (uv 4) aB)) (cN (k:=1) 0 (by dsimp only [cP];decide +kernel)) m8 (bF xB (aA (aQ (own:=false) (uv 1) (BU (own:=false) aJ (uv 0))) aB))) aB)))
 (aH (aT 8 eF.nd (pG (own:=true) aB))
 (aH (aT 9 eF.nd (pG (own:=true) (aA (zJ b8 (aA (uv 7) aB)) aB)))
 (aH (yU (Ca oW (aA (uv 5) aB)) (cN (k:=1000) 10 eF.nd)
 (aH (aT 11 eF.nd (aW (uv 7) (cM (aQ (own:=false) (uv 6) (uv 10)) (uv 4))))
 (aH (qY (sV (uv 8) (aA (bD (aA (bF xB (aA (aQ (own:=false) (aQ (own:=false) (uv 6) (BU (own:=false) aJ (uv 10))) aJ) aB)) (aA (uv 11) (aA (bD (aA b8 aB)) (aA (cM (aQ (own:=false) (uv 6) (uv 10)) aJ) aB))))) aB)))
 (aM (qY (sV (uv 9) (aA (aQ (own:=false) (aQ (own:=false) (aQ (own:=false) (aQ (own:=false) (aQ (own:=false) (aW (aW (uv 8) (uv 10)) aJ) b8) (uv 11)) b8) (pZ zD eI (aA (cM (aQ (own:=false) (uv 6) (uv 10)) aJ) aB))) b8) aB)))))))
 (aH (cA (bW cI (uv 3) aJ)
 (aM (aR (bF qA (aA (bD (aA (uv 7) (aA (pZ qX bM (aA (uv 8) aB)) aB))) (aA (zJ b8 (aA (uv 9) aB)) (aA (gM jJ (uv 5) aJ) (aA aJ aB)))))))
 bA)
 (aH (cA (bW cI (uv 3) aJ)
 (aM (aR (bF qA (aA (bD (aA (uv 7) (aA (pZ qX bM (aA (uv 8) aB)) aB))) (aA (zJ b8 (aA (uv 9) aB)) (aA (gM jJ (uv 4) aJ) (aA aJ aB)))))))
 bA)
 (aH (aT 12 eF.nd (cM (kG (uv 1) (Br aJ aJ)) (uv 5)))
 (aH (aT 13 eF.nd (aW (aW (uv 8) (uv 12)) aJ))
 (aH (S9 (bF L7 (aA (uv 3) (aA (kG (uv 2) aJ) (aA (aW (uv 7) aJ) aB)))) (yX (n:=3) (hX (cN (k:=1000) 14 eF.nd) (hX (cN (k:=1000) 15 eF.nd) (hX (cN (k:=1000) 16 eF.nd) uE)))))
 (aH (Hs (bD (aA (aW (aW (uv 8) (uv 12)) aJ) (aA (uv 13) (aA (aW (uv 14) aJ) (aA (uv 15) aB))))) (uv 8) (uv 12))
 (aH (Hs (aQ (own:=false) (aQ (own:=false) (aQ (own:=false) (aQ (own:=false) (aQ (own:=false) (aQ (own:=false) (aW (aW (uv 8) (uv 12)) aJ) b8) (uv 13)) b8) (pZ zD eI (aA (uv 15) aB))) b8) (aW (uv 14) aJ)) (uv 9) (aQ (own:=false) (uv 12) aJ))
 (aM (aR (bF qA (aA (bD (aA (uv 7) (aA (pZ qX bM (aA (uv 8) aB)) aB))) (aA (zJ b8 (aA (uv 9) aB)) (aA (uv 16) (aA (aQ (own:=false) (uv 12) aJ) aB)))))))))))))))))))))))))) ?_
 rintro us M Q ⟨ns,rfl,hl,hb,hP,q⟩
 refine aO fun V1 hV1=>?_
 simp! only [bJ,hName]
 refine ⟨ns,0,rfl,?_⟩
 generalize ns.getD 0 0=D
 subst hV1
 refine aO fun V2 hV2=>?_
 simp! only [bJ,hName]
 refine ⟨ns,1,rfl,?_⟩
 generalize ns.getD 1 0=C
 subst hV2
 refine aO fun V3 hV3=>?_
 simp! only [bJ,hName]
 refine ⟨by decide,?_⟩
 have w0:=Int.emod_nonneg C (show (8:Int)≠0 by decide)
 have w8:=Int.emod_lt_of_pos C (show (0:Int) < 8 by decide)
 have hc5:=Int.emod_nonneg (C / 8) (show (5:Int)≠0 by decide)
 have hc5':=Int.emod_lt_of_pos (C / 8) (show (0:Int) < 5 by decide)
 generalize hw:C % 8=way at w0 w8
 subst hV3
 refine aO fun V4 hV4=>?_
 simp! only [bJ,hName]
 refine ⟨ns,2,rfl,by decide,?_⟩
 have m0:=Int.emod_nonneg (ns.getD 2 0) (show (6:Int)≠0 by decide)
 have m6:=Int.emod_lt_of_pos (ns.getD 2 0) (show (0:Int) < 6 by decide)
 generalize ns.getD 2 0 % 6=e2 at m0 m6
 subst hV4
 refine aO fun V5 hV5=>?_
 simp! only [bJ,hName]
 refine ⟨ns,3,rfl,by decide,?_⟩
 have n0:=Int.emod_nonneg (ns.getD 3 0) (show (40:Int)≠0 by decide)
 have n40:=Int.emod_lt_of_pos (ns.getD 3 0) (show (0:Int) < 40 by decide)
 generalize ns.getD 3 0 % 40=e3 at n0 n40
 subst hV5
 refine aO fun V6 hV6=>?_
 have key6:∀ n:Nat,1<=n->n<=42->(way≠0->n<=40)->V6 [some (U.lst (ns.map U.int)),some (U.int D),some (U.int C),some (U.int way),some (U.int (1 + e2)),some (U.int (n:Int)),none,none,none,none,none,none,none,none,none,none,none] M:=fun n h1 h42 hw0=>by
  subst hV6
  refine aO fun V7 hV7=>?_
  have key7:∀ m:Nat,1<=m->m<=8->(way≠1->m<=6)->V7 [some (U.lst (ns.map U.int)),some (U.int D),some (U.int C),some (U.int way),some (U.int (m:Int)),some (U.int (n:Int)),none,none,none,none,none,none,none,none,none,none,none] M:=fun m hm1 hm8 hw1=>by
   subst hV7
   refine aO fun V8 hV8=>?_
   simp! only [bJ,hName]
   refine ⟨⟨by decide,by decide,by decide⟩,by decide,?_⟩
   rw [show (10:Int) ^ Int.toNat 9=1000000000 by decide]
   have b0:=Int.emod_nonneg D (show (1000000000:Int)≠0 by decide)
   have b9:=Int.emod_lt_of_pos D (show (0:Int) < 1000000000 by decide)
   generalize D % 1000000000=b at b0 b9
   subst hV8
   refine aO fun V9 hV9=>?_
   simp! only [bJ,hName]
   have hcs0:eW b m≠[]:=fun z=>by have:=congrArg List.length z;rw [pJ] at this;simp at this;omega
   have hcl:=pJ b m
   have hcn:∀ c∈eW b m,CS c:=nX
   have hcj:=rA (B:=8) (n:=8) (z:=Str.ofString " ") (l:=eW b m) (by rw [nQ];omega) (fun s hs=>(bQ (hcn s hs).2).1.2) (by omega) (by decide)
   refine iW (S:=⟨none,dA 0 m⟩) (M1:=M) ((eW b m).map U.str) (fun R r=>by simp! only [true_and];refine ⟨by omega,by omega,?_⟩;first | exact r | simpa using r) (by rw [List.length_map,hcl];simp [dA]) (Nat.le_trans (show (dA 0 m).length<=8 by simp [dA];omega) (by decide)) (fun a e=>by cases e) ?_ ?_
   ·intro i x y hx hy M' _ R r'
    obtain ⟨rfl,hi⟩:=wB hx
    rw [List.getElem?_map,show (eW b m)[i]?=some (j0 (b + 3 * (i:Int))) by unfold eW;rw [List.getElem?_map,List.getElem?_range hi];rfl] at hy
    cases hy
    simp! only [hName]
    refine ⟨NQ (by decide) (by decide) (by omega) (by omega),_,rfl,?_⟩
    rw [show (0:Int) + (i:Int)=(i:Int) by omega]
    exact r'
   simp! only [true_and]
   generalize hcs:eW b m=cs at hcs0 hcl hcn hcj
   subst hV9
   refine aO fun V10 hV10=>?_
   simp! only [bJ,hName]
   intro p8 h8
   subst hV10
   refine aO fun V11 hV11=>?_
   simp! only [bJ,hName,BI,wN]
   refine ⟨⟨_,rfl⟩,cs,tJ cs,hcj.1,fun p9 h9=>?_⟩
   have n98:p9≠p8:=fun z=>by subst z;rw [bO] at h9;cases h9
   have h9':M p9=none:=by rw [cB n98] at h9;exact h9
   have hP8:Pl≠p8:=fun z=>by subst z;rw [h8] at hP;cases hP
   have hP9:Pl≠p9:=fun z=>by subst z;rw [h9'] at hP;cases hP
   subst hV11
   refine aO fun V12 hV12=>?_
   refine t9 (S:=⟨none,dA 0 n⟩) (M1:=mup (mup M p8 (.lst [])) p9 (.lst [.str (Txt.join (Str.ofString " ") cs)])) (fun R r=>by simp! only [true_and];refine ⟨by omega,by omega,?_⟩;first | exact r | simpa using r)
    (fun i τ Mi=>(∃ (a c:Option U),τ=[some (U.lst (ns.map U.int)),some (U.int D),some (U.int C),some (U.int way),some (U.int (m:Int)),some (U.int (n:Int)),some (U.int b),some (U.tup (cs.map U.str)),some (U.ref p8),some (U.ref p9),a,c,none,none,none,none,none])/\Mi p8=some (.lst ((bP b cs i).map Tl.toU))/\Mi p9=some (.lst ((linesOf cs (bP b cs i)).map .str))/\Sub M Mi) ⟨⟨_,_,rfl⟩,by rw [cB n98.symm,bO];rfl,by rw [bO];rfl,((Sub.refl M).mup h8).mup h9'⟩ nk ?_ ?_
   ·rintro i x τ Mi e ⟨⟨a,c,rfl⟩,g8,g9,hS⟩
    obtain ⟨rfl,hi⟩:=wB e
    rw [show (0:Int) + (i:Int)=(i:Int) by omega]
    have k0:=Int.emod_nonneg (b + (i:Int)) (show (m:Int)≠0 by omega)
    have k1:=Int.emod_lt_of_pos (b + (i:Int)) (show (0:Int) < (m:Int) by omega)
    have k2:=Int.emod_nonneg (b + (i:Int)) (show (1001:Int)≠0 by decide)
    have k3:=Int.emod_lt_of_pos (b + (i:Int)) (show (0:Int) < 1001 by decide)
    have hone:iT (cs.map U.str) ((b + (i:Int)) % (m:Int))=some (.str (bG b cs i).cls):=by
     have hlt:((b + (i:Int)) % (cs.length:Int)).toNat < cs.length:=by rw [hcl];omega
     have:=jQ (xs:=cs.map U.str) (j:=((b + (i:Int)) % (m:Int)).toNat) (v:=.str (bG b cs i).cls) (by
      rw [List.getElem?_map]
      show (cs[((b + (i:Int)) % (m:Int)).toNat]?).map U.str=some (.str (cs.getD ((b + (i:Int)) % (cs.length:Int)).toNat (Str.ofString "")))
      rw [hcl,List.getD_eq_getElem?_getD]
      rw [hcl] at hlt
      rw [List.getElem?_eq_getElem (by omega)]
      rfl)
     rw [Int.toNat_of_nonneg k0] at this
     exact this
    have hcm:=hcn _ (pK (b:=b) hcs0 i)
    have hnx:bP b cs (i + 1)=bP b cs i++[bG b cs i]:=by unfold bP;rw [List.range_succ,List.map_append];rfl
    have hlines:linesOf cs (bP b cs (i + 1))=linesOf cs (bP b cs i)++[(bG b cs i).row]:=by rw [hnx];simp [linesOf]
    have htl:=dG b cs i
    simp! only [hName]
    refine aO fun V13 hV13=>?_
    simp! only [bJ,hName,hone]
    refine ⟨by omega,?_⟩
    subst hV13
    refine aO fun V14 hV14=>?_
    simp! only [mD,g8]
    refine ⟨⟨_,mI g8⟩,?_⟩
    refine ⟨NQ (by decide) (by decide) (by omega) (by omega),_,rfl,by decide,?_⟩
    rw [g8]
    dsimp only
    refine ⟨big (by rw [List.length_map];omega),?_⟩
    have e8:(bP b cs i).map Tl.toU++[U.tup [U.str (j0 (b + 5 * (i:Int) + 1)),U.str (bG b cs i).cls,U.tup [U.str (Str.ofString "any")],U.int ((b + (i:Int)) % 1001)]]=(bP b cs (i + 1)).map Tl.toU:=by rw [hnx,List.map_append];rfl
    rw [e8]
    have f8:mup Mi p8 (.lst ((bP b cs (i + 1)).map Tl.toU)) p8=some (.lst ((bP b cs (i + 1)).map Tl.toU)):=bO
    have f9:mup Mi p8 (.lst ((bP b cs (i + 1)).map Tl.toU)) p9=some (.lst ((linesOf cs (bP b cs i)).map .str)):=by rw [cB n98];exact g9
    have hat8:iT ((bP b cs (i + 1)).map Tl.toU) (i:Int)=some (bG b cs i).toU:=jQ (by rw [List.getElem?_map,hnx,List.getElem?_append_right (by omega),htl,Nat.sub_self];rfl)
    have hS':Sub M (mup Mi p8 (.lst ((bP b cs (i + 1)).map Tl.toU))):=fun b' o hb'=>by
     have b2:b'≠p8:=fun z=>by subst z;rw [h8] at hb';cases hb'
     rw [cB b2];exact hS b' o hb'
    generalize mup Mi p8 (.lst ((bP b cs (i + 1)).map Tl.toU))=Mj at f8 f9 hS'
    subst hV14
    have hview:view Mj (.ref p8)=.lst ((bP b cs (i + 1)).map Tl.toU):=mI f8
    have t0:iT [U.str (bG b cs i).name,U.str (bG b cs i).cls,(bG b cs i).pt.toU,U.int (bG b cs i).cost] 0=some (U.str (bG b cs i).name):=yF
    simp! only [mD,hview,hat8,zM,t0]
    refine ⟨⟨_,mI f9⟩,?_⟩
    have r1:=(mP (b + 5 * (i:Int) + 1)).2
    have r1':(bG b cs i).name.length<=8:=r1
    have r2:=(bQ hcm.2).1
    have r3:=i3 (n:=(b + (i:Int)) % 1001) k2 (by omega)
    have r4:(Str.ofString " ?").length=2:=by decide +kernel
    have erow:(bG b cs i).name++Str.ofString " "++(bG b cs i).cls++Str.ofString " "++Str.ofString (toString ((b + (i:Int)) % 1001))++Str.ofString " ?"=(bG b cs i).row:=(Rv (bG b cs i) rfl).symm
    refine ⟨small (by simp only [nQ];omega),small (by simp only [len_app,nQ];omega),small (by simp only [len_app,nQ];omega),by decide,jT k2 (by omega),small (by simp only [len_app,nQ];omega),small (by simp only [len_app,nQ,r4];omega),?_⟩
    rw [f9]
    dsimp only
    rw [erow]
    refine ⟨big (by simp only [linesOf,List.length_map,List.length_cons,htl];omega),⟨_,_,rfl⟩,?_,?_,fun b' o hb'=>?_⟩
    ·rw [cB n98.symm];exact f8
    ·rw [hlines,List.map_append];rfl
    ·have b2:b'≠p9:=fun z=>by subst z;rw [h9'] at hb';cases hb'
     rw [cB b2];exact hS' b' o hb'
   ·rintro τ Mi ⟨⟨a,c,rfl⟩,g8,g9,hS⟩
    have hl2:(Src.mk none (dA 0 n)).xs.length=n:=by simp [dA]
    rw [hl2] at g8 g9
    have hPi:Mi Pl=some (.tbl QP):=hS Pl _ hP
    have hview:view Mi (.ref p8)=.lst ((bP b cs n).map Tl.toU):=mI g8
    have hit:items Mi (.ref p9)=some ((linesOf cs (bP b cs n)).map .str):=by simp only [items,g9]
    have hRw:∀ t∈bP b cs n,t.row.length<=600:=fun t ht=>by
     obtain ⟨k,_,rfl⟩:=List.mem_map.mp ht
     have k2:=Int.emod_nonneg (b + (k:Int)) (show (1001:Int)≠0 by decide)
     have k3:=Int.emod_lt_of_pos (b + (k:Int)) (show (0:Int) < 1001 by decide)
     have r1:=(mP (b + 5 * (k:Int) + 1)).2
     have r2:=(bQ (hcn _ (pK (b:=b) hcs0 k)).2).1
     have r3:=i3 (n:=(b + (k:Int)) % 1001) k2 (by omega)
     have r4:(Pt.any).text.length=1:=by decide +kernel
     have r5:(bG b cs k).pt=.any:=rfl
     have r6:(bG b cs k).cost=(b + (k:Int)) % 1001:=rfl
     have r7:(bG b cs k).name=j0 (b + 5 * (k:Int) + 1):=rfl
     simp only [Tl.row,len_app,nQ,r5,r6,r7,r4]
     omega
    have hjn:=rA (B:=600) (n:=61) (z:=Str.ofString "\n") (l:=linesOf cs (bP b cs n)) (by rw [N8];omega) (fun s hs=>by
     rcases List.mem_cons.mp hs with rfl | hs
     ·omega
     ·obtain ⟨t,h1,rfl⟩:=List.mem_map.mp hs
      exact hRw t h1) (by simp only [linesOf,List.length_cons,List.length_map,dG];omega) (by decide)
    have hany:∀ t∈bP b cs n,t.pt.dep<=14:=fun t ht=>by
     obtain ⟨k,_,rfl⟩:=List.mem_map.mp ht
     exact (show (Pt.any).dep<=14 by decide)
    subst hV12
    dsimp only
    refine aO fun V13 hV13=>?_
    refine bU fun A B hA hB=>?_
    simp! only [true_and]
    by_cases w00:way=0
    ·rw [if_pos (decide_eq_true w00)]
     subst hA
     have hm6:=hw1 (by omega)
     subst hcs
     have hdue:=EX b0 (by omega) (EM b0 (by omega) hm1 hm6) h1 (show n<=60 by omega)
     simp! only [bI,hview,BI,wN,g9]
     refine ⟨⟨_,rfl⟩,_,tJ _,hjn.1,eW b m,bP b (eW b m) n,decide (n<=40),41,?_,hdue,hany,hPi,⟨_,M,hS,.inl rfl,q⟩⟩
     rw [show decide ((n:Int)<=40)=decide (n<=40) from decide_eq_decide.mpr (by omega)]
     rfl
    rw [if_neg (fun e=>w00 (of_decide_eq_true e))]
    subst hB
    simp only [bL]
    subst hV13
    refine aO fun V14 hV14=>?_
    refine bU fun A B hA hB=>?_
    simp! only [true_and]
    have hn40:=hw0 w00
    by_cases w01:way=1
    ·rw [if_pos (decide_eq_true w01)]
     subst hA
     subst hcs
     have hdue:=FT (m:=m) (n:=n) b0 (by omega) hm1 hm8 h1 hn40
     simp! only [bI,hview,BI,wN,g9]
     refine ⟨⟨_,rfl⟩,_,tJ _,hjn.1,eW b m,bP b (eW b m) n,decide (m<=6),0,?_,hdue,hany,hPi,⟨_,M,hS,.inl rfl,q⟩⟩
     rw [show decide ((m:Int)<=6)=decide (m<=6) from decide_eq_decide.mpr (by omega)]
     rfl
    rw [if_neg (fun e=>w01 (of_decide_eq_true e))]
    subst hB
    simp only [bL]
    subst hV14
    have hm6:=hw1 w01
    refine aO fun V15 hV15=>?_
    simp! only [bJ,hName]
    refine ⟨⟨by decide,by decide,by decide⟩,⟨by decide,by decide⟩,by omega,?_⟩
    have a0:=Int.emod_nonneg (D / (10:Int) ^ Int.toNat 9) (show (n:Int)≠0 by omega)
    have a1:=Int.emod_lt_of_pos (D / (10:Int) ^ Int.toNat 9) (show (0:Int) < (n:Int) by omega)
    generalize D / (10:Int) ^ Int.toNat 9 % (n:Int)=ai at a0 a1
    obtain ⟨k,rfl⟩:∃ k:Nat,ai=(k:Int):=⟨ai.toNat,by omega⟩
    have hk:k < n:=by omega
    have hatk:iT ((bP b cs n).map Tl.toU) (k:Int)=some (bG b cs k).toU:=jQ (by rw [List.getElem?_map];unfold bP;rw [List.getElem?_map,List.getElem?_range hk];rfl)
    have t0:iT [U.str (bG b cs k).name,U.str (bG b cs k).cls,(bG b cs k).pt.toU,U.int (bG b cs k).cost] 0=some (U.str (bG b cs k).name):=yF
    have t1:iT [U.str (bG b cs k).name,U.str (bG b cs k).cls,(bG b cs k).pt.toU,U.int (bG b cs k).cost] 1=some (U.str (bG b cs k).cls):=CI
    subst hV15
    refine aO fun V16 hV16=>?_
    simp! only [bJ,hName,hview,hatk,zM,t1]
    subst hV16
    refine aO fun V17 hV17=>?_
    obtain ⟨c0,cr,hc0⟩:∃ c0 cr,cs=c0 :: cr:=by cases cs with | nil=>exact (hcs0 rfl).elim | cons x r=>exact ⟨x,r,rfl⟩
    have hat0:iT (cs.map U.str) 0=some (.str c0):=by rw [hc0];exact yF
    have hc0m:c0∈cs:=by rw [hc0];exact List.mem_cons_self
    simp! only [bJ,kR,nV,sG,hName,hat0]
    refine ⟨⟨by decide,by decide⟩,way,C / 8,c0,cs,rfl,by omega,by omega,hc0m,hcn c0 hc0m,fun p cost due ho=>?_⟩
    subst hV17
    simp! only [true_and]
    refine aO fun V18 hV18=>?_
    simp! only [DE,hview,hatk,zM,t0]
    rw [g8]
    dsimp only
    have ixk:∀ l k:Nat,k < l->w9 l (k:Int)=some k:=fun l k h=>by
     unfold w9
     rw [if_pos (by omega),if_pos (by omega)]
     simp
    refine ⟨k,ixk _ _ (by rw [List.length_map,dG];exact hk),?_⟩
    have hset8:((bP b cs n).map Tl.toU).set k (U.tup [U.str (bG b cs k).name,U.str (bG b cs k).cls,p.toU,U.int cost])=((bP b cs n).set k ⟨(bG b cs k).name,(bG b cs k).cls,p,cost⟩).map Tl.toU:=by rw [List.map_set];rfl
    rw [hset8]
    have hcn2:=hcn _ (pK (b:=b) hcs0 k)
    have hdue:cs=eW b m->Due cs ((bP b cs n).set k ⟨(bG b cs k).name,(bG b cs k).cls,p,cost⟩) due (k + 1):=fun e=>Rn b0 (by omega) (by rw [e];exact EM b0 (by omega) hm1 hm6) hn40 hk ho
    have hdue:=hdue hcs.symm
    have hx:((bP b cs n).set k ⟨(bG b cs k).name,(bG b cs k).cls,p,cost⟩)[k]?=some ⟨(bG b cs k).name,(bG b cs k).cls,p,cost⟩:=by rw [List.getElem?_set,if_pos rfl,if_pos (by rw [dG];exact hk)]
    have hlines:((linesOf cs (bP b cs n)).map U.str).set (k + 1) (U.str (Tl.row ⟨(bG b cs k).name,(bG b cs k).cls,p,cost⟩))=(linesOf cs ((bP b cs n).set k ⟨(bG b cs k).name,(bG b cs k).cls,p,cost⟩)).map U.str:=by
     unfold linesOf
     rw [List.map_cons,List.map_cons,List.set_cons_succ,List.map_set,List.map_set]
    have hlt:((bP b cs n).set k ⟨(bG b cs k).name,(bG b cs k).cls,p,cost⟩).length=n:=by rw [List.length_set,dG]
    have hdep:∀ t∈(bP b cs n).set k ⟨(bG b cs k).name,(bG b cs k).cls,p,cost⟩,t.pt.dep<=14:=fun t ht=>by
     rcases List.mem_or_eq_of_mem_set ht with h | h
     ·exact hany t h
     ·rw [h];exact ho.dp
    generalize htt:(⟨(bG b cs k).name,(bG b cs k).cls,p,cost⟩:Tl)=t' at hdue hx hlines hlt hdep
    generalize htl2:(bP b cs n).set k t'=tl2 at hdue hx hlines hlt hdep
    have f8:mup Mi p8 (.lst (tl2.map Tl.toU)) p8=some (.lst (tl2.map Tl.toU)):=bO
    have f9:mup Mi p8 (.lst (tl2.map Tl.toU)) p9=some (.lst ((linesOf cs (bP b cs n)).map .str)):=by rw [cB n98];exact g9
    have hS':Sub M (mup Mi p8 (.lst (tl2.map Tl.toU))):=fun b' o hb'=>by
     have b2:b'≠p8:=fun z=>by subst z;rw [h8] at hb';cases hb'
     rw [cB b2];exact hS b' o hb'
    generalize mup Mi p8 (.lst (tl2.map Tl.toU))=Mj at f8 f9 hS'
    subst hV18
    refine aO fun V19 hV19=>?_
    have hview2:view Mj (.ref p8)=.lst (tl2.map Tl.toU):=mI f8
    have hat2:iT (tl2.map Tl.toU) (k:Int)=some t'.toU:=jQ (by rw [List.getElem?_map,hx];rfl)
    have t0':iT [U.str t'.name,U.str t'.cls,t'.pt.toU,U.int t'.cost] 0=some (U.str t'.name):=yF
    have e1:(k:Int) + 1=((k + 1:Nat):Int):=by omega
    simp! only [DE,hview2,hat2,zM,t0',e1]
    have r1:=(mP (b + 5 * (k:Int) + 1)).2
    have r1':t'.name.length<=8:=by rw [<- htt];exact r1
    have r2:=(bQ hcn2.2).1
    have c0:=ho.c0
    have c1:=ho.c1
    have h18:(10:Int) ^ 18=1000000000000000000:=by decide
    have r3:=i3 (n:=cost) c0 (by omega)
    have r4:=ho.tl
    refine ⟨small (by simp only [nQ];omega),small (by simp only [len_app,nQ];omega),small (by simp only [len_app,nQ];omega),jT c0 (by omega),small (by simp only [len_app,nQ];omega),small (by simp only [len_app,nQ];omega),small (by simp only [len_app,nQ];omega),?_⟩
    rw [f9]
    dsimp only
    refine ⟨k + 1,ixk _ _ (by simp only [linesOf,List.length_map,List.length_cons,dG];omega),?_⟩
    have erow:t'.name++Str.ofString " "++(bG b cs k).cls++Str.ofString " "++Str.ofString (toString cost)++Str.ofString " "++p.text=t'.row:=by rw [<- htt];rfl
    have hrow':(Tl.row ⟨(bG b cs k).name,(bG b cs k).cls,p,cost⟩)=t'.row:=by rw [<- htt]
    rw [erow]
    first
     | rw [hlines]
     | (rw [hrow'] at hlines;rw [hlines])
    have g8':mup Mj p9 (.lst ((linesOf cs tl2).map .str)) p8=some (.lst (tl2.map Tl.toU)):=by rw [cB n98.symm];exact f8
    have g9':mup Mj p9 (.lst ((linesOf cs tl2).map .str)) p9=some (.lst ((linesOf cs tl2).map .str)):=bO
    have hS2:Sub M (mup Mj p9 (.lst ((linesOf cs tl2).map .str))):=fun b' o hb'=>by
     have b2:b'≠p9:=fun z=>by subst z;rw [h9'] at hb';cases hb'
     rw [cB b2];exact hS' b' o hb'
    generalize mup Mj p9 (.lst ((linesOf cs tl2).map .str))=Mk at g8' g9' hS2
    subst hV19
    have hview3:view Mk (.ref p8)=.lst (tl2.map Tl.toU):=mI g8'
    have hjn2:=rA (B:=1100) (n:=61) (z:=Str.ofString "\n") (l:=linesOf cs tl2) (by rw [N8];omega) (fun s hs=>by
     rcases List.mem_cons.mp hs with rfl | hs
     ·omega
     ·obtain ⟨t,h1,rfl⟩:=List.mem_map.mp hs
      exact (hdue.2.2.2.2.2.2.1 t h1).len) (by simp only [linesOf,List.length_cons,List.length_map,hlt];omega) (by decide)
    simp! only [bI,hview3,BI,wN,g9',e1]
    exact ⟨⟨_,rfl⟩,_,tJ _,hjn2.1,cs,tl2,due,k + 1,rfl,hdue,hdep,hS2 Pl _ hP,⟨_,M,hS2,.inl rfl,q⟩⟩
  refine bU fun A B hA hB=>?_
  simp! only [true_and]
  by_cases w1:way=1
  ·rw [if_pos (decide_eq_true w1)]
   subst hA
   simp! only [bJ,hName]
   refine ⟨⟨by decide,by decide⟩,by decide,?_⟩
   have:=key7 (4 + C / 8 % 5).toNat (by omega) (by omega) (fun z=>(z w1).elim)
   rw [Int.toNat_of_nonneg (by omega)] at this
   exact this
  ·rw [if_neg (fun e=>w1 (of_decide_eq_true e))]
   subst hB
   simp only [bL]
   have:=key7 (1 + e2).toNat (by omega) (by omega) (fun z=>by omega)
   rw [Int.toNat_of_nonneg (by omega)] at this
   exact this
 refine bU fun A B hA hB=>?_
 simp! only [true_and]
 by_cases w1:way=0
 ·rw [if_pos (decide_eq_true w1)]
  subst hA
  simp! only [bJ,hName]
  refine ⟨⟨by decide,by decide⟩,by decide,?_⟩
  have:=key6 (38 + C / 8 % 5).toNat (by omega) (by omega) (fun z=>(z w1).elim)
  rw [Int.toNat_of_nonneg (by omega)] at this
  exact this
 ·rw [if_neg (fun e=>w1 (of_decide_eq_true e))]
  subst hB
  simp only [bL]
  have:=key6 (1 + e3).toNat (by omega) (by omega) (fun z=>by omega)
  rw [Int.toNat_of_nonneg (by omega)] at this
  exact this
end
end K15
namespace K15
open PySem L2 U2
def K6 (s:Stmt) (i:Nat):Stmt:=match s with
 | .ClassDef _ _ _ b _ _ _ _ _ _ _=>b.getD i (.Pass ⟨0,0,0,0⟩)
 | _=>.Pass ⟨0,0,0,0⟩
def A8 (n:Str):List Stmt->Stmt
 | []=>.Pass ⟨0,0,0,0⟩
 | s :: r=>match s with
  | .ClassDef m _ _ _ _ _ _ _ _ _ _=>if m=n then s else A8 n r
  | _=>A8 n r
def wL:Stmt:=K6 (A8 "NoText" PySem.Challenge.pw_rowsmith_k15_bounds_of_tables.main.body) 0
theorem Vq:aV ["self","at"] ["self","at"] (aD wL):=dX
section
variable {P:Program} {w:World} {K:PySem.W.Frag} {mg:Str->Option Value} {base:Heap}
theorem NZ {R C fI:Addr} {fd:FuncData} (F:cE K "__init__" "NoText.__init__" wL fI fd) (hm:mg "RowsmithError"=some (.ref R)) (B:Ab K R) (c:nA K C R fI) (n:uS K C "at"):n5 P w K mg base jF 1 fI fd ["self","at"] (lT C "at" condT) :=
 Hi (k:=0) (t2:=Sy "no tree is written: wrong at sign " (tL 1)) F hm B c n rfl Vq rfl (fun X h1 h2 h3=>Pe (nH (by rw [h1];rfl) (by rw [h2];exact .inl rfl)) (by decide +kernel)) (fun a y H Q hy q=>by
  obtain ⟨i,rfl,hi⟩:=hy
  have r1:=i3 (n:=(i:Int)) (by omega) (by omega)
  have r2:(Str.ofString "no tree is written: wrong at sign ").length<=100:=by decide +kernel
  refine ⟨_,rfl,_,if_pos (jT (by omega) (by omega)),by omega,?_,q _⟩
  rw [L2.len_app];omega)
theorem Rk {R C fI:Addr} {fd:FuncData} (F:cE K "__init__" "NoText.__init__" wL fI fd) (hm:mg "RowsmithError"=some (.ref R)) (hc:mg "NoText"=some (.ref C)) (B:Ab K R) (c:qG K C R fI) (n:uS K C "at"):qD P w K mg base 1 "NoText" C "at" condT :=
 ⟨R,fI,fd,"at",c,hc,NZ F hm B c.cl n,F.binds fun _ _ _ _ _ _ us hl=>match us,hl with | [_,_],_=>rfl⟩
end
def wJ:Stmt:=K6 (A8 "NoRow" PySem.Challenge.pw_rowsmith_k15_bounds_of_tables.main.body) 0
theorem TZ:aV ["self","row"] ["self","row"] (aD wJ):=dX
section
variable {P:Program} {w:World} {K:PySem.W.Frag} {mg:Str->Option Value} {base:Heap}
theorem MS {R C fI:Addr} {fd:FuncData} (F:cE K "__init__" "NoRow.__init__" wJ fI fd) (hm:mg "RowsmithError"=some (.ref R)) (B:Ab K R) (c:nA K C R fI) (n:uS K C "row"):n5 P w K mg base jF 1 fI fd ["self","row"] (lT C "row" BD) :=
 Hi (k:=0) (t2:=Sy "no table is written: wrong at row " (tL 1)) F hm B c n rfl TZ rfl (fun X h1 h2 h3=>Pe (nH (by rw [h1];rfl) (by rw [h2];exact .inl rfl)) (by decide +kernel)) (fun a y H Q hy q=>by
  obtain ⟨i,rfl,hi⟩:=hy
  have r1:=i3 (n:=(i:Int)) (by omega) (by omega)
  have r2:(Str.ofString "no table is written: wrong at row ").length<=100:=by decide +kernel
  refine ⟨_,rfl,_,if_pos (jT (by omega) (by omega)),by omega,?_,q _⟩
  rw [L2.len_app];omega)
theorem RZ {R C fI:Addr} {fd:FuncData} (F:cE K "__init__" "NoRow.__init__" wJ fI fd) (hm:mg "RowsmithError"=some (.ref R)) (hc:mg "NoRow"=some (.ref C)) (B:Ab K R) (c:qG K C R fI) (n:uS K C "row"):qD P w K mg base 1 "NoRow" C "row" BD :=
 ⟨R,fI,fd,"row",c,hc,MS F hm B c.cl n,F.binds fun _ _ _ _ _ _ us hl=>match us,hl with | [_,_],_=>rfl⟩
end
open PyProof.Rows in
theorem all_mk (Pt0:Addr) {cRE:Addr} {cxt fxt xtN:Addr} {xtnm xtqq:Str} {xtbs xtsub:List Value} {xtsn:List Str} {xtab:Bool} {xtcol:Option Bool} {xtdd xtod xtan:Option Addr} {xtk0 xtk1 xtk2 xtk3 xtk5:Option Value} {xtosl:Array (Option Value)} {xtoc xtkV xtdoc xtpm xtcdv xtct:Value} {cxr fxr xrN:Addr} {xrnm xrqq:Str} {xrbs xrsub:List Value} {xrsn:List Str} {xrab:Bool} {xrcol:Option Bool} {xrdd xrod xran:Option Addr} {xrk0 xrk1 xrk2 xrk3 xrk5:Option Value} {xrosl:Array (Option Value)} {xroc xrkV xrdoc xrpm xrcdv xrct:Value} {l:PySem.W.OpenLaw} {w:World} {K:PySem.W.Frag} {h:Heap} {mg:Str->Option Value} {fa f0 f1 f2 f3 f4 f5 f6 f7 f8 f9 f10 f11 f12 f13 f14 f15 f16 f17 f18 f19 f20 f21 f22 f23 f24 f25 f26 f27 f28 f29 f30 f31 f32 f33 f34 f35 f36 f37 f38:Addr} (X:K.In h) (G:h.Ns mainGlobals mg) (hfa:mg "law"=some (.ref fa))
  {od0 an0:Option Addr} {sl0:Array (Option Value)} {oc0 kV0 dc0 pm0 cd0 ct0:Value}
  {od1 an1:Option Addr} {sl1:Array (Option Value)} {oc1 kV1 dc1 pm1 cd1 ct1:Value}
  {od2 an2:Option Addr} {sl2:Array (Option Value)} {oc2 kV2 dc2 pm2 cd2 ct2:Value}
  {od3 an3:Option Addr} {sl3:Array (Option Value)} {oc3 kV3 dc3 pm3 cd3 ct3:Value}
  {od4 an4:Option Addr} {sl4:Array (Option Value)} {oc4 kV4 dc4 pm4 cd4 ct4:Value}
  {od5 an5:Option Addr} {sl5:Array (Option Value)} {oc5 kV5 dc5 pm5 cd5 ct5:Value}
  {od6 an6:Option Addr} {sl6:Array (Option Value)} {oc6 kV6 dc6 pm6 cd6 ct6:Value}
  {od7 an7:Option Addr} {sl7:Array (Option Value)} {oc7 kV7 dc7 pm7 cd7 ct7:Value}
  {od8 an8:Option Addr} {sl8:Array (Option Value)} {oc8 kV8 dc8 pm8 cd8 ct8:Value}
  {od9 an9:Option Addr} {sl9:Array (Option Value)} {oc9 kV9 dc9 pm9 cd9 ct9:Value}
  {od10 an10:Option Addr} {sl10:Array (Option Value)} {oc10 kV10 dc10 pm10 cd10 ct10:Value}
  {od11 an11:Option Addr} {sl11:Array (Option Value)} {oc11 kV11 dc11 pm11 cd11 ct11:Value}
  {od12 an12:Option Addr} {sl12:Array (Option Value)} {oc12 kV12 dc12 pm12 cd12 ct12:Value}
  {od13 an13:Option Addr} {sl13:Array (Option Value)} {oc13 kV13 dc13 pm13 cd13 ct13:Value}
  {od14 an14:Option Addr} {sl14:Array (Option Value)} {oc14 kV14 dc14 pm14 cd14 ct14:Value}
  {od15 an15:Option Addr} {sl15:Array (Option Value)} {oc15 kV15 dc15 pm15 cd15 ct15:Value}
  {od16 an16:Option Addr} {sl16:Array (Option Value)} {oc16 kV16 dc16 pm16 cd16 ct16:Value}
  {od17 an17:Option Addr} {sl17:Array (Option Value)} {oc17 kV17 dc17 pm17 cd17 ct17:Value}
  {od18 an18:Option Addr} {sl18:Array (Option Value)} {oc18 kV18 dc18 pm18 cd18 ct18:Value}
  {od19 an19:Option Addr} {sl19:Array (Option Value)} {oc19 kV19 dc19 pm19 cd19 ct19:Value}
  {cd20:Addr} {od20 an20:Option Addr} {sl20:Array (Option Value)} {oc20 kV20 dc20 pm20 ct20:Value}
  {od21 an21:Option Addr} {sl21:Array (Option Value)} {oc21 kV21 dc21 pm21 cd21 ct21:Value}
  {od22 an22:Option Addr} {sl22:Array (Option Value)} {oc22 kV22 dc22 pm22 cd22 ct22:Value}
  {od23 an23:Option Addr} {sl23:Array (Option Value)} {oc23 kV23 dc23 pm23 cd23 ct23:Value}
  {od24 an24:Option Addr} {sl24:Array (Option Value)} {oc24 kV24 dc24 pm24 cd24 ct24:Value}
  {od25 an25:Option Addr} {sl25:Array (Option Value)} {oc25 kV25 dc25 pm25 cd25 ct25:Value}
  {od26 an26:Option Addr} {sl26:Array (Option Value)} {oc26 kV26 dc26 pm26 cd26 ct26:Value}
  {od27 an27:Option Addr} {sl27:Array (Option Value)} {oc27 kV27 dc27 pm27 cd27 ct27:Value}
  {od28 an28:Option Addr} {sl28:Array (Option Value)} {oc28 kV28 dc28 pm28 cd28 ct28:Value}
  {od29 an29:Option Addr} {sl29:Array (Option Value)} {oc29 kV29 dc29 pm29 cd29 ct29:Value}
  {od30 an30:Option Addr} {sl30:Array (Option Value)} {oc30 kV30 dc30 pm30 cd30 ct30:Value}
  {od31 an31:Option Addr} {sl31:Array (Option Value)} {oc31 kV31 dc31 pm31 cd31 ct31:Value}
  {od32 an32:Option Addr} {sl32:Array (Option Value)} {oc32 kV32 dc32 pm32 cd32 ct32:Value}
  {od33 an33:Option Addr} {sl33:Array (Option Value)} {oc33 kV33 dc33 pm33 cd33 ct33:Value}
  {od34 an34:Option Addr} {sl34:Array (Option Value)} {oc34 kV34 dc34 pm34 cd34 ct34:Value}
  {od35 an35:Option Addr} {sl35:Array (Option Value)} {oc35 kV35 dc35 pm35 cd35 ct35:Value}
  {od36 an36:Option Addr} {sl36:Array (Option Value)} {oc36 kV36 dc36 pm36 cd36 ct36:Value}
  {od37 an37:Option Addr} {sl37:Array (Option Value)} {oc37 kV37 dc37 pm37 cd37 ct37:Value}
  {od38 an38:Option Addr} {sl38:Array (Option Value)} {oc38 kV38 dc38 pm38 cd38 ct38:Value}
  {Ta:Tok}
  {tk1:Tok}
  {tk2:Tok}
  {tk3:Tok}
  {tk4:Tok}
  {tk5:Tok}
  {tk6:Tok}
  {tk7:Tok}
  {tk8:Tok}
  {tk9:Tok}
  (a0:PySem.W.nsIn K mainGlobals "is_whole"=some (some (.ref f0))) (l0:K.lookup f0=some ⟨oc0,od0,.func (PySem.W.fnOf "is_whole" "is_whole" (aY lH) (aS lH) (aD lH) .none kV0 dc0 pm0 an0 cd0 ct0),sl0⟩) (c0:PySem.W.codeIn K cd0 "is_whole"=true) (k0:PySem.W.keepIn K (.ref f0)=true)
  (a1:PySem.W.nsIn K mainGlobals "is_number"=some (some (.ref f1))) (l1:K.lookup f1=some ⟨oc1,od1,.func (PySem.W.fnOf "is_number" "is_number" (aY j8) (aS j8) (aD j8) .none kV1 dc1 pm1 an1 cd1 ct1),sl1⟩) (c1:PySem.W.codeIn K cd1 "is_number"=true) (k1:PySem.W.keepIn K (.ref f1)=true)
  (a2:PySem.W.nsIn K mainGlobals "is_sign"=some (some (.ref f2))) (l2:K.lookup f2=some ⟨oc2,od2,.func (PySem.W.fnOf "is_sign" "is_sign" (aY m7) (aS m7) (aD m7) .none kV2 dc2 pm2 an2 cd2 ct2),sl2⟩) (c2:PySem.W.codeIn K cd2 "is_sign"=true) (k2:PySem.W.keepIn K (.ref f2)=true)
  (a3:PySem.W.nsIn K mainGlobals "is_shape"=some (some (.ref f3))) (l3:K.lookup f3=some ⟨oc3,od3,.func (PySem.W.fnOf "is_shape" "is_shape" (aY lJ) (aS lJ) (aD lJ) .none kV3 dc3 pm3 an3 cd3 ct3),sl3⟩) (c3:PySem.W.codeIn K cd3 "is_shape"=true) (k3:PySem.W.keepIn K (.ref f3)=true)
  (a4:PySem.W.nsIn K mainGlobals "parts_of"=some (some (.ref f4))) (l4:K.lookup f4=some ⟨oc4,od4,.func (PySem.W.fnOf "parts_of" "parts_of" (aY lN) (aS lN) (aD lN) .none kV4 dc4 pm4 an4 cd4 ct4),sl4⟩) (c4:PySem.W.codeIn K cd4 "parts_of"=true) (k4:PySem.W.keepIn K (.ref f4)=true)
  (a5:PySem.W.nsIn K mainGlobals "places_of"=some (some (.ref f5))) (l5:K.lookup f5=some ⟨oc5,od5,.func (PySem.W.fnOf "places_of" "places_of" (aY i9) (aS i9) (aD i9) .none kV5 dc5 pm5 an5 cd5 ct5),sl5⟩) (c5:PySem.W.codeIn K cd5 "places_of"=true) (k5:PySem.W.keepIn K (.ref f5)=true)
  (a6:PySem.W.nsIn K mainGlobals "shape_at"=some (some (.ref f6))) (l6:K.lookup f6=some ⟨oc6,od6,.func (PySem.W.fnOf "shape_at" "shape_at" (aY lE) (aS lE) (aD lE) .none kV6 dc6 pm6 an6 cd6 ct6),sl6⟩) (c6:PySem.W.codeIn K cd6 "shape_at"=true) (k6:PySem.W.keepIn K (.ref f6)=true)
  (a7:PySem.W.nsIn K mainGlobals "is_pass"=some (some (.ref f7))) (l7:K.lookup f7=some ⟨oc7,od7,.func (PySem.W.fnOf "is_pass" "is_pass" (aY mQ) (aS mQ) (aD mQ) .none kV7 dc7 pm7 an7 cd7 ct7),sl7⟩) (c7:PySem.W.codeIn K cd7 "is_pass"=true) (k7:PySem.W.keepIn K (.ref f7)=true)
  (a8:PySem.W.nsIn K mainGlobals "end_of_name"=some (some (.ref f8))) (l8:K.lookup f8=some ⟨oc8,od8,.func (PySem.W.fnOf "end_of_name" "end_of_name" (aY iN) (aS iN) (aD iN) .none kV8 dc8 pm8 an8 cd8 ct8),sl8⟩) (c8:PySem.W.codeIn K cd8 "end_of_name"=true) (k8:PySem.W.keepIn K (.ref f8)=true)
  (a9:PySem.W.nsIn K mainGlobals "read_number"=some (some (.ref f9))) (l9:K.lookup f9=some ⟨oc9,od9,.func (PySem.W.fnOf "read_number" "read_number" (aY iL) (aS iL) (aD iL) .none kV9 dc9 pm9 an9 cd9 ct9),sl9⟩) (c9:PySem.W.codeIn K cd9 "read_number"=true) (k9:PySem.W.keepIn K (.ref f9)=true)
  (a10:PySem.W.nsIn K mainGlobals "read_whole_number"=some (some (.ref f10))) (l10:K.lookup f10=some ⟨oc10,od10,.func (PySem.W.fnOf "read_whole_number" "read_whole_number" (aY dF) (aS dF) (aD dF) .none kV10 dc10 pm10 an10 cd10 ct10),sl10⟩) (c10:PySem.W.codeIn K cd10 "read_whole_number"=true) (k10:PySem.W.keepIn K (.ref f10)=true)
  (a11:PySem.W.nsIn K mainGlobals "read_shape"=some (some (.ref f11))) (l11:K.lookup f11=some ⟨oc11,od11,.func (PySem.W.fnOf "read_shape" "read_shape" (aY jK) (aS jK) (aD jK) .none kV11 dc11 pm11 an11 cd11 ct11),sl11⟩) (c11:PySem.W.codeIn K cd11 "read_shape"=true) (k11:PySem.W.keepIn K (.ref f11)=true)
  (a12:PySem.W.nsIn K mainGlobals "read_openings"=some (some (.ref f12))) (l12:K.lookup f12=some ⟨oc12,od12,.func (PySem.W.fnOf "read_openings" "read_openings" (aY fL) (aS fL) (aD fL) .none kV12 dc12 pm12 an12 cd12 ct12),sl12⟩) (c12:PySem.W.codeIn K cd12 "read_openings"=true) (k12:PySem.W.keepIn K (.ref f12)=true)
  (a13:PySem.W.nsIn K mainGlobals "read_behind"=some (some (.ref f13))) (l13:K.lookup f13=some ⟨oc13,od13,.func (PySem.W.fnOf "read_behind" "read_behind" (aY iO) (aS iO) (aD iO) .none kV13 dc13 pm13 an13 cd13 ct13),sl13⟩) (c13:PySem.W.codeIn K cd13 "read_behind"=true) (k13:PySem.W.keepIn K (.ref f13)=true)
  (a14:PySem.W.nsIn K mainGlobals "read_middle"=some (some (.ref f14))) (l14:K.lookup f14=some ⟨oc14,od14,.func (PySem.W.fnOf "read_middle" "read_middle" (aY iQ) (aS iQ) (aD iQ) .none kV14 dc14 pm14 an14 cd14 ct14),sl14⟩) (c14:PySem.W.codeIn K cd14 "read_middle"=true) (k14:PySem.W.keepIn K (.ref f14)=true)
  (a15:PySem.W.nsIn K mainGlobals "need_sign"=some (some (.ref f15))) (l15:K.lookup f15=some ⟨oc15,od15,.func (PySem.W.fnOf "need_sign" "need_sign" (aY j9) (aS j9) (aD j9) .none kV15 dc15 pm15 an15 cd15 ct15),sl15⟩) (c15:PySem.W.codeIn K cd15 "need_sign"=true) (k15:PySem.W.keepIn K (.ref f15)=true)
  (a16:PySem.W.nsIn K mainGlobals "is_name"=some (some (.ref f16))) (l16:K.lookup f16=some ⟨oc16,od16,.func (PySem.W.fnOf "is_name" "is_name" (aY mS) (aS mS) (aD mS) .none kV16 dc16 pm16 an16 cd16 ct16),sl16⟩) (c16:PySem.W.codeIn K cd16 "is_name"=true) (k16:PySem.W.keepIn K (.ref f16)=true)
  (a17:PySem.W.nsIn K mainGlobals "are_unlike"=some (some (.ref f17))) (l17:K.lookup f17=some ⟨oc17,od17,.func (PySem.W.fnOf "are_unlike" "are_unlike" (aY jP) (aS jP) (aD jP) .none kV17 dc17 pm17 an17 cd17 ct17),sl17⟩) (c17:PySem.W.codeIn K cd17 "are_unlike"=true) (k17:PySem.W.keepIn K (.ref f17)=true)
  (a18:PySem.W.nsIn K mainGlobals "are_classes"=some (some (.ref f18))) (l18:K.lookup f18=some ⟨oc18,od18,.func (PySem.W.fnOf "are_classes" "are_classes" (aY iJ) (aS iJ) (aD iJ) .none kV18 dc18 pm18 an18 cd18 ct18),sl18⟩) (c18:PySem.W.codeIn K cd18 "are_classes"=true) (k18:PySem.W.keepIn K (.ref f18)=true)
  (a19:PySem.W.nsIn K mainGlobals "is_pattern_leaf"=some (some (.ref f19))) (l19:K.lookup f19=some ⟨oc19,od19,.func (PySem.W.fnOf "is_pattern_leaf" "is_pattern_leaf" (aY eM) (aS eM) (aD eM) .none kV19 dc19 pm19 an19 cd19 ct19),sl19⟩) (c19:PySem.W.codeIn K cd19 "is_pattern_leaf"=true) (k19:PySem.W.keepIn K (.ref f19)=true)
  (a20:PySem.W.nsIn K mainGlobals "is_pattern"=some (some (.ref f20))) (l20:K.lookup f20=some ⟨oc20,od20,.func (PySem.W.fnOf "is_pattern" "is_pattern" (aY eL) (aS eL) (aD eL) .none kV20 dc20 pm20 an20 (.ref cd20) ct20),sl20⟩) (c20:PySem.W.codeIn K (.ref cd20) "is_pattern"=true) (k20:PySem.W.keepIn K (.ref f20)=true)
  (q20:PySem.W.codeHdIn K cd20 Pt0=true)
  (a21:PySem.W.nsIn K mainGlobals "is_tile"=some (some (.ref f21))) (l21:K.lookup f21=some ⟨oc21,od21,.func (PySem.W.fnOf "is_tile" "is_tile" (aY mU) (aS mU) (aD mU) .none kV21 dc21 pm21 an21 cd21 ct21),sl21⟩) (c21:PySem.W.codeIn K cd21 "is_tile"=true) (k21:PySem.W.keepIn K (.ref f21)=true)
  (a22:PySem.W.nsIn K mainGlobals "are_tiles"=some (some (.ref f22))) (l22:K.lookup f22=some ⟨oc22,od22,.func (PySem.W.fnOf "are_tiles" "are_tiles" (aY j7) (aS j7) (aD j7) .none kV22 dc22 pm22 an22 cd22 ct22),sl22⟩) (c22:PySem.W.codeIn K cd22 "are_tiles"=true) (k22:PySem.W.keepIn K (.ref f22)=true)
  (a23:PySem.W.nsIn K mainGlobals "is_table"=some (some (.ref f23))) (l23:K.lookup f23=some ⟨oc23,od23,.func (PySem.W.fnOf "is_table" "is_table" (aY lF) (aS lF) (aD lF) .none kV23 dc23 pm23 an23 cd23 ct23),sl23⟩) (c23:PySem.W.codeIn K cd23 "is_table"=true) (k23:PySem.W.keepIn K (.ref f23)=true)
  (a24:PySem.W.nsIn K mainGlobals "holes"=some (some (.ref f24))) (l24:K.lookup f24=some ⟨oc24,od24,.func (PySem.W.fnOf "holes" "holes" (aY qZ) (aS qZ) (aD qZ) .none kV24 dc24 pm24 an24 cd24 ct24),sl24⟩) (c24:PySem.W.codeIn K cd24 "holes"=true) (k24:PySem.W.keepIn K (.ref f24)=true)
  (a25:PySem.W.nsIn K mainGlobals "read_stretch"=some (some (.ref f25))) (l25:K.lookup f25=some ⟨oc25,od25,.func (PySem.W.fnOf "read_stretch" "read_stretch" (aY gN) (aS gN) (aD gN) .none kV25 dc25 pm25 an25 cd25 ct25),sl25⟩) (c25:PySem.W.codeIn K cd25 "read_stretch"=true) (k25:PySem.W.keepIn K (.ref f25)=true)
  (a26:PySem.W.nsIn K mainGlobals "read_leaf"=some (some (.ref f26))) (l26:K.lookup f26=some ⟨oc26,od26,.func (PySem.W.fnOf "read_leaf" "read_leaf" (aY kF) (aS kF) (aD kF) .none kV26 dc26 pm26 an26 cd26 ct26),sl26⟩) (c26:PySem.W.codeIn K cd26 "read_leaf"=true) (k26:PySem.W.keepIn K (.ref f26)=true)
  (a27:PySem.W.nsIn K mainGlobals "read_tile"=some (some (.ref f27))) (l27:K.lookup f27=some ⟨oc27,od27,.func (PySem.W.fnOf "read_tile" "read_tile" (aY kC) (aS kC) (aD kC) .none kV27 dc27 pm27 an27 cd27 ct27),sl27⟩) (c27:PySem.W.codeIn K cd27 "read_tile"=true) (k27:PySem.W.keepIn K (.ref f27)=true)
  (a28:PySem.W.nsIn K mainGlobals "read_table"=some (some (.ref f28))) (l28:K.lookup f28=some ⟨oc28,od28,.func (PySem.W.fnOf "read_table" "read_table" (aY jM) (aS jM) (aD jM) .none kV28 dc28 pm28 an28 cd28 ct28),sl28⟩) (c28:PySem.W.codeIn K cd28 "read_table"=true) (k28:PySem.W.keepIn K (.ref f28)=true)
  (a29:PySem.W.nsIn K mainGlobals "_law_whole"=some (some (.ref f29))) (l29:K.lookup f29=some ⟨oc29,od29,.func (PySem.W.fnOf "_law_whole" "_law_whole" (aY kB) (aS kB) (aD kB) .none kV29 dc29 pm29 an29 cd29 ct29),sl29⟩) (c29:PySem.W.codeIn K cd29 "_law_whole"=true) (k29:PySem.W.keepIn K (.ref f29)=true)
  (a30:PySem.W.nsIn K mainGlobals "_law_cell_at"=some (some (.ref f30))) (l30:K.lookup f30=some ⟨oc30,od30,.func (PySem.W.fnOf "_law_cell_at" "_law_cell_at" (aY iP) (aS iP) (aD iP) .none kV30 dc30 pm30 an30 cd30 ct30),sl30⟩) (c30:PySem.W.codeIn K cd30 "_law_cell_at"=true) (k30:PySem.W.keepIn K (.ref f30)=true)
  (a31:PySem.W.nsIn K mainGlobals "_law_alike"=some (some (.ref f31))) (l31:K.lookup f31=some ⟨oc31,od31,.func (PySem.W.fnOf "_law_alike" "_law_alike" (aY jA) (aS jA) (aD jA) .none kV31 dc31 pm31 an31 cd31 ct31),sl31⟩) (c31:PySem.W.codeIn K cd31 "_law_alike"=true) (k31:PySem.W.keepIn K (.ref f31)=true)
  (a32:PySem.W.nsIn K mainGlobals "_law_name_of"=some (some (.ref f32))) (l32:K.lookup f32=some ⟨oc32,od32,.func (PySem.W.fnOf "_law_name_of" "_law_name_of" (aY iK) (aS iK) (aD iK) .none kV32 dc32 pm32 an32 cd32 ct32),sl32⟩) (c32:PySem.W.codeIn K cd32 "_law_name_of"=true) (k32:PySem.W.keepIn K (.ref f32)=true)
  (a33:PySem.W.nsIn K mainGlobals "_law_sized"=some (some (.ref f33))) (l33:K.lookup f33=some ⟨oc33,od33,.func (PySem.W.fnOf "_law_sized" "_law_sized" (aY i5) (aS i5) (aD i5) .none kV33 dc33 pm33 an33 cd33 ct33),sl33⟩) (c33:PySem.W.codeIn K cd33 "_law_sized"=true) (k33:PySem.W.keepIn K (.ref f33)=true)
  (a34:PySem.W.nsIn K mainGlobals "_law_chain"=some (some (.ref f34))) (l34:K.lookup f34=some ⟨oc34,od34,.func (PySem.W.fnOf "_law_chain" "_law_chain" (aY kD) (aS kD) (aD kD) .none kV34 dc34 pm34 an34 cd34 ct34),sl34⟩) (c34:PySem.W.codeIn K cd34 "_law_chain"=true) (k34:PySem.W.keepIn K (.ref f34)=true)
  (a35:PySem.W.nsIn K mainGlobals "_law_gaps"=some (some (.ref f35))) (l35:K.lookup f35=some ⟨oc35,od35,.func (PySem.W.fnOf "_law_gaps" "_law_gaps" (aY jY) (aS jY) (aD jY) .none kV35 dc35 pm35 an35 cd35 ct35),sl35⟩) (c35:PySem.W.codeIn K cd35 "_law_gaps"=true) (k35:PySem.W.keepIn K (.ref f35)=true)
  (a36:PySem.W.nsIn K mainGlobals "_law_odd"=some (some (.ref f36))) (l36:K.lookup f36=some ⟨oc36,od36,.func (PySem.W.fnOf "_law_odd" "_law_odd" (aY mW) (aS mW) (aD mW) .none kV36 dc36 pm36 an36 cd36 ct36),sl36⟩) (c36:PySem.W.codeIn K cd36 "_law_odd"=true) (k36:PySem.W.keepIn K (.ref f36)=true)
  (a37:PySem.W.nsIn K mainGlobals "_law_answers"=some (some (.ref f37))) (l37:K.lookup f37=some ⟨oc37,od37,.func (PySem.W.fnOf "_law_answers" "_law_answers" (aY iI) (aS iI) (aD iI) .none kV37 dc37 pm37 an37 cd37 ct37),sl37⟩) (c37:PySem.W.codeIn K cd37 "_law_answers"=true) (k37:PySem.W.keepIn K (.ref f37)=true)
  (a38:PySem.W.nsIn K mainGlobals "law"=some (some (.ref f38))) (l38:K.lookup f38=some ⟨oc38,od38,.func (PySem.W.fnOf "law" "law" (aY qV) (aS qV) (aD qV) .none kV38 dc38 pm38 an38 cd38 ct38),sl38⟩) (c38:PySem.W.codeIn K cd38 "law"=true) (k38:PySem.W.keepIn K (.ref f38)=true)
  (e0:PySem.W.nsIn K mainGlobals "LETTERS"=some (some (.str (xM) Ta)))
  (e1:PySem.W.nsIn K mainGlobals "FIGURES"=some (some (.str (Ct) tk1)))
  (e2:PySem.W.nsIn K mainGlobals "LONGEST_NAME"=some (some (.int (8) tk2)))
  (e3:PySem.W.nsIn K mainGlobals "GREATEST"=some (some (.int (1000000000000000000) tk3)))
  (e4:PySem.W.nsIn K mainGlobals "MOST_CLASSES"=some (some (.int (6) tk4)))
  (e5:PySem.W.nsIn K mainGlobals "MOST_TILES"=some (some (.int (40) tk5)))
  (e6:PySem.W.nsIn K mainGlobals "MOST_PIECES"=some (some (.int (9) tk6)))
  (e7:PySem.W.nsIn K mainGlobals "MOST_WITHIN"=some (some (.int (5) tk7)))
  (e8:PySem.W.nsIn K mainGlobals "MOST_HOLES"=some (some (.int (4) tk8)))
  (e9:PySem.W.nsIn K mainGlobals "GREATEST_PRICE"=some (some (.int (1000) tk9)))
  {dt0:Addr} (ta0:PySem.W.nsIn K mainGlobals "SIGNS"=some (some (.ref dt0))) (tb0:KTD.tabLook KTD.flatLooks (fun b=>K.lookup b) dt0 (yB cO)=true) (tc0:KTD.hashesOf (fun b=>K.lookup b) dt0=(yB cO).map fun p=>(PySem.strKind l.prog w).hash p.1)
  {dt1:Addr} (ta1:PySem.W.nsIn K mainGlobals "MIDDLE_WORDS"=some (some (.ref dt1))) (tb1:KTD.tabLook KTD.flatLooks (fun b=>K.lookup b) dt1 (yB AL)=true) (tc1:KTD.hashesOf (fun b=>K.lookup b) dt1=(yB AL).map fun p=>(PySem.strKind l.prog w).hash p.1)
  (z0:PySem.W.nsIn K mainGlobals "len"=some none)
  (z1:PySem.W.nsIn K mainGlobals "isinstance"=some none)
  (z2:PySem.W.nsIn K mainGlobals "range"=some none)
  (z3:PySem.W.nsIn K mainGlobals "enumerate"=some none)
  (z4:PySem.W.nsIn K mainGlobals "int"=some none)
  (z5:PySem.W.nsIn K mainGlobals "bool"=some none)
  (z6:PySem.W.nsIn K mainGlobals "tuple"=some none)
  (z7:PySem.W.nsIn K mainGlobals "str"=some none)
  (z8:PySem.W.nsIn K mainGlobals "all"=some none)
  (z9:PySem.W.nsIn K mainGlobals "set"=some none)
  (z10:PySem.W.nsIn K mainGlobals "zip"=some none)
  (x2:PySem.W.nsIn K mainGlobals "RowsmithError"=some (some (.ref cRE)))
  (x18:PySem.W.readsIn K cRE (.type "type")=true)
  (x19:PySem.W.findCls K (.ref cRE) (.type "type") "__init__"=some (.val (.builtin "ValueError.__init__")))
  (x20:PySem.W.specialIn K (.ref cRE) "__getattribute__"=some (some (.builtin "type.__getattribute__")))
  (xt1:PySem.W.nsIn K mainGlobals "NoText"=some (some (.ref cxt)))
  (xt9:K.lookup cxt=some (excClassObj xtnm xtqq cxt xtN xtbs (pM cRE) true xtsn xtsub xtab xtcol xtdd xtk0 xtk1 xtk2 xtk3 xtk5 "ValueError.__new__"))
  (xt10:PySem.W.findIn K (.ref cxt) "__init__"=some (some (.ref fxt)))
  (xt11:PySem.W.isFn K (.ref fxt)=true)
  (xt12:PySem.W.keepIn K (.ref cxt)=true)
  (xt13:PySem.W.findIn K (.ref cxt) "__setattr__"=some (some (.builtin "object.__setattr__")))
  (xt14:PySem.W.findIn K (.ref cxt) "__getattribute__"=some (some (.builtin "BaseException.__getattribute__")))
  (xt15:PySem.W.findIn K (.ref cxt) "__getattr__"=some none)
  (xt16:PySem.W.findIn K (.ref cxt) "__class__"=some (some (.builtin "object.__class__")))
  (xt17:PySem.W.findIn K (.ref cxt) "at"=some none)
  (xt21:K.lookup fxt=some ⟨xtoc,xtod,.func (PySem.W.fnOf "__init__" "NoText.__init__" (aY wL) (aS wL) (aD wL) .none xtkV xtdoc xtpm xtan xtcdv xtct),xtosl⟩)
  (xt22:PySem.W.codeIn K xtcdv "NoText.__init__"=true)
  (xt23:PySem.W.keepIn K (.ref fxt)=true)
  (xt31:PySem.W.typeIn K (.ref cxt)=some (.type "type"))
  (xt32:(PySem.W.clsIn K cxt).isSome=true)
  (xt33:PySem.W.subIn K (.ref cxt) (.type "BaseException")=some true)
  (xt34:PySem.W.subIn K (.ref cxt) (.ref cxt)=some true)
  (xr1:PySem.W.nsIn K mainGlobals "NoRow"=some (some (.ref cxr)))
  (xr9:K.lookup cxr=some (excClassObj xrnm xrqq cxr xrN xrbs (pM cRE) true xrsn xrsub xrab xrcol xrdd xrk0 xrk1 xrk2 xrk3 xrk5 "ValueError.__new__"))
  (xr10:PySem.W.findIn K (.ref cxr) "__init__"=some (some (.ref fxr)))
  (xr11:PySem.W.isFn K (.ref fxr)=true)
  (xr12:PySem.W.keepIn K (.ref cxr)=true)
  (xr13:PySem.W.findIn K (.ref cxr) "__setattr__"=some (some (.builtin "object.__setattr__")))
  (xr14:PySem.W.findIn K (.ref cxr) "__getattribute__"=some (some (.builtin "BaseException.__getattribute__")))
  (xr15:PySem.W.findIn K (.ref cxr) "__getattr__"=some none)
  (xr16:PySem.W.findIn K (.ref cxr) "__class__"=some (some (.builtin "object.__class__")))
  (xr17:PySem.W.findIn K (.ref cxr) "row"=some none)
  (xr21:K.lookup fxr=some ⟨xroc,xrod,.func (PySem.W.fnOf "__init__" "NoRow.__init__" (aY wJ) (aS wJ) (aD wJ) .none xrkV xrdoc xrpm xran xrcdv xrct),xrosl⟩)
  (xr22:PySem.W.codeIn K xrcdv "NoRow.__init__"=true)
  (xr23:PySem.W.keepIn K (.ref fxr)=true)
  (xr31:PySem.W.typeIn K (.ref cxr)=some (.type "type"))
  (xr32:(PySem.W.clsIn K cxr).isSome=true)
  (xr33:PySem.W.subIn K (.ref cxr) (.type "BaseException")=some true)
  (xr34:PySem.W.subIn K (.ref cxr) (.ref cxr)=some true)
  : ∃ fd:FuncData,(∀ (s:Shared) (v:Value),BindsTo s fd ⟨[v],[]⟩ [("script",v)])/\∀ base:Heap,K.In base->base.Ns mainGlobals mg->kJ base mg->fJ l.prog w K mg base jF 24 fa fd ["script"] (gE K (A3 Pt0)):=by
 have e:=hfa.symm.trans (PySem.W.mg_of X G a38)
 cases e
 have Jp:=bN (st:=lH) l0 c0 k0
 have Jx:=PySem.W.mg_of X G a0
 have Gb:=bN (st:=j8) l1 c1 k1
 have FZ:=PySem.W.mg_of X G a1
 have K9:=bN (st:=m7) l2 c2 k2
 have Km:=PySem.W.mg_of X G a2
 have HW:=bN (st:=lJ) l3 c3 k3
 have qT:=PySem.W.mg_of X G a3
 have JC:=bN (st:=lN) l4 c4 k4
 have IT:=PySem.W.mg_of X G a4
 have FN:=bN (st:=i9) l5 c5 k5
 have FY:=PySem.W.mg_of X G a5
 have IM:=bN (st:=lE) l6 c6 k6
 have Hx:=PySem.W.mg_of X G a6
 have KO:=bN (st:=mQ) l7 c7 k7
 have Lj:=PySem.W.mg_of X G a7
 have Dn:=bN (st:=iN) l8 c8 k8
 have C4:=PySem.W.mg_of X G a8
 have C1:=bN (st:=iL) l9 c9 k9
 have C9:=PySem.W.mg_of X G a9
 have xG:=bN (st:=dF) l10 c10 k10
 have xF:=PySem.W.mg_of X G a10
 have EO:=bN (st:=jK) l11 c11 k11
 have Eb:=PySem.W.mg_of X G a11
 have BB:=bN (st:=fL) l12 c12 k12
 have By:=PySem.W.mg_of X G a12
 have Dc:=bN (st:=iO) l13 c13 k13
 have Dr:=PySem.W.mg_of X G a13
 have C8:=bN (st:=iQ) l14 c14 k14
 have C0:=PySem.W.mg_of X G a14
 have FC:=bN (st:=j9) l15 c15 k15
 have FP:=PySem.W.mg_of X G a15
 have LI:=bN (st:=mS) l16 c16 k16
 have Ku:=PySem.W.mg_of X G a16
 have Ec:=bN (st:=jP) l17 c17 k17
 have EI:=PySem.W.mg_of X G a17
 have Di:=bN (st:=iJ) l18 c18 k18
 have CV:=PySem.W.mg_of X G a18
 have Ae:=bN (st:=eM) l19 c19 k19
 have Ad:=PySem.W.mg_of X G a19
 have Ex:=bN (st:=eL) l20 c20 k20
 have Et:=PySem.W.mg_of X G a20
 have J9:=bN (st:=mU) l21 c21 k21
 have Lv:=PySem.W.mg_of X G a21
 have FR:=bN (st:=j7) l22 c22 k22
 have Ge:=PySem.W.mg_of X G a22
 have IG:=bN (st:=lF) l23 c23 k23
 have Jk:=PySem.W.mg_of X G a23
 have Qy:=bN (st:=qZ) l24 c24 k24
 have Qo:=PySem.W.mg_of X G a24
 have B3:=bN (st:=gN) l25 c25 k25
 have B9:=PySem.W.mg_of X G a25
 have F6:=bN (st:=kF) l26 c26 k26
 have lS:=PySem.W.mg_of X G a26
 have Gf:=bN (st:=kC) l27 c27 k27
 have FU:=PySem.W.mg_of X G a27
 have DR:=bN (st:=jM) l28 c28 k28
 have Fb:=PySem.W.mg_of X G a28
 have FD:=bN (st:=kB) l29 c29 k29
 have Gp:=PySem.W.mg_of X G a29
 have Df:=bN (st:=iP) l30 c30 k30
 have Dd:=PySem.W.mg_of X G a30
 have Gg:=bN (st:=jA) l31 c31 k31
 have F2:=PySem.W.mg_of X G a31
 have Dj:=bN (st:=iK) l32 c32 k32
 have Dp:=PySem.W.mg_of X G a32
 have F9:=bN (st:=i5) l33 c33 k33
 have Gh:=PySem.W.mg_of X G a33
 have F7:=bN (st:=kD) l34 c34 k34
 have F4:=PySem.W.mg_of X G a34
 have HR:=bN (st:=jY) l35 c35 k35
 have JI:=PySem.W.mg_of X G a35
 have Mv:=bN (st:=mW) l36 c36 k36
 have Kb:=PySem.W.mg_of X G a36
 have Dg:=bN (st:=iI) l37 c37 k37
 have CZ:=PySem.W.mg_of X G a37
 have Wb:=bN (st:=qV) l38 c38 k38
 have Xq:=PySem.W.mg_of X G a38
 have mR:=PySem.W.mg_of X G e0
 have sY:=PySem.W.mg_of X G e1
 have gS:=PySem.W.mg_of X G e2
 have lP:=PySem.W.mg_of X G e3
 have oN:=PySem.W.mg_of X G e4
 have rW:=PySem.W.mg_of X G e5
 have qC:=PySem.W.mg_of X G e6
 have pY:=PySem.W.mg_of X G e7
 have rK:=PySem.W.mg_of X G e8
 have mL:=PySem.W.mg_of X G e9
 have oM:=PySem.W.mg_of X G ta0
 have oG:oX l.prog w K dt0 cO:=tab_of (by decide +kernel) tb0 tc0
 have lG:=PySem.W.mg_of X G ta1
 have lC:oX l.prog w K dt1 AL:=tab_of (by decide +kernel) tb1 tc1
 have bH:=PySem.W.mg_none_of X G z0
 have aN:=PySem.W.mg_none_of X G z1
 have oW:=PySem.W.mg_none_of X G z2
 have fD:=PySem.W.mg_none_of X G z3
 have zY:=PySem.W.mg_none_of X G z4
 have nZ:=PySem.W.mg_none_of X G z5
 have bM:=PySem.W.mg_none_of X G z6
 have eI:=PySem.W.mg_none_of X G z7
 have qQ:=PySem.W.mg_none_of X G z8
 have JL:=PySem.W.mg_none_of X G z9
 have zS:=PySem.W.mg_none_of X G z10
 refine ⟨PySem.W.fnOf "law" "law" (aY qV) (aS qV) (aD qV) .none kV38 dc38 pm38 an38 cd38 ct38,fun s v=>.of_eq rfl,fun base _ _ hB=>?_⟩
 have vRE:=PySem.W.mg_of X G x2
 have vxt:=PySem.W.mg_of X G xt1
 have ccxt:nA K cxt cRE fxt:=⟨⟨_,_,_,_,_,_,_,_,_,_,_,_,_,_,xt9⟩,xt10,xt11,xt12,xt13⟩
 have cgxt:qG K cxt cRE fxt:=⟨ccxt,xt14,xt15,xt16⟩
 have exxt:=Rk (P:=l.prog) (w:=w) (base:=base) (bN (st:=wL) xt21 xt22 xt23) vRE vxt ⟨x18,x19,x20⟩ cgxt xt17
 have vxr:=PySem.W.mg_of X G xr1
 have ccxr:nA K cxr cRE fxr:=⟨⟨_,_,_,_,_,_,_,_,_,_,_,_,_,_,xr9⟩,xr10,xr11,xr12,xr13⟩
 have cgxr:qG K cxr cRE fxr:=⟨ccxr,xr14,xr15,xr16⟩
 have exxr:=RZ (P:=l.prog) (w:=w) (base:=base) (bN (st:=wJ) xr21 xr22 xr23) vRE vxr ⟨x18,x19,x20⟩ cgxr xr17
 have a0:∀ base,Callee l.prog w K mg base 1 "is_whole" vY []:=fun base=>Gn Jp Jx aN zY nZ
 have a1:∀ base,Callee l.prog w K mg base 2 "is_number" Av []:=fun base=>DZ Gb FZ lP (a0 base)
 have a2:∀ base,Callee l.prog w K mg base 1 "is_sign" Ff []:=fun base=>JQ K9 Km aN bM bH eI oG oM
 have a3:∀ base,Callee l.prog w K mg base 3 "is_pattern_leaf" B7 []:=fun base=>NH Ae Ad aN bM bH (a1 base)
 have a4:=Hw (P:=l.prog) (w:=w) (base:=base) LI Ku bH aN eI qQ mR gS
 have c0:=FL (P:=l.prog) (w:=w) (base:=base) JC IT oG oM
 have b0:=BC FN FY fD c0 6
 have b1:=FQ IM Hx c0
 have b5:=Nj Qy Qo b0 b1
 have e0:=CY Ex rfl Et q20 hB qT k3 bH qC pY rK (fun base fl s _ A=>FV HW qT (a2 base) (ka:=3) A) (fun base _=>a3 base) b5
 have e1:=HL J9 Lv aN bM bH mL a4 e0 (a0 base) (IK KO Lj)
 have e2:=Kg (P:=l.prog) (w:=w) (base:=base) Ec EI bH JL
 have e3:=BX Di CV aN bM bH qQ oN a4 e2
 have e4:=ED FR Ge aN bM bH qQ rW e1 e2
 have e5:=FI IG Jk aN bM bH e3 e4
 have d2:=Jn (P:=l.prog) (w:=w) (base:=base) Dj Dp bH
 have g0:=P5 (P:=l.prog) (w:=w) (base:=base) C1 C9 bH lP sY exxt
 have g1:=QD (P:=l.prog) (w:=w) (base:=base) Dn C4 bH gS mR
 have g2:=MD (P:=l.prog) (w:=w) (base:=base) FC FP exxt
 have g3:=Ra C8 C0 lC lG exxt g2
 have g4:=Qk BB By g2
 have g5:=RA Dc Dr bM g2 g3
 have g6:=Rl B3 B9 exxt g0
 have g7:=(NU F6 lS g1 g6).at lS
 have g8:=SW xG xF bH exxt g0
 have g9:=QA EO Eb bH exxt g7 g4 g5
 have r0:=Ox Gf FU bH lS vxt ⟨xt31,xt32,xt33⟩ xt34 exxr g8 g9
 have r1:=Rc DR Fb bH bM fD exxr e3 r0 e5
 have l0:=Kf (P:=l.prog) (w:=w) (base:=base) FD Gp aN zY nZ
 have l1:=Cj Gg F2 aN bM bH zS eI l0 20
 have o0:=Cu (P:=l.prog) (w:=w) (base:=base) F9 Gh 11
 have o1:=OQ (P:=l.prog) (w:=w) (base:=base) F7 F4 oW
 have o2:=Eh (P:=l.prog) (w:=w) (base:=base) HR JI 11
 have o3:=Uo Mv Kb eI o0 o1 o2
 have o4:=Tj Dg CZ aN nZ vxr ⟨xr31,xr32,xr33⟩ xr34 ⟨_,_,cgxr,xr17⟩ e5 r1 l1 l0
 exact Uz Wb bM oW eI (HN Df Dd bH) d2 o4 o3
theorem Ta {K:PySem.W.Frag} {f c Pt:Addr} {od an:Option Addr} {sl:Array (Option Value)} {oc kV dc pm ct:Value} (n:K.lookup Pt=none) (a:PySem.W.nsIn K mainGlobals "is_pattern"=some (some (.ref f))) (lk:K.lookup f=some ⟨oc,od,.func (PySem.W.fnOf "is_pattern" "is_pattern" (aY eL) (aS eL) (aD eL) .none kV dc pm an (.ref c) ct),sl⟩) (q:PySem.W.codeHdIn K c Pt=true):K.lookup Pt=none/\∃ c,PySem.W.codeHdIn K c Pt=true:=⟨n,c,q⟩
theorem Mb {K:PySem.W.Frag} {H:Hp} {a:Addr} {ns:List Int} {E:XK} (hl:ns.length<=63) (hb:∀ m∈ns,Builtin.Int.intBits m<=2 ^ 20) (hS:fB K H a (ns.map V.int)) (hT:∀ p∈[(201:Addr)],H p=some (.tbl #[])):gE K (A3 (201:Addr)) [.ref a] H (fun v _=>v=.bl true) E :=
 Vu (ts:=[((201:Addr),QP)]) hS hT (by decide +kernel) ⟨ns,rfl,hl,hb,rfl,rfl⟩
theorem walk {l:PySem.W.OpenLaw} {q:Program} {loose:List Str} {XP:(Str->Option Value)->Heap->Prop} {YP:World->Heap->Prop} {d:DefRec} {K:Params->PySem.W.Frag} (hn:l.most=some 63) (hdf:d.params.defaults=[])
  (hY:∀ (w:World) (h:Heap),YP w h->(K w.params).In h/\∀ P∈[(201:Addr)],h.get? P=some (PySem.W.tabObj #[]))
  (hTK:∀ (w:World),∀ P∈[(201:Addr)],(K w.params).lookup P=none/\∃ c,PySem.W.codeHdIn (K w.params) c P=true)
  (F:∀ (w:World) (mg:Str->Option Value) (fa:Addr) (h:Heap),(K w.params).In h->h.Ns mainGlobals mg->mg d.name=some (.ref fa) ->
   ∃ fd:FuncData,(∀ (s:Shared) (u:Value),BindsTo s fd ⟨[u],[]⟩ [("script",u)])/\∀ base:Heap,(K w.params).In base->base.Ns mainGlobals mg->kJ base mg->fJ l.prog w (K w.params) mg base jF 24 fa fd ["script"] (gE (K w.params) (A3 (201:Addr)))) :
  PySem.W.WalkO q loose XP YP l.row.toRowW d [] (fun f vs=>PySem.call f vs) :=
 K7 (n:=63) (k:=24) (x:="script") (ts:=[(201:Addr)]) (sp:=fun w=>gE (K w.params) (A3 (201:Addr))) hn (by decide) hdf ⟨rfl,by decide,by decide⟩ hY hTK F (fun w H a ns hl hb _ hS hT=>Mb hl hb hS hT)
end K15
namespace PySem.W.Fast
def tw10046661406831377194:=0
def tw10052197806352263887:=0
def tw10069777808545444733:=0
def tw10203528168249960462:=0
def tw10301044294697886171:=0
def tw10345969001459064774:=0
def tw10362980517596501056:=0
def tw10385084873456698954:=0
def tw10551290673888560716:=0
def tw10762505538999386227:=0
def tw10769063795037085413:=0
def tw10851054588515664874:=0
def tw10888257610944117471:=0
def tw10951123285564925778:=0
def tw10959039816379477373:=0
def tw11000452619999042846:=0
def tw11030843099932416391:=0
def tw1104047619905583407:=0
def tw11145938384091708085:=0
def tw11176179468066737363:=0
def tw11209078567172914946:=0
def tw11259978426288463823:=0
def tw11259982945109134017:=0
def tw11368923702803603644:=0
def tw11505769679967961111:=0
def tw1151384904386295974:=0
def tw115580321402863294:=0
def tw11585413461585401186:=0
def tw11660471461154590975:=0
def tw11702253973377341455:=0
def tw11833470590826716673:=0
def tw11864238060636406177:=0
def tw11958003155071118183:=0
def tw11976688538833677267:=0
def tw12040299343152373447:=0
def tw12081806051931467562:=0
def tw12100046670503936189:=0
def tw1214680604244585134:=0
def tw12171684644054677968:=0
def tw12195140634368184686:=0
def tw12231321701278574264:=0
def tw12373582283076001967:=0
def tw12387814864028538102:=0
def tw12406691949789121128:=0
def tw1241355397118002398:=0
def tw12438977847069849913:=0
def tw12445181477976188277:=0
def tw12474004579445318719:=0
def tw12495092195827467265:=0
def tw12524392556566032632:=0
def tw12527822272774920297:=0
def tw12572268136183486431:=0
def tw12664006280470059565:=0
def tw12700465189580606500:=0
def tw12702909580236155957:=0
def tw12867780326181429249:=0
def tw12938118488157238602:=0
def tw12942911900264297355:=0
def tw13017319348242168157:=0
def tw13018282474092308602:=0
def tw1306442138134752430:=0
def tw13099771852026746115:=0
def tw13138433313041047850:=0
def tw13140412269883834348:=0
def tw13181338293676078738:=0
def tw13203253180413405894:=0
def tw13215386869441184401:=0
def tw13257522129681655117:=0
def tw13277886759538139291:=0
def tw13339432372458063187:=0
def tw13352572001025757013:=0
def tw13532954911651936070:=0
def tw13603712812408607986:=0
def tw13609850658220888348:=0
def tw13646267382854537544:=0
def tw13865389581371480629:=0
def tw13927065279047712923:=0
def tw13979692013469035693:=0
def tw14007263375670231301:=0
def tw14015588132184300441:=0
def tw14151707063112216250:=0
def tw14164866123511887646:=0
def tw14189863616779411997:=0
def tw14204601439645017944:=0
def tw14218282201480234473:=0
def tw14250626152319105209:=0
def tw14264039841598833669:=0
def tw14266809816845082773:=0
def tw14336488610853821700:=0
def tw14369989802505822864:=0
def tw14413642696882281234:=0
def tw14426920881327727572:=0
def tw14504233753076158398:=0
def tw14511277586968635613:=0
def tw14597521115794138635:=0
def tw14675289436288237517:=0
def tw14718049660392167701:=0
def tw14738507831643831752:=0
def tw14795097858592763170:=0
def tw14822426031738294558:=0
def tw14882362587611073556:=0
def tw14895956971121191722:=0
def tw15123375849324218590:=0
def tw15142357047593486471:=0
def tw15172720157177597194:=0
def tw15210042932490465369:=0
def tw15233473939212458527:=0
def tw15325413130958232158:=0
def tw15367285823116675323:=0
def tw15390022784433218115:=0
def tw15450746669812151358:=0
def tw15505779418313961939:=0
def tw15666741403610273524:=0
def tw15707556167113563145:=0
def tw15717708797673120021:=0
def tw15722973750064279964:=0
def tw15812116114547220332:=0
def tw15853809424169240467:=0
def tw1590955872295179149:=0
def tw15974601444038726256:=0
def tw15983129675973883844:=0
def tw15985991559617569196:=0
def tw16006533207175362409:=0
def tw16128667949127771243:=0
def tw16195397685473611930:=0
def tw16248999092398450199:=0
def tw16254028770268244771:=0
def tw16261035133618838260:=0
def tw16332932135807582634:=0
def tw16378936761073968193:=0
def tw16413259779705293403:=0
def tw16413556338250521547:=0
def tw16416017253341483907:=0
def tw16437732575526466267:=0
def tw16538862651629031229:=0
def tw16768254228970164792:=0
def tw169396207927105860:=0
def tw16961964439183460944:=0
def tw1716693602827339751:=0
def tw17197230892215194908:=0
def tw17224081536422703702:=0
def tw17244789859078778307:=0
def tw17310818641863900542:=0
def tw17320231790871695022:=0
def tw17386369890783663652:=0
def tw17503324725063656385:=0
def tw17582049065597267089:=0
def tw17641250378950398502:=0
def tw17669559571450237196:=0
def tw17675049413368952854:=0
def tw17730161159393968591:=0
def tw17755637769357030550:=0
def tw1776178618840327408:=0
def tw17815567512588886458:=0
def tw178367476917393760:=0
def tw17948460504316546826:=0
def tw17950303088951319734:=0
def tw17961931159648439191:=0
def tw1796733543992197310:=0
def tw17999625545240115384:=0
def tw18046035063759999095:=0
def tw18069044686221415144:=0
def tw18112539689189643116:=0
def tw18117797663340784353:=0
def tw18163746325698149437:=0
def tw18728067609655902:=0
def tw187436370811997059:=0
def tw1946164653653308281:=0
def tw1948247988130141772:=0
def tw2046798227840408990:=0
def tw2198101946560732183:=0
def tw2319800055482342972:=0
def tw2394635679544517340:=0
def tw2602730994588832613:=0
def tw2612749511045782454:=0
def tw2626230273094541280:=0
def tw2725635681498195942:=0
def tw272572930666112127:=0
def tw2741567535881995608:=0
def tw2766839441842905088:=0
def tw2869775055289488168:=0
def tw2972597759275328568:=0
def tw2981245482597557222:=0
def tw3059994603994328731:=0
def tw3062639340018230759:=0
def tw3194389016457581036:=0
def tw3352191658271396785:=0
def tw336211614548460496:=0
def tw3410203811743302887:=0
def tw3423517474094285146:=0
def tw3429896265603840851:=0
def tw3449814524448334011:=0
def tw3454453450145090979:=0
def tw3559636766795180967:=0
def tw3569353533979491599:=0
def tw3601173428949818094:=0
def tw3660473696633743978:=0
def tw3700455217951930673:=0
def tw3716096402660670051:=0
def tw3948671426590683810:=0
def tw4042979079321540516:=0
def tw4160072867802645258:=0
def tw416813195782365802:=0
def tw4175530774966403640:=0
def tw4185240369390591511:=0
def tw4306450842263534743:=0
def tw4352405484133480803:=0
def tw4377826550266133262:=0
def tw4541330483767032703:=0
def tw4585070389471955307:=0
def tw4589684655326060606:=0
def tw4624254051929193020:=0
def tw463286828604141468:=0
def tw4650274805689953239:=0
def tw4703552416977072308:=0
def tw4708135961675200192:=0
def tw4841276870135172647:=0
def tw4891810066228506069:=0
def tw4896115435159362533:=0
def tw4985000865602677647:=0
def tw4998635542716126606:=0
def tw5216726238578828512:=0
def tw5301662302664379040:=0
def tw5309343048811530207:=0
def tw5322424390162452419:=0
def tw532529324323068383:=0
def tw5351494730550634534:=0
def tw5362466816801532864:=0
def tw5373213000132239135:=0
def tw5517195747004402061:=0
def tw5668743086933825831:=0
def tw574390757310480120:=0
def tw5754917361771454303:=0
def tw5853473836796160921:=0
def tw587534538633860551:=0
def tw5984411978918068298:=0
def tw6011216852510949937:=0
def tw6049487278831236166:=0
def tw6158762960618472802:=0
def tw6343379297224751120:=0
def tw6365753288898527133:=0
def tw637909301931217904:=0
def tw6393072887711117392:=0
def tw6398687841237966805:=0
def tw6437652255919466853:=0
def tw6442832538746183739:=0
def tw6586136805872392063:=0
def tw6653029592917987524:=0
def tw6718007770673433925:=0
def tw6740320589021141253:=0
def tw6781435047608356205:=0
def tw6855649805421601135:=0
def tw6857318995330958480:=0
def tw7025647980394599355:=0
def tw7064898402638334647:=0
def tw714694120860554995:=0
def tw7512724898116764209:=0
def tw7671585334017868171:=0
def tw7691126640336082580:=0
def tw7702539229974222371:=0
def tw7725910106120989173:=0
def tw7763049693246406294:=0
def tw7898423681806973377:=0
def tw7899641567876569967:=0
def tw7901509301394088208:=0
def tw7913263613356989673:=0
def tw7913584577481382872:=0
def tw8013043283747647884:=0
def tw8139763841694646672:=0
def tw8147070127955270383:=0
def tw8233348194429066519:=0
def tw8351587550505937788:=0
def tw836511968818917346:=0
def tw8389284514478157249:=0
def tw8415983109133668710:=0
def tw8438358956041960016:=0
def tw844889297644677967:=0
def tw8453831966748178181:=0
def tw8484487038902230348:=0
def tw8748139728033270046:=0
def tw8782923313865897888:=0
def tw8903391087364694440:=0
def tw9006443102370925367:=0
def tw912333466226637008:=0
def tw9194927760341340903:=0
def tw9278027738025873079:=0
def tw9286994535080764053:=0
def tw9305406707065065164:=0
def tw9344097132330037254:=0
def tw9366216973093610464:=0
def tw9461604249952564814:=0
def tw9461818276171205525:=0
def tw9483393926456796837:=0
def tw9499285339136048381:=0
def tw9538848631329042796:=0
def tw95587035384427948:=0
def tw9621568542069242966:=0
def tw9653310941002159838:=0
def tw9750226627547389647:=0
def tw9843396832075848343:=0
def tw9870269887811825177:=0
def tw9871727572612300345:=0
end PySem.W.Fast
open PySem PySem.W PyProof.Rows
set_option maxRecDepth 100000 in
set_option maxHeartbeats 0 in
theorem PySem.Challenge.cw_rowsmith_k15_bounds_of_tables_holds : PySem.Challenge.rw_rowsmith_k15_bounds_of_tables.Holds := by
 w_on;o_law;k_head;(case hw=>w_witness2)
 k_fill
 refine K15.walk (l:=PySem.Challenge.rw_rowsmith_k15_bounds_of_tables) rfl rfl (fun w h Y=>⟨PySem.W.km_in_of Y,PySem.W.km_tabs_of Y⟩) ?T ?F
 case T =>
  intro w P hP
  simp only [List.mem_cons,List.not_mem_nil,or_false] at hP
  rcases hP with rfl
  ·refine' K15.Ta ?tkn ?tka ?tkl ?tkq
   (case tkn=>kernel_rfl)
   (case tka=>k_is)
   (case tkl=>k_is)
   (case tkq=>kernel_rfl)
 case F =>
  intro w mg fa h KX G hmg
  refine' K15.all_mk (201:Addr) KX G hmg ?a0 ?l0 ?c0 ?k0 ?a1 ?l1 ?c1 ?k1 ?a2 ?l2 ?c2 ?k2 ?a3 ?l3 ?c3 ?k3 ?a4 ?l4 ?c4 ?k4 ?a5 ?l5 ?c5 ?k5 ?a6 ?l6 ?c6 ?k6 ?a7 ?l7 ?c7 ?k7 ?a8 ?l8 ?c8 ?k8 ?a9 ?l9 ?c9 ?k9 ?a10 ?l10 ?c10 ?k10 ?a11 ?l11 ?c11 ?k11 ?a12 ?l12 ?c12 ?k12 ?a13 ?l13 ?c13 ?k13 ?a14 ?l14 ?c14 ?k14 ?a15 ?l15 ?c15 ?k15 ?a16 ?l16 ?c16 ?k16 ?a17 ?l17 ?c17 ?k17 ?a18 ?l18 ?c18 ?k18 ?a19 ?l19 ?c19 ?k19 ?a20 ?l20 ?c20 ?k20 ?q20 ?a21 ?l21 ?c21 ?k21 ?a22 ?l22 ?c22 ?k22 ?a23 ?l23 ?c23 ?k23 ?a24 ?l24 ?c24 ?k24 ?a25 ?l25 ?c25 ?k25 ?a26 ?l26 ?c26 ?k26 ?a27 ?l27 ?c27 ?k27 ?a28 ?l28 ?c28 ?k28 ?a29 ?l29 ?c29 ?k29 ?a30 ?l30 ?c30 ?k30 ?a31 ?l31 ?c31 ?k31 ?a32 ?l32 ?c32 ?k32 ?a33 ?l33 ?c33 ?k33 ?a34 ?l34 ?c34 ?k34 ?a35 ?l35 ?c35 ?k35 ?a36 ?l36 ?c36 ?k36 ?a37 ?l37 ?c37 ?k37 ?a38 ?l38 ?c38 ?k38 ?e0 ?e1 ?e2 ?e3 ?e4 ?e5 ?e6 ?e7 ?e8 ?e9 ?ta0 ?tb0 ?tc0 ?ta1 ?tb1 ?tc1 ?z0 ?z1 ?z2 ?z3 ?z4 ?z5 ?z6 ?z7 ?z8 ?z9 ?z10 ?x2 ?x18 ?x19 ?x20 ?xt1 ?xt9 ?xt10 ?xt11 ?xt12 ?xt13 ?xt14 ?xt15 ?xt16 ?xt17 ?xt21 ?xt22 ?xt23 ?xt31 ?xt32 ?xt33 ?xt34 ?xr1 ?xr9 ?xr10 ?xr11 ?xr12 ?xr13 ?xr14 ?xr15 ?xr16 ?xr17 ?xr21 ?xr22 ?xr23 ?xr31 ?xr32 ?xr33 ?xr34
  (case a0=>k_is)
  (case l0=>k_is)
  (case c0=>k_is)
  (case k0=>k_is)
  (case a1=>k_is)
  (case l1=>k_is)
  (case c1=>k_is)
  (case k1=>k_is)
  (case a2=>k_is)
  (case l2=>k_is)
  (case c2=>k_is)
  (case k2=>k_is)
  (case a3=>k_is)
  (case l3=>k_is)
  (case c3=>k_is)
  (case k3=>k_is)
  (case a4=>k_is)
  (case l4=>k_is)
  (case c4=>k_is)
  (case k4=>k_is)
  (case a5=>k_is)
  (case l5=>k_is)
  (case c5=>k_is)
  (case k5=>k_is)
  (case a6=>k_is)
  (case l6=>k_is)
  (case c6=>k_is)
  (case k6=>k_is)
  (case a7=>k_is)
  (case l7=>k_is)
  (case c7=>k_is)
  (case k7=>k_is)
  (case a8=>k_is)
  (case l8=>k_is)
  (case c8=>k_is)
  (case k8=>k_is)
  (case a9=>k_is)
  (case l9=>k_is)
  (case c9=>k_is)
  (case k9=>k_is)
  (case a10=>k_is)
  (case l10=>k_is)
  (case c10=>k_is)
  (case k10=>k_is)
  (case a11=>k_is)
  (case l11=>k_is)
  (case c11=>k_is)
  (case k11=>k_is)
  (case a12=>k_is)
  (case l12=>k_is)
  (case c12=>k_is)
  (case k12=>k_is)
  (case a13=>k_is)
  (case l13=>k_is)
  (case c13=>k_is)
  (case k13=>k_is)
  (case a14=>k_is)
  (case l14=>k_is)
  (case c14=>k_is)
  (case k14=>k_is)
  (case a15=>k_is)
  (case l15=>k_is)
  (case c15=>k_is)
  (case k15=>k_is)
  (case a16=>k_is)
  (case l16=>k_is)
  (case c16=>k_is)
  (case k16=>k_is)
  (case a17=>k_is)
  (case l17=>k_is)
  (case c17=>k_is)
  (case k17=>k_is)
  (case a18=>k_is)
  (case l18=>k_is)
  (case c18=>k_is)
  (case k18=>k_is)
  (case a19=>k_is)
  (case l19=>k_is)
  (case c19=>k_is)
  (case k19=>k_is)
  (case a20=>k_is)
  (case l20=>k_is)
  (case c20=>k_is)
  (case k20=>k_is)
  (case q20=>kernel_rfl)
  (case a21=>k_is)
  (case l21=>k_is)
  (case c21=>k_is)
  (case k21=>k_is)
  (case a22=>k_is)
  (case l22=>k_is)
  (case c22=>k_is)
  (case k22=>k_is)
  (case a23=>k_is)
  (case l23=>k_is)
  (case c23=>k_is)
  (case k23=>k_is)
  (case a24=>k_is)
  (case l24=>k_is)
  (case c24=>k_is)
  (case k24=>k_is)
  (case a25=>k_is)
  (case l25=>k_is)
  (case c25=>k_is)
  (case k25=>k_is)
  (case a26=>k_is)
  (case l26=>k_is)
  (case c26=>k_is)
  (case k26=>k_is)
  (case a27=>k_is)
  (case l27=>k_is)
  (case c27=>k_is)
  (case k27=>k_is)
  (case a28=>k_is)
  (case l28=>k_is)
  (case c28=>k_is)
  (case k28=>k_is)
  (case a29=>k_is)
  (case l29=>k_is)
  (case c29=>k_is)
  (case k29=>k_is)
  (case a30=>k_is)
  (case l30=>k_is)
  (case c30=>k_is)
  (case k30=>k_is)
  (case a31=>k_is)
  (case l31=>k_is)
  (case c31=>k_is)
  (case k31=>k_is)
  (case a32=>k_is)
  (case l32=>k_is)
  (case c32=>k_is)
  (case k32=>k_is)
  (case a33=>k_is)
  (case l33=>k_is)
  (case c33=>k_is)
  (case k33=>k_is)
  (case a34=>k_is)
  (case l34=>k_is)
  (case c34=>k_is)
  (case k34=>k_is)
  (case a35=>k_is)
  (case l35=>k_is)
  (case c35=>k_is)
  (case k35=>k_is)
  (case a36=>k_is)
  (case l36=>k_is)
  (case c36=>k_is)
  (case k36=>k_is)
  (case a37=>k_is)
  (case l37=>k_is)
  (case c37=>k_is)
  (case k37=>k_is)
  (case a38=>k_is)
  (case l38=>k_is)
  (case c38=>k_is)
  (case k38=>k_is)
  (case e0=>k_is)
  (case e1=>k_is)
  (case e2=>k_is)
  (case e3=>k_is)
  (case e4=>k_is)
  (case e5=>k_is)
  (case e6=>k_is)
  (case e7=>k_is)
  (case e8=>k_is)
  (case e9=>k_is)
  (case ta0=>k_is)
  (case tb0=>kernel_rfl)
  (case tc0=>kernel_rfl)
  (case ta1=>k_is)
  (case tb1=>kernel_rfl)
  (case tc1=>kernel_rfl)
  (case z0=>k_is)
  (case z1=>k_is)
  (case z2=>k_is)
  (case z3=>k_is)
  (case z4=>k_is)
  (case z5=>k_is)
  (case z6=>k_is)
  (case z7=>k_is)
  (case z8=>k_is)
  (case z9=>k_is)
  (case z10=>k_is)
  (case x2=>k_is)
  (case x18=>k_is)
  (case x19=>kernel_rfl)
  (case x20=>k_is)
  (case xt1=>k_is)
  (case xt9=>k_is)
  (case xt10=>k_is)
  (case xt11=>k_is)
  (case xt12=>k_is)
  (case xt13=>k_is)
  (case xt14=>k_is)
  (case xt15=>k_is)
  (case xt16=>k_is)
  (case xt17=>k_is)
  (case xt21=>k_is)
  (case xt22=>k_is)
  (case xt23=>k_is)
  (case xt31=>k_is)
  (case xt32=>kernel_rfl)
  (case xt33=>k_is)
  (case xt34=>k_is)
  (case xr1=>k_is)
  (case xr9=>k_is)
  (case xr10=>k_is)
  (case xr11=>k_is)
  (case xr12=>k_is)
  (case xr13=>k_is)
  (case xr14=>k_is)
  (case xr15=>k_is)
  (case xr16=>k_is)
  (case xr17=>k_is)
  (case xr21=>k_is)
  (case xr22=>k_is)
  (case xr23=>k_is)
  (case xr31=>k_is)
  (case xr32=>kernel_rfl)
  (case xr33=>k_is)
  (case xr34=>k_is)
#print axioms PySem.Challenge.cw_rowsmith_k15_bounds_of_tables_holds