import PyProof.Rows.All
import Wide.All
import OpenK.AllK
import Wide.FinOn
import Lean
import PyProof.EqAt
import PyProof.EqKinds
import PyProof.TupleCall
import PySem.Challenge.RW_rowsmith_k15_bounds_of_tables
import PyProof.TupleKey
import KE.KRevIter
import PyProof.ListRange
import PyProof.CollectIter
import PyProof.Rows.SortWalk
import PyProof.ListMulRoad
import PyProof.AutoListH
import PyProof.Rows.SortStr
import PyProof.FactsAll.tuple_2
import KE.KLam
import KE.KNestM
import PyProof.ExcInit
import PyProof.InstStoreFacts
import PyProof.RulesAs
import PyProof.NsDelKeeps
import PyProof.ExcBaseAll.ValueError
import PyProof.ExcArgsOwn
import KE.KIsAll
import PyProof.Rows.FStr
import PyProof.CollectWalk
import PyProof.Rows.SumAny
import PyProof.Rows.SetFrom
import PyProof.TupleOfGen
import PyProof.EnumMake
import PyProof.Rows.StrSplitMax
import PyProof.StrLawsTight
set_option linter.all false
set_option maxRecDepth 100000
set_option maxHeartbeats 4000000
namespace PySem
open Sem (wp)
section
variable {prog:Program} {w:World} {K:Type} [DecidableEq K] (knd:KeyKind prog w K)
def cR (h:Heap) (x:List K × K) (a:Addr):Prop:=∃ o n b v,h.get? a=some o/\o.cls=.type "tuple"/\o.data=.seq #[.ref b,v] n/\IsTupleKey knd h x.1 b/\knd.is x.2 v=true
variable {knd}
theorem cR.typeIs {s:Shared} {x:List K × K} {a:Addr} (p:cR knd s.heap x a):s.TypeIs (.ref a) "tuple":=let ⟨o,_,_,_,ho,hc,_⟩:=p;⟨o,ho,hc⟩
theorem cR.inj {h:Heap} {a:Addr} {x y:List K × K} (hx:cR knd h x a) (hy:cR knd h y a):x=y:=by
 obtain ⟨o,n,b,v,ho,_,hd,h1,h2⟩:=hx
 obtain ⟨o',n',b',v',ho',_,hd',h1',h2'⟩:=hy
 obtain rfl:o=o':=Option.some.inj (ho.symm.trans ho')
 rw [hd] at hd'
 injection hd' with e _
 have e1:(.ref b:Value)=.ref b'/\v=v':=by simpa using e
 obtain ⟨e2,rfl⟩:=e1
 cases e2
 exact Prod.ext (h1.inj h1') (knd.inj _ _ _ h2 h2')
theorem cR.keeps {h h':Heap} {x:List K × K} {a d:Addr} {o:Obj} {es ep} (p:cR knd h x a) (ho:h.get? d=some o) (hd:o.data=.dict es ep) (hs:Heap.SameBut d h h'):cR knd h' x a:=by
 obtain ⟨o',n,b,v,ho',hc,hd',h1,h2⟩:=p
 have hne:a≠d:=by
  rintro rfl
  obtain rfl:o'=o:=Option.some.inj (ho'.symm.trans ho)
  rw [hd] at hd';exact nomatch hd'
 exact ⟨o',n,b,v,(hs.2 a hne).trans ho',hc,hd',h1.keeps ho hd hs,h2⟩
def tM (knd:KeyKind prog w K) (x:List K × K):Int:=reduceHash (Builtin.Tuple.tupleHashOf [tupleKeyHash knd x.1,knd.hash x.2])
variable {A:Around} {E:Value->Shared->Prop} {s:Shared}
theorem Ay {x:List K × K} {a:Addr} {Q:Int->Shared->Prop} (hu:A.units + 1 < cLine) (hk:cR knd s.heap x a) (h:Q (tM knd x) { s with toks:=s.toks + (x.1.length + 3) }) :
  wpAny (model prog w) A (pyHash (.ref a)) Q E s:=by
 have hT:=hk.typeIs
 obtain ⟨o,n,b,v,ho,_,hd,h1,h2⟩:=hk
 unfold pyHash
 first | unfold pyHashByItsType | skip
 first | refine wpAny_bind (wpAny_cRoomFor_or (.inr (by omega)) ?_) | skip
 refine wpAny_bind (wpAny_specialOf hT F.slot_tuple_hash.lookup ?_)
 show wpAny _ _ (if (some (Value.builtin "tuple.__hash__") == some Value.none)=true then _ else _) Q E s
 rw [if_neg (by rw [beq_builtin_none];exact Bool.false_ne_true)]
 refine wpAny_bind (wpAny_specialOf hT F.slot_tuple_hash.lookup ?_)
 show wpAny _ _ (callSpecialIfBoundUnlessNone? (.ref a) "__hash__" _ >>= _) Q E s
 refine wpAny_bind (wpAny_callSpecialIfBoundUnlessNone?_slot hT F.slot_tuple_hash (wpAny_call_entry F.slot_tuple_hash hT F.entry_tuple_hash ?_ (F.args_tuple_hash_1 _)))
 show wpAny _ _ (Builtin.Tuple.tupleItemsOf (.ref a) >>= _) _ _ s
 refine wpAny_bind (wpAny_tupleItemsOf ho hd ?_)
 refine wpAny_bind ?_
 rw [<- Array.forIn_toList]
 refine wpAny_forIn_list _
  (fun rest (r:Array Int) s'=>(rest=[.ref b,v]/\r.toList=[]/\s'=s)\/(rest=[v]/\r.toList=[tupleKeyHash knd x.1]/\s'={ s with toks:=s.toks + (x.1.length + 1) })\/(rest=[]/\r.toList=[tupleKeyHash knd x.1,knd.hash x.2]/\s'={ s with toks:=s.toks + (x.1.length + 1) + 1 }))
  _ ?_ ?_ _ _ (.inl ⟨rfl,rfl,rfl⟩)
 ·rintro y rest r s' (⟨hr,hb,rfl⟩ | ⟨hr,hb,rfl⟩ | ⟨hr,_⟩)
  ·cases hr
   refine wpAny_bind (wpAny_pyHash_tuple (by first | exact hu | (show A.units + 1 < cLine;exact hu)) h1 ?_)
   first
    | exact wpAny_pure (.inr (.inl ⟨rfl,by simp [hb],rfl⟩))
    | exact wpAny_bind (wpAny_pure (wpAny_pure (.inr (.inl ⟨rfl,by simp [hb],rfl⟩))))
  ·cases hr
   refine wpAny_bind (knd.pyHash h2 ?_)
   first
    | exact wpAny_pure (.inr (.inr ⟨rfl,by simp [hb],rfl⟩))
    | exact wpAny_bind (wpAny_pure (wpAny_pure (.inr (.inr ⟨rfl,by simp [hb],rfl⟩))))
  ·cases hr
 ·rintro r s' (⟨hr,_⟩ | ⟨hr,_⟩ | ⟨_,hb,rfl⟩)
  ·cases hr
  ·cases hr
  ·show wpAny _ _ (retInt (Builtin.Tuple.tupleHashOf r.toList)) _ _ _
   rw [hb]
   refine wpAny_ret_mkInt ?_
   show wpAny _ _ (if (decide (-(2:Int) ^ 63<=Builtin.Tuple.tupleHashOf [tupleKeyHash knd x.1,knd.hash x.2]) && decide (Builtin.Tuple.tupleHashOf [tupleKeyHash knd x.1,knd.hash x.2] < 2 ^ 63))=true then _ else _) Q E _
   unfold tM reduceHash at h
   by_cases hr:(decide (-(2:Int) ^ 63<=Builtin.Tuple.tupleHashOf [tupleKeyHash knd x.1,knd.hash x.2]) && decide (Builtin.Tuple.tupleHashOf [tupleKeyHash knd x.1,knd.hash x.2] < 2 ^ 63))=true
   ·rw [if_pos hr]
    rw [if_pos hr] at h
    exact wpAny_pure (by simpa [Nat.add_assoc] using h)
   ·rw [if_neg hr]
    rw [if_neg hr] at h
    exact wpAny_bind (wpAny_rule (wpAny_pure (by simpa [Nat.add_assoc] using h)))
theorem DQ {x y:List K × K} {a b:Addr} {P:Fin->Shared->Prop} (hu:A.units < cLine) (hx:cR knd s.heap x a) (hy:cR knd s.heap y b) (h:P (.done (.ret (.bool (decide (x=y))))) s) :
  wpAny (model prog w) A (Builtin.«tuple.__eq__» ⟨[.ref a,.ref b],[]⟩) P E s:=by
 have hTb:=hy.typeIs
 obtain ⟨oa,na,a1,v1,hoa,_,hda,p1,q1⟩:=hx
 obtain ⟨ob,nb,a2,v2,hob,_,hdb,p2,q2⟩:=hy
 show wpAny _ _ (isInstance (.ref b) (.type "tuple") >>= _) _ _ s
 refine wpAny_bind (wpAny_isInstance hTb isSubtype_tuple_tuple ?_)
 simp only [Bool.not_true,Bool.false_eq_true,if_false]
 refine wpAny_bind (wpAny_tupleItemsOf hoa hda ?_)
 refine wpAny_bind (wpAny_tupleItemsOf hob hdb ?_)
 refine wpAny_bind ?_
 refine wpAny_forIn_list _
  (fun rest r s'=>r.1=none/\s'=s/\((rest=[(.ref a1,.ref a2),(v1,v2)])\/(rest=[(v1,v2)]/\x.1=y.1)\/(rest=[]/\x=y)))
  _ ?_ ?_ _ _ ⟨rfl,rfl,.inl rfl⟩
 ·rintro ⟨u,v⟩ rest r s' ⟨hr,rfl,hz | ⟨hz,e⟩ | ⟨hz,_⟩⟩
  ·cases hz
   refine wpAny_bind (wpAny_eqBool_tuple hu p1 p2 ?_)
   by_cases hk:x.1=y.1
   ·rw [decide_eq_true hk]
    simp only [Bool.not_true,Bool.false_eq_true,if_false]
    exact wpAny_pure ⟨rfl,rfl,by simp [hk]⟩
   ·rw [decide_eq_false hk]
    simp only [Bool.not_false,if_true]
    have hf:decide (x=y)=false:=decide_eq_false fun z=>hk (by rw [z])
    rw [hf] at h
    exact wpAny_bind (wpAny_pure (wpAny_pure (wpAny_pure h)))
  ·cases hz
   refine wpAny_bind (knd.eqBool (a:=x.2) (b:=y.2) q1 q2 ?_)
   by_cases hk:x.2=y.2
   ·rw [decide_eq_true hk]
    simp only [Bool.not_true,Bool.false_eq_true,if_false]
    exact wpAny_pure ⟨rfl,rfl,.inr (.inr ⟨trivial,Prod.ext e hk⟩)⟩
   ·rw [decide_eq_false hk]
    simp only [Bool.not_false,if_true]
    have hf:decide (x=y)=false:=decide_eq_false fun z=>hk (by rw [z])
    rw [hf] at h
    exact wpAny_bind (wpAny_pure (wpAny_pure (wpAny_pure h)))
  ·cases hz
 ·rintro ⟨r1,r2⟩ s' ⟨hr,rfl,hz | ⟨hz,_⟩ | ⟨_,e⟩⟩
  ·cases hz
  ·cases hz
  ·simp only at hr
   subst hr
   refine wpAny_pure ?_
   rw [decide_eq_true e] at h
   exact h
theorem Az {x y:List K × K} {a b:Addr} {Q:Bool->Shared->Prop} (hu:A.units + 1 < cLine) (hx:cR knd s.heap x a) (hy:cR knd s.heap y b) (h:Q (decide (x=y)) s) :
  wpAny (model prog w) A (eqBool (.ref a) (.ref b)) Q E s:=by
 unfold eqBool
 try with_reducible refine wpAny_holding ?_
 show wpAny _ _ (if (Value.ref a == Value.ref b)=true then _ else _) Q E s
 by_cases hab:(Value.ref a == Value.ref b)=true
 ·rw [if_pos hab]
  have e:a=b:=by have:=eq_of_beq hab;injection this
  subst e
  obtain rfl:=hx.inj hy
  exact wpAny_bind (wpAny_rule (wpAny_pure (by simpa using h)))
 ·rw [if_neg hab]
  exact wpAny_bind (wpAny_richCompare_same_room (op:=.Eq) hx.typeIs hy.typeIs F.slot_tuple_eq
   (wpAny_call_entry F.slot_tuple_eq hx.typeIs F.entry_tuple_eq (DQ (by first | exact hu | (show A.units + 1 < cLine;exact hu)) hx hy ⟨_,rfl,(fun e=>nomatch e),wpAny_truthy_bool h⟩) (F.args_tuple_eq_2 _ _)) (by omega))
theorem vX {x:List K × K} {a:Addr} {Q:Bool->Shared->Prop} (hk:cR knd s.heap x a) (h:Q true s):wpAny (model prog w) A (eqIsQuiet 8 (.ref a)) Q E s:=by
 have hT:=hk.typeIs
 obtain ⟨o,n,b,v,ho,_,hd,h1,h2⟩:=hk
 have inner:∀ {Q:Bool->Shared->Prop},Q true s->wpAny (model prog w) A (eqIsQuiet 7 (.ref b)) Q E s:=by
  intro Q h
  have hT:=h1.typeIs
  obtain ⟨o,items,n,ho,_,hd,hi⟩:=h1
  unfold eqIsQuiet
  refine wpAny_bind (wpAny_specialOf hT F.slot_tuple_eq.lookup ?_)
  show wpAny _ _ (isInstance (.ref b) (.type "tuple") >>= _) _ _ s
  refine wpAny_bind (wpAny_isInstance hT isSubtype_tuple_tuple ?_)
  simp only [Bool.not_true,Bool.false_eq_true,if_false]
  refine wpAny_bind (wpAny_seqItems ho hd ?_)
  refine wpAny_bind ?_
  show wpAny _ _ (forIn items _ _) _ _ s
  rw [<- Array.forIn_toList]
  refine wpAny_forIn_list _ (fun rest r s'=>r.1=none/\s'=s/\∀ v∈rest,carriedByValue v=true) _ ?_ ?_ _ _ ⟨rfl,rfl,hi.byValue⟩
  ·rintro v rest r s' ⟨hr,rfl,hall⟩
   rw [eqIsQuiet_byValue _ (hall v List.mem_cons_self)]
   refine wpAny_bind (wpAny_pure ?_)
   simp only [Bool.not_true,Bool.false_eq_true,if_false]
   exact wpAny_pure ⟨rfl,rfl,fun u hu'=>hall u (List.mem_cons_of_mem _ hu')⟩
  ·rintro ⟨r1,r2⟩ s' ⟨hr,rfl,_⟩
   simp only at hr
   subst hr
   exact wpAny_pure h
 unfold eqIsQuiet
 refine wpAny_bind (wpAny_specialOf hT F.slot_tuple_eq.lookup ?_)
 show wpAny _ _ (isInstance (.ref a) (.type "tuple") >>= _) _ _ s
 refine wpAny_bind (wpAny_isInstance hT isSubtype_tuple_tuple ?_)
 simp only [Bool.not_true,Bool.false_eq_true,if_false]
 refine wpAny_bind (wpAny_seqItems ho hd ?_)
 refine wpAny_bind ?_
 show wpAny _ _ (forIn #[Value.ref b,v] _ _) _ _ s
 rw [<- Array.forIn_toList]
 refine wpAny_forIn_list _ (fun rest r s'=>r.1=none/\s'=s/\(rest=[.ref b,v]\/rest=[v]\/rest=[])) _ ?_ ?_ _ _ ⟨rfl,rfl,.inl rfl⟩
 ·rintro u rest r s' ⟨hr,rfl,hz | hz | hz⟩
  ·cases hz
   refine wpAny_bind (inner ?_)
   simp only [Bool.not_true,Bool.false_eq_true,if_false]
   exact wpAny_pure ⟨rfl,rfl,by simp⟩
  ·cases hz
   rw [eqIsQuiet_byValue _ (knd.byValue _ _ h2)]
   refine wpAny_bind (wpAny_pure ?_)
   simp only [Bool.not_true,Bool.false_eq_true,if_false]
   exact wpAny_pure ⟨rfl,rfl,by simp⟩
  ·cases hz
 ·rintro ⟨r1,r2⟩ s' ⟨hr,rfl,_⟩
  simp only at hr
  subst hr
  exact wpAny_pure h
end
def Mx {prog:Program} {w:World} {K:Type} [DecidableEq K] (knd:KeyKind prog w K):HeapKind prog w (List K × K) where
 is:=cR knd
 hash:=tM knd
 draws:=fun x=>x.1.length + 3
 room:=fun A=>A.units + 1 < cLine
 inj:=fun hx hy=>hx.inj hy
 keeps:=fun x ho hd hs=>x.keeps ho hd hs
 pyHash:=fun hu hk h=>Ay hu hk h
 eqBool:=fun hu hx hy h=>Az hu hx hy h
 quiet:=fun hk h=>vX hk h
end PySem
set_option Elab.async false
namespace L2
open PySem PySem.Spec PyProof.Rows
abbrev Key:=Sum Int Str
def O3:Key->Value->Bool
 | .inl k,v=>Value.isInt k v
 | .inr x,v=>Value.isStrOf x v
def WM (w:World):Key->Int
 | .inl k=>hashInt k
 | .inr x=>hashStr w x
theorem eZ:∀ {k:Key} {v:Value},O3 k v=true->(∃ i t,k=Sum.inl i/\v=Value.int i t)\/(∃ x t,k=Sum.inr x/\v=Value.str x t)
 | .inl i,v,h=>by
  obtain ⟨t,e⟩:=Value.isInt_shape (k:=i) (v:=v) h
  exact .inl ⟨i,t,rfl,e⟩
 | .inr x,v,h=>by
  obtain ⟨t,e⟩:=Value.isStrOf_shape (x:=x) (v:=v) h
  exact .inr ⟨x,t,rfl,e⟩
theorem TV (a b:Int):decide ((Sum.inl a:Key)=Sum.inl b)=(a == b):=by
 by_cases e:a=b
 ·subst e;simp
 ·have h:¬ (Sum.inl a:Key)=Sum.inl b:=fun q=>e (Sum.inl.inj q)
  rw [decide_eq_false h]
  exact (beq_eq_false_iff_ne.mpr e).symm
theorem R8 (a b:Str):decide ((Sum.inr a:Key)=Sum.inr b)=decide (a=b):=by
 by_cases e:a=b
 ·subst e;simp
 ·have h:¬ (Sum.inr a:Key)=Sum.inr b:=fun q=>e (Sum.inr.inj q)
  rw [decide_eq_false h,decide_eq_false e]
theorem TF (a:Int) (b:Str):decide ((Sum.inl a:Key)=Sum.inr b)=false:=decide_eq_false (fun q=>nomatch q)
theorem R0 (a:Str) (b:Int):decide ((Sum.inr a:Key)=Sum.inl b)=false:=decide_eq_false (fun q=>nomatch q)
def Ak (prog:Program) (w:World):PySem.KeyKind prog w Key where
 is:=O3
 hash:=WM w
 inj:=fun v a b ha hb=>by
  rcases eZ ha with ⟨i,t,rfl,rfl⟩ | ⟨x,t,rfl,rfl⟩
  ·rcases eZ hb with ⟨j,u,rfl,e⟩ | ⟨y,u,rfl,e⟩
   ·injection e with e1 _;rw [e1]
   ·exact nomatch e
  ·rcases eZ hb with ⟨j,u,rfl,e⟩ | ⟨y,u,rfl,e⟩
   ·exact nomatch e
   ·injection e with e1 _;rw [e1]
 byValue:=fun k v h=>by
  rcases eZ h with ⟨i,t,rfl,rfl⟩ | ⟨x,t,rfl,rfl⟩ <;> rfl
 pyHash:=fun hv h=>by
  rcases eZ hv with ⟨i,t,rfl,rfl⟩ | ⟨x,t,rfl,rfl⟩
  ·exact wpAny_pyHash_int h
  ·exact wpAny_pyHash_str h
 eqBool:=fun hu hv h=>by
  rcases eZ hu with ⟨i,t,rfl,rfl⟩ | ⟨x,t,rfl,rfl⟩
  ·rcases eZ hv with ⟨j,u,rfl,rfl⟩ | ⟨y,u,rfl,rfl⟩
   ·rw [TV] at h;exact wpAny_eqBool_int h
   ·rw [TF] at h;exact SeqAt.EqAt.int_str i t y u _ _ _ _ h
  ·rcases eZ hv with ⟨j,u,rfl,rfl⟩ | ⟨y,u,rfl,rfl⟩
   ·rw [R0] at h;exact SeqAt.EqAt.str_int x t j u _ _ _ _ h
   ·rw [R8] at h;exact wpAny_eqBool_str h
 «strs»:=fun k x t v h=>by
  rcases eZ h with ⟨i,u,rfl,e⟩ | ⟨y,u,rfl,e⟩
  ·exact nomatch e
  ·injection e with e1 _
   subst e1
   cases v <;> rfl
inductive V where
 | non | bl (b:Bool) | int (i:Int) | str (x:Str) | byt (b:Array UInt8) | flt (b:UInt64) | ref (a:Addr) | ty (n:String)
 deriving DecidableEq
def RelV:V->Value->Prop
 | .non,u=>u=Value.none
 | .bl b,u=>u=Value.bool b
 | .int i,u=>∃ t,u=Value.int i t
 | .str x,u=>∃ t,u=Value.str x t
 | .byt b,u=>∃ t,u=Value.bytes b t
 | .flt b,u=>∃ t,u=Value.float b t
 | .ref a,u=>u=Value.ref a
 | .ty n,u=>u=Value.type n
abbrev Vals:List V->List Value->Prop:=Paired RelV
theorem Vals.length {xs:List V} {us:List Value} (r:Vals xs us):xs.length=us.length:=Paired.length r
theorem Vals.get:∀ {xs:List V} {us:List Value} {i:Nat} {x:V},Vals xs us->xs[i]?=some x->∃ u,us[i]?=some u/\RelV x u
 | _,_,_,_,.nil,e=>by simp at e
 | _,_,0,_,.cons r _,e=>by simp at e;subst e;exact ⟨_,rfl,r⟩
 | _,_,i + 1,x,.cons _ t,e=>by
  obtain ⟨u,h1,h2⟩:=Vals.get (i:=i) (x:=x) t (by simpa using e)
  exact ⟨u,by simpa using h1,h2⟩
theorem Vals.set {x:V} {u:Value} (r:RelV x u):∀ {xs:List V} {us:List Value} (i:Nat),Vals xs us->Vals (xs.set i x) (us.set i u)
 | _,_,_,.nil=>.nil
 | _,_,0,.cons _ t=>.cons r t
 | _,_,i + 1,.cons q t=>.cons q (Vals.set r i t)
theorem Vals.append:∀ {xs ys:List V} {us ws:List Value},Vals xs us->Vals ys ws->Vals (xs++ys) (us++ws)
 | _,_,_,_,.nil,s=>s
 | _,_,_,_,.cons r t,s=>.cons r (Vals.append t s)
theorem Vals.take:∀ {xs:List V} {us:List Value} (n:Nat),Vals xs us->Vals (xs.take n) (us.take n)
 | _,_,0,_=>.nil
 | _,_,_ + 1,.nil=>.nil
 | _,_,n + 1,.cons r t=>.cons r (Vals.take n t)
theorem Vals.drop:∀ {xs:List V} {us:List Value} (n:Nat),Vals xs us->Vals (xs.drop n) (us.drop n)
 | _,_,0,r=>r
 | _,_,_ + 1,.nil=>.nil
 | _,_,n + 1,.cons _ t=>Vals.drop n t
def Fy:Option V->Option Value->Prop
 | some v,some u=>RelV v u
 | none,none=>True
 | _,_=>False
def KV {κ:Type}:List (κ × V)->List (κ × Value)->Prop:=Paired fun (p:κ × V) (q:κ × Value)=>p.1=q.1/\RelV p.2 q.2
def kV:Key->V
 | .inl i=>.int i
 | .inr x=>.str x
inductive HO where
  | lst (xs:List V)
  | tup (xs:List V)
  | dK (kvs:List (Key × V)) | dT (kvs:List (List Key × V)) | dN (kvs:List ((List Key × Key) × V))
  | set (S:Int->Bool) (n:Nat)
  | ins (C dx:Addr) (fs:List (Str × V))
  | own (x:Addr)
  | xd (fs:List (Str × V))
  | met (f x:Addr)
  | rng (lo hi:Int)
  | frz (o:Obj) (u:HO)
  | tbl (ps:Array Value)
  | ext (φ:Heap->Prop)
abbrev Hp:=Addr->Option HO
def upd (H:Hp) (a:Addr) (o:HO):Hp:=fun b=>if b=a then some o else H b
theorem bQ {H:Hp} {a:Addr} {o:HO}:upd H a o a=some o:=by unfold upd;rw [if_pos rfl]
theorem bC {H:Hp} {a b:Addr} {o:HO} (h:b≠a):upd H a o b=H b:=by unfold upd;rw [if_neg h]
theorem Xf {H:Hp} {a b:Addr} {o u:HO} (h:H a=some o) (h':H b=some u) (d:o≠u):a≠b:=by
 intro e;subst e;rw [h] at h';exact d (Option.some.inj h')
theorem bO {H:Hp} {a b:Addr} {o:HO} (h:H a=some o) (h':H b=none):a≠b:=by
 intro e;subst e;rw [h] at h';cases h'
def gW (h:Heap) (a:Addr) (items:Array Value):Prop:=∃ o,h.get? a=some o/\o.cls=.type "tuple"/\o.dict=none/\∃ n,o.data=.seq items n
theorem gW.tup {h:Heap} {a:Addr} {items:Array Value} (x:gW h a items):IsTup h a items:=let ⟨o,h1,h2,_,h3⟩:=x;⟨o,h1,h2,h3⟩
theorem gW.new (h:Heap) (items:Array Value):gW (h.push { cls:=.type "tuple",data:=.seq items }) h.objs.size items:=⟨_,Heap.get?_push_size _ rfl,rfl,rfl,_,rfl⟩
section
variable (P:Program) (w:World)
def dC (H:Hp) (h:Heap) (a:Addr):HO->Prop
 | .lst xs=>xs.length<=sizeLine/\∃ (its:List Value) (n:Nat),Vals xs its/\h.get? a=some { cls:=.type "list",data:=.seq its.toArray n }
 | .tup xs=>xs.length<=sizeLine/\∃ its:List Value,Vals xs its/\gW h a its.toArray
 | .dK kvs=>kvs.length<=sizeLine/\(a == sysModules)=false/\∃ vs,KV kvs vs/\h.DictOf (Ak P w) a vs
 | .dT kvs=>kvs.length<=sizeLine/\(a == sysModules)=false/\∃ xs:List (List Key × Addr × Value),
   Paired (fun (p:List Key × V) (q:List Key × Addr × Value)=>p.1=q.1/\H q.2.1=some (.tup (p.1.map kV))/\RelV p.2 q.2.2) kvs xs /\
   ∃ o es ep,h.get? a=some o/\o.ExactDict/\o.data=.dict es ep/\es.toList=xs.map (entryOfKey (tupleKind (Ak P w)))/\(xs.map (·.1)).Nodup
 | .dN kvs=>kvs.length<=sizeLine/\(a == sysModules)=false/\∃ xs:List ((List Key × Key) × Addr × Value),
   Paired (fun (p:(List Key × Key) × V) (q:(List Key × Key) × Addr × Value)=>p.1=q.1/\(∃ c,H q.2.1=some (.tup [.ref c,kV p.1.2])/\H c=some (.tup (p.1.1.map kV)))/\RelV p.2 q.2.2) kvs xs /\
   ∃ o es ep,h.get? a=some o/\o.ExactDict/\o.data=.dict es ep/\es.toList=xs.map (entryOfKey (Mx (Ak P w)))/\(xs.map (·.1)).Nodup
 | .set S n=>h.SetOf (intKind P w) a S n
 | .ins C dx fs=>H dx=some (.own a)/\fs.length<=1000/\dx≠a/\h.get? a=some (PySem.W.instObj C dx) /\
   ∃ mA,h.Ns1 dx mA/\(∀ f,Fy (fs.lookup f) (mA f))/\PySem.Within mA (fs.map (·.1))
 | .own _=>∃ o,h.get? a=some o
 | .xd fs=>∃ mA,h.Ns1 a mA/\∀ f,Fy (fs.lookup f) (mA f)
 | .rng lo hi=>∃ t u v,h.get? a=some { cls:=.type "range",data:=.fields #[.int lo t,.int hi u,.int 1 v] }
 | .frz o u=>h.get? a=some o/\dC H h a u
 | .tbl ps=>h.get? a=some { cls:=.none,data:=.fields ps }
 | .met f x=>h.get? a=some (PySem.W.methodObj (.ref f) (.ref x))
 | .ext φ=>φ h/\(∃ o,h.get? a=some o)/\∀ h1 h2:Heap,φ h1->(∀ o,h1.get? a=some o->h2.get? a=some o)->φ h2
def dX (H:Hp) (h:Heap):Prop:=∀ a o,H a=some o->dC P w H h a o
end
section
variable {P:Program} {w:World} {H H':Hp} {h h':Heap} {a:Addr} {o:HO}
theorem dC.lt (x:dC P w H h a o):a < h.objs.size:=by
 cases o with
 | lst xs=>obtain ⟨_,_,_,_,e⟩:=x;exact Heap.lt_size e
 | tup xs=>obtain ⟨_,_,_,p⟩:=x;exact IsTup.lt (gW.tup p)
 | dK kvs=>obtain ⟨_,_,_,_,o,_,_,e,_⟩:=x;exact Heap.lt_size e
 | dT kvs=>obtain ⟨_,_,_,_,o,_,_,e,_⟩:=x;exact Heap.lt_size e
 | dN kvs=>obtain ⟨_,_,_,_,o,_,_,e,_⟩:=x;exact Heap.lt_size e
 | set S n=>obtain ⟨o,_,_,_,e,_⟩:=x;exact Heap.lt_size e
 | ins C dx fs=>obtain ⟨_,_,_,e,_⟩:=x;exact Heap.lt_size e
 | own y=>obtain ⟨_,e⟩:=x;exact Heap.lt_size e
 | xd fs=>obtain ⟨_,⟨_,_,_,e,_⟩,_⟩:=x;exact Heap.lt_size e
 | rng lo hi=>obtain ⟨_,_,_,e⟩:=x;exact Heap.lt_size e
 | frz ob u=>obtain ⟨e,_⟩:=x;exact Heap.lt_size e
 | tbl ps=>exact Heap.lt_size (show h.get? a=some _ from x)
 | met f y=>exact Heap.lt_size (show h.get? a=some _ from x)
 | ext φ=>obtain ⟨_,⟨_,e⟩,_⟩:=x;exact Heap.lt_size e
theorem Paired.mapP {α β:Type} {F G:α->β->Prop}:∀ {l₁:List α} {l₂:List β},Paired F l₁ l₂->(∀ a b,F a b->G a b)->Paired G l₁ l₂
 | _,_,.nil,_=>.nil
 | _,_,.cons r t,f=>.cons (f _ _ r) (Paired.mapP t f)
theorem dC.stay (x:dC P w H h a o) (k:∀ b u,(b=a\/H b=some (.own a))->h.get? b=some u->h'.get? b=some u)
  (ho:∀ b,H b=some (.own a)->H' b=some (.own a)) (ht:∀ b xs,H b=some (.tup xs)->H' b=some (.tup xs)):dC P w H' h' a o:=by
 induction o with
 | lst xs=>obtain ⟨z,its,n,r,e⟩:=x;exact ⟨z,its,n,r,k _ _ (.inl rfl) e⟩
 | tup xs=>obtain ⟨z,its,r,ob,e,c⟩:=x;exact ⟨z,its,r,ob,k _ _ (.inl rfl) e,c⟩
 | dK kvs=>obtain ⟨z,y,vs,r,ob,es,ep,e,c⟩:=x;exact ⟨z,y,vs,r,ob,es,ep,k _ _ (.inl rfl) e,c⟩
 | dT kvs =>
  obtain ⟨z,y,xs,r,ob,es,ep,e,c⟩:=x
  exact ⟨z,y,xs,Paired.mapP r fun p q z=>⟨z.1,ht _ _ z.2.1,z.2.2⟩,ob,es,ep,k _ _ (.inl rfl) e,c⟩
 | dN kvs =>
  obtain ⟨z,y,xs,r,ob,es,ep,e,c⟩:=x
  exact ⟨z,y,xs,Paired.mapP r fun p q z=>⟨z.1,let ⟨c,h1,h2⟩:=z.2.1;⟨c,ht _ _ h1,ht _ _ h2⟩,z.2.2⟩,ob,es,ep,k _ _ (.inl rfl) e,c⟩
 | set S n=>obtain ⟨ob,es,ep,t,e,c⟩:=x;exact ⟨ob,es,ep,t,k _ _ (.inl rfl) e,c⟩
 | ins C dx fs =>
  obtain ⟨d,z,ne,e,mA,⟨od,es,ep,e2,c⟩,r⟩:=x
  exact ⟨ho _ d,z,ne,k _ _ (.inl rfl) e,mA,⟨od,es,ep,k _ _ (.inr d) e2,c⟩,r⟩
 | own y=>obtain ⟨ob,e⟩:=x;exact ⟨ob,k _ _ (.inl rfl) e⟩
 | xd fs=>obtain ⟨mA,⟨od,es,ep,e,c⟩,r⟩:=x;exact ⟨mA,⟨od,es,ep,k _ _ (.inl rfl) e,c⟩,r⟩
 | rng lo hi=>obtain ⟨t,u,v,e⟩:=x;exact ⟨t,u,v,k _ _ (.inl rfl) e⟩
 | frz ob u ih=>obtain ⟨e,q⟩:=x;exact ⟨k _ _ (.inl rfl) e,ih q⟩
 | tbl ps =>
  have e:h.get? a=some { cls:=.none,data:=.fields ps }:=x
  show h'.get? a=some { cls:=.none,data:=.fields ps }
  exact k a _ (.inl rfl) e
 | met f y =>
  have e:h.get? a=some (PySem.W.methodObj (.ref f) (.ref y)):=x
  show h'.get? a=some (PySem.W.methodObj (.ref f) (.ref y))
  exact k a _ (.inl rfl) e
 | ext φ=>obtain ⟨p,⟨o,e⟩,st⟩:=x;exact ⟨st _ _ p fun o q=>k _ _ (.inl rfl) q,⟨o,k _ _ (.inl rfl) e⟩,st⟩
theorem dX.lt (x:dX P w H h) (e:H a=some o):a < h.objs.size:=(x a o e).lt
theorem dX.fresh (x:dX P w H h) (e:h.objs.size<=a):H a=none:=by
 cases q:H a with
 | none=>rfl
 | some u=>exact absurd (Nat.lt_of_lt_of_le (x.lt q) e) (Nat.lt_irrefl _)
theorem dX.kept (x:dX P w H h) (k:∀ b u,h.get? b=some u->h'.get? b=some u):dX P w H h':=fun a o e =>
 (x a o e).stay (fun b u _ q=>k b u q) (fun _ q=>q) fun _ _ q=>q
theorem dX.laid (x:dX P w H h) (k:∀ b u,h.get? b=some u->h'.get? b=some u) (hp:h.objs.size<=a) (new:dC P w (upd H a o) h' a o):dX P w (upd H a o) h':=fun b u e=>by
 have hn:=x.fresh hp
 by_cases hb:b=a
 ·subst hb;rw [bQ] at e;cases e;exact new
 ·rw [bC hb] at e
  exact (x b u e).stay (fun c v _ q=>k c v q) (fun c q=>by rw [bC (bO q hn)];exact q) fun c xs q=>by rw [bC (bO q hn)];exact q
end
def Rd (H:Hp) (a:Addr) (u:HO):Prop:=H a=some u\/∃ o,H a=some (.frz o u)
theorem Rd.ok {P:Program} {w:World} {H:Hp} {h:Heap} {a:Addr} {u:HO} (r:Rd H a u) (x:dX P w H h):dC P w H h a u:=by
 rcases r with r | ⟨o,r⟩
 ·exact x a u r
 ·obtain ⟨_,q⟩:=x a _ r
  exact q
def LB:Option HO->Prop
 | some (.lst _)=>True
 | some (.dK _)=>True
 | some (.dT _)=>True
 | some (.dN _)=>True
 | some (.set _ _)=>True
 | some (.ins _ _ _)=>True
 | some (.ext _)=>True
 | _=>False
section
variable {P:Program} {w:World} {H:Hp} {h h':Heap} {x e:Addr} {o':HO}
theorem dX.write (ok:dX P w H h) (mu:LB (H x)) (he:e=x\/H e=some (.own x)) (k:∀ b u,b≠e->h.get? b=some u->h'.get? b=some u) (heo:∃ u,h'.get? e=some u)
  (new:dC P w (upd H x o') h' x o'):dX P w (upd H x o') h':=fun b u q=>by
 have nown:∀ c y,H c=some (.own y)->c≠x:=fun c y r z=>by subst z;rw [r] at mu;exact mu
 have ntup:∀ c xs,H c=some (.tup xs)->c≠x:=fun c xs r z=>by subst z;rw [r] at mu;exact mu
 by_cases hb:b=x
 ·subst hb;rw [bQ] at q;cases q;exact new
 ·rw [bC hb] at q
  by_cases hbe:b=e
  ·have q':H b=some (.own x):=by
    rcases he with z | z
    ·exact absurd (hbe.trans z) hb
    ·rw [hbe];exact z
   rw [q] at q';cases q'
   obtain ⟨v,hv⟩:=heo
   exact ⟨v,by rw [hbe];exact hv⟩
  ·refine (ok b u q).stay (fun c v hc r=>k c v ?_ r) (fun c r=>by rw [bC (nown c b r)];exact r) fun c xs r=>by rw [bC (ntup c xs r)];exact r
   rcases hc with rfl | hc
   ·exact hbe
   ·rintro rfl
    rcases he with z | z
    ·exact nown c b hc z
    ·rw [hc] at z;cases z;exact hb rfl
end
structure Un (fs ex:List Addr) (H H':Hp) (h h':Heap):Prop where
 keep:∀ b o,h.get? b=some o->H b=none->b ∉ fs->b ∉ ex->h'.get? b=some o
 slot:∀ b o,h.get? b=some o->H b=none->b∈fs->b ∉ ex->∃ sl,h'.get? b=some { o with slots:=sl }
 free:∀ b o,h.get? b=some o->H b=none->b ∉ ex->H' b=none
 there:∀ b o,h.get? b=some o->b ∉ ex->∃ o',h'.get? b=some o'
 tups:∀ b xs,H b=some (.tup xs)->H' b=some (.tup xs)
 frzs:∀ b o u,H b=some (.frz o u)->H' b=some (.frz o u)
 tbls:∀ b ps,H b=some (.tbl ps)->∃ more,H' b=some (.tbl (ps++more))
section
variable {fs fs' ex ex':List Addr} {H H1 H2:Hp} {h h1 h2 h':Heap} {a x e:Addr} {o:HO}
theorem Un.any (u:Un fs ex H H1 h h1) {b:Addr} {ob:Obj} (q:h.get? b=some ob) (n:H b=none) (hx:b ∉ ex):∃ sl,h1.get? b=some { ob with slots:=sl }:=by
 by_cases hb:b∈fs
 ·exact u.slot b ob q n hb hx
 ·exact ⟨ob.slots,u.keep b ob q n hb hx⟩
theorem Un.kept (k:∀ b u,h.get? b=some u->h'.get? b=some u):Un fs ex H H h h' :=
 ⟨fun b ob q _ _ _=>k b ob q,fun b ob q _ _ _=>⟨ob.slots,k b ob q⟩,fun _ _ _ n _=>n,fun b ob q _=>⟨ob,k b ob q⟩,fun _ _ q=>q,fun _ _ _ q=>q,fun _ ps q=>⟨#[],by rw [q];simp⟩⟩
theorem Un.refl:Un fs ex H H h h:=Un.kept fun _ _ q=>q
theorem Un.laid (k:∀ b u,h.get? b=some u->h'.get? b=some u) (hp:h.objs.size<=a) (hn:H a=none):Un fs ex H (upd H a o) h h' where
 keep:=fun b u q _ _ _=>k b u q
 slot:=fun b u q _ _ _=>⟨u.slots,k b u q⟩
 free:=fun b u q n _=>by rw [bC (Nat.ne_of_lt (Nat.lt_of_lt_of_le (Heap.lt_size q) hp))];exact n
 there:=fun b u q _=>⟨u,k b u q⟩
 tups:=fun b xs q=>by rw [bC (bO q hn)];exact q
 frzs:=fun b u xs q=>by rw [bC (bO q hn)];exact q
 tbls:=fun b ps q=>⟨#[],by rw [bC (bO q hn),q];simp⟩
theorem Un.write (mu:LB (H x)) (he:e=x\/H e=some (.own x)) (k:∀ b u,b≠e->h.get? b=some u->h'.get? b=some u) (heo:∃ u,h'.get? e=some u):Un fs ex H (upd H x o) h h':=by
 have hx:∀ b,H b=none->b≠x:=fun b n z=>by subst z;rw [n] at mu;exact mu
 have hb:∀ b,H b=none->b≠e:=fun b n z=>by
  subst z
  rcases he with r | r
  ·exact hx b n r
  ·rw [n] at r;cases r
 have hm:∀ b u,H b=some u->¬ LB (some u)->b≠x:=fun b u q nm z=>by subst z;rw [q] at mu;exact nm mu
 refine ⟨fun b u q n _ _=>k b u (hb b n) q,fun b u q n _ _=>⟨u.slots,k b u (hb b n) q⟩,fun b u q n _=>by rw [bC (hx b n)];exact n,fun b u q _=>?_,
  fun b xs q=>by rw [bC (hm b _ q fun z=>z)];exact q,fun b u xs q=>by rw [bC (hm b _ q fun z=>z)];exact q,fun b ps q=>⟨#[],by rw [bC (hm b _ q fun z=>z),q];simp⟩⟩
 by_cases hbe:b=e
 ·subst hbe;exact heo
 ·exact ⟨u,k b u hbe q⟩
end
def OO (h:Heap) (H:Hp):List Addr:=(List.range h.objs.size).filter fun a=>(H a).isSome
def gD (h:Heap) (H:Hp):Heap:=PySem.W.hideAll h (OO h H)
theorem CT (h:Heap) (H:Hp):(gD h H).objs.size=h.objs.size:=PySem.W.hideAll_size _ _
theorem rK {h:Heap} {H:Hp} {b:Addr} {o:Obj} (e:h.get? b=some o) (n:H b=none):(gD h H).get? b=some o :=
 PySem.W.hideAll_get _ e fun hm=>by
  have q:(H b).isSome=true:=(List.mem_filter.mp hm).2
  rw [n] at q;simp at q
theorem B7 {h:Heap} {H:Hp} {b:Addr} {o:Obj} (e:(gD h H).get? b=some o):h.get? b=some o/\H b=none:=by
 have e':h.get? b=some o:=PySem.W.of_hideAll (OO h H) e
 refine ⟨e',?_⟩
 cases q:H b with
 | none=>rfl
 | some x =>
  have hm:b∈OO h H:=List.mem_filter.mpr ⟨List.mem_range.mpr (Heap.lt_size e'),by simp [q]⟩
  have z:(gD h H).get? b=none:=PySem.W.hideAll_none (OO h H) hm
  rw [z] at e;cases e
structure Mod (K:PySem.W.Frag) (mg:Str->Option Value) (base:Heap):Prop where
 kin:K.In base
 glob:base.Ns mainGlobals mg
 blt:∃ mb,base.Ns builtinsNs mb/\∀ x:Str,x≠"__name__"->mb x=bootBuiltins x
 nolimit:base.NoLimit
structure Cx where
 prog:Program
 w:World
 K:PySem.W.Frag
 mg:Str->Option Value
 base:Heap
 A:Around
 N:List Str
 s₀:Shared
 H₀:Hp
 env:Env
 outer:List Env
 stack:List Env
 ex:List Addr
 fn:Str->Bool
 calm:Bool
 pn:List (Addr × Obj)
 xe:Value->Shared->Prop
def gA (l:List Env):List Addr:=l.filterMap (·.frame)
abbrev Cx.fs (X:Cx):List Addr:=gA X.outer
def BR (sc:Scope) (x:Str):Prop:=sc.names.lookup x=some .local\/sc.names.lookup x=some .cell\/sc.names.lookup x=some .free
def Loc (sc:Scope) (x:Str):Prop:=sc.names.lookup x=some .local\/sc.names.lookup x=some .cell
def Look (env:Env) (h:Heap) (m:Str->Option Value) (x:Str) (u:Value):Prop :=
 (env.kindOf x=some .local/\m x=some u)\/((env.kindOf x=some .cell\/env.kindOf x=some .free)/\∃ c,env.cells.lookup x=some c/\h.IsCell c (some u))
structure Cx.Ok (X:Cx):Prop where
 mod:Mod X.K X.mg X.base
 kind:X.env.scope.kind=.function
 glob:X.env.globals=mainGlobals
 blt:X.env.builtins=builtinsNs
 above:X.s₀.heap.objs.size<=X.env.locals
 inj:∀ x y c,X.env.cells.lookup x=some c->X.env.cells.lookup y=some c->x=y
 has:∀ x,(X.env.kindOf x=some .cell\/X.env.kindOf x=some .free)->∃ c,X.env.cells.lookup x=some c
 cab:∀ x c,X.fn x=true->X.env.cells.lookup x=some c->X.s₀.heap.objs.size<=c
 hd:X.calm=true->X.A.handled=none
 frames:X.A.frames=some X.stack
 stk:X.stack=X.outer\/(X.stack=X.env :: X.outer/\X.env.frame=some X.env.locals)
 exf:∀ b∈X.ex,b≠X.env.locals/\∀ x c,X.env.cells.lookup x=some c->c≠b
 bs:∀ b o,X.base.get? b=some o->X.s₀.heap.get? b=some o/\X.H₀ b=none
 bsz:X.base.objs.size<=X.s₀.heap.objs.size
 noex:∀ b o,X.base.get? b=some o->b ∉ X.ex
 exfs:∀ b∈X.ex,b ∉ X.fs
 funs:X.s₀.heap.FunFrames X.base X.outer
 frf:∀ b∈X.fs,X.H₀ b=none
structure Inv (X:Cx) (pins:List (Addr × Obj)) (σ:List (Option V)) (H:Hp) (s:Shared):Prop where
 ok:X.Ok
 os:s.os=X.s₀.os
 bare:AllBare s.gens
 base:Un X.fs X.ex X.H₀ H X.s₀.heap s.heap
 loc:∃ m,s.heap.Ns X.env.locals m/\∀ (i:Nat) (x:Str) (v:V),X.N[i]?=some x->σ[i]?=some (some v)->BR X.env.scope x->∃ u,RelV v u/\Look X.env s.heap m x u
 cell:∀ x c,X.env.cells.lookup x=some c->∃ v,s.heap.IsCell c v
 free:H X.env.locals=none
 freeC:∀ x c,X.env.cells.lookup x=some c->H c=none
 pin:∀ p∈X.pn++pins,s.heap.get? p.1=some p.2/\H p.1=none/\p.1≠X.env.locals/\p.1 ∉ X.fs/\∀ v,p.2.data≠.cell v
 hok:dX X.prog X.w H s.heap
 len:σ.length=X.N.length
section
variable {X:Cx} {pins:List (Addr × Obj)} {σ:List (Option V)} {H H':Hp} {s:Shared} {h':Heap}
theorem Cx.Ok.nofr (ok:X.Ok) {b:Addr} {o:Obj} (e:X.base.get? b=some o):b ∉ X.fs:=fun hb=>by
 have:=(ok.funs.mem hb).1
 rw [e] at this;cases this
theorem Inv.bs (I:Inv X pins σ H s):∀ b o,X.base.get? b=some o->s.heap.get? b=some o/\H b=none:=fun b o e =>
 ⟨I.base.keep b o (I.ok.bs b o e).1 (I.ok.bs b o e).2 (I.ok.nofr e) (I.ok.noex b o e),I.base.free b o (I.ok.bs b o e).1 (I.ok.bs b o e).2 (I.ok.noex b o e)⟩
theorem Inv.bk (I:Inv X pins σ H s):∀ b o,X.base.get? b=some o->s.heap.get? b=some o:=fun b o e=>(I.bs b o e).1
theorem Inv.mod (I:Inv X pins σ H s):Mod X.K X.mg X.base:=I.ok.mod
theorem Inv.kIn (I:Inv X pins σ H s):X.K.In s.heap:=I.ok.mod.kin.keeps I.bk
theorem Inv.fr (I:Inv X pins σ H s):∃ m,Fr X.base X.env.locals s.heap m :=
 let ⟨m,hn,_⟩:=I.loc
 ⟨m,hn,I.bk,Nat.le_trans I.ok.bsz I.ok.above⟩
theorem Inv.lt (I:Inv X pins σ H s):X.env.locals < s.heap.objs.size:=let ⟨_,hn,_⟩:=I.loc;hn.lt
theorem Inv.sz (I:Inv X pins σ H s):X.s₀.heap.objs.size<=s.heap.objs.size:=Nat.le_trans I.ok.above (Nat.le_of_lt I.lt)
theorem Inv.nofs (I:Inv X pins σ H s) {a:Addr} (h:s.heap.objs.size<=a):a ∉ X.fs:=fun hb=>by
 obtain ⟨_,o,ho,_⟩:=I.ok.funs.mem hb
 exact absurd (Nat.lt_of_lt_of_le (Heap.lt_size ho) (Nat.le_trans I.sz h)) (Nat.lt_irrefl _)
theorem Inv.cne (I:Inv X pins σ H s):∀ x c,X.env.cells.lookup x=some c->c≠X.env.locals:=fun x c e z=>by
 obtain ⟨v,o,ho,hd⟩:=I.cell x c e
 obtain ⟨m,⟨o',es,ep,ho',hd',_⟩,_⟩:=I.loc
 rw [z,ho'] at ho;cases ho;rw [hd'] at hd;cases hd
theorem Inv.funs (I:Inv X pins σ H s):s.heap.FunFrames X.base X.outer:=by
 have all:∀ (l:List Env),(∀ b∈gA l,b∈X.fs)->X.s₀.heap.FunFrames X.base l->s.heap.FunFrames X.base l:=by
  intro l
  induction l with
  | nil=>intro _ _;trivial
  | cons env r ih =>
   intro hs hl
   obtain ⟨hk,⟨L,o,hf,hn,ho,hd⟩,hr⟩:=hl
   have hL:L∈X.fs:=hs L (by unfold gA;rw [List.filterMap_cons,hf];exact List.mem_cons_self)
   obtain ⟨sl,e⟩:=I.base.slot L o ho (I.ok.frf L hL) hL fun z=>I.ok.exfs L z hL
   exact ⟨hk,⟨L,_,hf,hn,e,hd⟩,ih (fun b hb=>hs b (by unfold gA;rw [List.filterMap_cons,hf];exact List.mem_cons_of_mem _ hb)) hr⟩
 exact all X.outer (fun _ hb=>hb) I.ok.funs
theorem Inv.stack (I:Inv X pins σ H s):s.heap.FunFrames X.base X.stack:=by
 rcases I.ok.stk with e | ⟨e,hf⟩
 ·rw [e];exact I.funs
 ·rw [e]
  obtain ⟨m,hn,_⟩:=I.loc
  refine .cons (by rw [I.ok.kind];decide) hf hn ?_ I.funs
  exact Heap.get?_none_of_le (Nat.le_trans I.ok.bsz I.ok.above)
theorem Inv.stkSub (I:Inv X pins σ H s):∀ b∈gA X.stack,b∈X.env.locals :: X.fs:=fun b hb=>by
 rcases I.ok.stk with e | ⟨e,hf⟩
 ·rw [e] at hb;exact List.mem_cons_of_mem _ hb
 ·rw [e] at hb
  unfold gA at hb
  rw [List.filterMap_cons,hf] at hb
  exact hb
theorem Inv.stkFree (I:Inv X pins σ H s):∀ b∈gA X.stack,H b=none:=fun b hb=>by
 rcases List.mem_cons.mp (I.stkSub b hb) with e | hb
 ·rw [e];exact I.free
 ·obtain ⟨_,o,ho,_⟩:=I.ok.funs.mem hb
  exact I.base.free b o ho (I.ok.frf b hb) fun z=>I.ok.exfs b z hb
theorem Inv.step {g':Array GenState} {t':Nat} {d':Drawn} {ch:List Addr} (I:Inv X pins σ H s)
  (hch:∀ b∈ch,(b∈X.ex\/X.s₀.heap.objs.size<=b)/\b≠X.env.locals/\(∀ x c,X.env.cells.lookup x=some c->c≠b)/\∀ p∈X.pn++pins,p.1≠b)
  (keep:∀ b o,b≠X.env.locals->b ∉ X.fs->b ∉ ch->s.heap.get? b=some o->H b=none->h'.get? b=some o)
  (slot:∀ b o,b≠X.env.locals->b∈X.fs->b ∉ ch->s.heap.get? b=some o->H b=none->∃ sl,h'.get? b=some { o with slots:=sl }) (free:∀ b o,b ∉ ch->s.heap.get? b=some o->H b=none->H' b=none)
  (there:∀ b o,b ∉ ch->s.heap.get? b=some o->∃ o',h'.get? b=some o')
  (tups:∀ b xs,H b=some (.tup xs)->H' b=some (.tup xs)) (frzs:∀ b o u,H b=some (.frz o u)->H' b=some (.frz o u)) (tbls:∀ b ps,H b=some (.tbl ps)->∃ more,H' b=some (.tbl (ps++more)))
  (ns:∀ m,s.heap.Ns X.env.locals m->h'.Ns X.env.locals m) (hok:dX X.prog X.w H' h') (hg:AllBare g') :
  Inv X pins σ H' { s with heap:=h',gens:=g',drawn:=d',toks:=t' }:=by
 have neL:∀ b o,X.s₀.heap.get? b=some o->b≠X.env.locals:=fun b o e=>Nat.ne_of_lt (Nat.lt_of_lt_of_le (Heap.lt_size e) I.ok.above)
 have neC:∀ b o,X.s₀.heap.get? b=some o->b ∉ X.ex->b ∉ ch:=fun b o e hx hb=>by
  rcases (hch b hb).1 with z | z
  ·exact hx z
  ·exact absurd (Nat.lt_of_lt_of_le (Heap.lt_size e) z) (Nat.lt_irrefl _)
 have cellK:∀ x c,X.env.cells.lookup x=some c->∀ v,s.heap.IsCell c v->h'.IsCell c v:=fun x c e v ⟨o,ho,hd⟩=>by
  have nch:c ∉ ch:=fun z=>(hch c z).2.2.1 x c e rfl
  by_cases hc:c∈X.fs
  ·obtain ⟨sl,q⟩:=slot c o (I.cne x c e) hc nch ho (I.freeC x c e)
   exact ⟨_,q,hd⟩
  ·exact ⟨o,keep c o (I.cne x c e) hc nch ho (I.freeC x c e),hd⟩
 refine ⟨I.ok,I.os,hg,⟨fun b o e n hb hx=>?_,fun b o e n hb hx=>?_,fun b o e n hx=>?_,fun b o e hx=>?_,fun b xs e=>tups b xs (I.base.tups b xs e),fun b o xs e=>frzs b o xs (I.base.frzs b o xs e),fun b ps e=>?_⟩,?_,fun x c e=>?_,?_,fun x c e=>?_,fun p hp=>?_,hok,I.len⟩
 ·exact keep b o (neL b o e) hb (neC b o e hx) (I.base.keep b o e n hb hx) (I.base.free b o e n hx)
 ·obtain ⟨sl,e1⟩:=I.base.slot b o e n hb hx
  obtain ⟨sl',e2⟩:=slot b _ (neL b o e) hb (neC b o e hx) e1 (I.base.free b o e n hx)
  exact ⟨sl',e2⟩
 ·obtain ⟨o',e1⟩:=I.base.there b o e hx
  exact free b o' (neC b o e hx) e1 (I.base.free b o e n hx)
 ·obtain ⟨o',e1⟩:=I.base.there b o e hx
  exact there b o' (neC b o e hx) e1
 ·obtain ⟨m1,e1⟩:=I.base.tbls b ps e
  obtain ⟨m2,e2⟩:=tbls b _ e1
  exact ⟨m1++m2,by rw [e2,Array.append_assoc]⟩
 ·obtain ⟨m,hn,hl⟩:=I.loc
  refine ⟨m,ns m hn,fun i x v e1 e2 e3=>?_⟩
  obtain ⟨u,r,l⟩:=hl i x v e1 e2 e3
  refine ⟨u,r,?_⟩
  rcases l with l | ⟨k,c,e,z⟩
  ·exact .inl l
  ·exact .inr ⟨k,c,e,cellK x c e _ z⟩
 ·obtain ⟨v,z⟩:=I.cell x c e
  exact ⟨v,cellK x c e v z⟩
 ·obtain ⟨m,⟨o,_,_,ho,_⟩,_⟩:=I.loc
  exact free _ o (fun z=>(hch _ z).2.1 rfl) ho I.free
 ·obtain ⟨v,o,ho,hd⟩:=I.cell x c e
  exact free c o (fun z=>(hch c z).2.2.1 x c e rfl) ho (I.freeC x c e)
 ·obtain ⟨e,n,ne,nf,d⟩:=I.pin p hp
  have nch:p.1 ∉ ch:=fun z=>(hch p.1 z).2.2.2 p hp rfl
  exact ⟨keep p.1 p.2 ne nf nch e n,free p.1 p.2 nch e n,ne,nf,d⟩
theorem Inv.un {t':Nat} (I:Inv X pins σ H s) (u:Un X.fs [] H H' s.heap h') (hok:dX X.prog X.w H' h'):Inv X pins σ H' { s with heap:=h',toks:=t' }:=by
 obtain ⟨m,⟨o,es,ep,ho,r⟩,_⟩:=id I.loc
 obtain ⟨sl,hL⟩:=u.any ho I.free (by simp)
 exact I.step (g':=s.gens) (d':=s.drawn) (ch:=[]) (fun _ z=>nomatch z) (fun b o _ hb _ e n=>u.keep b o e n hb (by simp)) (fun b o _ hb _ e n=>u.slot b o e n hb (by simp)) (fun b o _ e n=>u.free b o e n (by simp)) (fun b o _ e=>u.there b o e (by simp)) u.tups u.frzs u.tbls (fun m' hm=>by
  obtain ⟨o',es',ep',ho',r'⟩:=hm
  rw [ho] at ho';cases ho'
  exact ⟨_,es',ep',hL,r'⟩) hok I.bare
theorem Inv.call {g':Array GenState} {t':Nat} {d':Drawn} {ch:List Addr} (I:Inv X pins σ H s) (u:Un (gA X.stack) ch H H' s.heap h') (hok:dX X.prog X.w H' h') (hg:AllBare g')
  (hch:∀ b∈ch,(b∈X.ex\/X.s₀.heap.objs.size<=b)/\b≠X.env.locals/\(∀ x c,X.env.cells.lookup x=some c->c≠b)/\∀ p∈X.pn++pins,p.1≠b) :
  Inv X pins σ H' { s with heap:=h',gens:=g',drawn:=d',toks:=t' }:=by
 obtain ⟨m,⟨o,es,ep,ho,r⟩,_⟩:=id I.loc
 obtain ⟨sl,hL⟩:=u.any ho I.free fun z=>(hch _ z).2.1 rfl
 exact I.step (ch:=ch) hch (fun b o hL hb hc e n=>u.keep b o e n (fun z=>(List.mem_cons.mp (I.stkSub b z)).elim hL hb) hc) (fun b o _ _ hc e n=>u.any e n hc) (fun b o hc e n=>u.free b o e n hc) (fun b o hc e=>u.there b o e hc) u.tups u.frzs u.tbls (fun m' hm=>by
  obtain ⟨o',es',ep',ho',r'⟩:=hm
  rw [ho] at ho';cases ho'
  exact ⟨_,es',ep',hL,r'⟩) hok hg
theorem Inv.turned {t':Nat} {it:Addr} (I:Inv X pins σ H s) (k:∀ b o,b≠it->s.heap.get? b=some o->h'.get? b=some o) (hn:H it=none) (hL:it≠X.env.locals)
  (h1:it∈X.ex\/X.s₀.heap.objs.size<=it) (h2:∀ x c,X.env.cells.lookup x=some c->c≠it) (h3:∀ p∈X.pn++pins,p.1≠it):Inv X pins σ H { s with heap:=h',toks:=t' }:=by
 have nit:∀ b u,H b=some u->b≠it:=fun b u e z=>by rw [z,hn] at e;cases e
 refine I.step (g':=s.gens) (d':=s.drawn) (ch:=[it]) (fun b hb=>?_) (fun b o _ _ hc e _=>k b o (fun z=>hc (by simp [z])) e) (fun b o _ _ hc e _=>⟨o.slots,k b o (fun z=>hc (by simp [z])) e⟩) (fun _ _ _ _ n=>n)
  (fun b o hc e=>⟨o,k b o (fun z=>hc (by simp [z])) e⟩) (fun _ _ e=>e) (fun _ _ _ e=>e) (fun b ps e=>⟨#[],by rw [e];simp⟩) (fun m hm=>?_) (fun b u e=>?_) I.bare
 ·have e:b=it:=by simpa using hb
  subst e
  exact ⟨h1,hL,h2,h3⟩
 ·obtain ⟨o,es,ep,ho,r⟩:=hm
  exact ⟨o,es,ep,k _ o (Ne.symm hL) ho,r⟩
 ·refine (I.hok b u e).stay (fun c v hc q=>k c v ?_ q) (fun _ q=>q) fun _ _ q=>q
  rcases hc with z | z
  ·rw [z];exact nit b u e
  ·exact nit c _ z
theorem Inv.tok (I:Inv X pins σ H s) (t:Nat):Inv X pins σ H { s with toks:=t }:=I.un (h':=s.heap) (t':=t) Un.refl I.hok
theorem Inv.kept {t':Nat} (I:Inv X pins σ H s) (k:∀ b u,s.heap.get? b=some u->h'.get? b=some u):Inv X pins σ H { s with heap:=h',toks:=t' }:=I.un (Un.kept k) (I.hok.kept k)
theorem Inv.laid {a:Addr} {o:HO} {t':Nat} (I:Inv X pins σ H s) (k:∀ b u,s.heap.get? b=some u->h'.get? b=some u) (hp:s.heap.objs.size<=a) (new:dC X.prog X.w (upd H a o) h' a o) :
  Inv X pins σ (upd H a o) { s with heap:=h',toks:=t' }:=I.un (Un.laid k hp (I.hok.fresh hp)) (I.hok.laid k hp new)
theorem Inv.write {x e:Addr} {o:HO} {t':Nat} (I:Inv X pins σ H s) (mu:LB (H x)) (he:e=x\/H e=some (.own x)) (k:∀ b u,b≠e->s.heap.get? b=some u->h'.get? b=some u) (heo:∃ u,h'.get? e=some u)
  (new:dC X.prog X.w (upd H x o) h' x o):Inv X pins σ (upd H x o) { s with heap:=h',toks:=t' }:=I.un (Un.write mu he k heo) (I.hok.write mu he k heo new)
theorem Inv.weak {σ':List (Option V)} (I:Inv X pins σ H s) (hl:σ'.length=σ.length) (w:∀ (i:Nat) v,σ'[i]?=some (some v)->σ[i]?=some (some v)):Inv X pins σ' H s :=
 ⟨I.ok,I.os,I.bare,I.base,let ⟨m,hn,hl'⟩:=I.loc;⟨m,hn,fun i x v e1 e2 e3=>hl' i x v e1 (w i v e2) e3⟩,I.cell,I.free,I.freeC,I.pin,I.hok,hl.trans I.len⟩
theorem Inv.pins_of {pins':List (Addr × Obj)} (I:Inv X pins σ H s) (h:∀ p∈pins',s.heap.get? p.1=some p.2/\H p.1=none/\p.1≠X.env.locals/\p.1 ∉ X.fs/\∀ v,p.2.data≠.cell v):Inv X pins' σ H s :=
 ⟨I.ok,I.os,I.bare,I.base,I.loc,I.cell,I.free,I.freeC,fun p hp=>(List.mem_append.mp hp).elim (fun z=>I.pin p (List.mem_append_left _ z)) (h p),I.hok,I.len⟩
theorem AV {N:List Str} (hN:N.Nodup) {i j:Nat} {x:Str} (a:N[i]?=some x) (b:N[j]?=some x):i=j:=by
 obtain ⟨h1,e1⟩:=List.getElem?_eq_some_iff.mp a
 obtain ⟨h2,e2⟩:=List.getElem?_eq_some_iff.mp b
 exact (List.getElem_inj hN).mp (e1.trans e2.symm)
theorem CY {M:Model} {A:Around} {E:Value->Shared->Prop} {i:Nat} {x:Str} {v:V} {u:Value} {Q:Unit->Shared->Prop} (I:Inv X pins σ H s) (hN:X.N.Nodup) (hi:X.N[i]?=some x) (hx:Loc X.env.scope x) (r:RelV v u)
  (h:∀ s',Inv X pins (σ.set i (some v)) H s'->(∃ a,Heap.SameBut a s.heap s'.heap/\(a=X.env.locals\/X.env.cells.lookup x=some a))->Q () s') (hf:X.fn x=true\/X.env.scope.names.lookup x=some .local:=by first | exact .inl rfl | exact .inr rfl | assumption):wpAny M A (storeName X.env x u) Q E s:=by
 obtain ⟨m,hn,hl⟩:=id I.loc
 have hcls:(X.env.scope.kind == .class || (X.env.scope.kind == .module && X.env.locals != X.env.globals))=false:=by rw [I.ok.kind];rfl
 have hiσ:i < σ.length:=by rw [I.len];exact (List.getElem?_eq_some_iff.mp hi).1
 have cne:=I.cne
 have tracked:∀ {a:Addr} {h':Heap},(∃ o,s.heap.get? a=some o/\H a=none)->Heap.SameBut a s.heap h'->dX X.prog X.w H h':=fun {a h'} ha hs b ob e=>by
  obtain ⟨_,_,hfree⟩:=ha
  refine (I.hok b ob e).stay (fun c w' hc q=>(hs.2 c ?_).trans q) (fun _ q=>q) fun _ _ q=>q
  rintro rfl
  rcases hc with rfl | hc
  ·rw [hfree] at e;cases e
  ·rw [hfree] at hc;cases hc
 rcases hx with hk | hk
 ·refine wpAny_storeName_local hk hn (fun h' hn' hs=>?_) hcls
  obtain ⟨oL,_,_,hoL,_⟩:=id hn
  refine h _ ⟨I.ok,I.os,I.bare,⟨fun b o e n hb hx=>?_,fun b o e n hb hx=>?_,I.base.free,fun b o e hx=>?_,I.base.tups,I.base.frzs,I.base.tbls⟩,⟨_,hn',fun j y v' e1 e2 e3=>?_⟩,fun y c e=>?_,I.free,I.freeC,fun p hp=>?_,tracked ⟨oL,hoL,I.free⟩ hs,by simpa using I.len⟩ ⟨_,hs,.inl rfl⟩
  ·exact (hs.2 b (Nat.ne_of_lt (Nat.lt_of_lt_of_le (Heap.lt_size e) I.ok.above))).trans (I.base.keep b o e n hb hx)
  ·obtain ⟨sl,e1⟩:=I.base.slot b o e n hb hx
   exact ⟨sl,(hs.2 b (Nat.ne_of_lt (Nat.lt_of_lt_of_le (Heap.lt_size e) I.ok.above))).trans e1⟩
  ·obtain ⟨o',e1⟩:=I.base.there b o e hx
   exact ⟨o',(hs.2 b (Nat.ne_of_lt (Nat.lt_of_lt_of_le (Heap.lt_size e) I.ok.above))).trans e1⟩
  ·by_cases hj:j=i
   ·subst hj
    rw [hi] at e1;cases e1
    rw [List.getElem?_set_self hiσ] at e2
    cases e2
    exact ⟨u,r,.inl ⟨hk,by simp⟩⟩
   ·rw [List.getElem?_set_ne (Ne.symm hj)] at e2
    obtain ⟨u',r',q⟩:=hl j y v' e1 e2 e3
    refine ⟨u',r',?_⟩
    rcases q with ⟨k,e⟩ | ⟨k,c,e,z⟩
    ·refine .inl ⟨k,?_⟩
     have:y≠x:=fun e=>hj (AV hN e1 (e ▸ hi))
     simp [this,e]
    ·exact .inr ⟨k,c,e,z.sameBut hs (cne y c e)⟩
  ·obtain ⟨w',z⟩:=I.cell y c e
   exact ⟨w',z.sameBut hs (cne y c e)⟩
  ·obtain ⟨e,n,ne,nf,d⟩:=I.pin p hp
   exact ⟨(hs.2 p.1 ne).trans e,n,ne,nf,d⟩
 ·have hfn:X.fn x=true:=by
   rcases hf with z | z
   ·exact z
   ·rw [z] at hk;cases hk
  obtain ⟨c,hc⟩:=I.ok.has x (.inl hk)
  obtain ⟨w',z⟩:=I.cell x c hc
  refine wpAny_storeName_cell I.ok.kind hk hc z (fun h' hc' hs=>?_)
  obtain ⟨oc,hoc,hocd⟩:=id z
  refine h { s with heap:=h' } ⟨I.ok,I.os,I.bare,⟨fun b o e n hb hx=>?_,fun b o e n hb hx=>?_,I.base.free,fun b o e hx=>?_,I.base.tups,I.base.frzs,I.base.tbls⟩,⟨m,hn.sameBut hs (Ne.symm (cne x c hc)),fun j y v' e1 e2 e3=>?_⟩,fun y c' e=>?_,I.free,I.freeC,fun p hp=>?_,tracked ⟨oc,hoc,I.freeC x c hc⟩ hs,by simpa using I.len⟩ ⟨c,hs,.inr hc⟩
  ·exact (hs.2 b (Nat.ne_of_lt (Nat.lt_of_lt_of_le (Heap.lt_size e) (I.ok.cab x c hfn hc)))).trans (I.base.keep b o e n hb hx)
  ·obtain ⟨sl,e1⟩:=I.base.slot b o e n hb hx
   exact ⟨sl,(hs.2 b (Nat.ne_of_lt (Nat.lt_of_lt_of_le (Heap.lt_size e) (I.ok.cab x c hfn hc)))).trans e1⟩
  ·obtain ⟨o',e1⟩:=I.base.there b o e hx
   exact ⟨o',(hs.2 b (Nat.ne_of_lt (Nat.lt_of_lt_of_le (Heap.lt_size e) (I.ok.cab x c hfn hc)))).trans e1⟩
  ·by_cases hj:j=i
   ·subst hj
    rw [hi] at e1;cases e1
    rw [List.getElem?_set_self hiσ] at e2
    cases e2
    exact ⟨u,r,.inr ⟨.inl hk,c,hc,hc'⟩⟩
   ·rw [List.getElem?_set_ne (Ne.symm hj)] at e2
    obtain ⟨u',r',q⟩:=hl j y v' e1 e2 e3
    refine ⟨u',r',?_⟩
    rcases q with q | ⟨k,c',e,z'⟩
    ·exact .inl q
    ·refine .inr ⟨k,c',e,z'.sameBut hs ?_⟩
     rintro rfl
     exact hj (AV hN e1 (I.ok.inj _ _ _ e hc ▸ hi))
  ·by_cases hcc:c'=c
   ·subst hcc;exact ⟨_,hc'⟩
   ·obtain ⟨w2,z2⟩:=I.cell y c' e
    exact ⟨w2,z2.sameBut hs hcc⟩
  ·obtain ⟨e,n,ne,nf,d⟩:=I.pin p hp
   refine ⟨(hs.2 p.1 ?_).trans e,n,ne,nf,d⟩
   intro q
   rw [q,hoc] at e
   have q':oc=p.2:=Option.some.inj e
   exact d w' (by rw [<- q'];exact hocd)
theorem wN {M:Model} {A:Around} {E:Value->Shared->Prop} {i:Nat} {x:Str} {v:V} {u:Value} {Q:Unit->Shared->Prop} (I:Inv X pins σ H s) (hN:X.N.Nodup) (hi:X.N[i]?=some x) (hx:Loc X.env.scope x) (r:RelV v u)
  (h:∀ s',Inv X pins (σ.set i (some v)) H s'->Q () s') (hf:X.fn x=true\/X.env.scope.names.lookup x=some .local:=by first | exact .inl rfl | exact .inr rfl | assumption):wpAny M A (storeName X.env x u) Q E s :=
 CY I hN hi hx r (fun s' I' _=>h s' I') hf
theorem Inv.call' {s':Shared} {ch:List Addr} (I:Inv X pins σ H s) (ho:s'.os=s.os) (u:Un (gA X.stack) ch H H' s.heap s'.heap) (hok:dX X.prog X.w H' s'.heap) (hg:AllBare s'.gens)
  (hch:∀ b∈ch,(b∈X.ex\/X.s₀.heap.objs.size<=b)/\b≠X.env.locals/\(∀ x c,X.env.cells.lookup x=some c->c≠b)/\∀ p∈X.pn++pins,p.1≠b):Inv X pins σ H' s':=by
 obtain ⟨h',g',d',t',o'⟩:=s'
 have e:o'=s.os:=ho
 subst e
 exact I.call (g':=g') (t':=t') (d':=d') u hok hg hch
end
abbrev XK:=Value->Option Addr->Hp->Prop
abbrev St:=List (Option V)
abbrev VK:=V->Hp->Prop
abbrev TE:=St->Hp->VK->Prop
abbrev TT:=St->Hp->(Bool->Hp->Prop)->Prop
abbrev TA:=St->Hp->(List V->Hp->Prop)->Prop
structure Ends where
 nx:St->Hp->Prop
 rt:VK
 bk:St->Hp->Prop:=fun _ _=>False
 ct:St->Hp->Prop:=fun _ _=>False
abbrev TS:=Ends->St->Hp->Prop
def EP (X:Cx) (pins:List (Addr × Obj)) (σ:St) (Q:VK) (u:Value) (s':Shared):Prop:=∃ v H',Inv X pins σ H' s'/\RelV v u/\Q v H'
def TP (X:Cx) (pins:List (Addr × Obj)) (σ:St) (Q:Bool->Hp->Prop) (b:Bool) (s':Shared):Prop:=∃ H',Inv X pins σ H' s'/\Q b H'
def AP (X:Cx) (pins:List (Addr × Obj)) (σ:St) (Q:List V->Hp->Prop) (us:List Value) (s':Shared):Prop:=∃ vs H',Inv X pins σ H' s'/\Vals vs us/\Q vs H'
def SP (X:Cx) (pins:List (Addr × Obj)) (D:Ends) (f:Flow) (s':Shared):Prop :=
 match f with
 | .next=>∃ σ' H',Inv X pins σ' H' s'/\D.nx σ' H'
 | .brk=>∃ σ' H',Inv X pins σ' H' s'/\D.bk σ' H'
 | .cont=>∃ σ' H',Inv X pins σ' H' s'/\D.ct σ' H'
 | .ret u=>∃ v σ' H',Inv X pins σ' H' s'/\RelV v u/\D.rt v H'
def PE (X:Cx) (e:Expr) (t:TE):Prop :=
 ∀ (pins:List (Addr × Obj)) (s:Shared) (σ:St) (H:Hp) (Q:VK),Inv X pins σ H s->t σ H Q->wpAny (model X.prog X.w) X.A (eval e X.env) (EP X pins σ Q) X.xe s
def PT (X:Cx) (e:Expr) (t:TT):Prop :=
 ∀ (pins:List (Addr × Obj)) (s:Shared) (σ:St) (H:Hp) (Q:Bool->Hp->Prop),Inv X pins σ H s->t σ H Q->wpAny (model X.prog X.w) X.A (isTrue e X.env (eval e X.env)) (TP X pins σ Q) X.xe s
def PW (X:Cx) (e:Expr) (t:TT):Prop :=
 ∀ (whole:Sem Value) (pins:List (Addr × Obj)) (s:Shared) (σ:St) (H:Hp) (Q:Bool->Hp->Prop),Inv X pins σ H s->t σ H Q->wpAny (model X.prog X.w) X.A (isTrue e X.env whole) (TP X pins σ Q) X.xe s
theorem PW.pt {X:Cx} {e:Expr} {t:TT} (h:PW X e t):PT X e t:=h _
def PA (X:Cx) (es:List Expr) (t:TA):Prop :=
 ∀ (pos:Pos) (pins:List (Addr × Obj)) (s:Shared) (σ:St) (H:Hp) (Q:List V->Hp->Prop),Inv X pins σ H s->t σ H Q->wpAny (model X.prog X.w) X.A (spliced (backTo pos (starEach es X.env))) (AP X pins σ Q) X.xe s
def PS (X:Cx) (st:Stmt) (t:TS):Prop :=
 ∀ (pins:List (Addr × Obj)) (s:Shared) (σ:St) (H:Hp) (D:Ends),Inv X pins σ H s->t D σ H->wpAny (model X.prog X.w) X.A (exec st X.env) (SP X pins D) X.xe s
def lH (X:Cx) (st:List Stmt) (t:TS):Prop :=
 ∀ (pins:List (Addr × Obj)) (s:Shared) (σ:St) (H:Hp) (D:Ends),Inv X pins σ H s->t D σ H->wpAny (model X.prog X.w) X.A (execs st X.env) (SP X pins D) X.xe s
theorem aZ {α:Type} {t:Sem α} {Q Q':α->Shared->Prop} {M:Model} {A:Around} {E:Value->Shared->Prop} {s:Shared} (h:wpAny M A t Q E s) (hQ:∀ a s,Q a s->Q' a s):wpAny M A t Q' E s:=wpAny_mono h hQ fun _ _ x=>x
section
variable {X:Cx}
theorem bin {a b:Expr} {ta tb:TE} (ha:PE X a ta) (hb:PE X b tb) {pins:List (Addr × Obj)} {s:Shared} {σ:St} {H:Hp} {R:V->V->Hp->Prop} (I:Inv X pins σ H s) (h:ta σ H fun x H1=>tb σ H1 fun y H2=>R x y H2)
  {α:Type} {Q:α->Shared->Prop} {f:Value->Value->Sem α}
  (hf:∀ v u s2 x y H2,Inv X pins σ H2 s2->RelV x v->RelV y u->R x y H2->wpAny (model X.prog X.w) X.A (f v u) Q X.xe s2) :
  wpAny (model X.prog X.w) X.A (eval a X.env) (fun v s₁=>wpAny (model X.prog X.w) X.A (eval b X.env) (fun u s₂=>wpAny (model X.prog X.w) X.A (f v u) Q X.xe s₂) X.xe s₁) X.xe s:=by
 refine aZ (ha pins s σ H _ I h) fun v s1 ⟨x,H1,I1,r1,q1⟩=>?_
 refine aZ (hb pins s1 σ H1 _ I1 q1) fun u s2 ⟨y,H2,I2,r2,q2⟩=>?_
 exact hf v u s2 x y H2 I2 r1 r2 q2
def sY (i:Nat):TE:=fun σ H Q=>∃ v,σ[i]?=some (some v)/\Q v H
def tC (v:V):TE:=fun _ H Q=>Q v H
theorem lV {i:Nat} {x:Str} {pos:Pos} (hN:X.N[i]?=some x) (hv:BR X.env.scope x) (hd:(x == ("__debug__":Str))=false:=by decide) (hcd:(x == ("__classdict__":Str))=false:=by decide):PE X (.Name x pos) (sY i):=by
 intro pins s σ H Q I h
 obtain ⟨v,e,h⟩:=h
 obtain ⟨m,hn,hl⟩:=I.loc
 obtain ⟨u,r,l⟩:=hl i x v hN e hv
 have fin:EP X pins σ Q u s:=⟨v,H,I,r,h⟩
 rcases l with ⟨hk,hm⟩ | ⟨hk,c,hc,hcell⟩
 ·exact wpAny_Name (wpAny_loadName_local I.ok.kind hk hn hm fin) hd
 ·rcases hk with hk | hk
  ·exact wpAny_Name (wpAny_loadName_cell I.ok.kind hk hc hcell fin) hd
  ·exact wpAny_Name (wpAny_loadName_free I.ok.kind hk hc hcell fin hcd) hd
theorem S5 {i j pos}:PE X (.Constant (.int i) j pos) (tC (.int i)):=fun _ _ _ H _ I h=>wpAny_Constant_int ⟨.int i,H,I.tok _,⟨_,rfl⟩,h⟩
theorem VQ {b j pos}:PE X (.Constant (.bool b) j pos) (tC (.bl b)):=fun _ _ _ H _ I h=>Constant_bool ⟨.bl b,H,I,rfl,h⟩
theorem SI {j pos}:PE X (.Constant .none j pos) (tC .non):=fun _ _ _ H _ I h=>Constant_none ⟨.non,H,I,rfl,h⟩
theorem LH {x j pos}:PE X (.Constant (.str x) j pos) (tC (.str x)):=fun _ _ _ H _ I h=>Calls.Constant_str ⟨.str x,H,I.tok _,⟨_,rfl⟩,h⟩
def Gl (X:Cx) (x:Str):Prop:=X.env.kindOf x=some .globalImplicit
theorem kH {E:Value->Shared->Prop} {pins:List (Addr × Obj)} {s:Shared} {σ:St} {H:Hp} {x:Str} {u:Value} {pos:Pos} {Q:Value->Shared->Prop} (I:Inv X pins σ H s) (hg:Gl X x) (hm:X.mg x=some u) (h:Q u s)
  (hd:(x == ("__debug__":Str))=false:=by decide):wpAny (model X.prog X.w) X.A (eval (.Name x pos) X.env) Q E s :=
 Calls.Name_function_global I.ok.kind hg (Calls.loadGlobal_global (by rw [I.ok.glob];exact I.mod.glob.keeps I.bk) hm h) hd
theorem l4 {E:Value->Shared->Prop} {pins:List (Addr × Obj)} {s:Shared} {σ:St} {H:Hp} {x:Str} {u:Value} {pos:Pos} {Q:Value->Shared->Prop} (I:Inv X pins σ H s) (hg:Gl X x) (hm:X.mg x=none) (hv:bootBuiltins x=some u) (h:Q u s)
  (hn:x≠"__name__":=by decide) (hd:(x == ("__debug__":Str))=false:=by decide):wpAny (model X.prog X.w) X.A (eval (.Name x pos) X.env) Q E s:=by
 obtain ⟨mb,h1,h2⟩:=I.mod.blt
 exact Calls.Name_function_global I.ok.kind hg (Calls.loadGlobal_builtin (by rw [I.ok.glob];exact I.mod.glob.keeps I.bk) hm (by rw [I.ok.blt];exact h1.keeps I.bk) ((h2 x hn).trans hv) h) hd
theorem Ca {x:Str} {v:V} {u:Value} {pos:Pos} (hg:Gl X x) (hm:X.mg x=some u) (r:RelV v u) (hd:(x == ("__debug__":Str))=false:=by decide):PE X (.Name x pos) (tC v) :=
 fun _ _ _ H _ I h=>kH I hg hm ⟨v,H,I,r,h⟩ hd
theorem Rx {x:Str} {v:V} {u:Value} {pos:Pos} (hg:Gl X x) (hm:X.mg x=none) (hv:bootBuiltins x=some u) (r:RelV v u) (hn:x≠"__name__":=by decide) (hd:(x == ("__debug__":Str))=false:=by decide):PE X (.Name x pos) (tC v) :=
 fun _ _ _ H _ I h=>l4 I hg hm hv ⟨v,H,I,r,h⟩ hn hd
def Xa (ta tb:TE) (k:Int->Int->Hp->Prop):St->Hp->Prop:=fun σ H=>ta σ H fun x H1=>tb σ H1 fun y H2=>∃ i j,x=.int i/\y=.int j/\k i j H2
variable {a b:Expr} {ta tb:TE} {pos:Pos}
def B1 (p:Int->Int->Bool) (ta tb:TE):TE:=fun σ H Q=>Xa ta tb (fun i j H2=>Q (.bl (p i j)) H2) σ H
abbrev Xp:TE->TE->TE:=B1 fun i j=>decide (i < j)
abbrev Xu:TE->TE->TE:=B1 fun i j=>decide (i<=j)
abbrev Xt:TE->TE->TE:=B1 fun i j=>decide (j < i)
abbrev Xo:TE->TE->TE:=B1 fun i j=>decide (j<=i)
abbrev Xj:TE->TE->TE:=B1 fun i j=>decide (i=j)
abbrev Xk:TE->TE->TE:=B1 fun i j=>!decide (i=j)
variable {tA tB':TT} {rest:List Expr}
def UY (t u:TT):TT:=fun σ H Q=>t σ H fun c H1=>if c=true then u σ H1 Q else Q false H1
def Ws (t u:TT):TT:=fun σ H Q=>t σ H fun c H1=>if c=true then Q true H1 else u σ H1 Q
def UJ (t:TT):TT:=fun σ H Q=>t σ H fun c H1=>Q (!c) H1
theorem QH (ha:PT X a tA):PW X (.BoolOp .And [a] pos) tA:=by
 intro wh pins s σ H Q I h
 refine isTrue_and (aZ (ha pins s σ H Q I h) fun c s1 e=>?_)
 cases c with
 | true=>exact isTrue_and_nil e
 | false=>exact e
theorem S4 (ha:PT X a tA):PW X (.BoolOp .Or [a] pos) tA:=by
 intro wh pins s σ H Q I h
 refine isTrue_or (aZ (ha pins s σ H Q I h) fun c s1 e=>?_)
 cases c with
 | false=>exact isTrue_or_nil e
 | true=>exact e
theorem TC (ha:PT X a tA) (hb:PW X (.BoolOp .And (b :: rest) pos) tB'):PW X (.BoolOp .And (a :: b :: rest) pos) (UY tA tB'):=by
 intro wh pins s σ H Q I h
 refine isTrue_and (aZ (ha pins s σ H _ I h) fun c s1 ⟨H1,I1,q1⟩=>?_)
 cases c with
 | true=>exact hb wh pins s1 σ H1 Q I1 q1
 | false=>exact ⟨H1,I1,q1⟩
theorem VP (ha:PT X a tA) (hb:PW X (.BoolOp .Or (b :: rest) pos) tB'):PW X (.BoolOp .Or (a :: b :: rest) pos) (Ws tA tB'):=by
 intro wh pins s σ H Q I h
 refine isTrue_or (aZ (ha pins s σ H _ I h) fun c s1 ⟨H1,I1,q1⟩=>?_)
 cases c with
 | true=>exact ⟨H1,I1,q1⟩
 | false=>exact hb wh pins s1 σ H1 Q I1 q1
theorem Ux (ha:PT X a tA):PT X (.UnaryOp .Not a pos) (UJ tA):=by
 intro pins s σ H Q I h
 exact isTrue_not (ha pins s σ H (fun c H1=>Q (!c) H1) I h)
def Pc (ta tb:TE):TE:=fun σ H Q=>ta σ H fun x H1=>∃ c,x=.bl c/\if c=true then tb σ H1 Q else Q (.bl false) H1
def T8 (ta tb:TE):TE:=fun σ H Q=>ta σ H fun x H1=>∃ c,x=.bl c/\if c=true then Q (.bl true) H1 else tb σ H1 Q
def PC (ta:TE):TE:=fun σ H Q=>ta σ H fun x H1=>∃ c,x=.bl c/\Q (.bl (!c)) H1
theorem SG {op} {t:TE} (h:PE X a t):PE X (.BoolOp op [a] pos) t:=fun pins s σ H Q I hw=>BoolOp_one (h pins s σ H Q I hw)
theorem Tx (ha:PE X a ta) (hb:PE X (.BoolOp .And (b :: rest) pos) tb):PE X (.BoolOp .And (a :: b :: rest) pos) (Pc ta tb):=by
 intro pins s σ H Q I h
 refine BoolOp_and (aZ (ha pins s σ H _ I h) fun v s1 ⟨x,H1,I1,r1,q1⟩=>?_)
 obtain ⟨c,rfl,q1⟩:=q1
 cases r1
 refine wpAny_truthy_bool ?_
 cases c with
 | true=>exact hb pins s1 σ H1 Q I1 q1
 | false=>exact ⟨.bl false,H1,I1,rfl,q1⟩
theorem Vv (ha:PE X a ta) (hb:PE X (.BoolOp .Or (b :: rest) pos) tb):PE X (.BoolOp .Or (a :: b :: rest) pos) (T8 ta tb):=by
 intro pins s σ H Q I h
 refine BoolOp_or (aZ (ha pins s σ H _ I h) fun v s1 ⟨x,H1,I1,r1,q1⟩=>?_)
 obtain ⟨c,rfl,q1⟩:=q1
 cases r1
 refine wpAny_truthy_bool ?_
 cases c with
 | false=>exact hb pins s1 σ H1 Q I1 q1
 | true=>exact ⟨.bl true,H1,I1,rfl,q1⟩
theorem RZ (ha:PE X a ta):PE X (.UnaryOp .Not a pos) (PC ta):=by
 intro pins s σ H Q I h
 refine UnaryOp_ (aZ (ha pins s σ H _ I h) fun v s1 ⟨x,H1,I1,r1,q1⟩=>?_)
 obtain ⟨c,rfl,q1⟩:=q1
 cases r1
 exact not_of (wpAny_truthy_bool ⟨.bl (!c),H1,I1,rfl,q1⟩)
def Wq (t:TT) (ta tb:TE):TE:=fun σ H Q=>t σ H fun c H1=>if c=true then ta σ H1 Q else tb σ H1 Q
theorem Nl {c:Expr} (hc:PT X c tA) (ha:PE X a ta) (hb:PE X b tb):PE X (.IfExp c a b pos) (Wq tA ta tb):=by
 intro pins s σ H Q I h
 refine wpAny_IfExp (aZ (hc pins s σ H _ I h) fun d s1 ⟨H1,I1,q1⟩=>?_)
 cases d with
 | true=>exact ha pins s1 σ H1 Q I1 q1
 | false=>exact hb pins s1 σ H1 Q I1 q1
end
def eV (K:PySem.W.Frag) (H:Hp) (a:Addr) (xs:List V):Prop :=
 Rd H a (.lst xs) \/
  ∃ (o:Obj) (its:Array Value) (n:Nat),K.lookup a=some o/\o.cls=.type "list"/\o.dict=none/\o.data=.seq its n/\its.size<=sizeLine/\Vals xs its.toList
def fW (K:PySem.W.Frag) (H:Hp) (a:Addr) (xs:List V):Prop :=
 Rd H a (.tup xs) \/
  ∃ (o:Obj) (its:Array Value) (n:Nat),K.lookup a=some o/\o.cls=.type "tuple"/\o.dict=none/\o.data=.seq its n/\its.size<=sizeLine/\Vals xs its.toList
def WH:Value->Option V
 | .none=>some .non
 | .bool b=>some (.bl b)
 | .int i _=>some (.int i)
 | .str x _=>some (.str x)
 | .bytes b _=>some (.byt b)
 | .float b _=>some (.flt b)
 | .ref a=>some (.ref a)
 | .type n=>some (.ty n)
 | _=>none
theorem RelV.abs {x:V} {u:Value} (r:RelV x u):WH u=some x:=by
 cases x with
 | non=>cases r;rfl
 | bl _=>cases r;rfl
 | int _=>obtain ⟨t,rfl⟩:=r;rfl
 | str _=>obtain ⟨t,rfl⟩:=r;rfl
 | byt _=>obtain ⟨t,rfl⟩:=r;rfl
 | flt _=>obtain ⟨t,rfl⟩:=r;rfl
 | ref _=>cases r;rfl
 | ty _=>cases r;rfl
theorem RelV.inj {x y:V} {u:Value} (r:RelV x u) (q:RelV y u):x=y:=Option.some.inj (r.abs.symm.trans q.abs)
theorem Vals.inj:∀ {xs ys:List V} {us:List Value},Vals xs us->Vals ys us->xs=ys
 | _,_,_,.nil,.nil=>rfl
 | _,_,_,.cons r t,.cons r' t'=>by rw [r.inj r',Vals.inj t t']
section
variable {X:Cx} {pins:List (Addr × Obj)} {σ:St} {H:Hp} {s:Shared} {a:Addr} {xs ys:List V}
theorem Inv.list (I:Inv X pins σ H s) (h:eV X.K H a xs):∃ its:List Value,Vals xs its/\PlainL s.heap a its.toArray/\xs.length<=sizeLine:=by
 rcases h with h | ⟨o,its,n,hk,hc,hd,hs,hz,r⟩
 ·obtain ⟨z,its,n,r,e⟩:=h.ok I.hok
  exact ⟨its,r,⟨_,n,e,rfl,rfl,rfl⟩,z⟩
 ·refine ⟨its.toList,r,⟨o,n,I.kIn a o hk,hc,hd,by simpa using hs⟩,?_⟩
  have e:=r.length
  simp only [Array.length_toList] at e
  omega
theorem Inv.tupleP (I:Inv X pins σ H s) (h:fW X.K H a xs):∃ its:List Value,Vals xs its/\gW s.heap a its.toArray/\xs.length<=sizeLine:=by
 rcases h with h | ⟨o,its,n,hk,hc,hd,hs,hz,r⟩
 ·obtain ⟨z,its,r,p⟩:=h.ok I.hok
  exact ⟨its,r,p,z⟩
 ·refine ⟨its.toList,r,⟨o,I.kIn a o hk,hc,hd,n,by simpa using hs⟩,?_⟩
  have e:=r.length
  simp only [Array.length_toList] at e
  omega
theorem Inv.tuple (I:Inv X pins σ H s) (h:fW X.K H a xs):∃ its:List Value,Vals xs its/\IsTup s.heap a its.toArray/\xs.length<=sizeLine:=by
 obtain ⟨its,r,p,z⟩:=I.tupleP h
 exact ⟨its,r,p.tup,z⟩
theorem Inv.list_inj (I:Inv X pins σ H s) (h:eV X.K H a xs) (h':eV X.K H a ys):xs=ys:=by
 obtain ⟨its,r,⟨o,n,e,_,_,d⟩,_⟩:=I.list h
 obtain ⟨its',r',⟨o',n',e',_,_,d'⟩,_⟩:=I.list h'
 rw [e] at e';cases e'
 rw [d] at d'
 injection d' with d1 _
 have:its=its':=by simpa using congrArg Array.toList d1
 subst this
 exact r.inj r'
theorem Inv.tuple_inj (I:Inv X pins σ H s) (h:fW X.K H a xs) (h':fW X.K H a ys):xs=ys:=by
 obtain ⟨its,r,⟨o,e,_,n,d⟩,_⟩:=I.tuple h
 obtain ⟨its',r',⟨o',e',_,n',d'⟩,_⟩:=I.tuple h'
 rw [e] at e';cases e'
 rw [d] at d'
 injection d' with d1 _
 have:its=its':=by simpa using congrArg Array.toList d1
 subst this
 exact r.inj r'
end
abbrev Cx.wish (X:Cx) (E:Value->Shared->Prop):Cx:={ X with xe:=E }
abbrev Cx.nox (X:Cx):Cx:=X.wish fun _ _=>False
theorem Cx.Ok.wish {X:Cx} (ok:X.Ok) (E:Value->Shared->Prop):(X.wish E).Ok :=
 ⟨ok.mod,ok.kind,ok.glob,ok.blt,ok.above,ok.inj,ok.has,ok.cab,ok.hd,ok.frames,ok.stk,ok.exf,ok.bs,ok.bsz,ok.noex,ok.exfs,ok.funs,ok.frf⟩
theorem Cx.Ok.unwish {X:Cx} {E:Value->Shared->Prop} (ok:(X.wish E).Ok):X.Ok :=
 ⟨ok.mod,ok.kind,ok.glob,ok.blt,ok.above,ok.inj,ok.has,ok.cab,ok.hd,ok.frames,ok.stk,ok.exf,ok.bs,ok.bsz,ok.noex,ok.exfs,ok.funs,ok.frf⟩
section
variable {X:Cx} {pins:List (Addr × Obj)} {σ:St} {H:Hp} {s:Shared} {E:Value->Shared->Prop}
theorem Inv.wish (I:Inv X pins σ H s) (E:Value->Shared->Prop):Inv (X.wish E) pins σ H s:=⟨I.ok.wish E,I.os,I.bare,I.base,I.loc,I.cell,I.free,I.freeC,I.pin,I.hok,I.len⟩
theorem Inv.unwish (I:Inv (X.wish E) pins σ H s):Inv X pins σ H s:=⟨I.ok.unwish,I.os,I.bare,I.base,I.loc,I.cell,I.free,I.freeC,I.pin,I.hok,I.len⟩
theorem SP.unwish {D:Ends} {f:Flow} {s':Shared} (h:SP (X.wish E) pins D f s'):SP X pins D f s':=by
 cases f with
 | next=>obtain ⟨σ',H',I,q⟩:=h;exact ⟨σ',H',I.unwish,q⟩
 | brk=>obtain ⟨σ',H',I,q⟩:=h;exact ⟨σ',H',I.unwish,q⟩
 | cont=>obtain ⟨σ',H',I,q⟩:=h;exact ⟨σ',H',I.unwish,q⟩
 | ret u=>obtain ⟨v,σ',H',I,r,q⟩:=h;exact ⟨v,σ',H',I.unwish,r,q⟩
theorem lH.nox {st:List Stmt} {t:TS} (h:lH X.nox st t):lH X st t:=fun pins s σ H D I hw =>
 wpAny_mono (h pins s σ H D (I.wish _) hw) (fun _ _ q=>q.unwish) fun _ _ z=>False.elim z
end
section
variable {X:Cx} {st:Stmt} {rest:List Stmt} {t u:TS} {e:Expr} {te:TE} {pos:Pos}
def OP:TS:=fun D σ H=>D.nx σ H
def SY (t u:TS):TS:=fun D σ H=>t { D with nx:=u D } σ H
theorem Qz:lH X [] OP:=fun _ _ σ H _ I h=>wpAny_execs_nil ⟨σ,H,I,h⟩
theorem Ef (h1:PS X st t) (h2:lH X rest u):lH X (st :: rest) (SY t u):=by
 intro pins s σ H D I h
 refine wpAny_execs_cons (aZ (h1 pins s σ H { D with nx:=u D } I h) fun f s1 q=>?_)
 cases f with
 | next =>
  obtain ⟨σ',H',I',q⟩:=q
  exact h2 pins s1 σ' H' D I' q
 | ret v=>exact q
 | brk=>exact q
 | cont=>exact q
theorem Cm (h1:PS X st t):lH X [st] t:=by
 intro pins s σ H D I h
 refine wpAny_execs_cons (aZ (h1 pins s σ H D I h) fun f s1 q=>?_)
 cases f with
 | next=>exact wpAny_execs_nil q
 | ret v=>exact q
 | brk=>exact q
 | cont=>exact q
def LX:TS:=fun D σ H=>D.bk σ H
theorem Nx:PS X (.Break pos) LX:=fun _ _ σ H _ I h=>wpAny_Break ⟨σ,H,I,h⟩
theorem Inv.quiet {pins:List (Addr × Obj)} {σ:St} {H:Hp} {s:Shared} (I:Inv X pins σ H s):interactive X.env=false:=by simp [interactive,I.ok.kind]
def Po (te:TE):TS:=fun D σ H=>te σ H fun _ H1=>D.nx σ H1
theorem GI (he:PE X e te) (hs:swapsWith e none pos.line X.env=pure false:=by rfl):PS X (.Expr e pos) (Po te):=by
 intro pins s σ H D I h
 exact wpAny_Expr_any (aZ (he pins s σ H _ I h) fun v s1 ⟨x,H1,I1,r1,q1⟩=>⟨σ,H1,I1,q1⟩) I.quiet hs
def Tj (te:TE):TS:=fun D σ H=>te σ H D.rt
theorem UZ (he:PE X e te):PS X (.Return (some e) pos) (Tj te):=by
 intro pins s σ H D I h
 exact wpAny_Return_some (aZ (he pins s σ H _ I h) fun v s1 ⟨x,H1,I1,r1,q1⟩=>⟨x,σ,H1,I1,r1,q1⟩)
def Sl (c:TT) (t u:TS):TS:=fun D σ H=>c σ H fun b H1=>if b=true then t D σ H1 else u D σ H1
theorem VF {c:Expr} {a b:List Stmt} {tc:TT} (hc:PT X c tc) (ha:lH X a t) (hb:lH X b u):PS X (.If c a b pos) (Sl tc t u):=by
 intro pins s σ H D I h
 refine wpAny_If (aZ (hc pins s σ H _ I h) fun d s1 ⟨H1,I1,q1⟩=>?_)
 cases d with
 | true=>exact ha pins s1 σ H1 D I1 q1
 | false=>exact hb pins s1 σ H1 D I1 q1
end
abbrev TG:=V->St->Hp->(St->Hp->Prop)->Prop
abbrev qD:=List V->St->Hp->(St->Hp->Prop)->Prop
def PG (X:Cx) (target:Expr) (t:TG):Prop :=
 ∀ (pins:List (Addr × Obj)) (s:Shared) (σ:St) (H:Hp) (v:V) (u:Value) (Q:St->Hp->Prop),Inv X pins σ H s->RelV v u->t v σ H Q ->
  wpAny (model X.prog X.w) X.A (assign target X.env u) (fun _ s'=>∃ σ' H',Inv X pins σ' H' s'/\Q σ' H') X.xe s
def Li (X:Cx) (ts:List Expr) (t:qD):Prop :=
 ∀ (pins:List (Addr × Obj)) (s:Shared) (σ:St) (H:Hp) (vs:List V) (us:List Value) (Q:St->Hp->Prop),Inv X pins σ H s->Vals vs us->t vs σ H Q ->
  wpAny (model X.prog X.w) X.A (assignInOrder ((assignEach ts X.env).map (·.2)) us) (fun _ s'=>∃ σ' H',Inv X pins σ' H' s'/\Q σ' H') X.xe s
abbrev MB:=V->V->V->Hp->(Hp->Prop)->Prop
def UP (X:Cx) (t:MB):Prop :=
 ∀ (pins:List (Addr × Obj)) (s:Shared) (σ:St) (H:Hp) (o i v:V) (ov iv u:Value) (Q:Hp->Prop),Inv X pins σ H s->RelV o ov->RelV i iv->RelV v u->t o i v H Q ->
  wpAny (model X.prog X.w) X.A (setItem ov iv u) (fun _ s'=>∃ H',Inv X pins σ H' s'/\Q H') X.xe s
abbrev Xs:=V->V->Hp->VK->Prop
section
variable {X:Cx} {pos:Pos}
def xC (i:Nat):TG:=fun v σ H Q=>Q (σ.set i (some v)) H
theorem QI {i:Nat} {x:Str} (hN:X.N.Nodup) (hi:X.N[i]?=some x) (hx:Loc X.env.scope x) (hf:X.fn x=true\/X.env.scope.names.lookup x=some .local:=by first | exact .inl rfl | exact .inr rfl | assumption):PG X (.Name x pos) (xC i):=by
 intro pins s σ H v u Q I r h
 exact wpAny_assign_Name (wN I hN hi hx r (fun s' I'=>⟨_,H,I',h⟩) hf)
def E4:qD:=fun vs σ H Q=>vs=[]/\Q σ H
def Br (t:TG) (u:qD):qD:=fun vs σ H Q=>∃ v r,vs=v :: r/\t v σ H fun σ' H'=>u r σ' H' Q
theorem Rh:Li X [] E4:=by
 intro pins s σ H vs us Q I r h
 obtain ⟨e,h⟩:=h
 subst e
 cases r
 exact assignInOrder_nil ⟨σ,H,I,h⟩
theorem Nr {e:Expr} {es:List Expr} {t:TG} {u:qD} (h1:PG X e t) (h2:Li X es u)
  (hs:(assignEach (e :: es) X.env).map (·.2)=assign e X.env :: (assignEach es X.env).map (·.2):=by rfl):Li X (e :: es) (Br t u):=by
 intro pins s σ H vs us Q I r h
 obtain ⟨v,vr,e1,h⟩:=h
 subst e1
 cases r with
 | cons r rr =>
  rw [hs]
  refine assignInOrder_cons (aZ (h1 pins s σ H _ _ _ I r h) fun _ s1 ⟨σ1,H1,I1,q1⟩=>?_)
  exact h2 pins s1 σ1 H1 _ _ Q I1 rr q1
def ES (K:PySem.W.Frag) (n:Nat) (t:qD):TG:=fun v σ H Q=>∃ a xs,v=.ref a/\fW K H a xs/\xs.length=n/\t xs σ H Q
theorem S6 {es:List Expr} {k:Nat} {t:qD} {n:Nat} (hc:X.calm=true) (h:Li X es t)
  (hn:(assignEach es X.env).length=n:=by rfl) (hst:(assignEach es X.env).findIdx? (·.1)=none:=by rfl):PG X (.Tuple es k pos) (ES X.K n t):=by
 intro pins s σ H v u Q I r hw
 obtain ⟨a,xs,e1,hq,hl,hw⟩:=hw
 subst e1
 cases r
 obtain ⟨its,rv,ht,hz⟩:=I.tuple hq
 refine assign_Tuple_tuple (I.ok.hd hc) ht (by simp [hn,<- hl,rv.length]) hst fun h' hx=>?_
 have I1:Inv X pins σ H { s with heap:=h' }:=I.kept (t':=s.toks) fun b o e=>hx b o (Nat.ne_of_lt (Heap.lt_size e)) e
 exact h pins _ σ H xs _ Q I1 (by simpa using rv) hw
def WK (to ti:TE) (t:MB):TG:=fun v σ H Q=>to σ H fun o H1=>ti σ H1 fun i H2=>t o i v H2 fun H3=>Q σ H3
theorem Sq {o i:Expr} {to ti:TE} {t:MB} (ho:PE X o to) (hi:PE X i ti) (hs:UP X t)
  (ha:∀ v,assign (.Subscript o i pos) X.env v=(do
   let ov <- holding [v] (eval o X.env)
   let iv <- holding [v,ov] (eval i X.env)
   standAt pos
   holding [v,ov,iv] (setItem ov iv v)
   release [v,ov,iv] []):=by intro _;rfl):PG X (.Subscript o i pos) (WK to ti t):=by
 intro pins s σ H v u Q I r h
 rw [ha]
 refine wpAny_bind (wpAny_holding (aZ (ho pins s σ H _ I h) fun ov s1 ⟨x,H1,I1,r1,q1⟩=>?_))
 refine wpAny_bind (wpAny_holding (aZ (hi pins s1 σ H1 _ I1 q1) fun iv s2 ⟨y,H2,I2,r2,q2⟩=>?_))
 refine wpAny_bind (wpAny_standAt (wpAny_bind (wpAny_holding (aZ (hs pins s2 σ H2 x y v ov iv u _ I2 r1 r2 r q2) fun _ s3 ⟨H3,I3,q3⟩=>?_))))
 exact wpAny_release ⟨σ,H3,I3,q3⟩
def JD (te:TE) (g:TG):TS:=fun D σ H=>te σ H fun x H1=>g x σ H1 D.nx
theorem LG {tg e:Expr} {te:TE} {g:TG} (he:PE X e te) (hg:PG X tg g) (hs:swapsWithSole [tg] e pos.line X.env=pure false:=by rfl) (hw:swappedStores [tg] e X.env=pure none:=by rfl)
  (h1:(assignEach [tg] X.env).map (·.2)=[assign tg X.env]:=by rfl):PS X (.Assign [tg] e pos) (JD te g):=by
 intro pins s σ H D I h
 refine wpAny_Assign_stores (aZ (he pins s σ H _ I h) fun v s1 ⟨x,H1,I1,r1,q1⟩=>?_) hs hw
 rw [h1]
 exact aZ (hg pins s1 σ H1 x v _ I1 r1 q1) fun _ s2 q=>q
theorem Lk {i:Nat} {x:Str} {e:Expr} {te:TE} {pos':Pos} (hN:X.N.Nodup) (hi:X.N[i]?=some x) (hx:Loc X.env.scope x) (he:PE X e te) (hs:swapsWith e (some (.Name x pos')) pos.line X.env=pure false:=by rfl) (hf:X.fn x=true\/X.env.scope.names.lookup x=some .local:=by first | exact .inl rfl | exact .inr rfl | assumption) :
  PS X (.Assign [.Name x pos'] e pos) (JD te (xC i)):=by
 intro pins s σ H D I h
 refine wpAny_Assign_Name (aZ (he pins s σ H _ I h) fun v s1 ⟨y,H1,I1,r1,q1⟩=>?_) hs
 exact wN I1 hN hi hx r1 (fun s2 I2=>⟨_,H1,I2,q1⟩) hf
end
section
variable {X:Cx} {pos:Pos}
def Fg (c:TT) (tb:TS):TS:=fun D σ H=>∃ W:Nat->St->Hp->Prop,(∃ m,W m σ H)/\∀ m σ H,W m σ H ->
 c σ H fun b H1=>if b=true then ∃ N:St->Hp->Prop,(∀ σ' H',N σ' H'->∃ m',m' < m/\W m' σ' H')/\tb { D with nx:=N,ct:=N,bk:=D.nx } σ H1 else D.nx σ H1
theorem MY {c:Expr} {body:List Stmt} {tc:TT} {tb:TS} (hp:PassesOwn (model X.prog X.w) X.A X.env X.xe) (hc:PT X c tc) (hb:lH X body tb):PS X (.While c body [] pos) (Fg tc tb):=by
 intro pins s σ H D I h
 obtain ⟨W,⟨m0,w0⟩,turn⟩:=h
 refine wpAny_While (codeAny_whileLoop (fun n s'=>∃ σ' H',Inv X pins σ' H' s'/\W n σ' H') ?_ m0 ⟨σ,H,I,w0⟩)
 rintro n s1 ⟨σ1,H1,I1,w1⟩
 refine wpAny_passesOwn hp (aZ (hc pins s1 σ1 H1 _ I1 (turn n σ1 H1 w1)) fun b s2 ⟨H2,I2,q2⟩=>?_)
 cases b with
 | true =>
  obtain ⟨N,hN,q2⟩:=q2
  rw [if_pos rfl]
  refine wpAny_passesOwn hp (aZ (hb pins s2 σ1 H2 _ I2 q2) fun f s3 q3=>?_)
  cases f with
  | next =>
   obtain ⟨σ3,H3,I3,n3⟩:=q3
   obtain ⟨m',hm,w3⟩:=hN σ3 H3 n3
   exact ⟨m',hm,σ3,H3,I3,w3⟩
  | cont =>
   obtain ⟨σ3,H3,I3,n3⟩:=q3
   obtain ⟨m',hm,w3⟩:=hN σ3 H3 n3
   exact ⟨m',hm,σ3,H3,I3,w3⟩
  | brk=>exact q3
  | ret v=>exact q3
 | false =>
  rw [if_neg Bool.false_ne_true]
  exact wpAny_execs_nil ⟨σ1,H2,I2,q2⟩
end
structure It where
 go:Nat->Hp->Prop
 yld:Nat->Hp->V->Hp->Prop
 stop:Nat->Hp->Prop
def tV (X:Cx) (pins:List (Addr × Obj)) (H:Hp) (b:Addr):Prop :=
 H b=none/\b≠X.env.locals/\b ∉ X.fs/\(b∈X.ex\/X.s₀.heap.objs.size<=b)/\(∀ x c,X.env.cells.lookup x=some c->c≠b)/\∀ p∈X.pn++pins,p.1≠b
theorem Inv.fpOk {X:Cx} {pins:List (Addr × Obj)} {σ:St} {H H':Hp} {s:Shared} {b:Addr} (I:Inv X pins σ H s) (hb:s.heap.objs.size<=b) (hn:H' b=none):tV X pins H' b:=by
 refine ⟨hn,Nat.ne_of_gt (Nat.lt_of_lt_of_le I.lt hb),I.nofs hb,.inr (Nat.le_trans I.sz hb),fun x c e z=>?_,fun p hp z=>?_⟩
 ·obtain ⟨v,q⟩:=I.cell x c e
  exact absurd (Nat.lt_of_lt_of_le q.lt (by rw [z];exact hb)) (Nat.lt_irrefl _)
 ·exact absurd (Nat.lt_of_lt_of_le (Heap.lt_size (I.pin p hp).1) (by rw [z];exact hb)) (Nat.lt_irrefl _)
structure Turn (P:Program) (w:World) (K:PySem.W.Frag) (tg:Expr) (J:It) (fp:List Addr) (it:Addr) (tn:Nat->Heap->Prop):Prop where
 mem:it∈fp
 obj:∀ i h,tn i h->∀ b∈fp,∃ o,h.get? b=some o/\∀ v,o.data≠.cell v
 keep:∀ i h h',tn i h->(∀ b∈fp,∀ o,h.get? b=some o->h'.get? b=some o)->tn i h'
 item:∀ (X:Cx),X.prog=P->X.w=w->X.K=K->X.calm=true->∀ (i:Nat) (pins:List (Addr × Obj)) (s:Shared) (σ:St) (H:Hp) (E:Value->Shared->Prop),Inv X pins σ H s->(∀ b∈fp,tV X pins H b)->tn i s.heap->J.go i H ->
  wpAny (model P w) X.A (pyNext (.ref it)) (fun r s1=>∃ u,r=some u /\
   wpAny (model P w) X.A (letOwnedTupleGo tg (.ref it) u) (fun _ s2=>∃ x H',Inv X pins σ H' s2/\RelV x u/\J.yld i H x H'/\tn (i + 1) s2.heap/\∀ b∈fp,H' b=none) E s1) E s
 done:∀ (X:Cx),X.prog=P->X.w=w->X.K=K->X.calm=true->∀ (i:Nat) (pins:List (Addr × Obj)) (s:Shared) (σ:St) (H:Hp) (E:Value->Shared->Prop),Inv X pins σ H s->(∀ b∈fp,tV X pins H b)->tn i s.heap->J.stop i H ->
  wpAny (model P w) X.A (pyNext (.ref it)) (fun r s1=>r=none/\Inv X pins σ H s1) E s
 self:∀ (A:Around) (i:Nat) (s:Shared) (Q:Value->Shared->Prop) (E:Value->Shared->Prop),tn i s.heap->Q (.ref it) s->wpAny (model P w) A (pyIter (.ref it)) Q E s
abbrev TI:=St->Hp->(It->Hp->Prop)->Prop
def Wl (X:Cx) (pins:List (Addr × Obj)) (σ:St) (tg:Expr) (R:It->Hp->Prop) (itv:Value) (s2:Shared):Prop :=
 ∃ (it:Addr) (fp:List Addr) (tn:Nat->Heap->Prop) (J:It) (H':Hp),itv=.ref it/\Inv X pins σ H' s2/\Turn X.prog X.w X.K tg J fp it tn/\tn 0 s2.heap/\(∀ b∈fp,tV X pins H' b)/\R J H'
def PI (X:Cx) (tg iter:Expr) (wi:TI):Prop :=
 ∀ (pins:List (Addr × Obj)) (s:Shared) (σ:St) (H:Hp) (R:It->Hp->Prop),Inv X pins σ H s->wi σ H R ->
  wpAny (model X.prog X.w) X.A (eval iter X.env) (fun v s1=>wpAny (model X.prog X.w) X.A (pyIter v) (Wl X pins σ tg R) X.xe s1) X.xe s
theorem DJ {M:Model} {A:Around} {E:Value->Shared->Prop} {s:Shared} {tg:Expr} {it:Addr} {u:Value} {o:Obj} {n:String} {vs:Array Value} {Q:Unit->Shared->Prop} (ho:s.heap.get? it=some o) (hc:o.cls=.type n) (hd:o.data=.fields vs)
    (hn:["enumerate","zip","dict_itemiterator","dict_reverseitemiterator","odict_iterator","itertools.zip_longest","itertools.pairwise"].contains n=false) (hQ:Q () s):wpAny M A (letOwnedTupleGo tg (.ref it) u) Q E s:=by
  unfold letOwnedTupleGo
  cases tg <;> first
    | exact wpAny_pure hQ
    | (cases u <;> first
        | exact wpAny_pure hQ
        | (refine wpAny_bind (wpAny_load ho ?_)
           rw [hc,hd]
           show wpAny M A (if (["enumerate","zip","dict_itemiterator","dict_reverseitemiterator","odict_iterator","itertools.zip_longest","itertools.pairwise"].contains n && vs[0]? == some (rawInt _))=true then _ else _) Q E s
           rw [if_neg (by intro h;rw [hn,Bool.false_and] at h;cases h)]
           exact wpAny_pure hQ))
def OZ (K:PySem.W.Frag) (a:Addr):It :=
 ⟨fun i H=>∃ xs x,eV K H a xs/\xs[i]?=some x,fun i H x H'=>H'=H/\∀ xs,eV K H a xs->xs[i]?=some x,fun i H=>∃ xs,eV K H a xs/\xs.length<=i⟩
def UX (K:PySem.W.Frag) (a:Addr):It :=
 ⟨fun i H=>∃ xs x,fW K H a xs/\xs[i]?=some x,fun i H x H'=>H'=H/\∀ xs,fW K H a xs->xs[i]?=some x,fun i H=>∃ xs,fW K H a xs/\xs.length<=i⟩
def O2 (lo:Int) (n:Nat):It:=⟨fun i _=>i < n,fun i H x H'=>H'=H/\x=.int (lo + i),fun i _=>n<=i⟩
theorem JU {P:Program} {w:World} {K:PySem.W.Frag} {tg:Expr} (a it:Addr):Turn P w K tg (OZ K a) [it] it (fun i h=>h.IsListIter it a i) where
 mem:=by simp
 obj:=fun i h st b hb=>by
  have e:b=it:=by simpa using hb
  subst e
  obtain ⟨o,e,c,d⟩:=st
  exact ⟨o,e,fun v z=>by rw [d] at z;cases z⟩
 keep:=fun i h h' st k=>st.at fun o e=>k it (by simp) o e
 item:=by
  intro X hP hw hK hc i pins s σ H E I hf st hg
  subst hP hw hK
  obtain ⟨xs,x,hq,hx⟩:=hg
  obtain ⟨its,rv,p,hz⟩:=I.list hq
  obtain ⟨u,hu,ru⟩:=rv.get hx
  obtain ⟨f0,f1,f2,f3,f4,f5⟩:=hf it (by simp)
  refine wpAny_pyNext_list_item st p.isList (x:=u) (by simpa using hu) fun h' st' sb=>?_
  have I1:Inv X pins σ H { s with heap:=h' }:=I.turned (t':=s.toks) (fun b o hb e=>(sb.2 b hb).trans e) f0 f1 f3 f4 f5
  obtain ⟨o,e,c,d⟩:=id st'
  exact ⟨u,rfl,DJ (s:={ s with heap:=h' }) e c d (by decide) ⟨x,H,I1,ru,⟨rfl,fun ys hy=>by rw [I.list_inj hy hq];exact hx⟩,st',fun b hb=>(hf b hb).1⟩⟩
 done:=by
  intro X hP hw hK hc i pins s σ H E I hf st hg
  subst hP hw hK
  obtain ⟨xs,hq,hx⟩:=hg
  obtain ⟨its,rv,p,hz⟩:=I.list hq
  obtain ⟨f0,f1,f2,f3,f4,f5⟩:=hf it (by simp)
  have hl:=rv.length
  exact wpAny_pyNext_list_end (I.ok.hd hc) st p.isList (by simp;omega) fun h' eb=>⟨rfl,I.turned (t':=s.toks) (fun b o hb e=>eb b o hb e) f0 f1 f3 f4 f5⟩
 self:=fun _ _ _ _ _ st h=>wpAny_pyIter_listiter st h
theorem Ib {P:Program} {w:World} {K:PySem.W.Frag} {tg:Expr} (a it:Addr):Turn P w K tg (UX K a) [it] it (fun i h=>h.IsTupleIter it a i) where
 mem:=by simp
 obj:=fun i h st b hb=>by
  have e:b=it:=by simpa using hb
  subst e
  obtain ⟨o,e,c,d⟩:=st
  exact ⟨o,e,fun v z=>by rw [d] at z;cases z⟩
 keep:=fun i h h' st k=>st.at fun o e=>k it (by simp) o e
 item:=by
  intro X hP hw hK hc i pins s σ H E I hf st hg
  subst hP hw hK
  obtain ⟨xs,x,hq,hx⟩:=hg
  obtain ⟨its,rv,p,hz⟩:=I.tuple hq
  obtain ⟨u,hu,ru⟩:=rv.get hx
  obtain ⟨f0,f1,f2,f3,f4,f5⟩:=hf it (by simp)
  refine wpAny_pyNext_tuple_item st (show s.heap.IsTuple a its.toArray from p) (x:=u) (by simpa using hu) fun h' st' sb=>?_
  have I1:Inv X pins σ H { s with heap:=h' }:=I.turned (t':=s.toks) (fun b o hb e=>(sb.2 b hb).trans e) f0 f1 f3 f4 f5
  obtain ⟨o,e,c,d⟩:=id st'
  exact ⟨u,rfl,DJ (s:={ s with heap:=h' }) e c d (by decide) ⟨x,H,I1,ru,⟨rfl,fun ys hy=>by rw [I.tuple_inj hy hq];exact hx⟩,st',fun b hb=>(hf b hb).1⟩⟩
 done:=by
  intro X hP hw hK hc i pins s σ H E I hf st hg
  subst hP hw hK
  obtain ⟨xs,hq,hx⟩:=hg
  obtain ⟨its,rv,p,hz⟩:=I.tuple hq
  obtain ⟨f0,f1,f2,f3,f4,f5⟩:=hf it (by simp)
  have hl:=rv.length
  exact wpAny_pyNext_tuple_end (I.ok.hd hc) st (show s.heap.IsTuple a its.toArray from p) (by simp;omega) fun h' eb=>⟨rfl,I.turned (t':=s.toks) (fun b o hb e=>eb b o hb e) f0 f1 f3 f4 f5⟩
 self:=fun _ _ _ _ _ st h=>wpAny_pyIter_tupleiter st h
theorem Iq {P:Program} {w:World} {K:PySem.W.Frag} {tg:Expr} (it:Addr) (lo:Int) (n:Nat):Turn P w K tg (O2 lo n) [it] it (fun i h=>IsRangeIter h it (lo + (i:Nat) * 1) ((n:Int) - (i:Nat)) 1) where
 mem:=by simp
 obj:=fun i h st b hb=>by
  have e:b=it:=by simpa using hb
  subst e
  exact ⟨_,st,fun v z=>by
   have z':Data.fields _=Data.cell v:=z
   cases z'⟩
 keep:=fun i h h' st k=>k it (by simp) _ st
 item:=by
  intro X hP hw hK hc i pins s σ H E I hf st hg
  subst hP hw hK
  obtain ⟨f0,f1,f2,f3,f4,f5⟩:=hf it (by simp)
  have W:=Walks.range (prog:=X.prog) (w:=X.w) (I.ok.hd hc) it lo 1 n
  refine W.item i s _ _ hg st fun v h' tk hv st' kk=>?_
  obtain ⟨t,rfl⟩:=hv
  have I1:Inv X pins σ H { s with heap:=h',toks:=tk }:=I.turned (fun b o hb e=>kk b o (by simpa using hb) e) f0 f1 f3 f4 f5
  refine ⟨_,rfl,DJ (s:={ s with heap:=h',toks:=tk }) (n:="range_iterator") st' rfl rfl (by decide) ⟨.int (lo + i),H,I1,⟨t,?_⟩,⟨rfl,rfl⟩,st',fun b hb=>(hf b hb).1⟩⟩
  rw [Int.mul_one]
 done:=by
  intro X hP hw hK hc i pins s σ H E I hf st hg
  subst hP hw hK
  obtain ⟨f0,f1,f2,f3,f4,f5⟩:=hf it (by simp)
  exact wpAny_pyNext_range_end (I.ok.hd hc) st (by have:n<=i:=hg;omega) fun h' eb=>⟨rfl,I.turned (t':=s.toks) (fun b o hb e=>eb b o hb e) f0 f1 f3 f4 f5⟩
 self:=fun _ _ _ _ _ st h=>wpAny_pyIter_rangeiter st h
section
variable {X:Cx} {tg:Expr}
theorem Nc {pins:List (Addr × Obj)} {σ:St} {H:Hp} {s:Shared} {R:It->Hp->Prop} {E:Value->Shared->Prop} {lo hi:Int} {t u v:Tok} {tk:Nat} (I:Inv X pins σ H s) (h1:-(2 ^ 62)<=lo) (h2:lo < 2 ^ 62) (h3:-(2 ^ 62)<=hi) (h4:hi < 2 ^ 62)
  (q:R (O2 lo (hi - lo).toNat) H):wpAny (model X.prog X.w) X.A (pyIter (.ref s.heap.objs.size)) (Wl X pins σ tg R) E { s with heap:=s.heap.push { cls:=.type "range",data:=.fields #[.int lo t,.int hi u,.int 1 v] },toks:=tk }:=by
 refine wpAny_pyIter_range (IsRange.new ..) (small_one h1 h2 h3 h4) ?_
 have I1:Inv X pins σ H { s with heap:=s.heap.push { cls:=.type "range",data:=.fields #[.int lo t,.int hi u,.int 1 v] },toks:=tk }:=I.kept fun b o e=>Heap.get?_push_of_some _ e
 refine ⟨(s.heap.push { cls:=.type "range",data:=.fields #[.int lo t,.int hi u,.int 1 v] }).objs.size,[(s.heap.push { cls:=.type "range",data:=.fields #[.int lo t,.int hi u,.int 1 v] }).objs.size],_,_,H,rfl,
  I1.kept (t':=tk) fun b o e=>Heap.get?_push_of_some _ e,Iq _ lo (hi - lo).toNat,?_,fun b hb=>?_,q⟩
 ·have e1:lo + ((0:Nat):Int) * 1=lo:=by simp
  have e2:(((hi - lo).toNat:Nat):Int) - ((0:Nat):Int)=Builtin.Range.rangeSize lo hi 1:=by rw [rangeSize_one];split <;> omega
  show IsRangeIter _ _ (lo + ((0:Nat):Int) * 1) ((((hi - lo).toNat:Nat):Int) - ((0:Nat):Int)) 1
  rw [e1,e2]
  exact Heap.get?_push_size _ rfl
 ·have e:b=(s.heap.push { cls:=.type "range",data:=.fields #[.int lo t,.int hi u,.int 1 v] }).objs.size:=by simpa using hb
  subst e
  exact I1.fpOk (Nat.le_refl _) (I1.hok.fresh (Nat.le_refl _))
def Pg (ta:TA):TI:=fun σ H R=>ta σ H fun vs H1=>∃ j:Int,vs=[.int j]/\-(2 ^ 62)<=j/\j < 2 ^ 62/\R (O2 0 j.toNat) H1
theorem LL {a:Expr} {ta:TA} {p pos:Pos} (hg:Gl X "range") (hm:X.mg "range"=none) (ha:PA X [a] ta) (hs:starEach [a] X.env=[(false,eval a X.env)]:=by rfl):PI X tg (.Call (.Name "range" p) [a] [] pos) (Pg ta):=by
 intro pins s σ H R I h
 refine Call_ (l4 I hg hm boot_range (PyProof.Rows.callWith_type1 (aZ (ha pos pins s σ H _ I h) fun us s1 ⟨vs,H1,I1,r1,q1⟩=>?_) hs rfl))
 obtain ⟨j,e,q1,q2,q⟩:=q1
 subst e
 cases r1 with
 | cons r rr =>
  cases rr
  obtain ⟨t,rfl⟩:=r
  exact call_range_1 (Nc I1 (by omega) (by omega) q1 q2 (by simpa using q))
def MC (wi:TI) (g:TG) (tb:TS):TS:=fun D σ H=>wi σ H fun J H1=>∃ W:Nat->Nat->St->Hp->Prop,(∃ m,W 0 m σ H1)/\∀ i m σ H,W i m σ H ->
 (J.stop i H/\D.nx σ H)\/(J.go i H/\∃ N:St->Hp->Prop,(∀ σ' H',N σ' H'->∃ m',m' < m/\W (i + 1) m' σ' H')/\∀ x H',J.yld i H x H'->g x σ H' fun σ2 H2=>tb { D with nx:=N,ct:=N,bk:=D.nx } σ2 H2)
def uN (fp:List Addr) (h:Heap):List (Addr × Obj):=fp.filterMap fun b=>(h.get? b).map fun o=>(b,o)
theorem kG {fp:List Addr} {h:Heap} {b:Addr} {o:Obj} (hb:b∈fp) (e:h.get? b=some o):(b,o)∈uN fp h:=List.mem_filterMap.mpr ⟨b,hb,by rw [e];rfl⟩
theorem KR {fp:List Addr} {h:Heap} {p:Addr × Obj} (hp:p∈uN fp h):p.1∈fp/\h.get? p.1=some p.2:=by
 obtain ⟨b,hb,e⟩:=List.mem_filterMap.mp hp
 cases q:h.get? b with
 | none=>rw [q] at e;cases e
 | some o =>
  rw [q] at e
  have e':(b,o)=p:=Option.some.inj e
  subst e'
  exact ⟨hb,q⟩
theorem Inv.pinned {pins:List (Addr × Obj)} {σ:St} {H:Hp} {s:Shared} {fp:List Addr} (I:Inv X pins σ H s) (hf:∀ b∈fp,tV X pins H b) (ho:∀ b∈fp,∃ o,s.heap.get? b=some o/\∀ v,o.data≠.cell v):Inv X (pins++uN fp s.heap) σ H s :=
 I.pins_of fun p hp=>(List.mem_append.mp hp).elim (fun z=>I.pin p (List.mem_append_right _ z)) fun z=>by
  obtain ⟨hb,e⟩:=KR z
  obtain ⟨f0,f1,f2,_⟩:=hf p.1 hb
  obtain ⟨o,e',d⟩:=ho p.1 hb
  rw [e] at e';cases e'
  exact ⟨e,f0,f1,f2,d⟩
theorem Inv.unpinned {pins pl:List (Addr × Obj)} {σ:St} {H:Hp} {s:Shared} (I:Inv X (pins++pl) σ H s):Inv X pins σ H s:=I.pins_of fun p hp=>I.pin p (List.mem_append_right _ (List.mem_append_left _ hp))
theorem SV {iter:Expr} {body:List Stmt} {wi:TI} {g:TG} {tb:TS} {pos:Pos} (hp:PassesOwn (model X.prog X.w) X.A X.env X.xe) (hc:X.calm=true) (hi:PI X tg iter wi) (hg:PG X tg g) (hb:lH X body tb)
  (hs:∀ x,foldedSetIterable iter X.env x=pure x:=by intro _;rfl):PS X (.For tg iter body [] pos) (MC wi g tb):=by
 intro pins s σ H D I h
 refine wpAny_For (aZ (hi pins s σ H _ I h) fun v s1 h1=>aZ h1 fun itv s2 h2=>?_) hs
 obtain ⟨it,fp,tn,J,H2,e,I2,T,st2,f2,W,⟨m0,w0⟩,turn⟩:=h2
 subst e
 have stat:∀ {H':Hp},(∀ b∈fp,H' b=none)->∀ b∈fp,tV X pins H' b:=fun hn b hb=>⟨hn b hb,(f2 b hb).2⟩
 refine codeAny_forLoop_any (fun n s'=>∃ i σ' H',Inv X pins σ' H' s'/\tn i s'.heap/\(∀ b∈fp,H' b=none)/\W i n σ' H') ?_ m0 ⟨0,σ,H2,I2,st2,fun b hb=>(f2 b hb).1,w0⟩
 rintro n s3 ⟨i,σ3,H3,I3,st3,fr3,w3⟩
 rcases turn i n σ3 H3 w3 with ⟨stop,qn⟩ | ⟨go,N,hN,step⟩
 ·refine wpAny_passesOwn hp (aZ (T.done X rfl rfl rfl hc i pins s3 σ3 H3 X.xe I3 (stat fr3) st3 stop) fun r s4 ⟨hr,I4⟩=>?_)
  subst hr
  exact wpAny_execs_nil ⟨σ3,H3,I4,qn⟩
 ·refine wpAny_passesOwn hp (aZ (T.item X rfl rfl rfl hc i pins s3 σ3 H3 X.xe I3 (stat fr3) st3 go) fun r s4 ⟨u,hr,h4⟩=>?_)
  subst hr
  refine wpAny_passesOwn hp (aZ h4 fun _ s5 ⟨x,H5,I5,r5,y5,st5,fr5⟩=>?_)
  have I5':=I5.pinned (stat fr5) (T.obj _ _ st5)
  refine wpAny_passesOwn hp (aZ (hg _ s5 σ3 H5 x u _ I5' r5 (step x H5 y5)) fun _ s6 ⟨σ6,H6,I6,q6⟩=>?_)
  refine wpAny_passesOwn hp (aZ (hb _ s6 σ6 H6 _ I6 q6) fun f s7 q7=>?_)
  have again:∀ {σ7:St} {H7:Hp},Inv X (pins++uN fp s5.heap) σ7 H7 s7->N σ7 H7->∃ m,m < n/\∃ i σ' H',Inv X pins σ' H' s7/\tn i s7.heap/\(∀ b∈fp,H' b=none)/\W i m σ' H':=fun {σ7 H7} I7 n7=>by
   obtain ⟨m',hm,w7⟩:=hN σ7 H7 n7
   refine ⟨m',hm,i + 1,σ7,H7,I7.unpinned,T.keep _ _ _ st5 fun b hb o e=>(I7.pin (b,o) (List.mem_append_right _ (List.mem_append_right _ (kG hb e)))).1,fun b hb=>?_,w7⟩
   obtain ⟨o,e,d⟩:=T.obj _ _ st5 b hb
   exact (I7.pin (b,o) (List.mem_append_right _ (List.mem_append_right _ (kG hb e)))).2.1
  cases f with
  | next=>obtain ⟨σ7,H7,I7,n7⟩:=q7;exact again I7 n7
  | cont=>obtain ⟨σ7,H7,I7,n7⟩:=q7;exact again I7 n7
  | brk=>obtain ⟨σ7,H7,I7,q7⟩:=q7;exact ⟨σ7,H7,I7.unpinned,q7⟩
  | ret v=>obtain ⟨x7,σ7,H7,I7,r7,q7⟩:=q7;exact ⟨x7,σ7,H7,I7.unpinned,r7,q7⟩
end
abbrev R2:=V->V->Hp->VK->Prop
def cZ (X:Cx) (f:Value->Value->Sem Value) (r:R2):Prop :=
 ∀ (pins:List (Addr × Obj)) (s:Shared) (σ:St) (H:Hp) (x y:V) (v u:Value) (Q:VK),Inv X pins σ H s->RelV x v->RelV y u->r x y H Q ->
  wpAny (model X.prog X.w) X.A (f v u) (EP X pins σ Q) X.xe s
def sJ (X:Cx) (f:Value) (r:List V->Hp->VK->Prop):Prop :=
 ∀ (pins:List (Addr × Obj)) (s:Shared) (σ:St) (H:Hp) (xs:List V) (us:List Value) (Q:VK),Inv X pins σ H s->Vals xs us->r xs H Q ->
  wpAny (model X.prog X.w) X.A (call f us) (EP X pins σ Q) X.xe s
def WD (X:Cx) (r:V->Hp->(Bool->Hp->Prop)->Prop):Prop :=
 ∀ (pins:List (Addr × Obj)) (s:Shared) (σ:St) (H:Hp) (x:V) (v:Value) (Q:Bool->Hp->Prop),Inv X pins σ H s->RelV x v->r x H Q ->
  wpAny (model X.prog X.w) X.A (truthy v) (TP X pins σ Q) X.xe s
def Ho (r:R2) (ta tb:TE):TE:=fun σ H Q=>ta σ H fun x H1=>tb σ H1 fun y H2=>r x y H2 Q
def rI (C:Int->Int->Prop) (g:Int->Int->V):R2:=fun x y H Q=>∃ i j,x=.int i/\y=.int j/\C i j/\Q (g i j) H
def yE (g:Int->Int->V):R2:=fun x y H Q=>∃ i j,x=.int i/\y=.int j/\Q (g i j) H
section
variable {X:Cx} {a b c:Expr} {ta tb tc:TE} {pos:Pos}
theorem JL (ha:PE X a ta) (hb:PE X b tb) {pins:List (Addr × Obj)} {s:Shared} {σ:St} {H:Hp} {R:V->V->Hp->Prop} (I:Inv X pins σ H s)
  (h:ta σ H fun x H1=>tb σ H1 fun y H2=>R x y H2) {Q:Value->Shared->Prop} {f:Value->Value->Sem Value}
  (hf:∀ v u s2 x y H2,Inv X pins σ H2 s2->RelV x v->RelV y u->R x y H2->wpAny (model X.prog X.w) X.A (f v u) Q X.xe s2) :
  wpAny (model X.prog X.w) X.A (eval a X.env) (fun v s₁=>wpAny (model X.prog X.w) X.A (eval b X.env) (fun u s₂=>wpAny (model X.prog X.w) X.A (f v u) Q X.xe s₂) X.xe s₁) X.xe s:=by
 refine aZ (ha pins s σ H _ I h) fun v s1 ⟨x,H1,I1,r1,q1⟩=>?_
 refine aZ (hb pins s1 σ H1 _ I1 q1) fun u s2 ⟨y,H2,I2,r2,q2⟩=>?_
 exact hf v u s2 x y H2 I2 r1 r2 q2
theorem Wf {op:Operator} {r:R2} (ho:cZ X (binaryOp op) r) (ha:PE X a ta) (hb:PE X b tb):PE X (.BinOp a op b pos) (Ho r ta tb):=by
 intro pins s σ H Q I h
 exact wpAny_BinOp (JL ha hb I h fun v u s2 x y H2 I2 rx ry q=>ho pins s2 σ H2 x y v u Q I2 rx ry q)
theorem O0 {f:Value->Value->Sem Value} {C:Int->Int->Prop} {g:Int->Int->Int}
  (rule:∀ (i j:Int) (t u:Tok) (s:Shared) (Q:Value->Shared->Prop) (E:Value->Shared->Prop),C i j->Q (.int (g i j) s.toks) { s with toks:=s.toks + 1 }->wpAny (model X.prog X.w) X.A (f (.int i t) (.int j u)) Q E s) :
  cZ X f (rI C fun i j=>.int (g i j)):=by
 intro pins s σ H x y v u Q I rx ry h
 obtain ⟨i,j,rfl,rfl,hc,q⟩:=h
 obtain ⟨t,rfl⟩:=rx
 obtain ⟨t',rfl⟩:=ry
 exact rule i j t t' s _ _ hc ⟨.int (g i j),H,I.tok _,⟨_,rfl⟩,q⟩
theorem Sz {f:Value->Value->Sem Value} {g:Int->Int->Int}
  (rule:∀ (i j:Int) (t u:Tok) (s:Shared) (Q:Value->Shared->Prop) (E:Value->Shared->Prop),Q (.int (g i j) s.toks) { s with toks:=s.toks + 1 }->wpAny (model X.prog X.w) X.A (f (.int i t) (.int j u)) Q E s) :
  cZ X f (yE fun i j=>.int (g i j)):=by
 intro pins s σ H x y v u Q I rx ry h
 obtain ⟨i,j,rfl,rfl,q⟩:=h
 obtain ⟨t,rfl⟩:=rx
 obtain ⟨t',rfl⟩:=ry
 exact rule i j t t' s _ _ ⟨.int (g i j),H,I.tok _,⟨_,rfl⟩,q⟩
theorem Ni {f:Value->Value->Sem Value} {g:Int->Int->Bool}
  (rule:∀ (i j:Int) (t u:Tok) (s:Shared) (Q:Value->Shared->Prop) (E:Value->Shared->Prop),Q (.bool (g i j)) s->wpAny (model X.prog X.w) X.A (f (.int i t) (.int j u)) Q E s) :
  cZ X f (yE fun i j=>.bl (g i j)):=by
 intro pins s σ H x y v u Q I rx ry h
 obtain ⟨i,j,rfl,rfl,q⟩:=h
 obtain ⟨t,rfl⟩:=rx
 obtain ⟨t',rfl⟩:=ry
 exact rule i j t t' s _ _ ⟨.bl (g i j),H,I,rfl,q⟩
def Sr (i j:Int):Prop:=0<=j/\j<=1000000/\i.natAbs < 2 ^ 64
def NY (i j:Int):Prop:=(-(2 ^ 64) < i/\i < 2 ^ 64)\/(-(2 ^ 64) < j/\j < 2 ^ 64)
theorem NY.ok {i j:Int} (h:NY i j):IntMulOk i j:=by
 rcases h with ⟨h1,h2⟩ | ⟨h1,h2⟩
 ·exact .of_left (intBits_le_64 h1 h2)
 ·exact .of_right (intBits_le_64 h1 h2)
theorem VR (k:Nat):(0:Int)<=2 ^ k:=by
 rw [two_pow_cast]
 exact Int.natCast_nonneg _
theorem Ki:cZ X (binaryOp .Add) (yE fun i j=>.int (i + j)):=Sz fun _ _ _ _ _ _ _ q=>add_int q
theorem TU:cZ X (binaryOp .Sub) (yE fun i j=>.int (i - j)):=Sz fun _ _ _ _ _ _ _ q=>sub_int q
theorem Ud:cZ X (binaryOp .Mod) (rI (fun _ j=>0 < j) fun i j=>.int (i % j)):=O0 fun i j _ _ _ _ _ hc q=>by
 have h1:(0:Int) < j:=hc
 exact mod_int' (by omega) (by rw [Int.fmod_eq_emod_of_nonneg i (by omega)];exact q)
theorem R1:cZ X (binaryOp .Pow) (rI Sr fun i j=>.int (i ^ j.toNat)):=O0 fun _ _ _ _ _ _ _ hc q=>pow_int_small hc.1 hc.2.1 hc.2.2 q
end
def Iu:V->V->Bool
 | .non,.non=>true | .non,.int _=>true | .int _,.non=>true | .non,.bl _=>true | .bl _,.non=>true | .non,.str _=>true | .str _,.non=>true
 | .int _,.int _=>true | .bl _,.bl _=>true | .str _,.str _=>true | .byt _,.byt _=>true
 | .int _,.str _=>true | .str _,.int _=>true | .bl _,.str _=>true | .str _,.bl _=>true
 | _,_=>false
def W3:R2:=fun x y H Q=>Iu x y=true/\Q (.bl (decide (x=y))) H
def W9:R2:=fun x y H Q=>Iu x y=true/\Q (.bl (!decide (x=y))) H
theorem GX {i j:Int}:decide (V.int i=V.int j)=(i == j):=by
 rw [Bool.eq_iff_iff]
 simp
theorem Ls {i j:Bool}:decide (V.bl i=V.bl j)=(i == j):=by
 rw [Bool.eq_iff_iff]
 simp
theorem G7 {i j:Str}:decide (V.str i=V.str j)=(i == j):=by
 rw [Bool.eq_iff_iff]
 simp
theorem Ha {i j:Array UInt8}:decide (V.byt i=V.byt j)=(i.toList == j.toList):=by
 rw [Bool.eq_iff_iff]
 cases i
 cases j
 simp
section
variable {X:Cx} {a b c:Expr} {ta tb tc:TE} {pos:Pos}
theorem bW {pins:List (Addr × Obj)} {σ:St} {H:Hp} {s:Shared} {Q:VK} {k k':Bool} (I:Inv X pins σ H s) (q:Q (.bl k) H) (e:k=k'):EP X pins σ Q (.bool k') s:=by
 subst e
 exact ⟨.bl k,H,I,rfl,q⟩
theorem Wd:cZ X (compareOp .Eq) W3:=by
 intro pins s σ H x y v u Q I rx ry h
 obtain ⟨hs,q⟩:=h
 cases x with
 | non =>
  cases rx
  cases y with
  | non=>cases ry;exact PySem.EqNone.eq_none_none (bW I q (by simp))
  | bl j=>cases ry;exact PySem.EqNone.eq_none_bool (bW I q (by simp))
  | int j=>obtain ⟨t',rfl⟩:=ry;exact PySem.EqNone.eq_none_int (bW I q (by simp))
  | str j=>obtain ⟨t',rfl⟩:=ry;exact PySem.EqNone.eq_none_str (bW I q (by simp))
  | _=>exact absurd (show false=true from hs) Bool.false_ne_true
 | bl i =>
  cases rx
  cases y with
  | non=>cases ry;exact PySem.EqNone.eq_bool_none (bW I q (by simp))
  | bl j=>cases ry;exact eq_bool (bW I q Ls)
  | str j=>obtain ⟨t',rfl⟩:=ry;exact PySem.EqMixed.eq_bool_str (bW I q (by simp))
  | _=>exact absurd (show false=true from hs) Bool.false_ne_true
 | int i =>
  obtain ⟨t,rfl⟩:=rx
  cases y with
  | non=>cases ry;exact PySem.EqNone.eq_int_none (bW I q (by simp))
  | int j=>obtain ⟨t',rfl⟩:=ry;exact eq_int (bW I q GX)
  | str j=>obtain ⟨t',rfl⟩:=ry;exact PySem.EqMixed.eq_int_str (bW I q (by simp))
  | _=>exact absurd (show false=true from hs) Bool.false_ne_true
 | str i =>
  obtain ⟨t,rfl⟩:=rx
  cases y with
  | non=>cases ry;exact PySem.EqNone.eq_str_none (bW I q (by simp))
  | bl j=>cases ry;exact PySem.EqMixed.eq_str_bool (bW I q (by simp))
  | int j=>obtain ⟨t',rfl⟩:=ry;exact PySem.EqMixed.eq_str_int (bW I q (by simp))
  | str j=>obtain ⟨t',rfl⟩:=ry;exact eq_str (bW I q G7)
  | _=>exact absurd (show false=true from hs) Bool.false_ne_true
 | byt i =>
  obtain ⟨t,rfl⟩:=rx
  cases y with
  | byt j=>obtain ⟨t',rfl⟩:=ry;exact PySem.W.eq_bytes (bW I q Ha)
  | _=>exact absurd (show false=true from hs) Bool.false_ne_true
 | _=>cases y <;> exact absurd (show false=true from hs) Bool.false_ne_true
theorem VO:cZ X (compareOp .NotEq) W9:=by
 intro pins s σ H x y v u Q I rx ry h
 obtain ⟨hs,q⟩:=h
 cases x with
 | non =>
  cases rx
  cases y with
  | non=>cases ry;exact PySem.EqNone.ne_none_none (bW I q (by simp))
  | bl j=>cases ry;exact PySem.EqNone.ne_none_bool (bW I q (by simp))
  | int j=>obtain ⟨t',rfl⟩:=ry;exact PySem.EqNone.ne_none_int (bW I q (by simp))
  | str j=>obtain ⟨t',rfl⟩:=ry;exact PySem.EqNone.ne_none_str (bW I q (by simp))
  | _=>exact absurd (show false=true from hs) Bool.false_ne_true
 | bl i =>
  cases rx
  cases y with
  | non=>cases ry;exact PySem.EqNone.ne_bool_none (bW I q (by simp))
  | bl j=>cases ry;exact ne_bool (bW I q (congrArg not Ls))
  | str j=>obtain ⟨t',rfl⟩:=ry;exact PySem.EqMixed.ne_bool_str (bW I q (by simp))
  | _=>exact absurd (show false=true from hs) Bool.false_ne_true
 | int i =>
  obtain ⟨t,rfl⟩:=rx
  cases y with
  | non=>cases ry;exact PySem.EqNone.ne_int_none (bW I q (by simp))
  | int j=>obtain ⟨t',rfl⟩:=ry;exact ne_int (bW I q (congrArg not GX))
  | str j=>obtain ⟨t',rfl⟩:=ry;exact PySem.EqMixed.ne_int_str (bW I q (by simp))
  | _=>exact absurd (show false=true from hs) Bool.false_ne_true
 | str i =>
  obtain ⟨t,rfl⟩:=rx
  cases y with
  | non=>cases ry;exact PySem.EqNone.ne_str_none (bW I q (by simp))
  | bl j=>cases ry;exact PySem.EqMixed.ne_str_bool (bW I q (by simp))
  | int j=>obtain ⟨t',rfl⟩:=ry;exact PySem.EqMixed.ne_str_int (bW I q (by simp))
  | str j=>obtain ⟨t',rfl⟩:=ry;exact ne_str (bW I q (congrArg not G7))
  | _=>exact absurd (show false=true from hs) Bool.false_ne_true
 | byt i =>
  obtain ⟨t,rfl⟩:=rx
  cases y with
  | byt j=>obtain ⟨t',rfl⟩:=ry;exact PySem.W.ne_bytes (bW I q (congrArg not Ha))
  | _=>exact absurd (show false=true from hs) Bool.false_ne_true
 | _=>cases y <;> exact absurd (show false=true from hs) Bool.false_ne_true
theorem VB:cZ X (compareOp .Lt) (yE fun i j=>.bl (decide (i < j))):=Ni fun _ _ _ _ _ _ _ q=>lt_int q
theorem Vx:cZ X (compareOp .LtE) (yE fun i j=>.bl (decide (i<=j))):=Ni fun _ _ _ _ _ _ _ q=>le_int q
theorem Wh:cZ X (compareOp .Gt) (yE fun i j=>.bl (decide (j < i))):=Ni fun _ _ _ _ _ _ _ q=>gt_int q
theorem Ks:cZ X (compareOp .In) (fun x y H Q=>∃ i j,x=.str i/\y=.str j/\Q (.bl (!(Builtin.Str.occurrences j i 0 j.length 1).isEmpty)) H):=by
 intro pins s σ H x y v u Q I rx ry h
 obtain ⟨i,j,rfl,rfl,q⟩:=h
 obtain ⟨t,rfl⟩:=rx
 obtain ⟨t',rfl⟩:=ry
 exact in_str (bW I q rfl)
theorem Se:cZ X (compareOp .Is) (fun x y H Q=>y=.non/\Q (.bl (decide (x=.non))) H):=by
 intro pins s σ H x y v u Q I rx ry h
 obtain ⟨rfl,q⟩:=h
 cases ry
 refine is_none_gen (bW I q ?_)
 cases x <;> first
  | (cases rx;rfl)
  | (obtain ⟨t,rfl⟩:=rx;rfl)
theorem cZ.or {f:Value->Value->Sem Value} {r r':R2} (h:cZ X f r) (h':cZ X f r'):cZ X f (fun x y H Q=>r x y H Q\/r' x y H Q):=by
 intro pins s σ H x y v u Q I rx ry q
 rcases q with q | q
 ·exact h pins s σ H x y v u Q I rx ry q
 ·exact h' pins s σ H x y v u Q I rx ry q
theorem J8 (b:Expr) {op:CmpOp} (h:op≠.In:=by decide) (h2:op≠.NotIn:=by decide):behindInMarks op b=false:=by
 have e1:(op == CmpOp.In)=false:=by cases op <;> first | rfl | exact absurd rfl h
 have e2:(op == CmpOp.NotIn)=false:=by cases op <;> first | rfl | exact absurd rfl h2
 cases b <;> simp [behindInMarks,e1,e2]
theorem P8 {op:CmpOp} {r:R2} (ho:cZ X (compareOp op) r) (ha:PE X a ta) (hb:PE X b tb) (hm:behindInMarks op b=false):PE X (.Compare a [op] [b] pos) (Ho r ta tb):=by
 intro pins s σ H Q I h
 exact wpAny_Compare1 (JL ha hb I h fun v u s2 x y H2 I2 rx ry q=>ho pins s2 σ H2 x y v u Q I2 rx ry q) hm
def Hz (t:TE):TT:=fun σ H Q=>t σ H fun x H'=>∃ k,x=.bl k/\Q k H'
theorem Ry {op:CmpOp} {r:R2} (ho:cZ X (compareOp op) r) (ha:PE X a ta) (hb:PE X b tb) (hm:behindInMarks op b=false):PT X (.Compare a [op] [b] pos) (Hz (Ho r ta tb)):=by
 intro pins s σ H Q I h
 refine wpAny_isTrue_Compare1 (aZ (ha pins s σ H _ I h) fun v s1 ⟨x,H1,I1,r1,q1⟩=>aZ (hb pins s1 σ H1 _ I1 q1) fun u s2 ⟨y,H2,I2,r2,q2⟩ =>
  aZ (ho pins s2 σ H2 x y v u _ I2 r1 r2 q2) fun c s3 ⟨z,H3,I3,r3,k,e,q3⟩=>?_) hm
 subst e
 cases r3
 exact wpAny_truthy_bool ⟨H3,I3,q3⟩
def Ex (r r':R2) (ta tb tc:TE):TE:=fun σ H Q=>ta σ H fun x H1=>tb σ H1 fun y H2=>r x y H2 fun z H3=>∃ k,z=.bl k /\
 (if k=true then tc σ H3 fun w' H4=>r' y w' H4 Q else Q (.bl false) H3)
theorem N0 {op op':CmpOp} {r r':R2} (ho:cZ X (compareOp op) r) (ho':cZ X (compareOp op') r') (ha:PE X a ta) (hb:PE X b tb) (hc:PE X c tc)
  (hm:lastMarks [op,op'] [b,c]=false:=by with_unfolding_all rfl):PE X (.Compare a [op,op'] [b,c] pos) (Ex r r' ta tb tc):=by
 intro pins s σ H Q I h
 refine Compare_chain (aZ (ha pins s σ H _ I h) fun v s1 ⟨x,H1,I1,r1,q1⟩=>chain_link (aZ (hb pins s1 σ H1 _ I1 q1) fun u s2 ⟨y,H2,I2,r2,q2⟩ =>
  aZ (ho pins s2 σ H2 x y v u _ I2 r1 r2 q2) fun d s3 ⟨z,H3,I3,r3,k,e,q3⟩=>?_)) hm
 subst e
 cases r3
 refine wpAny_truthy_bool ?_
 cases k with
 | false=>exact ite_ff ⟨.bl false,H3,I3,rfl,q3⟩
 | true=>exact ite_tt (chain_last (aZ (hc pins s3 σ H3 _ I3 q3) fun w' s4 ⟨z',H4,I4,r4,q4⟩=>ho' pins s4 σ H4 y z' u w' Q I4 r2 r4 q4))
theorem Nq {op op':CmpOp} {r r':R2} (ho:cZ X (compareOp op) r) (ho':cZ X (compareOp op') r') (ha:PE X a ta) (hb:PE X b tb) (hc:PE X c tc)
  (hm:lastMarks [op,op'] [b,c]=false:=by with_unfolding_all rfl):PT X (.Compare a [op,op'] [b,c] pos) (Hz (Ex r r' ta tb tc)):=by
 intro pins s σ H Q I h
 refine isTrue_chain (aZ (ha pins s σ H _ I h) fun v s1 ⟨x,H1,I1,r1,q1⟩=>test_link (aZ (hb pins s1 σ H1 _ I1 q1) fun u s2 ⟨y,H2,I2,r2,q2⟩ =>
  aZ (ho pins s2 σ H2 x y v u _ I2 r1 r2 q2) fun d s3 ⟨z,H3,I3,r3,k,e,q3⟩=>?_)) hm
 subst e
 cases r3
 refine wpAny_truthy_bool ?_
 cases k with
 | false =>
  obtain ⟨k',e',q'⟩:=q3
  cases e'
  exact ite_ff ⟨H3,I3,q'⟩
 | true =>
  refine ite_tt (test_last (aZ (hc pins s3 σ H3 _ I3 q3) fun w' s4 ⟨z',H4,I4,r4,q4⟩=>aZ (ho' pins s4 σ H4 y z' u w' _ I4 r2 r4 q4) fun d' s5 ⟨z2,H5,I5,r5,k2,e2,q5⟩=>?_))
  subst e2
  cases r5
  exact wpAny_truthy_bool ⟨H5,I5,q5⟩
def MH (K:PySem.W.Frag) (x:V) (H:Hp) (k:Bool):Prop :=
 match x with
 | .non=>k=false
 | .bl b=>k=b
 | .int i=>k=(i != 0)
 | .str y=>y.length<=sizeLine/\k=((y.length:Int) != 0)
 | .byt y=>y.size<=sizeLine/\k=((y.size:Int) != 0)
 | .ref p=>(∃ xs,eV K H p xs/\k=!xs.isEmpty)\/(∃ xs,fW K H p xs/\k=!xs.isEmpty)\/∃ kvs,H p=some (.dK kvs)/\k=!kvs.isEmpty
 | _=>False
theorem Jh {κ:Type} {kvs:List (κ × V)} {vs:List (κ × Value)} (r:KV kvs vs):(!vs.isEmpty)=!kvs.isEmpty:=by
 cases r <;> rfl
theorem Bp {xs:List V} {its:List Value} (r:Vals xs its):(!its.toArray.isEmpty)=!xs.isEmpty:=by
 cases r <;> simp
theorem uU:(sizeLine:Nat) < 2 ^ 63:=by rw [sizeLine_eq];decide
theorem TM:WD X (fun x H Q=>∃ k,MH X.K x H k/\Q k H):=by
 intro pins s σ H x v Q I rx h
 obtain ⟨k,e,q⟩:=h
 have hl:=uU
 have hs:sizeLine=16777216:=sizeLine_eq
 cases x with
 | non =>
  cases rx
  have e':k=false:=e
  subst e'
  exact truthy_none ⟨H,I,q⟩
 | bl b =>
  cases rx
  have e':k=b:=e
  subst e'
  exact wpAny_truthy_bool ⟨H,I,q⟩
 | int i =>
  obtain ⟨t,rfl⟩:=rx
  have e':k=(i != 0):=e
  subst e'
  exact PySem.P.truthy_int ⟨H,I,q⟩
 | str y =>
  obtain ⟨t,rfl⟩:=rx
  obtain ⟨hy,e'⟩:y.length<=sizeLine/\k=((y.length:Int) != 0):=e
  subst e'
  exact PySem.P.truthy_str (by omega) ⟨H,I.tok _,q⟩
 | byt y =>
  obtain ⟨t,rfl⟩:=rx
  obtain ⟨hy,e'⟩:y.size<=sizeLine/\k=((y.size:Int) != 0):=e
  subst e'
  exact PySem.W.truthy_bytes (by omega) ⟨H,I.tok _,q⟩
 | ref p =>
  cases rx
  have e':(∃ xs,eV X.K H p xs/\k=!xs.isEmpty)\/(∃ xs,fW X.K H p xs/\k=!xs.isEmpty)\/∃ kvs,H p=some (.dK kvs)/\k=!kvs.isEmpty:=e
  rcases e' with ⟨xs,hx,e'⟩ | ⟨xs,hx,e'⟩ | ⟨kvs,hx,e'⟩
  ·subst e'
   obtain ⟨its,r,pl,hz⟩:=I.list hx
   have hlen:=r.length
   exact wpAny_truthy_list pl.isList (by simp only [List.size_toArray];omega) ⟨H,I.tok _,by rw [Bp r];exact q⟩
  ·subst e'
   obtain ⟨its,r,pl,hz⟩:=I.tuple hx
   have hlen:=r.length
   exact truthy_tuple pl (by simp only [List.size_toArray];omega) ⟨H,I.tok _,by rw [Bp r];exact q⟩
  ·subst e'
   obtain ⟨hz,hS,vs,r,m⟩:kvs.length<=sizeLine/\(p == sysModules)=false/\∃ vs,KV kvs vs/\s.heap.DictOf (Ak X.prog X.w) p vs:=I.hok p _ hx
   have hlen:kvs.length=vs.length:=Paired.length r
   exact wpAny_truthy_dict hS m (by omega) ⟨H,I.tok _,by rw [Jh r];exact q⟩
 | _=>exact (show False from e).elim
theorem N7 (ha:PE X a ta) (he:∀ whole,isTrue a X.env whole=(do let v <- whole;standAt a.pos;holding [v] (truthy v))) :
  PT X a (fun σ H Q=>ta σ H fun x H'=>∃ k,MH X.K x H' k/\Q k H'):=by
 intro pins s σ H Q I h
 exact isTrue_plain (aZ (ha pins s σ H _ I h) fun v s1 ⟨x,H1,I1,r1,q1⟩=>TM pins s1 σ H1 x v Q I1 r1 q1) (he _)
theorem BC:cZ X (binaryOp .Add) (fun x y H Q=>∃ i j,x=.str i/\y=.str j/\i.length + j.length<=sizeLine/\Q (.str (i++j)) H):=by
 intro pins s σ H x y v u Q I rx ry h
 obtain ⟨i,j,rfl,rfl,hz,q⟩:=h
 obtain ⟨t,rfl⟩:=rx
 obtain ⟨t',rfl⟩:=ry
 exact add_str (fun t' tk=>⟨.str (i++j),H,I.tok _,⟨_,rfl⟩,q⟩) hz
theorem vals1 {x:V} {us:List Value} (r:Vals [x] us):∃ u,us=[u]/\RelV x u:=by
 cases r with
 | cons r1 r2=>cases r2;exact ⟨_,rfl,r1⟩
theorem vals2 {x y:V} {us:List Value} (r:Vals [x,y] us):∃ u w',us=[u,w']/\RelV x u/\RelV y w':=by
 cases r with
 | cons r1 r2 =>
  cases r2 with
  | cons r3 r4=>cases r4;exact ⟨_,_,rfl,r1,r3⟩
theorem D0:sJ X (.type "str") (fun xs H Q=>∃ i,xs=[.int i]/\i.natAbs.log2 < 1920/\Q (.str (toString i)) H):=by
 intro pins s σ H xs us Q I r h
 obtain ⟨i,rfl,hz,q⟩:=h
 obtain ⟨u,rfl,t,rfl⟩:=vals1 r
 exact PySem.P.str_of_int hz ⟨.str _,H,I.tok _,⟨_,rfl⟩,q⟩
def Tg (K:PySem.W.Frag) (x:V) (H:Hp) (n:Nat):Prop :=
 match x with
 | .str y=>y.length<=sizeLine/\n=y.length
 | .byt y=>y.size<=sizeLine/\n=y.size
 | .ref p=>(∃ xs,eV K H p xs/\n=xs.length)\/∃ xs,fW K H p xs/\n=xs.length
 | _=>False
theorem Ol:sJ X (.builtin "len") (fun xs H Q=>∃ x n,xs=[x]/\Tg X.K x H n/\Q (.int n) H):=by
 intro pins s σ H xs us Q I r h
 obtain ⟨x,n,rfl,e,q⟩:=h
 obtain ⟨u,rfl,rx⟩:=vals1 r
 have hl:=uU
 have hs:sizeLine=16777216:=sizeLine_eq
 cases x with
 | str y =>
  obtain ⟨t,rfl⟩:=rx
  obtain ⟨hy,e'⟩:y.length<=sizeLine/\n=y.length:=e
  subst e'
  exact len_str (by omega) ⟨.int _,H,I.tok _,⟨_,rfl⟩,q⟩
 | byt y =>
  obtain ⟨t,rfl⟩:=rx
  obtain ⟨hy,e'⟩:y.size<=sizeLine/\n=y.size:=e
  subst e'
  exact PySem.W.len_bytes (by omega) ⟨.int _,H,I.tok _,⟨_,rfl⟩,q⟩
 | ref p =>
  cases rx
  have e':(∃ xs,eV X.K H p xs/\n=xs.length)\/∃ xs,fW X.K H p xs/\n=xs.length:=e
  rcases e' with ⟨xs,hx,e'⟩ | ⟨xs,hx,e'⟩
  ·subst e'
   obtain ⟨its,r',pl,hz⟩:=I.list hx
   have hlen:=r'.length
   exact Calls.call_len_list pl.isList (by simp only [List.size_toArray];omega) ⟨.int xs.length,H,I.tok _,⟨_,by simp only [List.size_toArray];rw [hlen]⟩,q⟩
  ·subst e'
   obtain ⟨its,r',pl,hz⟩:=I.tuple hx
   have hlen:=r'.length
   exact len_tuple pl (by simp only [List.size_toArray];omega) ⟨.int xs.length,H,I.tok _,⟨_,by simp only [List.size_toArray];rw [hlen]⟩,q⟩
 | _=>exact (show False from e).elim
end
structure Ob (h:Heap) (x dx C:Addr) (mA:Str->Option Value):Prop where
 obj:h.get? x=some (PySem.W.instObj C dx)
 ns:h.Ns1 dx mA
 ne:dx≠x
theorem JV {h:Heap} {dx:Addr} {mA:Str->Option Value} (n:h.Ns1 dx mA):∃ od,h.get? dx=some od/\∀ name,PySem.W.lookIn name od=some (mA name):=by
 obtain ⟨o,es,ep,ho,hd,hk,_,hm⟩:=n
 refine ⟨o,ho,fun name=>?_⟩
 have e:=hm name
 unfold nsFind findBy at e
 rw [<- Array.find?_toList] at e
 unfold PySem.W.lookIn
 rw [hd]
 dsimp only
 split
 ·rename_i y q
  rw [q] at e
  exact congrArg some e
 ·rename_i q
  rw [q] at e
  have a:es.toList.any (·.refKey)=false:=by
   rw [List.any_eq_false]
   intro y hy
   obtain ⟨z,t,hkey⟩:=hk y (Array.mem_toList_iff.mp hy)
   simp [DictEntry.refKey,hkey]
  have a':¬ es.toList.any (·.refKey)=true:=by rw [a];exact Bool.false_ne_true
  rw [if_neg a']
  exact congrArg some e
theorem Ob.look {h:Heap} {x dx C:Addr} {mA:Str->Option Value} (I:Ob h x dx C mA):∃ od,PySem.W.InstAt h x (PySem.W.instObj C dx) C (some od)/\∀ name,PySem.W.lookIn name od=some (mA name) :=
 let ⟨od,ho,hl⟩:=JV I.ns
 ⟨od,⟨I.obj,rfl,rfl,ho⟩,hl⟩
section
variable {prog:Program} {w:World} {A:Around} {E:Value->Shared->Prop} {s:Shared} {K:PySem.W.Frag} {x dx C f:Addr} {mA:Str->Option Value} {name:Str} {v:Value}
end
def Jt (f:Str) (v:V):List (Str × V)->List (Str × V)
 | []=>[(f,v)]
 | (g,x) :: r=>if g=f then (g,v) :: r else (g,x) :: Jt f v r
theorem FU (f g:Str) (v:V):∀ fs:List (Str × V),(Jt f v fs).lookup g=if g=f then some v else fs.lookup g
 | []=>by
  show List.lookup g [(f,v)]=_
  by_cases h:g=f
  ·have hb:(g == f)=true:=beq_iff_eq.mpr h
   simp only [List.lookup,hb,if_pos h]
  ·have hb:(g == f)=false:=beq_eq_false_iff_ne.mpr h
   simp only [List.lookup,hb,if_neg h]
 | (k,x) :: r=>by
  have ih:=FU f g v r
  rw [show Jt f v ((k,x) :: r)=(if k=f then (k,v) :: r else (k,x) :: Jt f v r) from rfl]
  by_cases hk:k=f
  ·rw [if_pos hk]
   by_cases h:g=k
   ·have hb:(g == k)=true:=beq_iff_eq.mpr h
    simp only [List.lookup,hb,if_pos (h.trans hk)]
   ·have hb:(g == k)=false:=beq_eq_false_iff_ne.mpr h
    simp only [List.lookup,hb,if_neg (fun e:g=f=>h (e.trans hk.symm))]
  ·rw [if_neg hk]
   by_cases h:g=k
   ·have hb:(g == k)=true:=beq_iff_eq.mpr h
    simp only [List.lookup,hb,if_neg (fun e:g=f=>hk (h.symm.trans e))]
   ·have hb:(g == k)=false:=beq_eq_false_iff_ne.mpr h
    simp only [List.lookup,hb]
    exact ih
section
variable {P:Program} {w:World} {H H':Hp} {h h':Heap} {a C dx:Addr} {fs fs':List (Str × V)}
theorem Qi (hok:dX P w H h) (e:H a=some (.ins C dx fs)):∃ mA,Ob h a dx C mA/\(∀ f,Fy (fs.lookup f) (mA f))/\PySem.Within mA (fs.map (·.1))/\fs.length<=1000/\H dx=some (.own a):=by
 obtain ⟨d,z,ne,ob,mA,n,r,q⟩:=(show dC P w H h a (.ins C dx fs) from hok a _ e)
 exact ⟨mA,⟨ob,n,ne⟩,r,q,z,d⟩
end
structure R9 (K:PySem.W.Frag) (C:Addr):Prop where
 pg:PySem.W.plainGet K C Str.empty=true
 hd:PySem.W.hasDictIn K C=true
 po:PySem.W.plainOver K C=true
 sa:PySem.W.findIn K (.ref C) "__setattr__"=some (some (.builtin "object.__setattr__"))
theorem R9.get {K:PySem.W.Frag} {C:Addr} (c:R9 K C) (f:Str):PySem.W.plainGet K C f=true:=c.pg
def uF (K:PySem.W.Frag) (C:Addr) (f:Str):Prop:=PySem.W.findIn K (.ref C) f=some none
section
variable {X:Cx} {pins:List (Addr × Obj)} {σ:St} {H:Hp} {s:Shared} {a C dx:Addr} {fs:List (Str × V)} {f:Str} {v:V} {A:Around} {E:Value->Shared->Prop}
theorem P4 {prog:Program} {w:World} {env:Env} {e:Expr} {f:Str} {pos:Pos} {s:Shared} {Q:Value->Shared->Prop} (hb:attributeBase e f env (eval e env)=eval e env)
  (h:wpAny (model prog w) A (eval e env) (fun o s₁=>wpAny (model prog w) A (getAttr o f true) Q E s₁) E s):wpAny (model prog w) A (eval (.Attribute e f pos) env) Q E s :=
 Attribute_any_ h (by rw [arm_eval_Attribute,hb])
end
section
variable {X:Cx} {o e value:Expr} {f:Str} {pos pos' tpos:Pos} {ta tv:TE}
end
section
variable {X:Cx} {pins:List (Addr × Obj)} {σ:St} {H:Hp} {s:Shared} {A:Around} {E:Value->Shared->Prop} {Q:Value->Shared->Prop} {c:Value} {b:Bool}
inductive nB (K:PySem.W.Frag) (H:Hp):V->Value->Prop where
 | non:nB K H .non (.type "NoneType")
 | bl (x:Bool):nB K H (.bl x) (.type "bool")
 | int (i:Int):nB K H (.int i) (.type "int")
 | str (x:Str):nB K H (.str x) (.type "str")
 | flt (x:UInt64):nB K H (.flt x) (.type "float")
 | lst {a:Addr} {xs:List V} (e:H a=some (.lst xs)):nB K H (.ref a) (.type "list")
 | frz {a:Addr} {o:Obj} {xs:List V} (e:H a=some (.frz o (.lst xs))):nB K H (.ref a) (.type "list")
 | tup {a:Addr} {xs:List V} (e:H a=some (.tup xs)):nB K H (.ref a) (.type "tuple")
 | dK {a:Addr} {kvs:List (Key × V)} (e:H a=some (.dK kvs)):nB K H (.ref a) (.type "dict")
 | dT {a:Addr} {kvs:List (List Key × V)} (e:H a=some (.dT kvs)):nB K H (.ref a) (.type "dict")
 | ins {a C dx:Addr} {fs:List (Str × V)} (e:H a=some (.ins C dx fs)) (cl:R9 K C) (ha:PySem.W.findIn K (.ref C) "__class__"=some (some (.builtin "object.__class__")))
   (hn:PySem.W.specialIn K (.builtin "object.__class__") "__get__"=some (some (.builtin "getset_descriptor.__get__"))) (htk:PySem.W.takesIn K (.builtin "object.__class__")=some true)
   (hm:PySem.W.mroIn K C (.type "object")=some true):nB K H (.ref a) (.ref C)
theorem Mg {x:V} {u t:Value} (I:Inv X pins σ H s) (rx:RelV x u) (ty:nB X.K H x t) (e:PySem.W.kitOne X.K t c=some b) (h:∀ tk,Q (.bool b) { s with toks:=tk }) :
  wpAny (model X.prog X.w) A (call (.builtin "isinstance") [u,c]) Q E s:=by
 cases ty with
 | non=>cases (show u=Value.none from rx);exact PySem.W.kia_one PySem.W.kitx_none I.kIn True.intro e (fun z=>nomatch z) h
 | bl y=>cases (show u=Value.bool y from rx);exact PySem.W.kia_one PySem.W.kitx_bool I.kIn True.intro e (fun z=>nomatch z) h
 | int i=>obtain ⟨t,q⟩:=(show ∃ t,u=Value.int i t from rx);cases q;exact PySem.W.kia_one PySem.W.kitx_int I.kIn True.intro e (fun z=>nomatch z) h
 | str y=>obtain ⟨t,q⟩:=(show ∃ t,u=Value.str y t from rx);cases q;exact PySem.W.kia_one PySem.W.kitx_str I.kIn True.intro e (fun z=>nomatch z) h
 | flt y=>obtain ⟨t,q⟩:=(show ∃ t,u=Value.float y t from rx);cases q;exact PySem.W.kia_one PySem.W.kitx_float I.kIn True.intro e (fun z=>nomatch z) h
 | @lst a xs ea =>
  cases (show u=Value.ref a from rx)
  obtain ⟨_,_,n,_,h1⟩:=(show dC X.prog X.w H s.heap a (.lst xs) from I.hok a _ ea)
  exact PySem.W.kia_one PySem.W.kitx_list I.kIn ⟨_,h1,rfl⟩ e (fun z=>nomatch z) h
 | @frz a ob xs ea =>
  cases (show u=Value.ref a from rx)
  obtain ⟨_,_,_,n,_,h1⟩:=(show dC X.prog X.w H s.heap a (.frz ob (.lst xs)) from I.hok a _ ea)
  exact PySem.W.kia_one PySem.W.kitx_list I.kIn ⟨_,h1,rfl⟩ e (fun z=>nomatch z) h
 | @tup a xs ea =>
  cases (show u=Value.ref a from rx)
  obtain ⟨_,_,_,p⟩:=(show dC X.prog X.w H s.heap a (.tup xs) from I.hok a _ ea)
  obtain ⟨o,h1,h2,_⟩:=p
  exact PySem.W.kia_one PySem.W.kitx_tuple I.kIn ⟨o,h1,h2⟩ e (fun z=>nomatch z) h
 | @dK a kvs ea =>
  cases (show u=Value.ref a from rx)
  obtain ⟨_,_,vs,_,p⟩:=(show dC X.prog X.w H s.heap a (.dK kvs) from I.hok a _ ea)
  obtain ⟨o,es,ep,h1,h2,_⟩:=p
  exact PySem.W.kia_one PySem.W.kitx_dict I.kIn ⟨o,h1,h2.1⟩ e (fun z=>nomatch z) h
 | @dT a kvs ea =>
  cases (show u=Value.ref a from rx)
  obtain ⟨_,_,xs,_,o,es,ep,h1,h2,_⟩:=(show dC X.prog X.w H s.heap a (.dT kvs) from I.hok a _ ea)
  exact PySem.W.kia_one PySem.W.kitx_dict I.kIn ⟨o,h1,h2.1⟩ e (fun z=>nomatch z) h
 | @ins a C dx fs ea cl ha hn htk hm =>
  cases (show u=Value.ref a from rx)
  obtain ⟨mA,O,_⟩:=Qi I.hok ea
  obtain ⟨od,J,_⟩:=O.look
  exact PySem.W.kia_one (PySem.W.kitx_own (cl.get _) cl.hd ha hn htk hm) I.kIn J e (fun z=>nomatch z) h
end
structure cW (k:Nat) (A:Around):Prop where
 hd:A.handled=none
 dp:A.depth + 3 * k + 5 < recursionLimit
 un:A.units + 16 * k + 200 < cLine
theorem cW.mono {j k:Nat} {A:Around} (r:cW k A) (h:j<=k):cW j A:=⟨r.hd,by have:=r.dp;omega,by have:=r.un;omega⟩
theorem cW.deeper {k:Nat} {A:Around} (r:cW (k + 1) A) (env:Env):cW k (A.deeper env) :=
 ⟨r.hd,by have:=r.dp;show A.depth + 1 + 3 * k + 5 < _;omega,by have:=r.un;show A.units + 3 + 16 * k + 200 < _;omega⟩
theorem Ia {A:Around} {C:Addr} {us:List Value} {kw:List (Str × Value)}:(A.under (.builtin "type.__call__" ⟨.ref C :: us,kw⟩)).depth=A.depth + 1:=by
 first | rfl | simp [Around.under,Code.weight,Code.isCreation,Code.isGuard,Code.isCaller,Code.frames,Code.isFrame,guardIds]
theorem HV {A:Around} {C:Addr} {us:List Value} {kw:List (Str × Value)}:(A.under (.builtin "type.__call__" ⟨.ref C :: us,kw⟩)).units=A.units + 1:=by
 first | rfl | simp [Around.under,Code.cUnits,Code.frames,Code.isFrame]
theorem cW.depth {k:Nat} {A:Around} (r:cW k A):A.depth < recursionLimit:=by have:=r.dp;omega
theorem cW.units {k:Nat} {A:Around} (r:cW k A):A.units + 64 < cLine:=by have:=r.un;omega
theorem cW.units0 {k:Nat} {A:Around} (r:cW k A):A.units < cLine:=by have:=r.un;omega
def SR:TA:=fun _ H Q=>Q [] H
def PH (ta:TE) (tr:TA):TA:=fun σ H Q=>ta σ H fun x H1=>tr σ H1 fun xs H2=>Q (x :: xs) H2
section
variable {X:Cx} {e:Expr} {es:List Expr} {te:TE} {t:TA} {pos:Pos}
theorem Bj:PA X [] SR:=fun _ _ _ _ H Q I h=>Calls.spliced_nil ⟨[],H,I,.nil,h⟩
theorem uW (ha:PE X e te) (hr:PA X es t) (hs:starEach (e :: es) X.env=(false,eval e X.env) :: starEach es X.env:=by rfl):PA X (e :: es) (PH te t):=by
 intro pos pins s σ H Q I h
 rw [hs]
 show wpAny _ _ (spliced ((false,eval e X.env) :: backTo pos (starEach es X.env))) _ _ s
 refine Calls.spliced_cons (aZ (ha pins s σ H _ I h) fun u s1 ⟨x,H1,I1,r1,q1⟩=>?_)
 exact aZ (hr pos pins s1 σ H1 _ I1 q1) fun us s2 ⟨xs,H2,I2,r2,q2⟩=>⟨x :: xs,H2,I2,.cons r1 r2,q2⟩
def Uz (t:TA):TE:=fun σ H Q=>t σ H fun xs H1=>xs.length<=sizeLine/\∀ p,H1 p=none->Q (.ref p) (upd H1 p (.tup xs))
def SX (t:TA):TE:=fun σ H Q=>t σ H fun xs H1=>xs.length<=sizeLine/\∀ p,H1 p=none->Q (.ref p) (upd H1 p (.lst xs))
theorem Um {x1} (h:PA X es t):PE X (.Tuple es x1 pos) (Uz t):=by
 intro pins s σ H Q I hq
 refine wpAny_Tuple_spliced (aZ (h pos pins s σ H _ I hq) fun us s1 ⟨xs,H1,I1,r,z,q⟩=>⟨by rw [<- r.length];exact z,?_⟩)
 have hf:H1 s1.heap.objs.size=none:=I1.hok.fresh (Nat.le_refl _)
 refine ⟨.ref s1.heap.objs.size,upd H1 s1.heap.objs.size (.tup xs),I1.laid (t':=s1.toks) (fun b u e=>Heap.get?_push_of_some _ e) (Nat.le_refl _) ?_,rfl,q _ hf⟩
 exact ⟨z,us,r,⟨_,Heap.get?_push_size _ rfl,rfl,rfl,_,rfl⟩⟩
theorem Vd (h:PA X es t):PE X (.List es pos) (SX t):=by
 intro pins s σ H Q I hq
 refine wpAny_List_spliced (aZ (h pos pins s σ H _ I hq) fun us s1 ⟨xs,H1,I1,r,z,q⟩=>⟨by rw [<- r.length];exact z,?_⟩)
 have hf:H1 s1.heap.objs.size=none:=I1.hok.fresh (Nat.le_refl _)
 refine ⟨.ref s1.heap.objs.size,upd H1 s1.heap.objs.size (.lst xs),I1.laid (t':=s1.toks) (fun b u e=>Heap.get?_push_of_some _ e) (Nat.le_refl _) ?_,rfl,q _ hf⟩
 exact ⟨z,us,0,r,Heap.get?_push_size _ rfl⟩
end
abbrev Sp:=List V->Hp->VK->XK->Prop
abbrev xN:=List Env->Hp->Shared->XK->Value->Shared->Prop
structure tJ (P:Program) (w:World) (K:PySem.W.Frag) (mg:Str->Option Value) (base:Heap) (A:Around) (outer:List Env) (s:Shared) (H:Hp):Prop where
 frames:A.frames=some outer
 mod:Mod K mg base
 bs:∀ b o,base.get? b=some o->s.heap.get? b=some o/\H b=none
 bsz:base.objs.size<=s.heap.objs.size
 funs:s.heap.FunFrames base outer
 frf:∀ b∈gA outer,H b=none
 hok:dX P w H s.heap
 bare:AllBare s.gens
def CE (outer:List Env) (P:Program) (w:World) (H:Hp) (s:Shared) (Q:VK) (u:Value) (s':Shared):Prop :=
 ∃ v H',s'.os=s.os/\AllBare s'.gens/\Un (gA outer) [] H H' s.heap s'.heap/\dX P w H' s'.heap/\RelV v u/\Q v H'
def CR (CX:xN) (outer:List Env) (P:Program) (w:World) (H:Hp) (s:Shared) (Q:VK) (E:XK) (r:Result) (s':Shared):Prop :=
 match r with
 | .ok (.ret u)=>CE outer P w H s Q u s'
 | .ok _=>False
 | .error e=>CX outer H s E e s'
structure fD (P:Program) (w:World) (K:PySem.W.Frag) (mg:Str->Option Value) (base:Heap) (CX:xN) (k:Nat) (f:Addr) (fd:FuncData) (ps:List Str) (sp:Sp):Prop where
 len:∀ vs H Q E,sp vs H Q E->vs.length=ps.length
 run:∀ (A:Around) (outer:List Env) (s:Shared) (H:Hp) (args:Args) (us:List Value) (vs:List V) (Q:VK) (E:XK),cW k A->tJ P w K mg base A outer s H->BindsTo s fd args (ps.zip us)->Vals vs us->sp vs H Q E ->
  codeAny (model P w) A (.call (.ref f) args) (CR CX outer P w H s Q E) s
theorem tJ.make {P:Program} {w:World} {K:PySem.W.Frag} {mg:Str->Option Value} {base:Heap} {A:Around} {outer:List Env} {s:Shared} {H:Hp} (e:tJ P w K mg base A outer s H) (C:Addr) (us:List Value) (kw:List (Str × Value)) :
  tJ P w K mg base (A.under (.builtin "type.__call__" ⟨.ref C :: us,kw⟩)) outer s H:=⟨by first | exact e.frames | (simpa [Around.under,Code.envs,Code.isFrame,pushEnvs] using e.frames),e.mod,e.bs,e.bsz,e.funs,e.frf,e.hok,e.bare⟩
section
variable {X:Cx} {pins:List (Addr × Obj)} {σ:St} {H:Hp} {s s':Shared}
theorem Inv.env0 (I:Inv X pins σ H s):tJ X.prog X.w X.K X.mg X.base X.A X.stack s H :=
 ⟨I.ok.frames,I.ok.mod,I.bs,Nat.le_trans I.ok.bsz I.sz,I.stack,I.stkFree,I.hok,I.bare⟩
theorem Inv.after {Q:VK} {u:Value} (I:Inv X pins σ H s) (h:CE X.stack X.prog X.w H s Q u s'):EP X pins σ Q u s':=by
 obtain ⟨v,H',os,bare,un,hok,r,q⟩:=h
 obtain ⟨hh,g,d,t,os'⟩:=s'
 obtain rfl:os'=s.os:=os
 exact ⟨v,H',I.call (h':=hh) (g':=g) (d':=d) (t':=t) (ch:=[]) un hok bare (fun b z=>absurd z (by simp)),r,q⟩
end
def Jg (sp:Sp) (dvs:List V) (E:XK) (t:TA):TE:=fun σ H Q=>t σ H fun vs H1=>sp (vs++dvs) H1 Q E
def Binds (K:PySem.W.Frag) (fd:FuncData) (ps:List Str) (ds:List Value):Prop :=
 ∀ (s:Shared) (us:List Value),K.In s.heap->(us++ds).length=ps.length->BindsTo s fd ⟨us,[]⟩ (ps.zip (us++ds))
theorem Binds.all {K:PySem.W.Frag} {fd:FuncData} {ps:List Str} (h:∀ us:List Value,us.length=ps.length->bindArgs fd ⟨us,[]⟩=pure (ps.zip us)):Binds K fd ps []:=fun s us _ hl=>by
 rw [List.append_nil] at hl ⊢
 exact .of_eq (h us hl)
def Passes (CX:xN) (X:Cx) (E:XK):Prop:=∀ (pins:List (Addr × Obj)) (σ:St) (H:Hp) (s:Shared) (e:Value) (s':Shared),Inv X pins σ H s->CX X.stack H s E e s'->X.xe e s'
section
variable {X:Cx} {CX:xN} {k:Nat} {f C:Addr} {fd:FuncData} {ps:List Str} {sp:Sp} {dvs:List V} {ds:List Value} {E:XK} {x m:Str} {p pos apos:Pos} {e o:Expr} {es:List Expr} {ta:TE} {t:TA}
theorem Fq {pins:List (Addr × Obj)} {σ:St} {H:Hp} {s:Shared} {Q:VK} {us:List Value} {vs:List V} (F:fD X.prog X.w X.K X.mg X.base CX k f fd ps sp) (hr:cW k X.A) (hb:Binds X.K fd ps ds) (hd:Vals dvs ds) (hx:Passes CX X E)
  (I:Inv X pins σ H s) (r:Vals vs us) (h:sp (vs++dvs) H Q E):wpAny (model X.prog X.w) X.A (call (.ref f) us) (EP X pins σ Q) X.xe s:=by
 have r2:Vals (vs++dvs) (us++ds):=r.append hd
 have hl:(us++ds).length=ps.length:=by rw [<- r2.length];exact F.len _ _ _ _ h
 refine wpAny_call (codeAny_mono (F.run X.A X.stack s H ⟨us,[]⟩ (us++ds) (vs++dvs) Q E hr I.env0 (hb s us I.kIn hl) r2 h) fun r s' hq=>?_)
 cases r with
 | error e=>exact hx pins σ H s e s' I hq
 | ok fl =>
  cases fl with
  | ret u=>exact I.after hq
  | next=>exact False.elim hq
  | brk=>exact False.elim hq
  | cont=>exact False.elim hq
theorem QM (F:fD X.prog X.w X.K X.mg X.base CX k f fd ps sp) (hr:cW k X.A) (hg:Gl X x) (hm:X.mg x=some (.ref f)) (hk:PySem.W.keepIn X.K (.ref f)=true) (hb:Binds X.K fd ps ds) (hd:Vals dvs ds) (hx:Passes CX X E)
  (ha:PA X (e :: es) t) (hdb:(x == ("__debug__":Str))=false:=by decide) (he:starEach (e :: es) X.env=(false,eval e X.env) :: starEach es X.env:=by rfl) (hpl:(backTo pos (starEach es X.env)).any (·.1)=false:=by rfl) :
  PE X (.Call (.Name x p) (e :: es) [] pos) (Jg sp dvs E t):=by
 intro pins s σ H Q I h
 refine wpAny_Call_Name_kw (kH I hg hm ?_ hdb)
 refine PySem.W.callWith_K (h₀:=X.base) I.ok.mod.kin hk (aZ (ha pos pins s σ H _ I h) fun us s1 ⟨vs,H1,I1,r,q⟩=>⟨I1.kIn,?_⟩) he hpl
 exact Fq F hr hb hd hx I1 r q
end
section
variable {X:Cx} {CX:xN} {k:Nat} {f C:Addr} {fd:FuncData} {ps ks:List Str} {sp:Sp} {E:XK} {x m:Str} {p pos apos kpos:Pos} {e o:Expr} {es:List Expr} {kws:List Keyword} {te ta:TE} {t tk:TA} {nm:Option Str}
variable {g:List Value->List Value->List Value} {gV:List V->List V->List V}
end
structure aU (N P:List Str) (sc:Scope):Prop where
 kind:sc.kind=.function
 co:sc.isCoroutine=false
 gen:sc.isGenerator=false
 nd:N.Nodup
 pre:N.take P.length=P
 par:∀ x∈P,sc.names.lookup x=some .local\/sc.names.lookup x=some .cell
 nofree:∀ y∈sc.names,y.2≠.free
theorem CO {kindOf:Str->Option NameKind} {x:Str}:∀ {binds:List (Str × Value)} {m:Str->Option Value},(∀ v,(x,v) ∉ binds)->bindL kindOf binds m x=m x
 | [],_,_=>rfl
 | (n,v) :: r,m,h=>by
  unfold bindL
  rw [CO fun w hw=>h w (List.mem_cons_of_mem _ hw)]
  split
  ·have:x≠n:=by rintro rfl;exact h v List.mem_cons_self
   simp [this]
  ·rfl
theorem CU {kindOf:Str->Option NameKind} {x:Str}:∀ {binds:List (Str × Value)} {m:Str->Option Value},(∀ v,(x,v) ∉ binds)->bindC kindOf binds m x=m x
 | [],_,_=>rfl
 | (n,v) :: r,m,h=>by
  unfold bindC
  rw [CU fun w hw=>h w (List.mem_cons_of_mem _ hw)]
  split
  ·rfl
  ·have:x≠n:=by rintro rfl;exact h v List.mem_cons_self
   simp [this]
theorem C0 {kindOf:Str->Option NameKind} {x:Str} {v:Value}:∀ {P:List Str} {vs:List Value} {i:Nat} {m:Str->Option Value},P.Nodup->P[i]?=some x->vs[i]?=some v->kindOf x=some .local ->
  bindL kindOf (P.zip vs) m x=some v
 | [],_,_,_,_,h,_,_=>by simp at h
 | _ :: _,[],_,_,_,_,h,_=>by simp at h
 | p :: P,w :: vs,0,m,nd,h1,h2,hk=>by
  simp at h1 h2;subst h1;subst h2
  show bindL kindOf ((p,w) :: P.zip vs) m p=_
  unfold bindL
  rw [CO fun v hv=>(List.nodup_cons.mp nd).1 (List.of_mem_zip hv).1,if_pos hk]
  simp
 | p :: P,w :: vs,i + 1,m,nd,h1,h2,hk=>by
  show bindL kindOf ((p,w) :: P.zip vs) m x=_
  unfold bindL
  exact C0 (i:=i) (List.nodup_cons.mp nd).2 (by simpa using h1) (by simpa using h2) hk
theorem CM {kindOf:Str->Option NameKind} {x:Str} {v:Value}:∀ {P:List Str} {vs:List Value} {i:Nat} {m:Str->Option Value},P.Nodup->P[i]?=some x->vs[i]?=some v->kindOf x≠some .local ->
  bindC kindOf (P.zip vs) m x=some v
 | [],_,_,_,_,h,_,_=>by simp at h
 | _ :: _,[],_,_,_,_,h,_=>by simp at h
 | p :: P,w :: vs,0,m,nd,h1,h2,hk=>by
  simp at h1 h2;subst h1;subst h2
  show bindC kindOf ((p,w) :: P.zip vs) m p=_
  unfold bindC
  rw [CU fun v hv=>(List.nodup_cons.mp nd).1 (List.of_mem_zip hv).1,if_neg hk]
  simp
 | p :: P,w :: vs,i + 1,m,nd,h1,h2,hk=>by
  show bindC kindOf ((p,w) :: P.zip vs) m x=_
  unfold bindC
  exact CM (i:=i) (List.nodup_cons.mp nd).2 (by simpa using h1) (by simpa using h2) hk
def start (N:List Str) (vs:List V):St:=vs.map some++List.replicate (N.length - vs.length) none
def j0 (CX:xN) (P:Program) (w:World) (K:PySem.W.Frag) (mg:Str->Option Value) (base:Heap) (N:List Str) (qual:Str) (scope:Scope) (f:Addr) (cd:Value) (A:Around) (outer:List Env) (s:Shared) (H:Hp) (E:XK):Cx where
 prog:=P
 w:=w
 K:=K
 mg:=mg
 base:=base
 A:=A.deeper (envOfC qual scope s.heap.objs.size f cd)
 N:=N
 s₀:=s
 H₀:=H
 env:=envOfC qual scope s.heap.objs.size f cd
 outer:=outer
 stack:=envOfC qual scope s.heap.objs.size f cd :: outer
 ex:=[]
 calm:=true
 fn:=fun _=>true
 pn:=[]
 xe:=fun e s'=>wpAny (model P w) (A.deeper (envOfC qual scope s.heap.objs.size f cd)) (leaving (envOfC qual scope s.heap.objs.size f cd) e) (fun _ s''=>CX outer H s E e s'') (fun e' s''=>CX outer H s E e' s'') s'
theorem FG {sc:Scope} {n:Nat} {x:Str} (h:sc.names.lookup x=some .cell):∃ c,(cellsFrom n sc.names []).lookup x=some c:=by
 have q:=PySem.W.cellsFrom_some sc.names n [] (.inl h)
 exact Option.isSome_iff_exists.mp q
theorem xS {CX:xN} {P:Program} {w:World} {K:PySem.W.Frag} {mg:Str->Option Value} {base:Heap} {N ps:List Str} {qual:Str} {scope:Scope} {f:Addr} {cd:Value} {A:Around} {outer:List Env} {s s1:Shared} {H:Hp} {E:XK} {us:List Value} {vs:List V}
  (S:aU N ps scope) (hd:A.handled=none) (e0:tJ P w K mg base A outer s H) (hl:vs.length=ps.length) (r:Vals vs us)
  (x:InCallC s s.heap.objs.size (bindL (envOfC qual scope s.heap.objs.size f cd).kindOf (ps.zip us) fun _=>none) (cellsFrom (s.heap.objs.size + 1) scope.names []) (bindC (envOfC qual scope s.heap.objs.size f cd).kindOf (ps.zip us) fun _=>none) s1) :
  Inv (j0 CX P w K mg base N qual scope f cd A outer s H E) [] (start N vs) H s1:=by
 have hpl:ps.length<=N.length:=by have:=congrArg List.length S.pre;rw [List.length_take] at this;omega
 obtain ⟨h1,tk,rfl,hk⟩:=x.done
 have noA:∀ b:Addr,b ∉ (j0 CX P w K mg base N qual scope f cd A outer s H E).ex:=fun b z=>absurd (show b∈([]:List Addr) from z) (by simp)
 refine ⟨⟨e0.mod,S.kind,rfl,rfl,Nat.le_refl _,fun y z c h1 h2=>?_,fun y hy=>?_,fun y c _ h=>?_,fun _=>hd,Around.frames_deeper e0.frames,.inr ⟨rfl,rfl⟩,fun b z=>absurd z (noA b),e0.bs,e0.bsz,fun b _ _=>noA b,fun b z=>absurd z (noA b),e0.funs,e0.frf⟩,
  rfl,e0.bare,Un.kept hk,⟨_,x.toInCall.ns,fun i y v h1 h2 h3=>?_⟩,fun y c h=>⟨_,x.cell y c h⟩,e0.hok.fresh (Nat.le_refl _),fun y c h=>?_,fun p hp=>absurd (show p∈([]:List (Addr × Obj)) from hp) (by simp),e0.hok.kept hk,?_⟩
 ·exact name_of_addr x.apart (PySem.mem_of_lookup h1) (PySem.mem_of_lookup h2)
 ·have hy:scope.names.lookup y=some .cell\/scope.names.lookup y=some .free:=hy
  rcases hy with hy | hy
  ·exact FG hy
  ·exact absurd rfl (S.nofree _ (PySem.mem_of_lookup hy))
 ·exact Nat.le_of_lt (x.above y c (PySem.mem_of_lookup h))
 ·have hi:i < vs.length:=by
   unfold start at h2
   by_cases hi:i < vs.length
   ·exact hi
   ·rw [List.getElem?_append_right (by simpa using hi)] at h2
    rw [List.getElem?_replicate] at h2
    split at h2 <;> cases h2
  have ha:vs[i]?=some v:=by
   unfold start at h2
   rw [List.getElem?_append_left (by simpa using hi),List.getElem?_map] at h2
   cases e:vs[i]? with
   | none=>rw [e] at h2;cases h2
   | some a=>rw [e] at h2;cases h2;rfl
  obtain ⟨u,hu,rv⟩:=r.get ha
  have hp:ps[i]?=some y:=by
   rw [<- S.pre,List.getElem?_take_of_lt (by omega)];exact h1
  have ndP:ps.Nodup:=by rw [<- S.pre];exact S.nd.sublist (List.take_sublist _ _)
  refine ⟨u,rv,?_⟩
  rcases S.par y (List.mem_of_getElem? hp) with k | k
  ·exact .inl ⟨k,C0 ndP hp hu k⟩
  ·obtain ⟨c,e⟩:=FG (n:=s.heap.objs.size + 1) k
   refine .inr ⟨.inl k,c,e,?_⟩
   have q:=x.cell y c e
   rw [CM ndP hp hu (by show scope.names.lookup y≠_;rw [k];decide)] at q
   exact q
 ·exact e0.hok.fresh (Nat.le_of_lt (x.above y c (PySem.mem_of_lookup h)))
 ·unfold start
  show _=N.length
  rw [List.length_append,List.length_map,List.length_replicate]
  omega
theorem OQ {CX:xN} {P:Program} {w:World} {K:PySem.W.Frag} {mg:Str->Option Value} {base:Heap} {k:Nat} {f:Addr} {name qual:Str} {params:Arguments} {body:List Stmt} {scope:Scope} {dV kV doc pm cdv ct oc:Value} {an od:Option Addr}
  {osl:Array (Option Value)} {N ps:List Str} {sp:Sp} (lk:K.lookup f=some ⟨oc,od,.func (PySem.W.fnOf name qual params body scope dV kV doc pm an cdv ct),osl⟩) (hcd:PySem.W.codeIn K cdv qual=true) (S:aU N ps scope)
  (len:∀ vs H Q E,sp vs H Q E->vs.length=ps.length)
  (hbody:∀ (A:Around) (outer:List Env) (s:Shared) (H:Hp) (vs:List V) (Q:VK) (E:XK),cW k (A.deeper (envOfC qual scope s.heap.objs.size f cdv))->sp vs H Q E ->
   ∃ t,lH (j0 CX P w K mg base N qual scope f cdv A outer s H E) body t/\t { nx:=fun _ H'=>Q .non H',rt:=Q } (start N vs) H) :
  fD P w K mg base CX (k + 1) f (PySem.W.fnOf name qual params body scope dV kV doc pm an cdv ct) ps sp:=by
 refine ⟨len,fun A outer s H args us vs Q E hr e0 hb r hsp=>?_⟩
 have hl:=len _ _ _ _ hsp
 have KX:K.In s.heap:=e0.mod.kin.keeps fun b o e=>(e0.bs b o e).1
 have lim:s.heap.NoLimit:=e0.mod.nolimit.keeps fun b o e=>(e0.bs b o e).1
 have hkind:∀ y∈ps.zip us,scope.names.lookup y.1=some .local\/(scope.names.lookup y.1=some .cell/\((cellsFrom (s.heap.objs.size + 1) scope.names []).lookup y.1).isSome=true):=fun ⟨n,v⟩ hy=>by
  rcases S.par n (List.of_mem_zip hy).1 with q | q
  ·exact .inl q
  ·exact .inr ⟨q,PySem.W.cellsFrom_some _ _ _ (.inl q)⟩
 refine codeAny_call_function hr.depth (KX _ _ lk) rfl S.co S.gen rfl (PySem.W.codeRec_of KX hcd) (hb _ _ _ _ ?_)
 refine wpAny_newFunctionEnv_cells S.kind hkind fun env he s1 x=>?_
 subst he
 refine ⟨lim.keeps x.toInCall.keep,codeAny_func ?_⟩
 obtain ⟨t,ht,hq⟩:=hbody A outer s H vs Q E (hr.deeper _) hsp
 have I:Inv (j0 CX P w K mg base N qual scope f cdv A outer s H E) [] (start N vs) H s1:=xS S hr.hd e0 hl r x
 refine wpAny_mono (ht [] s1 (start N vs) H _ I hq) (fun fl s' hs=>?_) fun e s' hs=>hs
 have fin:∀ {σ':St} {H':Hp} {v:V} {u:Value},Inv (j0 CX P w K mg base N qual scope f cdv A outer s H E) [] σ' H' s'->RelV v u->Q v H'->CE outer P w H s Q u s' :=
  fun {σ' H' v u} J rv q=>⟨v,H',J.os,J.bare,J.base,J.hok,rv,q⟩
 cases fl with
 | ret u =>
  obtain ⟨v,σ',H',J,rv,q⟩:=hs
  exact fin J rv q
 | next =>
  obtain ⟨σ',H',J,q⟩:=hs
  exact fin (v:=V.non) (u:=Value.none) J rfl q
 | brk =>
  obtain ⟨_,_,_,q⟩:=hs
  exact False.elim q
 | cont =>
  obtain ⟨_,_,_,q⟩:=hs
  exact False.elim q
section
variable {X:Cx} {x:Str} {p pos:Pos} {e:Expr} {es:List Expr} {t:TA} {id T:String} {r:List V->Hp->VK->Prop}
def UN (r:List V->Hp->VK->Prop) (t:TA):TE:=fun σ H Q=>t σ H fun vs H1=>r vs H1 Q
theorem OL (hc:sJ X (.builtin id) r) (hg:Gl X x) (hm:X.mg x=none) (hv:bootBuiltins x=some (.builtin id)) (ha:PA X (e :: es) t) (hn:x≠"__name__":=by decide) (hdb:(x == ("__debug__":Str))=false:=by decide)
  (he:starEach (e :: es) X.env=(false,eval e X.env) :: starEach es X.env:=by rfl) (hpl:(backTo pos (starEach es X.env)).any (·.1)=false:=by rfl):PE X (.Call (.Name x p) (e :: es) [] pos) (UN r t):=by
 intro pins s σ H Q I h
 refine wpAny_Call_Name_kw (l4 I hg hm hv ?_ hn hdb)
 exact PyProof.Rows.callWith_builtin1 (aZ (ha pos pins s σ H _ I h) fun us s1 ⟨vs,H1,I1,r1,q1⟩=>hc pins s1 σ H1 vs us Q I1 r1 q1) he hpl
theorem Lf (hc:sJ X (.type T) r) (hg:Gl X x) (hm:X.mg x=none) (hv:bootBuiltins x=some (.type T)) (ha:PA X (e :: es) t) (hn:x≠"__name__":=by decide) (hdb:(x == ("__debug__":Str))=false:=by decide)
  (he:starEach (e :: es) X.env=(false,eval e X.env) :: starEach es X.env:=by rfl) (hpl:(backTo pos (starEach es X.env)).any (·.1)=false:=by rfl):PE X (.Call (.Name x p) (e :: es) [] pos) (UN r t):=by
 intro pins s σ H Q I h
 refine wpAny_Call_Name_kw (l4 I hg hm hv ?_ hn hdb)
 exact PyProof.Rows.callWith_type1 (aZ (ha pos pins s σ H _ I h) fun us s1 ⟨vs,H1,I1,r1,q1⟩=>hc pins s1 σ H1 vs us Q I1 r1 q1) he hpl
end
end L2
namespace HT
open PySem PyProof.Rows
def lexLt:List Int->List Int->Bool
 | [],[]=>false
 | [],_ :: _=>true
 | _ :: _,[]=>false
 | x :: xs,y :: ys=>if x=y then lexLt xs ys else decide (x < y)
theorem BX (x y:Int) (xs ys:List Int):lexLt (x :: xs) (y :: ys)=if x=y then lexLt xs ys else decide (x < y):=rfl
theorem Dl:lexLt [] []=false:=rfl
theorem B4 (y:Int) (ys:List Int):lexLt [] (y :: ys)=true:=rfl
theorem Cf (x:Int) (xs:List Int):lexLt (x :: xs) []=false:=rfl
theorem ME (A:Around) (s:Shared) (a:Int) (t:Tok) (c:Int) (u:Tok):∃ e,SeqAt.EqAt A s (.int a t) (.int c u) e/\(e=true ↔ a=c) :=
 ⟨(a == c),SeqAt.EqAt.int_int a t c u,by simp⟩
theorem NR (A:Around) (s:Shared) (a:Int) (t:Tok) (c:Int) (u:Tok) (prog:Program) (w:World) (E:Value->Shared->Prop) (Q:Value->Shared->Prop) (h:Q (.bool (decide (a < c))) s) :
  wpAny (model prog w) A (richCompare .Lt (.int a t) (.int c u)) Q E s :=
 (PyProof.Rows.lt_int h:wpAny (model prog w) A (compareOp .Lt (.int a t) (.int c u)) Q E s)
section
open PySem.SeqAt
open PySem.AutoSeq1 (wpAny_loadPart')
open PySem.MeetsSeq PySem.MeetsSeq2 PySem.MeetsSeq3
theorem Dx (l b:Addr) (items items2:Array Value) (n n2:Nat) (dd dd2:Option Addr) (sl sl2:Array (Option Value)) (ns ms:List Int) (hi:IntsAre items.toList ns) (hj:IntsAre items2.toList ms) :
  Meets (Builtin.«tuple.__lt__» ⟨[.ref l,.ref b],[]⟩)
   (fun _ R s=>s.heap.get? l=some { cls:=.type "tuple",dict:=dd,data:=.seq items n,slots:=sl }/\s.heap.get? b=some { cls:=.type "tuple",dict:=dd2,data:=.seq items2 n2,slots:=sl2 } /\
    R (.ok (.ret (.bool (lexLt ns ms)))) s) :=
 .of_wp fun prog w A R s h=>by
  obtain ⟨hp,g,d,tk,os⟩:=s;obtain ⟨hl,hb,h⟩:=h
  have f2:=AutoSeq1.sub_tuple_tuple
  have z1:items.size=ns.length:=by rw [<- hi.length];simp
  have z2:items2.size=ms.length:=by rw [<- hj.length];simp
  wp_walk using wpAny_loadPart' hl,wpAny_loadPart' hb,wpAny_forIn_list _ (fun rest b s'=>b.1=none/\s'=⟨hp,g,d,tk,os⟩/\∃ (vs ws:List Value) (ns' ms':List Int),rest=vs.zip ws /\
   IntsAre vs ns'/\IntsAre ws ms'/\ns'.length + items2.size=ms'.length + items.size/\R (.ok (.ret (.bool (lexLt ns' ms')))) ⟨hp,g,d,tk,os⟩) _
  case turn =>
   rintro ⟨y,x⟩ rest b s' ⟨hb',rfl,vs,ws,ns',ms',hz,hvi,hwi,hlen,hR⟩
   cases hvi with
   | nil=>rw [List.zip_nil_left] at hz;cases hz
   | cons a t hvi' =>
    cases hwi with
    | nil=>rw [List.zip_nil_right] at hz;cases hz
    | cons c u hwi' =>
     rw [List.zip_cons_cons] at hz
     injection hz with hyx hrest
     injection hyx with hy hx
     subst hy hx
     rw [BX] at hR
     simp only [List.length_cons] at hlen
     obtain ⟨e,he,hiff⟩:=ME A.in1 ⟨hp,g,d,tk,os⟩ a t c u
     refine wpAny_bind (he prog w _ _ ?_)
     cases e with
     | true =>
      rw [if_pos (hiff.mp rfl)] at hR
      wp_walk
      exact ⟨rfl,rfl,_,_,_,_,hrest,hvi',hwi',by omega,hR⟩
     | false =>
      rw [if_neg (fun q=>absurd (hiff.mpr q) Bool.false_ne_true)] at hR
      have hri:=NR A.in1 ⟨hp,g,d,tk,os⟩ a t c u prog w
      wp_walk using hri
      exact ⟨_,rfl,by simpa using hR⟩
  case fin =>
   rintro ⟨b1,b2⟩ s' ⟨hb',rfl,vs,ws,ns',ms',hz,hvi,hwi,hlen,hR⟩
   simp only at hb'
   subst hb'
   have hv:lexLt ns' ms'=decide (items.size < items2.size):=by
    cases hvi with
    | nil =>
     cases hwi with
     | nil =>
      simp only [List.length_nil] at hlen
      rw [Dl]
      exact (decide_eq_false (by omega)).symm
     | cons c u hw =>
      simp only [List.length_nil,List.length_cons] at hlen
      rw [B4]
      exact (decide_eq_true (by omega)).symm
    | cons a t hv =>
     cases hwi with
     | nil =>
      simp only [List.length_nil,List.length_cons] at hlen
      rw [Cf]
      exact (decide_eq_false (by omega)).symm
     | cons c u hw =>
      rw [List.zip_cons_cons] at hz
      cases hz
   rw [hv] at hR
   wp_walk
   exact ⟨_,rfl,by simpa [Builtin.Tuple.tupleCompareSizes] using hR⟩
  case h =>
   exact ⟨rfl,rfl,items.toList,items2.toList,ns,ms,rfl,hi,hj,by omega,h⟩
end
section
variable {prog:Program} {w:World} {A:Around} {E:Value->Shared->Prop} {s:Shared}
theorem Ju {l b:Addr} {items items2:Array Value} {ns ms:List Int} {Q:Value->Shared->Prop} (hl:IsTup s.heap l items) (hb:IsTup s.heap b items2) (hi:IntsAre items.toList ns) (hj:IntsAre items2.toList ms)
  (hu:A.units < cLine) (h:Q (.bool (lexLt ns ms)) s):wpAny (model prog w) A (compareOp .Lt (.ref l) (.ref b)) Q E s:=by
 obtain ⟨⟨cls,dd,data,sl⟩,ho,hc,n,hd⟩:=id hl
 obtain ⟨⟨cls2,dd2,data2,sl2⟩,ho2,hc2,n2,hd2⟩:=id hb
 simp only at hc hd hc2 hd2
 subst hc hd hc2 hd2
 exact richCompare_meets_room (op:=.Lt) ⟨_,ho,rfl⟩ ⟨_,ho2,rfl⟩ PySem.F.slot_tuple_lt PySem.F.entry_tuple_lt (PySem.F.args_tuple_lt_2 _ _) (Dx l b items items2 n n2 dd dd2 sl sl2 ns ms hi hj)
  ⟨ho,ho2,show Value.bool (lexLt ns ms)≠Value.notImplemented/\Q (.bool (lexLt ns ms)) s from ⟨(fun x=>nomatch x),h⟩⟩ hu
theorem Qe {t b:Addr} {vs ws:List Value} {Q:Value->Shared->Prop} (ht:IsTup s.heap t vs.toArray) (hb:IsTup s.heap b ws.toArray) (hv:vs≠[])
  (h1:ws=[]->Q (.ref t) s) (h2:ws≠[]->Q (.ref s.heap.objs.size) { s with heap:=s.heap.push { cls:=.type "tuple",data:=.seq (vs++ws).toArray } })
  (hsz:vs.length + ws.length<=sizeLine):wpAny (model prog w) A (binaryOp .Add (.ref t) (.ref b)) Q E s:=by
 obtain ⟨⟨cls,dd,data,sl⟩,ho,hc,n,hd⟩:=id ht
 obtain ⟨⟨cls2,dd2,data2,sl2⟩,ho2,hc2,n2,hd2⟩:=id hb
 simp only at hc hd hc2 hd2
 subst hc hd hc2 hd2
 have e:vs.toArray++ws.toArray=(vs++ws).toArray:=by simp
 by_cases hw:ws=[]
 ·exact concat_meets ⟨_,ho,rfl⟩ ⟨_,ho2,rfl⟩ noFill_tuple_add seq_tuple_add PySem.F.slot_tuple_add PySem.F.entry_tuple_add (PySem.F.args_tuple_add_2 _ _)
   (tuple_addW1 t b vs.toArray ws.toArray n n2 dd dd2 sl sl2 (by simpa using hv) (by simp [hw])) ⟨ho,ho2,h1 hw⟩
 ·refine concat_meets ⟨_,ho,rfl⟩ ⟨_,ho2,rfl⟩ noFill_tuple_add seq_tuple_add PySem.F.slot_tuple_add PySem.F.entry_tuple_add (PySem.F.args_tuple_add_2 _ _)
   (tuple_addW2 t b vs.toArray ws.toArray n n2 dd dd2 sl sl2 (by simpa using hv) (by simpa using hw) (by rw [List.size_toArray,List.size_toArray];exact hsz)) ⟨ho,ho2,?_⟩
  rw [e]
  exact h2 hw
def bP (n d:Nat):Option Int->Nat
 | none=>d
 | some v=>if v < 0 then (v + (n:Int)).toNat else min v.toNat n
theorem UB (n d:Nat) (hd:d<=n) (o:Option Int):bP n d o<=n:=by
 cases o with
 | none=>exact hd
 | some v =>
  show (if v < 0 then (v + (n:Int)).toNat else min v.toNat n)<=n
  by_cases hv:v < 0
  ·rw [if_pos hv];omega
  ·rw [if_neg hv];exact Nat.min_le_right _ _
theorem Gu (v:Int) (n d:Nat):(if v < 0 then max (v + (n:Int)) 0 else min v (n:Int))=((bP n d (some v):Nat):Int):=by
 show (if v < 0 then max (v + (n:Int)) 0 else min v (n:Int))=(((if v < 0 then (v + (n:Int)).toNat else min v.toNat n):Nat):Int)
 by_cases hv:v < 0
 ·simp only [if_pos hv];omega
 ·simp only [if_neg hv];omega
theorem Je (lo hi:Option Int) (n:Nat):Builtin.Slice.sliceAdjust lo hi 1 (n:Int)=(((bP n 0 lo:Nat):Int),((bP n n hi:Nat):Int)):=by
 have h1:¬ ((1:Int) < 0):=by omega
 unfold Builtin.Slice.sliceAdjust
 simp only [h1,if_false]
 refine Prod.ext ?_ ?_
 ·cases lo with
  | none=>rfl
  | some v=>exact Gu v n 0
 ·cases hi with
  | none=>rfl
  | some v=>exact Gu v n n
theorem IT (i j:Nat):Builtin.Slice.slicePlaces (i:Int) (j:Int) 1=j - i:=by
 unfold Builtin.Slice.slicePlaces
 have h1:(1:Int) > 0:=by omega
 simp only [h1,if_true,Int.ediv_one]
 split <;> omega
theorem BF {v:Value} {o:Option Int} {Q:Option Int->Shared->Prop} (p:IsPart v o) (h:Q o s):wpAny (model prog w) A (Builtin.Slice.slicePartIndex v) Q E s:=by
 cases p with
 | none=>exact slicePart_none h
 | int i t=>exact slicePart_int h
theorem qG {sl:Addr} {vl vu:Value} {lo hi:Option Int} {n:Nat} {Q:Int × Int × Nat->Shared->Prop} (hs:s.heap.IsSliceOf sl vl vu .none) (pl:IsPart vl lo) (pu:IsPart vu hi)
  (h:Q (((bP n 0 lo:Nat):Int),1,bP n n hi - bP n 0 lo) s):wpAny (model prog w) A (Builtin.Slice.sliceApplied (.ref sl) (pure (n:Int))) Q E s:=by
 obtain ⟨os,hos,hcs,hds⟩:=id hs
 unfold Builtin.Slice.sliceApplied Builtin.Slice.sliceFields
 refine wpAny_bind (wpAny_bind (wpAny_field hos hds (x:=vl) rfl (wpAny_bind (wpAny_field hos hds (x:=vu) rfl (wpAny_bind (wpAny_field hos hds (x:=.none) rfl (wpAny_pure ?_)))))))
 refine wpAny_bind (slicePart_none ?_)
 show wpAny _ _ (if ((1:Int) == 0)=true then _ else _) _ _ s
 rw [if_neg (by decide)]
 refine wpAny_bind (BF pl (wpAny_bind (BF pu (wpAny_bind (wpAny_pure ?_)))))
 show wpAny _ _ (match Builtin.Slice.sliceAdjust lo hi 1 (n:Int) with | (lo,hi)=>pure (lo,(1:Int),Builtin.Slice.slicePlaces lo hi 1)) _ _ s
 rw [Je lo hi n]
 show wpAny _ _ (pure (((bP n 0 lo:Nat):Int),(1:Int),Builtin.Slice.slicePlaces ((bP n 0 lo:Nat):Int) ((bP n n hi:Nat):Int) 1)) _ _ s
 rw [IT]
 exact wpAny_pure h
theorem NZ (xs:Array Value) (i k:Nat):((List.range k).filterMap fun (m:Nat)=>xs[((i:Int) + (m:Int) * 1).toNat]?).toArray=((xs.toList.drop i).take k).toArray:=by
 have e:(fun (m:Nat)=>xs[((i:Int) + (m:Int) * 1).toNat]?)=fun m=>xs[i + m]?:=by
  funext m
  have:((i:Int) + (m:Int) * 1).toNat=i + m:=by omega
  rw [this]
 rw [e]
 have:=pick_run xs i k
 rw [List.filterMap_map] at this
 have e2:((fun x=>xs[x]?) ∘ fun x=>i + x)=fun m=>xs[i + m]?:=rfl
 rw [e2] at this
 rw [this]
theorem AB {t sl:Addr} {items:Array Value} {vl vu:Value} {lo hi:Option Int} {Q:Value->Shared->Prop} (ht:IsTup s.heap t items) (hs:s.heap.IsSliceOf sl vl vu .none) (pl:IsPart vl lo) (pu:IsPart vu hi)
  (hw:¬ (bP items.size 0 lo=0/\bP items.size items.size hi=items.size))
  (h:Q (.ref s.heap.objs.size) { s with heap:=s.heap.push { cls:=.type "tuple",data:=.seq ((items.toList.drop (bP items.size 0 lo)).take (bP items.size items.size hi - bP items.size 0 lo)).toArray } })
  (hsz:items.size<=sizeLine):wpAny (model prog w) A (getItem (.ref t) (.ref sl)) Q E s:=by
 have htake:sizeOk (.seq ((items.toList.drop (bP items.size 0 lo)).take (bP items.size items.size hi - bP items.size 0 lo)).toArray):=by
  show ((items.toList.drop (bP items.size 0 lo)).take (bP items.size items.size hi - bP items.size 0 lo)).toArray.size<=sizeLine
  rw [List.size_toArray,List.length_take,List.length_drop,Array.length_toList]
  omega
 have hj:bP items.size items.size hi<=items.size:=UB _ _ (Nat.le_refl _) hi
 obtain ⟨os,hos,hcs,hds⟩:=id hs
 have hTs:s.TypeIs (.ref sl) "slice":=⟨os,hos,hcs⟩
 unfold getItem
 try with_reducible refine wpAny_holding ?_
 first | refine wpAny_bind (wpAny_pure ?_) | skip
 refine wpAny_bind (wpAny_sequenceKey ht.typeIs (by decide) ?_)
 refine wpAny_bind (wpAny_callSpecial?_slot (name:=Str.ofString "__getitem__") ht.typeIs PyProof.Rows.slot_tuple_getitem
  (wpAny_call_entry PyProof.Rows.slot_tuple_getitem ht.typeIs entry_tuple_getitem ?_ (args_tuple_getitem _ _)))
 show wpAny _ _ (Builtin.Tuple.tupleItemsOf (.ref t) >>= _) _ _ s
 refine wpAny_bind (tupleItemsOf_ ht ?_)
 refine wpAny_bind (wpAny_typeOf hTs ?_)
 rw [if_pos (by decide)]
 refine wpAny_bind (qG hs pl pu ?_)
 have hno:¬ ((((bP items.size 0 lo:Nat):Int) == 0 && (1:Int) == 1 && (bP items.size items.size hi - bP items.size 0 lo) == items.size)=true):=by
  intro q
  rw [Bool.and_eq_true,Bool.and_eq_true] at q
  have q1:((bP items.size 0 lo:Nat):Int)=0:=eq_of_beq q.1.1
  have q2:bP items.size items.size hi - bP items.size 0 lo=items.size:=eq_of_beq q.2
  exact hw ⟨by omega,by omega⟩
 show wpAny _ _ (if (((bP items.size 0 lo:Nat):Int) == 0 && (1:Int) == 1 && (bP items.size items.size hi - bP items.size 0 lo) == items.size)=true then _ else _) _ _ s
 rw [if_neg hno,NZ]
 first
  | exact wpAny_bind (m:=Builtin.Tuple.tupleExact _) (wpAny_newObj_type (wpAny_pure ⟨_,rfl,wpAny_pure h⟩) htake)
  | exact wpAny_bind (m:=Builtin.Tuple.tupleExact _) (wpAny_newObj_type (wpAny_bind (wpAny_pure (wpAny_pure ⟨_,rfl,wpAny_pure h⟩))) htake)
  | exact wpAny_bind (wpAny_bind (m:=Builtin.Tuple.tupleExact _) (wpAny_newObj_type (wpAny_pure (wpAny_pure ⟨_,rfl,wpAny_pure h⟩)) htake))
  | exact wpAny_bind (wpAny_bind (m:=Builtin.Tuple.tupleExact _) (wpAny_newObj_type (wpAny_pure ⟨_,rfl,wpAny_pure h⟩) htake))
end
end HT
namespace L2
open PySem PySem.Spec PyProof.Rows
abbrev TO:=St->Hp->(Option Int->Hp->Prop)->Prop
def PO (X:Cx) (e:Option Expr) (t:TO):Prop :=
 ∀ (pins:List (Addr × Obj)) (s:Shared) (σ:St) (H:Hp) (Q:Option Int->Hp->Prop),Inv X pins σ H s->t σ H Q ->
  wpAny (model X.prog X.w) X.A (evalPart e X.env) (fun u s'=>∃ o H',Inv X pins σ H' s'/\IsPart u o/\Q o H') X.xe s
def GG:TO:=fun _ H Q=>Q none H
def Pe (t:TE):TO:=fun σ H Q=>t σ H fun x H1=>∃ i,x=.int i/\Q (some i) H1
theorem intsAre_of {ns:List Int}:∀ {us:List Value},Vals (ns.map V.int) us->IntsAre us ns:=by
 induction ns with
 | nil=>intro us r;rw [List.map_nil] at r;cases r;exact .nil
 | cons n ns ih =>
  intro us r
  rw [List.map_cons] at r
  cases r with
  | cons r1 r2 =>
   obtain ⟨t,e⟩:=r1
   subst e
   exact .cons n t (ih r2)
section
variable {X:Cx} {e:Expr} {te:TE} {lo hi:Option Expr} {tl th:TO} {pos p2:Pos}
theorem Qj:PO X none GG:=by
 intro pins s σ H Q I h
 rw [evalPart_none]
 exact wpAny_pure ⟨none,H,I,.none,h⟩
theorem QG (h:PE X e te):PO X (some e) (Pe te):=by
 intro pins s σ H Q I hw
 rw [evalPart_some]
 refine aZ (h pins s σ H _ I hw) fun u s1 ⟨x,H1,I1,r1,q1⟩=>?_
 obtain ⟨i,rfl,q⟩:=q1
 obtain ⟨t,rfl⟩:=r1
 exact ⟨some i,H1,I1,.int i t,q⟩
def AI (X:Cx) (r:V->Option Int->Option Int->Hp->VK->Prop):Prop :=
 ∀ (pins:List (Addr × Obj)) (s:Shared) (σ:St) (H:Hp) (x:V) (v vl vu:Value) (lo hi:Option Int) (sl:Addr) (Q:VK),Inv X pins σ H s->RelV x v->s.heap.IsSliceOf sl vl vu .none->IsPart vl lo->IsPart vu hi->r x lo hi H Q ->
  ∃ T id,typeLookup (.type T) "__getitem__"=pure (some (.builtin id))/\s.TypeIs v T/\wpAny (model X.prog X.w) X.A (getItem v (.ref sl)) (EP X pins σ Q) X.xe s
theorem AI.or {r r':V->Option Int->Option Int->Hp->VK->Prop} (h:AI X r) (h':AI X r'):AI X (fun x lo hi H Q=>r x lo hi H Q\/r' x lo hi H Q):=by
 intro pins s σ H x v vl vu lo hi sl Q I rx hs pl pu q
 rcases q with q | q
 ·exact h pins s σ H x v vl vu lo hi sl Q I rx hs pl pu q
 ·exact h' pins s σ H x v vl vu lo hi sl Q I rx hs pl pu q
def Wt (r:V->Option Int->Option Int->Hp->VK->Prop) (te:TE) (tl th:TO):TE:=fun σ H Q=>te σ H fun x H1=>tl σ H1 fun l H2=>th σ H2 fun u H3=>r x l u H3 Q
theorem Nf {r:V->Option Int->Option Int->Hp->VK->Prop} (hr:AI X r) (he:PE X e te) (hl:PO X lo tl) (hu:PO X hi th):PE X (.Subscript e (.Slice lo hi none p2) pos) (Wt r te tl th):=by
 intro pins s σ H Q I h
 refine Subscript_ (aZ (he pins s σ H _ I h) fun v s1 ⟨x,H1,I1,r1,q1⟩=>?_)
 refine wpAny_Slice (aZ (hl pins s1 σ H1 _ I1 q1) fun vl s2 ⟨l,H2,I2,pl,q2⟩=>aZ (hu pins s2 σ H2 _ I2 q2) fun vu s3 ⟨u,H3,I3,pu,q3⟩=>?_)
 rw [evalPart_none]
 refine wpAny_pure ?_
 have I4:Inv X pins σ H3 { s3 with heap:=s3.heap.push { cls:=.type "slice",data:=.fields #[vl,vu,.none] } }:=I3.kept (t':=s3.toks) fun b ob q=>Heap.get?_push_of_some _ q
 obtain ⟨T,id,hT,ht,hg⟩:=hr pins { s3 with heap:=s3.heap.push { cls:=.type "slice",data:=.fields #[vl,vu,.none] } } σ H3 x v vl vu l u s3.heap.objs.size Q I4 r1 (Heap.IsSliceOf.new ..) pl pu q3
 show wpAny (model X.prog X.w) X.A (subscriptTail e (.Slice lo hi none p2) v (.ref s3.heap.objs.size)) (EP X pins σ Q) X.xe { s3 with heap:=s3.heap.push { cls:=.type "slice",data:=.fields #[vl,vu,.none] } }
 exact tail_any (ops:=[.ref s3.heap.objs.size,v]) ht hT hg (by with_unfolding_all rfl)
def sZ (xs:List V) (lo hi:Option Int):List V:=(xs.drop (HT.bP xs.length 0 lo)).take (HT.bP xs.length xs.length hi - HT.bP xs.length 0 lo)
theorem AF (xs:List V) (lo hi:Option Int):(sZ xs lo hi).length<=xs.length:=by
 unfold sZ
 rw [List.length_take,List.length_drop]
 omega
def WE (K:PySem.W.Frag):V->Option Int->Option Int->Hp->VK->Prop:=fun x lo hi H Q=>∃ a xs,x=.ref a/\fW K H a xs /\
 ¬ (HT.bP xs.length 0 lo=0/\HT.bP xs.length xs.length hi=xs.length)/\∀ p,H p=none->Q (.ref p) (upd H p (.tup (sZ xs lo hi)))
theorem T5:AI X (WE X.K):=by
 intro pins s σ H x v vl vu lo hi sl Q I rx hs pl pu h
 obtain ⟨a,xs,rfl,hx,hw,q⟩:=h
 cases rx
 obtain ⟨its,r,ht,hz⟩:=I.tuple hx
 have hlen:its.toArray.size=xs.length:=by rw [List.size_toArray];exact r.length.symm
 refine ⟨"tuple",_,PyProof.Rows.slot_tuple_getitem.lookup,ht.typeIs,?_⟩
 refine HT.AB ht hs pl pu (by rw [hlen];exact hw) ?_ (by rw [hlen];exact hz)
 rw [hlen]
 refine ⟨.ref s.heap.objs.size,_,I.laid (t':=s.toks) (o:=.tup (sZ xs lo hi)) (fun b ob q=>Heap.get?_push_of_some _ q) (Nat.le_refl _) ?_,rfl,q _ (I.hok.fresh (Nat.le_refl _))⟩
 exact ⟨Nat.le_trans (AF xs lo hi) hz,_,(r.drop (HT.bP xs.length 0 lo)).take (HT.bP xs.length xs.length hi - HT.bP xs.length 0 lo),gW.new _ _⟩
def WC (K:PySem.W.Frag):R2:=fun x y H Q=>∃ a b ns ms,x=.ref a/\y=.ref b/\fW K H a (ns.map V.int)/\fW K H b (ms.map V.int)/\Q (.bl (HT.lexLt ns ms)) H
theorem UR (hu:X.A.units < cLine):cZ X (compareOp .Lt) (WC X.K):=by
 intro pins s σ H x y v u Q I rx ry h
 obtain ⟨a,b,ns,ms,rfl,rfl,ha,hb,q⟩:=h
 cases rx
 cases ry
 obtain ⟨its,r1,p1,_⟩:=I.tuple ha
 obtain ⟨its2,r2,p2,_⟩:=I.tuple hb
 have i1:IntsAre its.toArray.toList ns:=intsAre_of r1
 have i2:IntsAre its2.toArray.toList ms:=intsAre_of r2
 exact HT.Ju p1 p2 i1 i2 hu ⟨.bl (HT.lexLt ns ms),H,I,rfl,q⟩
def VX (K:PySem.W.Frag):R2:=fun x y H Q=>∃ a b xs ys,x=.ref a/\y=.ref b/\fW K H a xs/\fW K H b ys/\xs≠[]/\xs.length + ys.length<=sizeLine /\
 (ys=[]->Q (.ref a) H)/\(ys≠[]->∀ p,H p=none->Q (.ref p) (upd H p (.tup (xs++ys))))
theorem Vals.nil_iff {xs:List V} {us:List Value} (r:Vals xs us):us=[] ↔ xs=[]:=by
 cases r with
 | nil=>simp
 | cons _ _=>simp
theorem Q3:cZ X (binaryOp .Add) (VX X.K):=by
 intro pins s σ H x y v u Q I rx ry h
 obtain ⟨a,b,xs,ys,rfl,rfl,ha,hb,hx,hz,q1,q2⟩:=h
 cases rx
 cases ry
 obtain ⟨its,r1,p1,_⟩:=I.tuple ha
 obtain ⟨its2,r2,p2,_⟩:=I.tuple hb
 refine HT.Qe p1 p2 (fun z=>hx (r1.nil_iff.mp z)) (fun z=>⟨.ref a,H,I,rfl,q1 (r2.nil_iff.mp z)⟩) (fun z=>?_) (by rw [<- r1.length,<- r2.length];exact hz)
 refine ⟨.ref s.heap.objs.size,_,I.laid (t':=s.toks) (o:=.tup (xs++ys)) (fun b ob q=>Heap.get?_push_of_some _ q) (Nat.le_refl _) ?_,rfl,q2 (fun w=>z (r2.nil_iff.mpr w)) _ (I.hok.fresh (Nat.le_refl _))⟩
 exact ⟨by rw [List.length_append];exact hz,_,r1.append r2,gW.new _ _⟩
end
def xI (n:Nat) (i:Int):Option Nat:=if 0<=i then (if i < n then some i.toNat else none) else if -(n:Int)<=i then some (i + n).toNat else none
def iI {α:Type} (xs:List α) (i:Int):Option α:=(xI xs.length i).bind fun j=>xs[j]?
theorem Gq {n:Nat} {i:Int} {j:Nat} (h:xI n i=some j):seqIndex? i n=some j/\j < n/\-(n:Int)<=i/\i < n:=by
 unfold xI at h
 by_cases h0:0<=i
 ·rw [if_pos h0] at h
  by_cases h1:i < n
  ·rw [if_pos h1] at h
   have e:i.toNat=j:=Option.some.inj h
   exact ⟨by rw [seqIndex_of h0 h1,e],by omega,by omega,h1⟩
  ·rw [if_neg h1] at h;cases h
 ·rw [if_neg h0] at h
  by_cases h1:-(n:Int)<=i
  ·rw [if_pos h1] at h
   have e:(i + n).toNat=j:=Option.some.inj h
   exact ⟨by rw [seqIndex_neg (by omega) h1,e],by omega,h1,by omega⟩
  ·rw [if_neg h1] at h;cases h
theorem Cs {α:Type} {xs:List α} {i:Int} {v:α} (h:iI xs i=some v):∃ j,seqIndex? i xs.length=some j/\xs[j]?=some v/\j < xs.length/\-(xs.length:Int)<=i/\i < xs.length:=by
 unfold iI at h
 cases e:xI xs.length i with
 | none=>rw [e] at h;cases h
 | some j =>
  rw [e] at h
  obtain ⟨h1,h2,h3,h4⟩:=Gq e
  exact ⟨j,h1,h,h2,h3,h4⟩
theorem iX {α:Type} {xs:List α} {j:Nat} {v:α} (h:xs[j]?=some v):iI xs (j:Int)=some v:=by
 have hj:j < xs.length:=(List.getElem?_eq_some_iff.mp h).1
 have e:xI xs.length (j:Int)=some j:=by
  unfold xI
  rw [if_pos (by omega),if_pos (by omega)];simp
 unfold iI;rw [e];exact h
def zN (b:Expr):Prop:=∀ o i,subscripted b false o i=operate [o,i] (getItem o i)
def BG (X:Cx) (r:R2):Prop :=
 ∀ (value slice:Expr) (pins:List (Addr × Obj)) (s:Shared) (σ:St) (H:Hp) (x y:V) (v u:Value) (Q:VK),Inv X pins σ H s->RelV x v->RelV y u->r x y H Q ->
  subscripted slice false v u=operate [v,u] (getItem v u)->wpAny (model X.prog X.w) X.A (subscriptTail value slice v u) (EP X pins σ Q) X.xe s
def SK (X:Cx) (id:String) (r:V->List V->Hp->VK->Prop):Prop :=
 ∀ (pins:List (Addr × Obj)) (s:Shared) (σ:St) (H:Hp) (x:V) (xs:List V) (v:Value) (us:List Value) (Q:VK),Inv X pins σ H s->RelV x v->Vals xs us->r x xs H Q ->
  wpAny (model X.prog X.w) X.A (call (.builtin id) (v :: us)) (EP X pins σ Q) X.xe s
section
variable {X:Cx} {a b:Expr} {ta tb:TE} {pos:Pos}
theorem BG.or {r r':R2} (h:BG X r) (h':BG X r'):BG X (fun x y H Q=>r x y H Q\/r' x y H Q):=by
 intro value slice pins s σ H x y v u Q I rx ry q hs
 rcases q with q | q
 ·exact h value slice pins s σ H x y v u Q I rx ry q hs
 ·exact h' value slice pins s σ H x y v u Q I rx ry q hs
theorem Vn {r:R2} (hr:BG X r) (ha:PE X a ta) (hb:PE X b tb) (hs:zN b):PE X (.Subscript a b pos) (Ho r ta tb):=by
 intro pins s σ H Q I h
 exact Subscript_ (JL ha hb I h fun v u s2 x y H2 I2 rx ry q=>hr a b pins s2 σ H2 x y v u Q I2 rx ry q (hs _ _))
def UH (K:PySem.W.Frag):R2:=fun x y H Q=>∃ p xs i v,x=.ref p/\y=.int i/\eV K H p xs/\iI xs i=some v/\Q v H
def T7 (K:PySem.W.Frag):R2:=fun x y H Q=>∃ p xs i v,x=.ref p/\y=.int i/\fW K H p xs/\iI xs i=some v/\Q v H
def RY:R2:=fun x y H Q=>∃ z i c,x=.str z/\y=.int i/\z.length<=sizeLine/\iI z.cps.toList i=some c/\Q (.str ⟨#[c]⟩) H
theorem QA:BG X (UH X.K):=by
 intro value slice pins s σ H x y v u Q I rx ry h hs
 obtain ⟨p,xs,i,z,rfl,rfl,hq,he,q⟩:=h
 cases rx
 obtain ⟨t,rfl⟩:=ry
 obtain ⟨its,r,pl,hz⟩:=I.list hq
 obtain ⟨j,h1,h2,h3,h4,h5⟩:=Cs he
 obtain ⟨w,ew,rw'⟩:=r.get h2
 have hl:=r.length
 have hn:=uU
 have fin:EP X pins σ Q w s:=⟨z,H,I,rw',q⟩
 by_cases h0:0<=i
 ·have hj:i.toNat=j:=by
   rw [seqIndex_of h0 h5] at h1
   exact Option.some.inj h1
  exact item_listR pl.isList h0 (by omega) (by rw [hj];simpa using ew) fin hs
 ·have hj:(i + (its.toArray.size:Int)).toNat=j:=by
   rw [seqIndex_neg (by omega) h4] at h1
   rw [List.size_toArray,<- hl]
   exact Option.some.inj h1
  exact subscriptTail_builtinR (x:=w) pl.isList.typeIs slot_list_getitem.lookup
   (wpAny_getItem_list_neg (Q:=fun r s'=>r=w/\EP X pins σ Q r s') pl.isList (by omega) (by rw [List.size_toArray] <;> omega) (by omega) (by rw [hj];simpa using ew) ⟨rfl,fin⟩) hs
theorem Tt:BG X (T7 X.K):=by
 intro value slice pins s σ H x y v u Q I rx ry h hs
 obtain ⟨p,xs,i,z,rfl,rfl,hq,he,q⟩:=h
 cases rx
 obtain ⟨t,rfl⟩:=ry
 obtain ⟨its,r,pl,hz⟩:=I.tuple hq
 obtain ⟨j,h1,h2,h3,h4,h5⟩:=Cs he
 obtain ⟨w,ew,rw'⟩:=r.get h2
 have hl:=r.length
 have hn:=uU
 have fin:EP X pins σ Q w s:=⟨z,H,I,rw',q⟩
 exact subscriptTail_builtinR (x:=w) pl.typeIs slot_tuple_getitem.lookup
  (getItem_tuple (j:=j) (Q:=fun r s'=>r=w/\EP X pins σ Q r s') pl (by omega) (by omega) (by rw [List.size_toArray,<- hl];exact h1) (by simpa using ew) ⟨rfl,fin⟩) hs
theorem UQ:BG X RY:=by
 intro value slice pins s σ H x y v u Q I rx ry h hs
 obtain ⟨z,i,c,rfl,rfl,hz,he,q⟩:=h
 obtain ⟨t,rfl⟩:=rx
 obtain ⟨t',rfl⟩:=ry
 obtain ⟨j,h1,h2,h3,h4,h5⟩:=Cs he
 have hl:z.cps.toList.length=z.length:=by simp [Str.length]
 rw [hl] at h1 h4 h5
 have hn:=uU
 exact tail_any (typeIs_str s z t) slot_str_getitem.lookup (getItem_str (c:=c) (by
  have e1:decide (i < -(2 ^ 63:Int))=false:=decide_eq_false (by omega)
  have e2:decide (i ≥ 2 ^ 63)=false:=decide_eq_false (by omega)
  rw [e1,e2,Bool.or_false]) (by rw [h1];simpa using h2) ⟨.str ⟨#[c]⟩,H,I.tok _,⟨_,rfl⟩,q⟩) hs
def Wv (K:PySem.W.Frag):R2:=fun x y H Q=>UH K x y H Q\/T7 K x y H Q\/RY x y H Q
theorem Sa:BG X (Wv X.K):=QA.or (Tt.or UQ)
theorem Jj (its:List Value) (n j:Nat) (u:Value):Obj.mapSeq (·.setIfInBounds j u) { cls:=.type "list",data:=.seq its.toArray n }={ cls:=.type "list",data:=.seq (its.set j u).toArray n }:=by
 simp [Obj.mapSeq]
theorem Inv.lst {pins:List (Addr × Obj)} {σ:St} {H:Hp} {s:Shared} {p:Addr} {xs:List V} (I:Inv X pins σ H s) (h:H p=some (.lst xs)) :
  ∃ (its:List Value) (n:Nat),Vals xs its/\s.heap.get? p=some { cls:=.type "list",data:=.seq its.toArray n }/\xs.length<=sizeLine:=by
 obtain ⟨z,its,n,r,e⟩:=I.hok p _ h
 exact ⟨its,n,r,e,z⟩
theorem Inv.lstUpd {pins:List (Addr × Obj)} {σ:St} {H:Hp} {s:Shared} {p:Addr} {xs ys:List V} {its its':List Value} {n n':Nat} {f:Obj->Obj} (I:Inv X pins σ H s) (h:H p=some (.lst xs))
  (ho:s.heap.get? p=some { cls:=.type "list",data:=.seq its.toArray n }) (hf:f { cls:=.type "list",data:=.seq its.toArray n }={ cls:=.type "list",data:=.seq its'.toArray n' }) (r:Vals ys its') (hz:ys.length<=sizeLine) (t:Nat) :
  Inv X pins σ (upd H p (.lst ys)) { s with heap:=s.heap.update p f,toks:=t }:=by
 have e:(s.heap.update p f).get? p=some { cls:=.type "list",data:=.seq its'.toArray n' }:=by
  rw [Heap.get?_update_self f ho (by rw [hf] <;> rfl),hf]
 refine I.write (x:=p) (e:=p) (by rw [h];trivial) (.inl rfl) (fun b u hb q=>(Heap.get?_update_other _ _ (Ne.symm hb)).trans q) ⟨_,e⟩ ?_
 exact ⟨hz,its',n',r,e⟩
def Vw:V->V->V->Hp->(Hp->Prop)->Prop:=fun o i v H Q=>∃ p xs k j,o=.ref p/\i=.int k/\H p=some (.lst xs)/\xI xs.length k=some j/\Q (upd H p (.lst (xs.set j v)))
theorem set_list:UP X Vw:=by
 intro pins s σ H o i v ov iv u Q I ro ri rv h
 obtain ⟨p,xs,k,j,rfl,rfl,hp,hj,q⟩:=h
 cases ro
 obtain ⟨t,rfl⟩:=ri
 obtain ⟨its,n,r,ho,hz⟩:=I.lst hp
 obtain ⟨h1,h2,h3,h4⟩:=Gq hj
 have hl:=r.length
 have hn:=uU
 have I':Inv X pins σ (upd H p (.lst (xs.set j v))) { s with heap:=s.heap.update p (Obj.mapSeq (·.setIfInBounds j u)) } :=
  I.lstUpd hp ho (Jj its n j u) (r.set rv j) (by rw [List.length_set];exact hz) s.toks
 by_cases h0:0<=k
 ·have hk:k.toNat=j:=by
   rw [seqIndex_of h0 h4] at h1
   exact Option.some.inj h1
  exact PySem.W.ki_setAt ho h0 (by omega) (by rw [List.size_toArray,<- hl];exact h4) (by rw [hk];exact ⟨_,I',q⟩)
 ·have hk:(k + (its.toArray.size:Int)).toNat=j:=by
   rw [seqIndex_neg (by omega) h3] at h1
   rw [List.size_toArray,<- hl]
   exact Option.some.inj h1
  exact PySem.W.ki_setBack ho (by omega) (by rw [List.size_toArray,<- hl];exact h3) (by omega) (by rw [hk];exact ⟨_,I',q⟩)
theorem EZ (lo hi:Option Int) (n:Nat):(sliceBounds lo hi none n).1=((HT.bP n 0 lo:Nat):Int)/\(sliceBounds lo hi none n).2.1=((HT.bP n n hi:Nat):Int)/\(sliceBounds lo hi none n).2.2=1:=by
 refine ⟨?_,?_,rfl⟩
 ·cases lo with
  | none=>simp [sliceBounds,HT.bP]
  | some i =>
   simp only [sliceBounds,HT.bP,Option.getD_none,show (1:Int) > 0 by decide,if_true]
   by_cases h:i < 0
   ·simp only [h,if_true] <;> omega
   ·simp only [h,if_false] <;> omega
 ·cases hi with
  | none=>simp [sliceBounds,HT.bP]
  | some i =>
   simp only [sliceBounds,HT.bP,Option.getD_none,show (1:Int) > 0 by decide,if_true]
   by_cases h:i < 0
   ·simp only [h,if_true] <;> omega
   ·simp only [h,if_false] <;> omega
theorem Dy (its:List Value) (lo hi:Option Int):slicePick its.toArray lo hi none=((its.drop (HT.bP its.length 0 lo)).take (HT.bP its.length its.length hi - HT.bP its.length 0 lo)).toArray:=by
 obtain ⟨h1,h2,h3⟩:=EZ lo hi its.toArray.size
 unfold slicePick
 rw [h1,h2,h3]
 simp only [sliceRange_one,pick_run,List.size_toArray] <;> rfl
def WG (K:PySem.W.Frag):V->Option Int->Option Int->Hp->VK->Prop:=fun x lo hi H Q=>∃ a xs,x=.ref a/\eV K H a xs/\∀ p,H p=none->Q (.ref p) (upd H p (.lst (sZ xs lo hi)))
theorem RN:AI X (WG X.K):=by
 intro pins s σ H x v vl vu lo hi sl Q I rx hs pl pu h
 obtain ⟨a,xs,rfl,hx,q⟩:=h
 cases rx
 obtain ⟨its,r,ht,hz⟩:=I.list hx
 have hlen:=r.length
 refine ⟨"list",_,slot_list_getitem.lookup,ht.isList.typeIs,?_⟩
 refine wpAny_getItem_list_slice ht.isList hs pl pu .none (by simp) ?_ (by rw [List.size_toArray] <;> omega)
 rw [Dy,<- hlen]
 refine ⟨.ref s.heap.objs.size,_,I.laid (t':=s.toks) (o:=.lst (sZ xs lo hi)) (fun b ob q=>Heap.get?_push_of_some _ q) (Nat.le_refl _) ?_,rfl,q _ (I.hok.fresh (Nat.le_refl _))⟩
 exact ⟨Nat.le_trans (AF xs lo hi) hz,_,0,(r.drop (HT.bP xs.length 0 lo)).take (HT.bP xs.length xs.length hi - HT.bP xs.length 0 lo),Heap.get?_push_size _ rfl⟩
def jV:V->Bool
 | .non=>true
 | .bl _=>true
 | .int _=>true
 | .str _=>true
 | _=>false
def Dg:V->V->Bool
 | .non,.non=>true
 | .bl a,.bl b=>a == b
 | .bl a,.int b=>(if a then 1 else 0) == b
 | .int a,.bl b=>a == (if b then 1 else 0)
 | .int a,.int b=>a == b
 | .str a,.str b=>a == b
 | _,_=>false
def WB (x:V) (u:Value):Bool:=match u with
 | .none=>Dg .non x
 | .bool b=>Dg (.bl b) x
 | .int i _=>Dg (.int i) x
 | .str z _=>Dg (.str z) x
 | _=>false
theorem Tc {x y:V} {u:Value} (r:RelV y u) (f:jV y=true):WB x u=Dg y x:=by
 cases y with
 | non=>cases r;rfl
 | bl b=>cases r;rfl
 | int i=>obtain ⟨t,rfl⟩:=r;rfl
 | str z=>obtain ⟨t,rfl⟩:=r;rfl
 | _=>exact absurd (show false=true from f) Bool.false_ne_true
theorem RU {x:V}:∀ {xs:List V} {us:List Value},Vals xs us->xs.all jV=true->us.any (WB x)=xs.any fun y=>Dg y x
 | _,_,.nil,_=>rfl
 | y :: xs,u :: us,.cons r t,f=>by
  rw [List.all_cons,Bool.and_eq_true] at f
  rw [List.any_cons,List.any_cons,Tc r f.1,RU t f.2]
def Wu (x:V) (xs:List V):Bool:=xs.any fun y=>Dg y x
theorem Dw:sJ X (.type "tuple") (fun xs H Q=>∃ p ys,xs=[.ref p]/\((eV X.K H p ys/\∀ l,H l=none->Q (.ref l) (upd H l (.tup ys)))\/(fW X.K H p ys/\Q (.ref p) H))):=by
 intro pins s σ H xs us Q I r h
 obtain ⟨p,ys,rfl,h⟩:=h
 obtain ⟨u,rfl,rx⟩:=vals1 r
 cases rx
 rcases h with ⟨hq,q⟩ | ⟨hq,q⟩
 ·obtain ⟨its,r',pl,hz⟩:=I.list hq
  have hlen:=r'.length
  refine call_tuple_list pl.isList (fun h' kp=>?_) (by simp only [List.size_toArray] <;> omega)
  have I1:Inv X pins σ H { s with heap:=h' }:=I.kept (t':=s.toks) kp
  have I2:Inv X pins σ (upd H h'.objs.size (.tup ys)) { s with heap:=h'.push { cls:=.type "tuple",data:=.seq its.toArray } } :=
   I1.laid (t':=s.toks) (fun b o e=>Heap.get?_push_of_some _ e) (Nat.le_refl _) (show dC X.prog X.w _ _ _ (.tup ys) from ⟨hz,its,r',gW.new _ _⟩)
  exact ⟨.ref h'.objs.size,_,I2,rfl,q _ (I1.hok.fresh (Nat.le_refl _))⟩
 ·obtain ⟨its,r',pl,hz⟩:=I.tuple hq
  exact call_tuple_same pl ⟨.ref p,H,I,rfl,q⟩
def Gz (K:PySem.W.Frag) (T:String) (x:V) (H:Hp):Prop:=match x with
 | .str _=>T="str"
 | .int _=>T="int"
 | .ref p=>(T="list"/\∃ xs,eV K H p xs)\/(T="tuple"/\∃ o,K.lookup p=some o/\o.cls=.type "tuple"/\o.dict=none) \/
   (T="dict"/\((∃ kvs,H p=some (.dK kvs))\/∃ kvs,H p=some (.dT kvs)))\/(T="set"/\∃ S n,H p=some (.set S n))
 | _=>False
theorem Ez {pins:List (Addr × Obj)} {σ:St} {H:Hp} {s:Shared} {T:String} {x:V} {v:Value} (I:Inv X pins σ H s) (r:RelV x v) (ty:Gz X.K T x H) :
  s.TypeIs v T/\∀ a,v=.ref a->∃ ob,s.heap.get? a=some ob/\ob.dict=none:=by
 cases x with
 | str z =>
  obtain ⟨t,rfl⟩:=r
  cases (show T="str" from ty)
  exact ⟨typeIs_str s z t,fun _ e=>nomatch e⟩
 | int i =>
  obtain ⟨t,rfl⟩:=r
  cases (show T="int" from ty)
  exact ⟨typeIs_int s i t,fun _ e=>nomatch e⟩
 | ref p =>
  cases r
  rcases ty with ⟨rfl,xs,hq⟩ | ⟨rfl,o,hk,hc,hd⟩ | ⟨rfl,hk⟩ | ⟨rfl,S,n,hk⟩
  ·obtain ⟨its,_,pl,_⟩:=I.list hq
   refine ⟨pl.isList.typeIs,fun a e=>?_⟩
   cases e
   obtain ⟨o,n,e,c,hd,_⟩:=pl
   exact ⟨o,e,hd⟩
  ·refine ⟨⟨o,I.kIn p o hk,hc⟩,fun a e=>?_⟩
   cases e
   exact ⟨o,I.kIn _ o hk,hd⟩
  ·have z:∃ o,s.heap.get? p=some o/\o.ExactDict:=by
    rcases hk with ⟨kvs,hk⟩ | ⟨kvs,hk⟩
    ·obtain ⟨_,_,_,_,o,_,_,e,ex,_⟩:=I.hok p _ hk
     exact ⟨o,e,ex⟩
    ·obtain ⟨_,_,_,_,o,_,_,e,ex,_⟩:=I.hok p _ hk
     exact ⟨o,e,ex⟩
   obtain ⟨o,e,ex⟩:=z
   refine ⟨⟨o,e,ex.1⟩,fun a e2=>?_⟩
   cases e2
   exact ⟨o,e,ex.2.1⟩
  ·obtain ⟨o,_,_,_,e,ex,_⟩:=I.hok p _ hk
   refine ⟨⟨o,e,ex.1⟩,fun a e2=>?_⟩
   cases e2
   exact ⟨o,e,ex.2.1⟩
 | _=>exact False.elim ty
def Uo (K:PySem.W.Frag) (T:String) (r:V->List V->Hp->VK->Prop) (to:TE):TE:=fun σ H Q=>to σ H fun x H1=>Gz K T x H1/\r x [] H1 Q
def PD (K:PySem.W.Frag) (T:String) (r:V->List V->Hp->VK->Prop) (to:TE) (t:TA):TE:=fun σ H Q=>to σ H fun x H1=>Gz K T x H1/\t σ H1 fun xs H2=>r x xs H2 Q
variable {o e:Expr} {es:List Expr} {to:TE} {t:TA} {name:Str} {apos cpos:Pos} {T id:String} {r:V->List V->Hp->VK->Prop}
theorem TJ (pa:PlainAttrs T) (slot:Slot T name id) (hty:typeOf (.builtin id)=pure (.type "method_descriptor")) (hm:SK X id r) (ho:PE X o to)
  (hbase:attributeBase o name X.env (eval o X.env)=eval o X.env:=by rfl) (hline:(apos.endLine == cpos.line)=true:=by rfl):PE X (.Call (.Attribute o name apos) [] [] cpos) (Uo X.K T r to):=by
 intro pins s σ H Q I h
 refine wpAny_Call_method0_late hbase hline (aZ (ho pins s σ H _ I h) fun v s1 ⟨x,H1,I1,r1,ty,q1⟩=>?_)
 obtain ⟨h1,h2⟩:=Ez I1 r1 ty
 exact ⟨T,id,pa,slot,hty,h1,h2,Calls.callWith_builtin rfl (PySem.evalArgs_none (hm pins s1 σ H1 x [] v [] Q I1 r1 .nil q1))⟩
theorem zP (pa:PlainAttrs T) (slot:Slot T name id) (hty:typeOf (.builtin id)=pure (.type "method_descriptor")) (hm:SK X id r) (ho:PE X o to) (ha:PA X (e :: es) t)
  (hbase:attributeBase o name X.env (eval o X.env)=eval o X.env:=by rfl)
  (hfew:((backTo cpos (starEach (e :: es) X.env)).all (fun x=>!x.1) && (backToKw cpos (keywordEach [] X.env)).all (fun x=>x.1.isSome)
   && decide ((e :: es).length + ([]:List Keyword).length + (if ([]:List Keyword).isEmpty then 0 else 1) < 30))=true:=by rfl)
  (hline:(apos.endLine == cpos.line)=true:=by rfl) (hs:starEach (e :: es) X.env=(false,eval e X.env) :: starEach es X.env:=by rfl) (hplain:(backTo cpos (starEach es X.env)).any (·.1)=false:=by rfl) :
  PE X (.Call (.Attribute o name apos) (e :: es) [] cpos) (PD X.K T r to t):=by
 intro pins s σ H Q I h
 refine wpAny_Call_method_late hbase hfew hline rfl (aZ (ho pins s σ H _ I h) fun v s1 ⟨x,H1,I1,r1,ty,q1⟩=>?_)
 obtain ⟨h1,h2⟩:=Ez I1 r1 ty
 refine ⟨T,id,pa,slot,hty,h1,h2,?_⟩
 have hA:=ha cpos pins s1 σ H1 _ I1 q1
 rw [hs] at hA ⊢
 refine Calls.callWith_builtin (by show (false || (backTo cpos (starEach es X.env)).any (·.1))=false;rw [hplain] <;> rfl) (Calls.evalArgs_plain ?_)
 exact aZ hA fun us s2 ⟨vs,H2,I2,r2,q2⟩=>hm pins s2 σ H2 x vs v us Q I2 r1 r2 q2
end
def Gr (X:Cx) (id:String) (r:V->List V->Hp->VK->Prop):Prop :=
 ∀ (pins:List (Addr × Obj)) (s:Shared) (σ:St) (H:Hp) (x:V) (xs:List V) (v:Value) (us:List Value) (Q:VK),Inv X pins σ H s->RelV x v->Vals xs us->r x xs H Q ->
  wpAny (model X.prog X.w) X.A (call (.builtin id) (v :: us)) (EP X pins σ Q) X.xe s
theorem Vals.one:∀ {x:V} {us:List Value},Vals [x] us->∃ u,us=[u]/\RelV x u
 | _,_,.cons r .nil=>⟨_,rfl,r⟩
theorem Vals.zero:∀ {us:List Value},Vals [] us->us=[]
 | _,.nil=>rfl
theorem Vals.dropLast {xs:List V} {us:List Value} (h:Vals xs us):Vals xs.dropLast us.dropLast:=by
 induction h with
 | nil=>exact .nil
 | cons r t ih =>
  cases t with
  | nil=>exact .nil
  | cons q t'=>exact .cons r ih
theorem Vals.rep {xs:List V} {us:List Value} (h:Vals xs us):∀ k:Nat,Vals (List.replicate k xs).flatten (List.replicate k us).flatten
 | 0=>.nil
 | k + 1=>by
  rw [List.replicate_succ,List.replicate_succ,List.flatten_cons,List.flatten_cons]
  exact Vals.append h (Vals.rep h k)
theorem ID {α:Type} (l:List α):l.eraseIdx (l.length - 1)=l.dropLast:=by
 induction l with
 | nil=>rfl
 | cons a r ih =>
  cases r with
  | nil=>rfl
  | cons b r =>
   have e:(a :: b :: r).length - 1=((b :: r).length - 1) + 1:=by
    have h1:(a :: b :: r).length=r.length + 2:=rfl
    have h2:(b :: r).length=r.length + 1:=rfl
    omega
   rw [e,List.eraseIdx_cons_succ,ih]
   all_goals rfl
theorem foldl_rep (its:List Value):∀ (k:Nat) (acc:List Value),
  List.foldl (fun x1 x2=>x1++x2) acc.toArray (List.replicate k its.toArray)=(acc++(List.replicate k its).flatten).toArray
 | 0,acc=>by simp
 | k + 1,acc=>by
  have e:acc.toArray++its.toArray=(acc++its).toArray:=by simp
  have e2:(acc++its)++(List.replicate k its).flatten=acc++(List.replicate (k + 1) its).flatten:=by
   rw [List.replicate_succ,List.flatten_cons,List.append_assoc]
  rw [<- e2,<- foldl_rep its k (acc++its),<- e,List.replicate_succ,List.foldl_cons]
section
variable {X:Cx} {pins:List (Addr × Obj)} {σ:St} {H:Hp} {s:Shared} {l b:Addr} {xs ys zs:List V}
theorem Inv.lset {its its':List Value} {n:Nat} {f:Array Value->Array Value} {t':Nat} (I:Inv X pins σ H s) (hH:H l=some (.lst xs))
  (e:s.heap.get? l=some { cls:=.type "list",data:=.seq its.toArray n }) (hf:f its.toArray=its'.toArray) (hv:Vals ys its') (hz:ys.length<=sizeLine) :
  Inv X pins σ (upd H l (.lst ys)) { s with heap:=s.heap.update l (Obj.mapSeq f),toks:=t' }:=by
 have q:=PySem.IsL.update e f
 rw [hf] at q
 refine I.write (x:=l) (e:=l) (by rw [hH];exact trivial) (.inl rfl) (fun b' u hb hu=>(Heap.get?_update_other s.heap (Obj.mapSeq f) (Ne.symm hb)).trans hu) ⟨_,q⟩ ?_
 exact ⟨hz,its',_,hv,q⟩
theorem Inv.lnew {its:List Value} {t':Nat} (I:Inv X pins σ H s) (hv:Vals ys its) (hz:ys.length<=sizeLine) :
  Inv X pins σ (upd H s.heap.objs.size (.lst ys)) { s with heap:=s.heap.push { cls:=.type "list",data:=.seq its.toArray },toks:=t' } :=
 I.laid (fun _ _ q=>Heap.get?_push_of_some _ q) (Nat.le_refl _) ⟨hz,its,0,hv,Heap.get?_push_size _ rfl⟩
theorem Inv.fresh (I:Inv X pins σ H s):H s.heap.objs.size=none:=I.hok.fresh (Nat.le_refl _)
theorem Inv.lstM (I:Inv X pins σ H s) (hH:H l=some (.lst xs)):xs.length<=sizeLine/\∃ (its:List Value) (n:Nat),Vals xs its/\xs.length=its.length/\s.heap.get? l=some { cls:=.type "list",data:=.seq its.toArray n }:=by
 obtain ⟨z,its,n,r,e⟩:=I.hok l _ hH
 exact ⟨z,its,n,r,r.length,e⟩
theorem Fm {n:Nat} (h:n<=sizeLine):Builtin.List.listTooLong n=false:=by
 unfold Builtin.List.listTooLong
 exact decide_eq_false (by omega)
end
section
variable {X:Cx}
def B5:V->List V->Hp->VK->Prop:=fun x vs H Q=>∃ l xs y,x=.ref l/\vs=[y]/\H l=some (.lst xs)/\xs.length < sizeLine/\Q .non (upd H l (.lst (xs++[y])))
theorem zI:Gr X "list.append" B5:=by
 intro pins s σ H x vs v us Q I rx rv h
 obtain ⟨l,xs,y,rfl,rfl,hH,hz,q⟩:=h
 cases rx
 obtain ⟨u,rfl,ru⟩:=rv.one
 obtain ⟨z,its,n,r,hl,e⟩:=I.lstM hH
 refine call_meets F.slot_list_append ⟨_,e,rfl⟩ F.entry_list_append (F.args_list_append_2 _ _) (PySem.list_append l its.toArray n u (by rw [List.size_toArray];omega)) ⟨e,?_⟩
 refine ⟨.non,_,I.lset (its':=its++[u]) hH e (by simp) (r.append (.cons ru .nil)) ?_,rfl,q⟩
 rw [List.length_append,List.length_singleton]
 omega
def Vi:V->List V->Hp->VK->Prop:=fun x vs H Q=>∃ l xs y,x=.ref l/\vs=[]/\H l=some (.lst xs)/\xs[xs.length - 1]?=some y/\Q y (upd H l (.lst xs.dropLast))
theorem Vf:Gr X "list.pop" Vi:=by
 intro pins s σ H x vs v us Q I rx rv h
 obtain ⟨l,xs,y,rfl,rfl,hH,hy,q⟩:=h
 cases rx
 have hus:=rv.zero
 subst hus
 obtain ⟨z,its,n,r,hl,e⟩:=I.lstM hH
 obtain ⟨u,hu,ru⟩:=r.get hy
 have hy':its.toArray[its.toArray.size - 1]?=some u:=by
  show its.toArray[its.length - 1]?=some u
  rw [<- Array.getElem?_toList,<- hl]
  exact hu
 refine call_meets F.slot_list_pop ⟨_,e,rfl⟩ F.entry_list_pop (F.args_list_pop_1 _) (MeetsSeq.list_pop_last l its.toArray n u hy' (by rw [List.size_toArray];omega)) ⟨e,?_⟩
 refine ⟨y,_,I.lset (its':=its.dropLast) hH e ?_ r.dropLast ?_,ru,q⟩
 ·show its.toArray.eraseIdxIfInBounds (its.toArray.size - 1)=its.dropLast.toArray
  rw [List.size_toArray,List.eraseIdxIfInBounds_toArray,ID]
 ·rw [List.length_dropLast]
  omega
def TH:R2:=fun x y H Q=>∃ l k xs,x=.ref l/\y=.int k/\H l=some (.lst xs)/\-(2 ^ 63)<=k/\k < 2 ^ 63/\xs.length * k.toNat<=sizeLine /\
 ∀ p,H p=none->Q (.ref p) (upd H p (.lst (List.replicate k.toNat xs).flatten))
theorem len_rep {α:Type} (xs:List α) (k:Nat):(List.replicate k xs).flatten.length=k * xs.length:=by
 induction k with
 | zero=>simp
 | succ k ih=>rw [List.replicate_succ,List.flatten_cons,List.length_append,ih,Nat.succ_mul,Nat.add_comm]
theorem Su:cZ X (binaryOp .Mult) TH:=by
 intro pins s σ H x y v u Q I rx ry h
 obtain ⟨l,k,xs,rfl,rfl,hH,h1,h2,hz,q⟩:=h
 cases rx
 obtain ⟨t,rfl⟩:=ry
 obtain ⟨z,its,n,r,hl,e⟩:=I.lstM hH
 have hlen:its.toArray.size * k.toNat<=sizeLine:=by rw [List.size_toArray,<- hl];exact hz
 have hcap:¬ its.toArray.size * k.toNat > (2 ^ 63 - 1) / 8:=by
  have:(sizeLine:Nat)<=(2 ^ 63 - 1) / 8:=by decide
  omega
 have hfit:¬ (!Builtin.List.listFitsIndex k)=true:=by
  rw [fitsIndex_both h1 h2]
  exact Bool.false_ne_true
 have hlong:¬ Builtin.List.listTooLong (its.toArray.size * k.toNat)=true:=by
  rw [Fm hlen]
  exact Bool.false_ne_true
 have hnew:List.foldl (fun x1 x2=>x1++x2) #[] (List.replicate (if its.toArray.isEmpty=true then 0 else k.toNat) its.toArray)=(List.replicate k.toNat its).flatten.toArray:=by
  have f0:∀ m:Nat,List.foldl (fun x1 x2=>x1++x2) #[] (List.replicate m its.toArray)=(List.replicate m its).flatten.toArray:=fun m=>by
   have:=foldl_rep its m []
   rw [List.nil_append] at this
   exact this
  rw [f0]
  cases its with
  | nil=>simp
  | cons a r'=>rw [if_neg (by simp)]
 refine wpAny_binaryOp_repeat_ref (T:="list") (U:="int") (by decide) ⟨_,e,rfl⟩ (fun s'=>typeIs_int s' k t) noFill_list_mul F.fills_int_mul F.slot_int_rmul repeat_list F.slot_int_index.lookup
  (call_meets F.slot_int_rmul (typeIs_int s k t) F.entry_int_rmul (F.args_int_rmul_2 _ _) (int___rmul___int_list k t l its.toArray n)
   ⟨e,rfl,⟨_,e,rfl⟩,call_meets F.slot_list_mul ⟨_,e,rfl⟩ F.entry_list_mul (F.args_list_mul_2 _ _) (AutoListH.list___mul___list_int_3 l its.toArray n k t hfit hcap hlong) ⟨e,?_⟩⟩)
 rw [hnew]
 exact ⟨.ref _,_,I.lnew (t':=s.toks) (r.rep k.toNat) (by rw [len_rep,Nat.mul_comm];exact hz),rfl,q _ I.fresh⟩
end
section
variable {prog:Program} {w:World} {A:Around} {E:Value->Shared->Prop} {s:Shared}
end
section
variable {X:Cx}
end
end L2
namespace Att
open PySem PySem.W PySem.Calls PyProof.Rows
theorem Bf {P:Params} {h:Heap}:∀ (ns:List Int) (vs:List Value),WellAll P h vs (ns.map WData.int)->IntsAre vs ns:=by
 intro ns
 induction ns with
 | nil =>
  intro vs w
  rw [List.map_nil] at w
  cases w
  exact .nil
 | cons n ns ih =>
  intro vs w
  rw [List.map_cons] at w
  cases w with
  | cons a b =>
   cases a
   exact .cons _ _ (ih _ b)
theorem Ku {l:OpenLaw} {n:Nat} (hn:l.most=some n) {P:Params} {h:Heap} {args:List WData} {vals:List Value}
  (hpre:l.row.toRowW.claim.pre args=true) (hwl:WellAll P h vals args) :
  ∃ a vs ns,vals=[Value.ref a]/\args=[WData.list (ns.map WData.int)]/\h.get? a=some { cls:=.type "list",data:=.seq vs.toArray }/\IntsAre vs ns/\ns.length<=n:=by
 have hsh:WShape.hasAll [] args [.list .int]=true:=(pre_splitW hpre).1
 have hc:l.pre.holds [] { args:=args }=true:=(pre_splitW hpre).2
 obtain ⟨d,r,rfl,h1,h2⟩:=hasAllW_cons hsh
 obtain rfl:=hasAllW_nil h2
 obtain ⟨xs,rfl,h3⟩:=hasW_list h1
 obtain ⟨ns,rfl⟩:=items_int h3
 have hlen:ns.length<=n:=by
  unfold OpenLaw.pre at hc
  have h4:(WTm.not (.lt (.lit (.int (n:Int))) (.len (.arg 0)))).holds [] { args:=[.list (ns.map .int)] }=true:=by
   have h4:=(holds_andW hc).1
   rw [hn] at h4
   exact h4
  have h5:=condW_of h4 (w_not (w_lt w_lit (w_len_list (w_arg rfl))))
  rw [List.length_map] at h5
  refine Nat.le_of_not_lt fun q=>?_
  have q':(n:Int) < ((ns.length:Nat):Int):=by omega
  first
   | (rw [decide_eq_true q'] at h5;exact absurd h5 (by decide))
   | (simp at h5;omega)
 cases hwl with
 | cons w1 w2 =>
  cases w2
  cases w1 with
  | list ho hall=>exact ⟨_,_,ns,rfl,rfl,ho,Bf ns _ hall,hlen⟩
theorem Kn (l:OpenLaw) (args:List WData):l.row.toRowW.claim.post args (.bool true) args=true :=
 postW_of (r:=l.row.toRowW) (X:=(true == true))
  (show WShape.has [] (.bool true) .bool=true by first | rfl | decide | simp [WShape.has,WShape.arms,WShape.armsAll])
  (show (WTm.eq .res (.lit (.bool true))).value [] { args:=args,res:=some (.bool true),after:=args }=some (.bool (true == true)) from w_eq_bool (w_res rfl) w_lit) rfl
section
variable {prog:Program} {w:World} {A:Around} {E:Value->Shared->Prop} {s:Shared} {K:Frag}
end
end Att
namespace L2
open PySem PySem.Spec PyProof.Rows
theorem C1:∀ {vs:List Value} {ns:List Int},IntsAre vs ns->Vals (ns.map V.int) vs
 | _,_,.nil=>.nil
 | _,_,.cons n t h=>.cons ⟨t,rfl⟩ (C1 h)
end L2
namespace L2
open PySem PySem.Spec PyProof.Rows
def eM (s:Stmt):Arguments:=match s with
 | .FunctionDef _ a _ _ _ _ _ _ _ _=>a
 | _=>{ posonlyargs:=[],args:=[],vararg:=none,kwonlyargs:=[],kw_defaults:=[],kwarg:=none,defaults:=[] }
def cH (s:Stmt):List Stmt:=match s with
 | .FunctionDef _ _ b _ _ _ _ _ _ _=>b
 | _=>[]
def aH (s:Stmt):Scope:=match s with
 | .FunctionDef _ _ _ _ _ _ sc _ _ _=>sc
 | _=>{ kind:=.function,names:=[],isGenerator:=false,isCoroutine:=false }
abbrev iU:xN:=fun _ _ _ _ _ _=>False
abbrev E0:XK:=fun _ _ _=>False
theorem HW {X:Cx}:Passes iU X E0:=fun _ _ _ _ _ _ _ h=>h.elim
structure b8 (K:PySem.W.Frag) (x qual:Str) (st:Stmt) (f:Addr) (fd:FuncData):Prop where
 ex:∃ (oc:Value) (od:Option Addr) (kV doc pm:Value) (an:Option Addr) (cdv ct:Value) (osl:Array (Option Value)),
  fd=PySem.W.fnOf x qual (eM st) (cH st) (aH st) .none kV doc pm an cdv ct/\K.lookup f=some ⟨oc,od,.func fd,osl⟩/\PySem.W.codeIn K cdv qual=true
 kp:PySem.W.keepIn K (.ref f)=true
section
variable {P:Program} {w:World} {K:PySem.W.Frag} {mg:Str->Option Value} {base:Heap}
theorem b8.ok {x qual:Str} {st:Stmt} {f:Addr} {fd:FuncData} {N ps:List Str} {k:Nat} {sp:Sp} (F:b8 K x qual st f fd) (S:aU N ps (aH st)) (len:∀ vs H Q E,sp vs H Q E->vs.length=ps.length)
  (hbody:∀ (cdv:Value) (A:Around) (outer:List Env) (s:Shared) (H:Hp) (vs:List V) (Q:VK) (E:XK),cW k (A.deeper (envOfC qual (aH st) s.heap.objs.size f cdv))->sp vs H Q E ->
   ∃ t,lH (j0 iU P w K mg base N qual (aH st) f cdv A outer s H E).nox (cH st) t/\t { nx:=fun _ H'=>Q .non H',rt:=Q } (start N vs) H):fD P w K mg base iU (k + 1) f fd ps sp:=by
 obtain ⟨oc,od,kV,doc,pm,an,cdv,ct,osl,rfl,lk,hcd⟩:=F.ex
 refine OQ lk hcd S len fun A outer s H vs Q E hr hsp=>?_
 obtain ⟨t,h,q⟩:=hbody cdv A outer s H vs Q E hr hsp
 exact ⟨t,h.nox,q⟩
theorem b8.binds {x qual:Str} {st:Stmt} {f:Addr} {fd:FuncData} {ps:List Str} (F:b8 K x qual st f fd)
  (h:∀ (kV doc pm:Value) (an:Option Addr) (cdv ct:Value) (us:List Value),us.length=ps.length->bindArgs (PySem.W.fnOf x qual (eM st) (cH st) (aH st) .none kV doc pm an cdv ct) ⟨us,[]⟩=pure (ps.zip us)):Binds K fd ps []:=by
 obtain ⟨oc,od,kV,doc,pm,an,cdv,ct,osl,rfl,lk,hcd⟩:=F.ex
 exact .all (h kV doc pm an cdv ct)
theorem yI {x qual:Str} {st:Stmt} {f:Addr} {oc:Value} {od an:Option Addr} {osl:Array (Option Value)} {kV doc pm cdv ct:Value} (l:K.lookup f=some ⟨oc,od,.func (PySem.W.fnOf x qual (eM st) (cH st) (aH st) .none kV doc pm an cdv ct),osl⟩)
  (c:PySem.W.codeIn K cdv qual=true) (k:PySem.W.keepIn K (.ref f)=true):b8 K x qual st f (PySem.W.fnOf x qual (eM st) (cH st) (aH st) .none kV doc pm an cdv ct):=⟨⟨oc,od,kV,doc,pm,an,cdv,ct,osl,rfl,l,c⟩,k⟩
end
section
variable {X:Cx}
end
theorem oR {c A B:Prop} [Decidable c] (h1:c->A) (h2:¬ c->B):if c then A else B:=by
 by_cases h:c
 ·rw [if_pos h]
  exact h1 h
 ·rw [if_neg h]
  exact h2 h
end L2
namespace U2
open PySem L2
inductive U where
 | non | bl (b:Bool) | int (i:Int) | str (x:Str) | tup (us:List U) | lst (us:List U) | ref (a:Addr) | ty (n:String) | dic (ks:List (List Key)) (tk:Bool) (us:List U)
inductive MO where
 | lst (us:List U) | dK (kvs:List (Key × U)) | dT (kvs:List (List Key × U)) | dN (kvs:List ((List Key × Key) × U)) | tbl (q:Str) | cap (ps:Array Value) (vs:List V) (us:List U)
abbrev aE:=Addr->Option MO
def mup (M:aE) (a:Addr) (o:MO):aE:=fun b=>if b=a then some o else M b
theorem bM {M:aE} {a:Addr} {o:MO}:mup M a o a=some o:=by unfold mup;rw [if_pos rfl]
theorem cA {M:aE} {a b:Addr} {o:MO} (h:b≠a):mup M a o b=M b:=by unfold mup;rw [if_neg h]
theorem gI {M:aE} {a:Addr} {o u:MO}:mup (mup M a o) a u=mup M a u:=by
 funext b;unfold mup;split <;> rfl
def KT (K:PySem.W.Frag) (a:Addr) (xs:List V):Prop :=
 ∃ (o:Obj) (its:Array Value) (n:Nat),K.lookup a=some o/\o.cls=.type "tuple"/\o.dict=none/\o.data=.seq its n/\its.size<=sizeLine/\Vals xs its.toList
def KL (K:PySem.W.Frag) (a:Addr) (xs:List V):Prop :=
 ∃ (o:Obj) (its:Array Value) (n:Nat),K.lookup a=some o/\o.cls=.type "list"/\o.dict=none/\o.data=.seq its n/\its.size<=sizeLine/\Vals xs its.toList
def BW (H:Hp) (a:Addr) (ks:List (List Key)) (tk:Bool) (vs:List V):Prop:=match tk with
 | true=>∃ ws,Rd H a (.dT ws)/\ks=ws.map (·.1)/\vs=ws.map (·.2)
 | false=>∃ ws,Rd H a (.dK ws)/\ks=ws.map (fun p=>[p.1])/\vs=ws.map (·.2)
mutual
def aP (K:PySem.W.Frag) (H:Hp) (M:aE):U->V->Prop
 | .non,v=>v=.non
 | .bl b,v=>v=.bl b
 | .int i,v=>v=.int i
 | .str x,v=>v=.str x
 | .ty n,v=>v=.ty n
 | .ref a,v=>v=.ref a
 | .tup us,v=>∃ a vs,v=.ref a/\(M a=none/\H a=some (.tup vs))/\aI K H M us vs
 | .dic ks tk us,v=>∃ a vs,v=.ref a/\M a=none/\BW H a ks tk vs/\aI K H M us vs
 | .lst us,v=>∃ a vs,v=.ref a/\((M a=none/\Rd H a (.lst vs))\/KL K a vs)/\aI K H M us vs
def aI (K:PySem.W.Frag) (H:Hp) (M:aE):List U->List V->Prop
 | [],vs=>vs=[]
 | u :: us,vs=>∃ v vs',vs=v :: vs'/\aP K H M u v/\aI K H M us vs'
end
def Of:HO->Bool
 | .dK _=>true
 | .dT _=>true
 | _=>false
def aW (H:Hp) (M:aE) (H1:Hp) (M1:aE):Prop:=∀ b o,H b=some o->M b=none->(H1 b=some o\/(Of o=true/\∃ ob,H1 b=some (.frz ob o)))/\M1 b=none
theorem aW.by' {H H1:Hp} {M M1:aE} (h:∀ b o,H b=some o->M b=none->H1 b=some o/\M1 b=none):aW H M H1 M1:=fun b o e m=>⟨.inl (h b o e m).1,(h b o e m).2⟩
theorem aW.to {H H1:Hp} {M M1:aE} (st:aW H M H1 M1) {b:Addr} {o:HO} (e:H b=some o) (m:M b=none) (n:Of o=false:=by rfl):H1 b=some o/\M1 b=none:=by
 obtain ⟨h | ⟨h,_⟩,m1⟩:=st b o e m
 ·exact ⟨h,m1⟩
 ·rw [n] at h;cases h
theorem aW.refl (H:Hp) (M:aE):aW H M H M:=.by' fun _ _ h m=>⟨h,m⟩
theorem aW.trans {H H1 H2:Hp} {M M1 M2:aE} (a:aW H M H1 M1) (b:aW H1 M1 H2 M2):aW H M H2 M2:=fun c o h m=>by
 obtain ⟨h1 | ⟨d,ob,h1⟩,m1⟩:=a c o h m
 ·exact b c o h1 m1
 ·obtain ⟨h2,m2⟩:=b.to h1 m1
  exact ⟨.inr ⟨d,ob,h2⟩,m2⟩
theorem Rd.stp {H H1:Hp} {M M1:aE} {a:Addr} {u:HO} (st:aW H M H1 M1) (m:M a=none) (h:Rd H a u):M1 a=none/\Rd H1 a u:=by
 rcases h with h | ⟨o,h⟩
 ·obtain ⟨x | ⟨_,ob,x⟩,y⟩:=st a _ h m
  ·exact ⟨y,.inl x⟩
  ·exact ⟨y,.inr ⟨ob,x⟩⟩
 ·obtain ⟨x,y⟩:=st.to h m;exact ⟨y,.inr ⟨o,x⟩⟩
theorem BW.stp {H H1:Hp} {M M1:aE} {a:Addr} {ks:List (List Key)} {tk:Bool} {vs:List V} (st:aW H M H1 M1) (m:M a=none) (h:BW H a ks tk vs):M1 a=none/\BW H1 a ks tk vs:=by
 cases tk with
 | true=>obtain ⟨ws,e,r⟩:=h;exact ⟨(Rd.stp st m e).1,ws,(Rd.stp st m e).2,r⟩
 | false=>obtain ⟨ws,e,r⟩:=h;exact ⟨(Rd.stp st m e).1,ws,(Rd.stp st m e).2,r⟩
mutual
theorem aP.stp {K:PySem.W.Frag} {H H1:Hp} {M M1:aE} (st:aW H M H1 M1):∀ {u:U} {v:V},aP K H M u v->aP K H1 M1 u v
 | .non,_,h=>by simpa only [aP] using h
 | .bl _,_,h=>by simpa only [aP] using h
 | .int _,_,h=>by simpa only [aP] using h
 | .str _,_,h=>by simpa only [aP] using h
 | .ty _,_,h=>by simpa only [aP] using h
 | .ref _,_,h=>by simpa only [aP] using h
 | .tup us,_,h=>by
  simp only [aP] at h ⊢
  obtain ⟨a,vs,e,h1,h2⟩:=h
  refine ⟨a,vs,e,?_,aI.stp st h2⟩
  obtain ⟨m,r⟩:=h1
  exact ⟨(st.to r m).2,(st.to r m).1⟩
 | .dic ks tk us,_,h=>by
  simp only [aP] at h ⊢
  obtain ⟨a,vs,e,m,h1,h2⟩:=h
  have q:=BW.stp st m h1
  exact ⟨a,vs,e,q.1,q.2,aI.stp st h2⟩
 | .lst us,_,h=>by
  simp only [aP] at h ⊢
  obtain ⟨a,vs,e,h1,h2⟩:=h
  refine ⟨a,vs,e,?_,aI.stp st h2⟩
  rcases h1 with ⟨m,r⟩ | k
  ·exact .inl (Rd.stp st m r)
  ·exact .inr k
theorem aI.stp {K:PySem.W.Frag} {H H1:Hp} {M M1:aE} (st:aW H M H1 M1):∀ {us:List U} {vs:List V},aI K H M us vs->aI K H1 M1 us vs
 | [],_,h=>by simpa only [aI] using h
 | u :: us,_,h=>by
  simp only [aI] at h ⊢
  obtain ⟨v,vs',e,h1,h2⟩:=h
  exact ⟨v,vs',e,aP.stp st h1,aI.stp st h2⟩
end
theorem aW.less {H:Hp} {M M1:aE} (h:∀ b,M b=none->M1 b=none):aW H M H M1:=.by' fun b o e m=>⟨e,h b m⟩
def mB {κ:Type} (K:PySem.W.Frag) (H:Hp) (M:aE):List (κ × U)->List (κ × V)->Prop:=Paired fun p q=>p.1=q.1/\aP K H M p.2 q.2
theorem mB.stp {κ:Type} {K:PySem.W.Frag} {H H1:Hp} {M M1:aE} (st:aW H M H1 M1):∀ {us:List (κ × U)} {vs:List (κ × V)},mB K H M us vs->mB K H1 M1 us vs
 | _,_,.nil=>.nil
 | _,_,.cons h t=>.cons ⟨h.1,h.2.stp st⟩ (mB.stp st t)
def BO (K:PySem.W.Frag) (H:Hp) (M:aE) (a:Addr):MO->Prop
 | .lst us=>∃ vs,H a=some (.lst vs)/\aI K H M us vs
 | .dK kvs=>∃ ws,H a=some (.dK ws)/\mB K H M kvs ws
 | .dT kvs=>∃ ws,H a=some (.dT ws)/\mB K H M kvs ws
 | .dN kvs=>∃ ws,H a=some (.dN ws)/\mB K H M kvs ws
 | .cap ps vs us=>H a=some (.tbl ps)/\aI K H M us vs
 | .tbl q=>(∀ b,M b=some (.tbl q)->b=a)/\∃ ps,H a=some (.tbl ps)/\TriplesOk ps.toList/\∀ pos c,codeAmong pos ps.toList=some c->∃ c' oc vs t,c=.ref c'/\H c'=some (.frz oc (.own 0))/\M c'=none/\oc.data=.fields vs/\vs[1]?=some (.str q t)
def RelM (K:PySem.W.Frag) (H:Hp) (M:aE):Prop:=∀ a mo,M a=some mo->BO K H M a mo
theorem BO.stp {K:PySem.W.Frag} {H H1:Hp} {M M1:aE} {a:Addr} {mo:MO} (hu:∀ b q,M1 b=some (.tbl q)->M b=some (.tbl q)) (st:aW H M H1 M1) (e:H1 a=H a) (h:BO K H M a mo):BO K H1 M1 a mo:=by
 cases mo with
 | lst us=>obtain ⟨vs,x,y⟩:=h;exact ⟨vs,e.trans x,y.stp st⟩
 | dK us=>obtain ⟨vs,x,y⟩:=h;exact ⟨vs,e.trans x,y.stp st⟩
 | dT us=>obtain ⟨vs,x,y⟩:=h;exact ⟨vs,e.trans x,y.stp st⟩
 | dN us=>obtain ⟨vs,x,y⟩:=h;exact ⟨vs,e.trans x,y.stp st⟩
 | cap ps vs us=>exact ⟨e.trans h.1,h.2.stp st⟩
 | tbl q =>
  obtain ⟨un,ps,x,y,z⟩:=h
  refine ⟨fun b hb=>un b (hu b q hb),ps,e.trans x,y,fun pos c hc=>?_⟩
  obtain ⟨c',oc,vs,t,h1,h2,h3,h4⟩:=z pos c hc
  exact ⟨c',oc,vs,t,h1,(st.to h2 h3).1,(st.to h2 h3).2,h4⟩
theorem RelM.ex {K:PySem.W.Frag} {H:Hp} {M:aE} (r:RelM K H M) {a:Addr} {mo:MO} (h:M a=some mo):∃ o,H a=some o:=by
 have:=r a mo h
 cases mo with
 | lst us=>obtain ⟨vs,x,y⟩:=this;exact ⟨_,x⟩
 | dK us=>obtain ⟨vs,x,y⟩:=this;exact ⟨_,x⟩
 | dT us=>obtain ⟨vs,x,y⟩:=this;exact ⟨_,x⟩
 | dN us=>obtain ⟨vs,x,y⟩:=this;exact ⟨_,x⟩
 | cap ps vs us=>exact ⟨_,this.1⟩
 | tbl q=>obtain ⟨_,ps,x,_⟩:=this;exact ⟨_,x⟩
theorem RelM.no {K:PySem.W.Frag} {H:Hp} {M:aE} (r:RelM K H M) {a:Addr} (h:H a=none):M a=none:=by
 cases e:M a with
 | none=>rfl
 | some mo=>obtain ⟨o,q⟩:=r.ex e;rw [h] at q;cases q
theorem aW.laid {K:PySem.W.Frag} {H:Hp} {M:aE} {p:Addr} {o:HO} (r:RelM K H M) (h:H p=none):aW H M (upd H p o) M:=.by' fun b u e m=>⟨by rw [bC (bO e h)];exact e,m⟩
theorem RelM.laid {K:PySem.W.Frag} {H:Hp} {M:aE} {p:Addr} {o:HO} (r:RelM K H M) (h:H p=none):RelM K (upd H p o) M:=fun a mo e=>by
 obtain ⟨u,q⟩:=r.ex e
 exact (r a mo e).stp (fun _ _ z=>z) (aW.laid r h) (bC (bO q h))
theorem aW.own {K:PySem.W.Frag} {H:Hp} {M:aE} {p:Addr} {o:HO} {mo:MO} (r:RelM K H M) (h:H p=none):aW H M (upd H p o) (mup M p mo):=.by' fun b u e m=>by
 have n:=bO e h
 exact ⟨by rw [bC n];exact e,by rw [cA n];exact m⟩
theorem RelM.put {K:PySem.W.Frag} {H:Hp} {M:aE} {p:Addr} {o:HO} {mo:MO} (r:RelM K H M) (st:aW H M (upd H p o) (mup M p mo)) (new:BO K (upd H p o) (mup M p mo) p mo) (hm:∀ q,mo≠.tbl q:=by intro q z;cases z):RelM K (upd H p o) (mup M p mo):=fun a m e=>by
 by_cases ha:a=p
 ·subst ha;rw [bM] at e;cases e;exact new
 ·rw [cA ha] at e
  refine (r a m e).stp (fun b q z=>?_) st (bC ha)
  by_cases hb:b=p
  ·subst hb;rw [bM] at z;exact absurd (Option.some.inj z) (hm q)
  ·rw [cA hb] at z;exact z
theorem aW.write {H:Hp} {M:aE} {p:Addr} {o:HO} {mo m0:MO} (h:M p=some m0):aW H M (upd H p o) (mup M p mo):=.by' fun b u e m=>by
 have n:b≠p:=fun z=>by subst z;rw [h] at m;cases m
 exact ⟨by rw [bC n];exact e,by rw [cA n];exact m⟩
section
variable {K:PySem.W.Frag} {H:Hp} {M:aE}
theorem aI.nil:aI K H M [] []:=by simp only [aI]
theorem aI.cons {u:U} {v:V} {us:List U} {vs:List V} (h:aP K H M u v) (t:aI K H M us vs):aI K H M (u :: us) (v :: vs):=by simp only [aI];exact ⟨v,vs,rfl,h,t⟩
theorem aI.length:∀ {us:List U} {vs:List V},aI K H M us vs->us.length=vs.length
 | [],_,h=>by simp only [aI] at h;subst h;rfl
 | u :: us,_,h=>by
  simp only [aI] at h
  obtain ⟨v,vs',rfl,_,t⟩:=h
  simp [aI.length t]
theorem aI.inv_cons {u:U} {us:List U} {vs:List V} (h:aI K H M (u :: us) vs):∃ v vs',vs=v :: vs'/\aP K H M u v/\aI K H M us vs':=by simpa only [aI] using h
theorem aI.inv_nil {vs:List V} (h:aI K H M [] vs):vs=[]:=by simpa only [aI] using h
theorem aI.append:∀ {us ws:List U} {vs zs:List V},aI K H M us vs->aI K H M ws zs->aI K H M (us++ws) (vs++zs)
 | [],_,_,_,h,t=>by cases h.inv_nil;exact t
 | u :: us,_,_,_,h,t=>by
  obtain ⟨v,vs',rfl,a,b⟩:=h.inv_cons
  exact .cons a (aI.append b t)
theorem aI.get:∀ {us:List U} {vs:List V} {i:Nat} {u:U},aI K H M us vs->us[i]?=some u->∃ v,vs[i]?=some v/\aP K H M u v
 | [],_,_,_,_,e=>by simp at e
 | u :: us,_,0,_,h,e=>by
  obtain ⟨v,vs',rfl,a,b⟩:=h.inv_cons
  simp at e;subst e;exact ⟨v,rfl,a⟩
 | u :: us,_,i + 1,_,h,e=>by
  obtain ⟨v,vs',rfl,a,b⟩:=h.inv_cons
  simp at e
  obtain ⟨w,x,y⟩:=aI.get b e
  exact ⟨w,by simpa using x,y⟩
theorem aI.drop:∀ {us:List U} {vs:List V} (n:Nat),aI K H M us vs->aI K H M (us.drop n) (vs.drop n)
 | _,_,0,h=>h
 | [],_,_ + 1,h=>by cases h.inv_nil;exact .nil
 | u :: us,_,n + 1,h=>by
  obtain ⟨v,vs',rfl,a,b⟩:=h.inv_cons
  exact aI.drop n b
theorem aI.take:∀ {us:List U} {vs:List V} (n:Nat),aI K H M us vs->aI K H M (us.take n) (vs.take n)
 | _,_,0,_=>by simp only [List.take_zero];exact .nil
 | [],_,_ + 1,h=>by cases h.inv_nil;exact .nil
 | u :: us,_,n + 1,h=>by
  obtain ⟨v,vs',rfl,a,b⟩:=h.inv_cons
  exact .cons a (aI.take n b)
theorem aI.set {u:U} {v:V} (r:aP K H M u v):∀ {us:List U} {vs:List V} (i:Nat),aI K H M us vs->aI K H M (us.set i u) (vs.set i v)
 | [],_,_,h=>by cases h.inv_nil;exact .nil
 | w :: us,_,0,h=>by
  obtain ⟨z,vs',rfl,a,b⟩:=h.inv_cons
  exact .cons r b
 | w :: us,_,i + 1,h=>by
  obtain ⟨z,vs',rfl,a,b⟩:=h.inv_cons
  exact .cons a (aI.set r i b)
theorem aI.dropLast {us:List U} {vs:List V} (h:aI K H M us vs):aI K H M us.dropLast vs.dropLast:=by
 rw [List.dropLast_eq_take,List.dropLast_eq_take,h.length];exact h.take _
end
abbrev SU:=List (Option U)
abbrev UK:=U->aE->Prop
abbrev UE:=SU->aE->UK->Prop
abbrev UT:=SU->aE->(Bool->aE->Prop)->Prop
abbrev UA:=SU->aE->(List U->aE->Prop)->Prop
structure kY where
 nx:SU->aE->Prop
 rt:UK
 bk:SU->aE->Prop:=fun _ _=>False
 ct:SU->aE->Prop:=fun _ _=>False
abbrev US:=kY->SU->aE->Prop
def cJ (K:PySem.W.Frag) (H:Hp) (M:aE) (σ:St) (τ:SU):Prop:=τ.length=σ.length/\∀ (i:Nat) u,τ[i]?=some (some u)->∃ v,σ[i]?=some (some v)/\aP K H M u v
theorem cJ.stp {K:PySem.W.Frag} {H H1:Hp} {M M1:aE} {σ:St} {τ:SU} (st:aW H M H1 M1) (r:cJ K H M σ τ):cJ K H1 M1 σ τ:=⟨r.1,fun i u e=>let ⟨v,a,b⟩:=r.2 i u e;⟨v,a,b.stp st⟩⟩
theorem cJ.set {K:PySem.W.Frag} {H:Hp} {M:aE} {σ:St} {τ:SU} {i:Nat} {u:U} {v:V} (r:cJ K H M σ τ) (h:aP K H M u v):cJ K H M (σ.set i (some v)) (τ.set i (some u)):=by
 refine ⟨by simp [r.1],fun j w e=>?_⟩
 rw [List.getElem?_set] at e ⊢
 split at e
 ·rename_i hij
  subst hij
  split at e
  ·rename_i hl
   cases e
   rw [if_pos rfl,if_pos (by rw [<- r.1];exact hl)]
   exact ⟨v,rfl,h⟩
  ·cases e
 ·rename_i hij
  rw [if_neg hij]
  exact r.2 j w e
def bT (K:PySem.W.Frag) (t:TE) (t':UE):Prop:=∀ (σ:St) (τ:SU) (H:Hp) (M:aE) (Q':UK),cJ K H M σ τ->RelM K H M->t' τ M Q' ->
 ∀ Q:VK,(∀ u v M1 H1,aW H M H1 M1->RelM K H1 M1->aP K H1 M1 u v->Q' u M1->Q v H1)->t σ H Q
def jQ (K:PySem.W.Frag) (t:TT) (t':UT):Prop:=∀ (σ:St) (τ:SU) (H:Hp) (M:aE) (Q':Bool->aE->Prop),cJ K H M σ τ->RelM K H M->t' τ M Q' ->
 ∀ Q:Bool->Hp->Prop,(∀ b M1 H1,aW H M H1 M1->RelM K H1 M1->Q' b M1->Q b H1)->t σ H Q
def lE (K:PySem.W.Frag) (t:TA) (t':UA):Prop:=∀ (σ:St) (τ:SU) (H:Hp) (M:aE) (Q':List U->aE->Prop),cJ K H M σ τ->RelM K H M->t' τ M Q' ->
 ∀ Q:List V->Hp->Prop,(∀ us vs M1 H1,aW H M H1 M1->RelM K H1 M1->aI K H1 M1 us vs->Q' us M1->Q vs H1)->t σ H Q
structure FA (K:PySem.W.Frag) (H:Hp) (M:aE) (D:Ends) (D':kY):Prop where
 nx:∀ σ τ H1 M1,aW H M H1 M1->RelM K H1 M1->cJ K H1 M1 σ τ->D'.nx τ M1->D.nx σ H1
 rt:∀ u v H1 M1,aW H M H1 M1->RelM K H1 M1->aP K H1 M1 u v->D'.rt u M1->D.rt v H1
 bk:∀ σ τ H1 M1,aW H M H1 M1->RelM K H1 M1->cJ K H1 M1 σ τ->D'.bk τ M1->D.bk σ H1
 ct:∀ σ τ H1 M1,aW H M H1 M1->RelM K H1 M1->cJ K H1 M1 σ τ->D'.ct τ M1->D.ct σ H1
theorem FA.stp {K:PySem.W.Frag} {H H1:Hp} {M M1:aE} {D:Ends} {D':kY} (d:FA K H M D D') (st:aW H M H1 M1):FA K H1 M1 D D' :=
 ⟨fun σ τ H2 M2 s=>d.nx σ τ H2 M2 (st.trans s),fun u v H2 M2 s=>d.rt u v H2 M2 (st.trans s),fun σ τ H2 M2 s=>d.bk σ τ H2 M2 (st.trans s),fun σ τ H2 M2 s=>d.ct σ τ H2 M2 (st.trans s)⟩
def jG (K:PySem.W.Frag) (t:TS) (t':US):Prop:=∀ (σ:St) (τ:SU) (H:Hp) (M:aE) (D':kY),cJ K H M σ τ->RelM K H M->t' D' τ M->∀ D:Ends,FA K H M D D'->t D σ H
end U2
namespace U2
open PySem L2
abbrev dW:=U->U->aE->UK->Prop
def cK (K:PySem.W.Frag) (H:Hp) (M:aE) (Q':UK) (Q:VK):Prop:=∀ u v M1 H1,aW H M H1 M1->RelM K H1 M1->aP K H1 M1 u v->Q' u M1->Q v H1
theorem cK.stp {K:PySem.W.Frag} {H H1:Hp} {M M1:aE} {Q':UK} {Q:VK} (c:cK K H M Q' Q) (st:aW H M H1 M1):cK K H1 M1 Q' Q:=fun u v M2 H2 s=>c u v M2 H2 (st.trans s)
theorem cK.here {K:PySem.W.Frag} {H:Hp} {M:aE} {Q':UK} {Q:VK} {u:U} {v:V} (c:cK K H M Q' Q) (rm:RelM K H M) (r:aP K H M u v) (q:Q' u M):Q v H:=c u v M H (aW.refl H M) rm r q
def eX (K:PySem.W.Frag) (r:R2) (r':dW):Prop:=∀ (x y:V) (u w:U) (H:Hp) (M:aE) (Q':UK),RelM K H M->aP K H M u x->aP K H M w y->r' u w M Q'->∀ Q:VK,cK K H M Q' Q->r x y H Q
def Al (K:PySem.W.Frag) (r:List V->Hp->VK->Prop) (r':List U->aE->UK->Prop):Prop:=∀ (xs:List V) (us:List U) (H:Hp) (M:aE) (Q':UK),RelM K H M->aI K H M us xs->r' us M Q'->∀ Q:VK,cK K H M Q' Q->r xs H Q
def nV (K:PySem.W.Frag) (r:V->List V->Hp->VK->Prop) (r':U->List U->aE->UK->Prop):Prop:=∀ (x:V) (xs:List V) (u:U) (us:List U) (H:Hp) (M:aE) (Q':UK),RelM K H M->aP K H M u x->aI K H M us xs->r' u us M Q'->∀ Q:VK,cK K H M Q' Q->r x xs H Q
section
variable {K:PySem.W.Frag} {H:Hp} {M:aE} {v:V}
theorem aP.non (h:aP K H M .non v):v=.non:=by simpa only [aP] using h
theorem aP.bl {b:Bool} (h:aP K H M (.bl b) v):v=.bl b:=by simpa only [aP] using h
theorem aP.int {i:Int} (h:aP K H M (.int i) v):v=.int i:=by simpa only [aP] using h
theorem aP.str {x:Str} (h:aP K H M (.str x) v):v=.str x:=by simpa only [aP] using h
theorem aP.ty {n:String} (h:aP K H M (.ty n) v):v=.ty n:=by simpa only [aP] using h
theorem aP.ref {a:Addr} (h:aP K H M (.ref a) v):v=.ref a:=by simpa only [aP] using h
theorem aP.tup {us:List U} (h:aP K H M (.tup us) v):∃ a vs,v=.ref a/\fW K H a vs/\aI K H M us vs:=by
 simp only [aP] at h
 obtain ⟨a,vs,e,h1,h2⟩:=h
 refine ⟨a,vs,e,?_,h2⟩
 exact .inl (.inl h1.2)
theorem aP.lst {us:List U} (h:aP K H M (.lst us) v):∃ a vs,v=.ref a/\eV K H a vs/\aI K H M us vs:=by
 simp only [aP] at h
 obtain ⟨a,vs,e,h1,h2⟩:=h
 refine ⟨a,vs,e,?_,h2⟩
 rcases h1 with ⟨_,r⟩ | k
 ·exact .inl r
 ·exact .inr k
theorem jD:aP K H M .non .non:=by simp only [aP]
theorem cX {b:Bool}:aP K H M (.bl b) (.bl b):=by simp only [aP]
theorem dM {i:Int}:aP K H M (.int i) (.int i):=by simp only [aP]
theorem fJ {x:Str}:aP K H M (.str x) (.str x):=by simp only [aP]
theorem PX {n:String}:aP K H M (.ty n) (.ty n):=by simp only [aP]
theorem rL {a:Addr}:aP K H M (.ref a) (.ref a):=by simp only [aP]
theorem vE {a:Addr} {us:List U} {vs:List V} (m:M a=none) (h:H a=some (.tup vs)) (r:aI K H M us vs):aP K H M (.tup us) (.ref a):=by
 simp only [aP];exact ⟨a,vs,rfl,⟨m,h⟩,r⟩
theorem Ba {a:Addr} {us:List U} {vs:List V} (m:M a=none) (h:H a=some (.lst vs)) (r:aI K H M us vs):aP K H M (.lst us) (.ref a):=by
 simp only [aP];exact ⟨a,vs,rfl,.inl ⟨m,.inl h⟩,r⟩
theorem cK.tup {Q':UK} {Q:VK} {us:List U} {vs:List V} {p:Addr} (c:cK K H M Q' Q) (rm:RelM K H M) (r:aI K H M us vs) (hp:H p=none) (q:Q' (.tup us) M):Q (.ref p) (upd H p (.tup vs)) :=
 c _ _ M _ (aW.laid rm hp) (rm.laid hp) (vE (rm.no hp) bQ (r.stp (aW.laid rm hp))) q
def jX (o:Bool) (us:List U) (M:aE) (Q:UK):Prop:=match o with
 | true=>∀ p,M p=none->Q (.ref p) (mup M p (.lst us))
 | false=>Q (.lst us) M
theorem cK.lst {o:Bool} {Q':UK} {Q:VK} {us:List U} {vs:List V} {p:Addr} (c:cK K H M Q' Q) (rm:RelM K H M) (r:aI K H M us vs) (hp:H p=none) (q:jX o us M Q'):Q (.ref p) (upd H p (.lst vs)):=by
 cases o with
 | false=>exact c _ _ M _ (aW.laid rm hp) (rm.laid hp) (Ba (rm.no hp) bQ (r.stp (aW.laid rm hp))) q
 | true =>
  have st:aW H M (upd H p (.lst vs)) (mup M p (.lst us)):=aW.own rm hp
  exact c (.ref p) _ _ _ st (rm.put st ⟨vs,bQ,r.stp st⟩) rL (q p (rm.no hp))
end
def view (M:aE):U->U
 | .ref a=>match M a with
  | some (.lst us)=>.lst us
  | _=>.ref a
 | u=>u
theorem lF {M:aE} {a:Addr} {us:List U} (h:M a=some (.lst us)):view M (.ref a)=.lst us:=by simp only [view,h]
theorem iS {K:PySem.W.Frag} {H:Hp} {M:aE} {u:U} {v:V} {us:List U} (rm:RelM K H M) (r:aP K H M u v) (h:view M u=.lst us):∃ a vs,v=.ref a/\eV K H a vs/\aI K H M us vs:=by
 cases u with
 | lst ws=>simp only [view] at h;cases h;exact r.lst
 | ref a =>
  simp only [view] at h
  split at h
  ·rename_i ws e
   cases h
   obtain ⟨vs,h1,h2⟩:=rm a _ e
   exact ⟨a,vs,r.ref,.inl (.inl h1),h2⟩
  ·cases h
 | _=>simp [view] at h
section
variable {K:PySem.W.Frag} {t ta tb tc:TE} {t' ta' tb' tc':UE}
def i5 (i:Nat):UE:=fun τ M Q=>match τ[i]? with
 | some (some u)=>Q u M
 | _=>False
theorem Ah (i:Nat):bT K (sY i) (i5 i):=fun σ τ H M Q' rs rm h Q c=>by
 unfold i5 at h
 split at h
 ·rename_i u e
  obtain ⟨v,e2,r⟩:=rs.2 i u e
  exact ⟨v,e2,c u v M H (aW.refl _ _) rm r h⟩
 ·exact h.elim
def uC (u:U):UE:=fun _ M Q=>Q u M
theorem zR {u:U} {v:V} (h:∀ H M,aP K H M u v):bT K (tC v) (uC u):=fun σ τ H M Q' rs rm q Q c=>c u v M H (aW.refl _ _) rm (h H M) q
theorem GQ {i:Int}:bT K (tC (.int i)) (uC (.int i)):=zR fun _ _=>dM
theorem U4 {i:Bool}:bT K (tC (.bl i)) (uC (.bl i)):=zR fun _ _=>cX
theorem Hf {i:Str}:bT K (tC (.str i)) (uC (.str i)):=zR fun _ _=>fJ
theorem RJ:bT K (tC .non) (uC .non):=zR fun _ _=>jD
theorem Te {n:String}:bT K (tC (.ty n)) (uC (.ty n)):=zR fun _ _=>PX
theorem Qb {a:Addr}:bT K (tC (.ref a)) (uC (.ref a)):=zR fun _ _=>rL
def gB (r:dW) (ta tb:UE):UE:=fun τ M Q=>ta τ M fun x M1=>tb τ M1 fun y M2=>r x y M2 Q
theorem yB {r:R2} {r':dW} (hr:eX K r r') (ha:bT K ta ta') (hb:bT K tb tb'):bT K (Ho r ta tb) (gB r' ta' tb'):=fun σ τ H M Q' rs rm h Q c =>
 ha σ τ H M _ rs rm h _ fun u v M1 H1 s1 rm1 ru h1=>hb σ τ H1 M1 _ (rs.stp s1) rm1 h1 _ fun w x M2 H2 s2 rm2 rw h2=>hr v x u w H2 M2 Q' rm2 (ru.stp s2) rw h2 Q (cK.stp c (s1.trans s2))
def Fc (r:U->aE->UK->Prop) (ta:UE):UE:=fun τ M Q=>ta τ M fun x M1=>r x M1 Q
def lX (t:UE):UT:=fun τ M Q=>t τ M fun u M1=>match u with
 | .bl b=>Q b M1
 | _=>False
theorem EI (h:bT K t t'):jQ K (Hz t) (lX t'):=fun σ τ H M Q' rs rm q Q c=>h σ τ H M _ rs rm q _ fun u v M1 H1 s1 rm1 ru h1=>by
 cases u with
 | bl b=>exact ⟨b,ru.bl,c b M1 H1 s1 rm1 h1⟩
 | _=>exact h1.elim
def vG (t:UE):UT:=fun τ M Q=>t τ M fun u M1=>match view M1 u with
 | .non=>Q false M1
 | .bl b=>Q b M1
 | .int i=>Q (i != 0) M1
 | .str x=>x.length<=sizeLine/\Q ((x.length:Int) != 0) M1
 | .tup us=>Q (!us.isEmpty) M1
 | .lst us=>Q (!us.isEmpty) M1
 | _=>False
theorem AM {H:Hp} {M:aE} {us:List U} {vs:List V} (r:aI K H M us vs):us.isEmpty=vs.isEmpty:=by
 have:=r.length
 cases us <;> cases vs <;> simp_all
theorem QK (h:bT K t t'):jQ K (fun σ H Q=>t σ H fun x H'=>∃ k,MH K x H' k/\Q k H') (vG t'):=fun σ τ H M Q' rs rm q Q c=>h σ τ H M _ rs rm q _ fun u v M1 H1 s1 rm1 ru h1=>by
 split at h1
 ·rename_i e
  cases u with
  | non=>exact ⟨false,by rw [ru.non];rfl,c _ M1 H1 s1 rm1 h1⟩
  | ref a=>simp only [view] at e;split at e <;> cases e
  | _=>simp [view] at e
 ·rename_i b e
  cases u with
  | bl b'=>simp only [view] at e;cases e;exact ⟨b,by rw [ru.bl];rfl,c _ M1 H1 s1 rm1 h1⟩
  | ref a=>simp only [view] at e;split at e <;> cases e
  | _=>simp [view] at e
 ·rename_i b e
  cases u with
  | int b'=>simp only [view] at e;cases e;exact ⟨b != 0,by rw [ru.int];rfl,c _ M1 H1 s1 rm1 h1⟩
  | ref a=>simp only [view] at e;split at e <;> cases e
  | _=>simp [view] at e
 ·rename_i b e
  cases u with
  | str b'=>simp only [view] at e;cases e;exact ⟨(b.length:Int) != 0,by rw [ru.str];exact ⟨h1.1,rfl⟩,c _ M1 H1 s1 rm1 h1.2⟩
  | ref a=>simp only [view] at e;split at e <;> cases e
  | _=>simp [view] at e
 ·rename_i us e
  cases u with
  | tup us' =>
   simp only [view] at e;cases e
   obtain ⟨a,vs,rfl,r1,r2⟩:=ru.tup
   exact ⟨!vs.isEmpty,.inr (.inl ⟨vs,r1,rfl⟩),c _ M1 H1 s1 rm1 (by rw [<- AM r2];exact h1)⟩
  | ref a=>simp only [view] at e;split at e <;> cases e
  | _=>simp [view] at e
 ·rename_i us e
  obtain ⟨a,vs,rfl,r1,r2⟩:=iS rm1 ru e
  exact ⟨!vs.isEmpty,.inl ⟨vs,r1,rfl⟩,c _ M1 H1 s1 rm1 (by rw [<- AM r2];exact h1)⟩
 ·exact h1.elim
def u5 (t u:UT):UT:=fun τ M Q=>t τ M fun c M1=>if c=true then u τ M1 Q else Q false M1
def Bv (t u:UT):UT:=fun τ M Q=>t τ M fun c M1=>if c=true then Q true M1 else u τ M1 Q
def vD (t:UT):UT:=fun τ M Q=>t τ M fun c M1=>Q (!c) M1
theorem P6 {t u:TT} {t' u':UT} (h:jQ K t t') (k:jQ K u u'):jQ K (UY t u) (u5 t' u'):=fun σ τ H M Q' rs rm q Q c=>h σ τ H M _ rs rm q _ fun b M1 H1 s1 rm1 h1=>by
 cases b with
 | true=>exact k σ τ H1 M1 Q' (rs.stp s1) rm1 h1 Q fun b M2 H2 s2=>c b M2 H2 (s1.trans s2)
 | false=>exact c _ M1 H1 s1 rm1 h1
theorem SE {t u:TT} {t' u':UT} (h:jQ K t t') (k:jQ K u u'):jQ K (Ws t u) (Bv t' u'):=fun σ τ H M Q' rs rm q Q c=>h σ τ H M _ rs rm q _ fun b M1 H1 s1 rm1 h1=>by
 cases b with
 | false=>exact k σ τ H1 M1 Q' (rs.stp s1) rm1 h1 Q fun b M2 H2 s2=>c b M2 H2 (s1.trans s2)
 | true=>exact c _ M1 H1 s1 rm1 h1
theorem P5 {t:TT} {t':UT} (h:jQ K t t'):jQ K (UJ t) (vD t'):=fun σ τ H M Q' rs rm q Q c=>h σ τ H M _ rs rm q _ fun b M1 H1 s1 rm1 h1=>c _ M1 H1 s1 rm1 h1
def kE (ta tb:UE):UE:=fun τ M Q=>ta τ M fun x M1=>match x with
 | .bl c=>if c=true then tb τ M1 Q else Q (.bl false) M1
 | _=>False
def v9 (ta tb:UE):UE:=fun τ M Q=>ta τ M fun x M1=>match x with
 | .bl c=>if c=true then Q (.bl true) M1 else tb τ M1 Q
 | _=>False
def pU (ta:UE):UE:=fun τ M Q=>ta τ M fun x M1=>match x with
 | .bl c=>Q (.bl (!c)) M1
 | _=>False
theorem Om (h:bT K ta ta') (k:bT K tb tb'):bT K (Pc ta tb) (kE ta' tb'):=fun σ τ H M Q' rs rm q Q c=>h σ τ H M _ rs rm q _ fun u v M1 H1 s1 rm1 ru h1=>by
 cases u with
 | bl b =>
  refine ⟨b,ru.bl,?_⟩
  cases b with
  | true=>exact k σ τ H1 M1 Q' (rs.stp s1) rm1 h1 Q (cK.stp c s1)
  | false=>exact c _ _ M1 H1 s1 rm1 cX h1
 | _=>exact h1.elim
theorem Qr (h:bT K ta ta') (k:bT K tb tb'):bT K (T8 ta tb) (v9 ta' tb'):=fun σ τ H M Q' rs rm q Q c=>h σ τ H M _ rs rm q _ fun u v M1 H1 s1 rm1 ru h1=>by
 cases u with
 | bl b =>
  refine ⟨b,ru.bl,?_⟩
  cases b with
  | false=>exact k σ τ H1 M1 Q' (rs.stp s1) rm1 h1 Q (cK.stp c s1)
  | true=>exact c _ _ M1 H1 s1 rm1 cX h1
 | _=>exact h1.elim
theorem Nj (h:bT K ta ta'):bT K (PC ta) (pU ta'):=fun σ τ H M Q' rs rm q Q c=>h σ τ H M _ rs rm q _ fun u v M1 H1 s1 rm1 ru h1=>by
 cases u with
 | bl b=>exact ⟨b,ru.bl,c _ _ M1 H1 s1 rm1 cX h1⟩
 | _=>exact h1.elim
def BI (t:UT) (ta tb:UE):UE:=fun τ M Q=>t τ M fun c M1=>if c=true then ta τ M1 Q else tb τ M1 Q
theorem SS {t:TT} {t':UT} (h:jQ K t t') (k:bT K ta ta') (l:bT K tb tb'):bT K (Wq t ta tb) (BI t' ta' tb'):=fun σ τ H M Q' rs rm q Q c=>h σ τ H M _ rs rm q _ fun b M1 H1 s1 rm1 h1=>by
 cases b with
 | true=>exact k σ τ H1 M1 Q' (rs.stp s1) rm1 h1 Q (cK.stp c s1)
 | false=>exact l σ τ H1 M1 Q' (rs.stp s1) rm1 h1 Q (cK.stp c s1)
def kS (r r':dW) (ta tb tc:UE):UE:=fun τ M Q=>ta τ M fun x M1=>tb τ M1 fun y M2=>r x y M2 fun z M3=>match z with
 | .bl k=>if k=true then tc τ M3 fun w M4=>r' y w M4 Q else Q (.bl false) M3
 | _=>False
theorem CI {r r':R2} {s s':dW} (hr:eX K r s) (hr':eX K r' s') (ha:bT K ta ta') (hb:bT K tb tb') (hc:bT K tc tc'):bT K (Ex r r' ta tb tc) (kS s s' ta' tb' tc'):=fun σ τ H M Q' rs rm h Q c =>
 ha σ τ H M _ rs rm h _ fun u v M1 H1 s1 rm1 ru h1=>hb σ τ H1 M1 _ (rs.stp s1) rm1 h1 _ fun w x M2 H2 s2 rm2 rw h2 =>
  hr v x u w H2 M2 _ rm2 (ru.stp s2) rw h2 _ fun z zv M3 H3 s3 rm3 rz h3=>by
   cases z with
   | bl k =>
    refine ⟨k,rz.bl,?_⟩
    cases k with
    | true=>exact hc σ τ H3 M3 _ ((rs.stp s1).stp (s2.trans s3)) rm3 h3 _ fun w2 x2 M4 H4 s4 rm4 rw4 h4=>hr' x x2 w w2 H4 M4 Q' rm4 (rw.stp (s3.trans s4)) rw4 h4 Q (cK.stp c (((s1.trans s2).trans s3).trans s4))
    | false=>exact c _ _ M3 H3 ((s1.trans s2).trans s3) rm3 cX h3
   | _=>exact h3.elim
def mN:UA:=fun _ M Q=>Q [] M
def kA (ta:UE) (tr:UA):UA:=fun τ M Q=>ta τ M fun x M1=>tr τ M1 fun xs M2=>Q (x :: xs) M2
theorem Rt:lE K SR mN:=fun σ τ H M Q' rs rm q Q c=>c [] [] M H (aW.refl _ _) rm .nil q
theorem NV {tr:TA} {tr':UA} (ha:bT K ta ta') (hr:lE K tr tr'):lE K (PH ta tr) (kA ta' tr'):=fun σ τ H M Q' rs rm h Q c =>
 ha σ τ H M _ rs rm h _ fun u v M1 H1 s1 rm1 ru h1=>hr σ τ H1 M1 _ (rs.stp s1) rm1 h1 _ fun us vs M2 H2 s2 rm2 rus h2=>c (u :: us) (v :: vs) M2 H2 (s1.trans s2) rm2 (.cons (ru.stp s2) rus) h2
def vQ (t:UA):UE:=fun τ M Q=>t τ M fun us M1=>us.length<=sizeLine/\Q (.tup us) M1
def wF (o:Bool) (t:UA):UE:=fun τ M Q=>t τ M fun us M1=>us.length<=sizeLine/\jX o us M1 Q
theorem RQ {t:TA} {t':UA} (h:lE K t t'):bT K (Uz t) (vQ t'):=fun σ τ H M Q' rs rm q Q c =>
 h σ τ H M _ rs rm q _ fun us vs M1 H1 s1 rm1 r h1=>⟨by rw [<- r.length];exact h1.1,fun p hp=>(cK.stp c s1).tup rm1 r hp h1.2⟩
theorem RH {o:Bool} {t:TA} {t':UA} (h:lE K t t'):bT K (SX t) (wF o t'):=fun σ τ H M Q' rs rm q Q c =>
 h σ τ H M _ rs rm q _ fun us vs M1 H1 s1 rm1 r h1=>⟨by rw [<- r.length];exact h1.1,fun p hp=>(cK.stp c s1).lst rm1 r hp h1.2⟩
def rS (r:List U->aE->UK->Prop) (t:UA):UE:=fun τ M Q=>t τ M fun us M1=>r us M1 Q
theorem K6 {r:List V->Hp->VK->Prop} {r':List U->aE->UK->Prop} {t:TA} {t':UA} (hr:Al K r r') (h:lE K t t'):bT K (UN r t) (rS r' t'):=fun σ τ H M Q' rs rm q Q c =>
 h σ τ H M _ rs rm q _ fun us vs M1 H1 s1 rm1 ru h1=>hr vs us H1 M1 Q' rm1 ru h1 Q (cK.stp c s1)
end
end U2
namespace U2
open PySem L2
section
variable {K:PySem.W.Frag}
def qV (g:Int->Int->U):dW:=fun x y M Q=>match x,y with
 | .int i,.int j=>Q (g i j) M
 | _,_=>False
def uI (C:Int->Int->Prop) (g:Int->Int->U):dW:=fun x y M Q=>match x,y with
 | .int i,.int j=>C i j/\Q (g i j) M
 | _,_=>False
theorem Kr {g:Int->Int->V} {g':Int->Int->U} (hg:∀ H M i j,aP K H M (g' i j) (g i j)):eX K (yE g) (qV g'):=fun x y u w H M Q' rm ru rw h Q c=>by
 cases u with
 | int i=>cases w with
  | int j=>exact ⟨i,j,ru.int,rw.int,c _ _ M H (aW.refl _ _) rm (hg H M i j) h⟩
  | _=>exact h.elim
 | _=>exact h.elim
theorem VH {C:Int->Int->Prop} {g:Int->Int->V} {g':Int->Int->U} (hg:∀ H M i j,aP K H M (g' i j) (g i j)):eX K (rI C g) (uI C g'):=fun x y u w H M Q' rm ru rw h Q c=>by
 cases u with
 | int i=>cases w with
  | int j=>exact ⟨i,j,ru.int,rw.int,h.1,c _ _ M H (aW.refl _ _) rm (hg H M i j) h.2⟩
  | _=>exact h.elim
 | _=>exact h.elim
theorem EV {f:Int->Int->Int}:eX K (yE fun i j=>.int (f i j)) (qV fun i j=>.int (f i j)):=Kr fun _ _ _ _=>dM
theorem xR {f:Int->Int->Bool}:eX K (yE fun i j=>.bl (f i j)) (qV fun i j=>.bl (f i j)):=Kr fun _ _ _ _=>cX
theorem sA {C:Int->Int->Prop} {f:Int->Int->Int}:eX K (rI C fun i j=>.int (f i j)) (uI C fun i j=>.int (f i j)):=VH fun _ _ _ _=>dM
def VS:dW:=fun x y M Q=>match x,y with
 | .str i,.str j=>i.length + j.length<=sizeLine/\Q (.str (i++j)) M
 | _,_=>False
theorem OA:eX K (fun x y H Q=>∃ i j,x=.str i/\y=.str j/\i.length + j.length<=sizeLine/\Q (.str (i++j)) H) VS:=fun x y u w H M Q' rm ru rw h Q c=>by
 cases u with
 | str i=>cases w with
  | str j=>exact ⟨i,j,ru.str,rw.str,h.1,c _ _ M H (aW.refl _ _) rm fJ h.2⟩
  | _=>exact h.elim
 | _=>exact h.elim
def E6 (K:PySem.W.Frag):R2:=fun x y H Q=>∃ a b xs ys,x=.ref a/\y=.ref b/\fW K H a xs/\fW K H b ys/\xs.length + ys.length<=sizeLine /\
 (xs=[]->Q (.ref b) H)/\(xs≠[]->ys=[]->Q (.ref a) H)/\(xs≠[]->ys≠[]->∀ p,H p=none->Q (.ref p) (upd H p (.tup (xs++ys))))
def Vr:dW:=fun x y M Q=>match x,y with
 | .tup us,.tup ws=>us.length + ws.length<=sizeLine/\Q (.tup (us++ws)) M
 | _,_=>False
theorem NG:eX K (E6 K) Vr:=fun x y u w H M Q' rm ru rw h Q c=>by
 cases u with
 | tup us=>cases w with
  | tup ws =>
   obtain ⟨h2,h3⟩:=h
   obtain ⟨a,xs,rfl,s1,r1⟩:=ru.tup
   obtain ⟨b,ys,rfl,s2,r2⟩:=rw.tup
   refine ⟨a,b,xs,ys,rfl,rfl,s1,s2,by rw [<- r1.length,<- r2.length];exact h2,fun e=>?_,fun _ e=>?_,fun _ _ p hp=>c.tup rm (r1.append r2) hp h3⟩
   ·subst e
    have e2:us=[]:=List.length_eq_zero_iff.mp r1.length
    subst e2
    exact c _ _ M H (aW.refl _ _) rm rw h3
   ·subst e
    have e2:ws=[]:=List.length_eq_zero_iff.mp r2.length
    subst e2
    exact c _ _ M H (aW.refl _ _) rm ru (by rw [List.append_nil] at h3;exact h3)
  | _=>exact h.elim
 | _=>exact h.elim
def nM (o:Bool):dW:=fun x y M Q=>match view M x,view M y with
 | .lst us,.lst ws=>us.length + ws.length<=sizeLine/\jX o (us++ws) M Q
 | _,_=>False
def JO (K:PySem.W.Frag):R2:=fun x y H Q=>∃ l b xs zs,x=.ref l/\y=.ref b/\eV K H l xs/\eV K H b zs/\xs.length + zs.length<=sizeLine/\∀ p,H p=none->Q (.ref p) (upd H p (.lst (xs++zs)))
theorem MZ {o:Bool}:eX K (JO K) (nM o):=fun x y u w H M Q' rm ru rw h Q c=>by
 unfold nM at h
 split at h
 ·rename_i us ws e1 e2
  obtain ⟨a,xs,rfl,s1,r1⟩:=iS rm ru e1
  obtain ⟨b,ys,rfl,s2,r2⟩:=iS rm rw e2
  exact ⟨a,b,xs,ys,rfl,rfl,s1,s2,by rw [<- r1.length,<- r2.length];exact h.1,fun p hp=>c.lst rm (r1.append r2) hp h.2⟩
 ·exact h.elim
theorem G4 {H:Hp} {M:aE} {us:List U} {vs:List V} {i:Int} {u:U} (r:aI K H M us vs) (h:iI us i=some u):∃ v,iI vs i=some v/\aP K H M u v:=by
 unfold iI at h ⊢
 rw [<- r.length]
 cases e:xI us.length i with
 | none=>rw [e] at h;cases h
 | some j=>rw [e] at h;exact r.get h
def sP:dW:=fun x y M Q=>match view M x,y with
 | .lst us,.int i=>∃ u,iI us i=some u/\Q u M
 | .tup us,.int i=>∃ u,iI us i=some u/\Q u M
 | .str z,.int i=>z.length<=sizeLine/\∃ c,iI z.cps.toList i=some c/\Q (.str ⟨#[c]⟩) M
 | _,_=>False
theorem wQ {M:aE} {u:U} {us:List U} (h:view M u=.tup us):u=.tup us:=by
 cases u with
 | ref a=>simp only [view] at h;split at h <;> cases h
 | _=>simpa [view] using h
theorem A2 {M:aE} {u:U} {x:Str} (h:view M u=.str x):u=.str x:=by
 cases u with
 | ref a=>simp only [view] at h;split at h <;> cases h
 | _=>simpa [view] using h
theorem T9:eX K (Wv K) sP:=fun x y u w H M Q' rm ru rw h Q c=>by
 unfold sP at h
 split at h
 ·rename_i us i e
  obtain ⟨z,h1,h2⟩:=h
  obtain ⟨a,xs,rfl,s1,r1⟩:=iS rm ru e
  obtain ⟨v,h3,h4⟩:=G4 r1 h1
  exact .inl ⟨a,xs,i,v,rfl,rw.int,s1,h3,c _ _ M H (aW.refl _ _) rm h4 h2⟩
 ·rename_i us i e
  obtain ⟨z,h1,h2⟩:=h
  have e':=wQ e
  subst e'
  obtain ⟨a,xs,rfl,s1,r1⟩:=ru.tup
  obtain ⟨v,h3,h4⟩:=G4 r1 h1
  exact .inr (.inl ⟨a,xs,i,v,rfl,rw.int,s1,h3,c _ _ M H (aW.refl _ _) rm h4 h2⟩)
 ·rename_i z i e
  obtain ⟨h0,d,h1,h2⟩:=h
  have e':=A2 e
  subst e'
  exact .inr (.inr ⟨z,i,d,ru.str,rw.int,h0,h1,c _ _ M H (aW.refl _ _) rm fJ h2⟩)
 ·exact h.elim
abbrev UO:=SU->aE->(Option Int->aE->Prop)->Prop
def D4 (K:PySem.W.Frag) (t:TO) (t':UO):Prop:=∀ (σ:St) (τ:SU) (H:Hp) (M:aE) (Q':Option Int->aE->Prop),cJ K H M σ τ->RelM K H M->t' τ M Q' ->
 ∀ Q:Option Int->Hp->Prop,(∀ o M1 H1,aW H M H1 M1->RelM K H1 M1->Q' o M1->Q o H1)->t σ H Q
def kD:UO:=fun _ M Q=>Q none M
def pX (t:UE):UO:=fun τ M Q=>t τ M fun x M1=>match x with
 | .int i=>Q (some i) M1
 | _=>False
theorem Jk:D4 K GG kD:=fun σ τ H M Q' rs rm q Q c=>c none M H (aW.refl _ _) rm q
theorem N1 {t:TE} {t':UE} (h:bT K t t'):D4 K (Pe t) (pX t'):=fun σ τ H M Q' rs rm q Q c=>h σ τ H M _ rs rm q _ fun u v M1 H1 s1 rm1 ru h1=>by
 cases u with
 | int i=>exact ⟨i,ru.int,c _ M1 H1 s1 rm1 h1⟩
 | _=>exact h1.elim
def oK {α:Type} (xs:List α) (lo hi:Option Int):List α:=(xs.drop (HT.bP xs.length 0 lo)).take (HT.bP xs.length xs.length hi - HT.bP xs.length 0 lo)
theorem Hu {H:Hp} {M:aE} {us:List U} {vs:List V} (r:aI K H M us vs) (lo hi:Option Int):aI K H M (oK us lo hi) (sZ vs lo hi):=by
 unfold oK sZ
 rw [r.length]
 exact (r.drop _).take _
def Tz (K:PySem.W.Frag):V->Option Int->Option Int->Hp->VK->Prop:=fun x lo hi H Q =>
 (∃ a xs,x=.ref a/\eV K H a xs/\∀ p,H p=none->Q (.ref p) (upd H p (.lst (sZ xs lo hi)))) \/
 (∃ a xs,x=.ref a/\fW K H a xs/\¬ (HT.bP xs.length 0 lo=0/\HT.bP xs.length xs.length hi=xs.length)/\∀ p,H p=none->Q (.ref p) (upd H p (.tup (sZ xs lo hi)))) \/
 (∃ z:Str,x=.str z/\z.length<=sizeLine/\Q (.str (Txt.slice z lo hi)) H)
def W2 (o:Bool) (te:UE) (tl th:UO):UE:=fun τ M Q=>te τ M fun x M1=>tl τ M1 fun l M2=>th τ M2 fun h M3=>match view M3 x with
 | .lst us=>jX o (oK us l h) M3 Q
 | .tup us=>¬ (HT.bP us.length 0 l=0/\HT.bP us.length us.length h=us.length)/\Q (.tup (oK us l h)) M3
 | .str z=>z.length<=sizeLine/\Q (.str (Txt.slice z l h)) M3
 | _=>False
end
section
variable {K:PySem.W.Frag} {t u:TS} {t' u':US} {te:TE} {te':UE}
def bJ:US:=fun D τ M=>D.nx τ M
def sX (t u:US):US:=fun D τ M=>t { D with nx:=u D } τ M
def mD:US:=fun D τ M=>D.bk τ M
def zQ:US:=fun D τ M=>D.ct τ M
def k8 (te:UE):US:=fun D τ M=>te τ M fun _ M1=>D.nx τ M1
def bG (te:UE):US:=fun D τ M=>te τ M D.rt
def Af:US:=fun D _ M=>D.rt .non M
def wJ (c:UT) (t u:US):US:=fun D τ M=>c τ M fun b M1=>if b=true then t D τ M1 else u D τ M1
theorem OH:jG K OP bJ:=fun σ τ H M D' rs rm h D d=>d.nx σ τ H M (aW.refl _ _) rm rs h
theorem Kc:jG K LX mD:=fun σ τ H M D' rs rm h D d=>d.bk σ τ H M (aW.refl _ _) rm rs h
theorem Rz (h1:jG K t t') (h2:jG K u u'):jG K (SY t u) (sX t' u'):=fun σ τ H M D' rs rm h D d =>
 h1 σ τ H M _ rs rm h _ ⟨fun σ1 τ1 H1 M1 s rm1 rs1 q=>h2 σ1 τ1 H1 M1 D' rs1 rm1 q D (d.stp s),d.rt,d.bk,d.ct⟩
theorem NP (h1:bT K te te'):jG K (Po te) (k8 te'):=fun σ τ H M D' rs rm h D d=>h1 σ τ H M _ rs rm h _ fun u v M1 H1 s rm1 ru q=>d.nx σ τ H1 M1 s rm1 (rs.stp s) q
theorem QC (h1:bT K te te'):jG K (Tj te) (bG te'):=fun σ τ H M D' rs rm h D d=>h1 σ τ H M _ rs rm h _ fun u v M1 H1 s rm1 ru q=>d.rt u v H1 M1 s rm1 ru q
theorem Ra {c:TT} {c':UT} (hc:jQ K c c') (h1:jG K t t') (h2:jG K u u'):jG K (Sl c t u) (wJ c' t' u'):=fun σ τ H M D' rs rm h D d=>hc σ τ H M _ rs rm h _ fun b M1 H1 s rm1 q=>by
 cases b with
 | true=>exact h1 σ τ H1 M1 D' (rs.stp s) rm1 q D (d.stp s)
 | false=>exact h2 σ τ H1 M1 D' (rs.stp s) rm1 q D (d.stp s)
abbrev UG:=U->SU->aE->(SU->aE->Prop)->Prop
abbrev BE:=List U->SU->aE->(SU->aE->Prop)->Prop
def zK (K:PySem.W.Frag) (g:TG) (g':UG):Prop:=∀ (u:U) (v:V) (σ:St) (τ:SU) (H:Hp) (M:aE) (Q':SU->aE->Prop),aP K H M u v->cJ K H M σ τ->RelM K H M->g' u τ M Q' ->
 ∀ Q:St->Hp->Prop,(∀ σ1 τ1 H1 M1,aW H M H1 M1->RelM K H1 M1->cJ K H1 M1 σ1 τ1->Q' τ1 M1->Q σ1 H1)->g v σ H Q
def Bt (K:PySem.W.Frag) (g:qD) (g':BE):Prop:=∀ (us:List U) (vs:List V) (σ:St) (τ:SU) (H:Hp) (M:aE) (Q':SU->aE->Prop),aI K H M us vs->cJ K H M σ τ->RelM K H M->g' us τ M Q' ->
 ∀ Q:St->Hp->Prop,(∀ σ1 τ1 H1 M1,aW H M H1 M1->RelM K H1 M1->cJ K H1 M1 σ1 τ1->Q' τ1 M1->Q σ1 H1)->g vs σ H Q
def hName (i:Nat):UG:=fun u τ M Q=>Q (τ.set i (some u)) M
theorem sL (i:Nat):zK K (xC i) (hName i):=fun u v σ τ H M Q' ru rs rm h Q c=>c _ _ H M (aW.refl _ _) rm (rs.set ru) h
def qQ:BE:=fun us τ M Q=>match us with
 | []=>Q τ M
 | _=>False
def lW (g:UG) (r:BE):BE:=fun us τ M Q=>match us with
 | u :: us=>g u τ M fun τ1 M1=>r us τ1 M1 Q
 | _=>False
theorem N6:Bt K E4 qQ:=fun us vs σ τ H M Q' ru rs rm h Q c=>by
 cases us with
 | nil=>exact ⟨ru.inv_nil,c σ τ H M (aW.refl _ _) rm rs h⟩
 | cons _ _=>exact h.elim
theorem L8 {g:TG} {g':UG} {r:qD} {r':BE} (h1:zK K g g') (h2:Bt K r r'):Bt K (Br g r) (lW g' r'):=fun us vs σ τ H M Q' ru rs rm h Q c=>by
 cases us with
 | nil=>exact h.elim
 | cons u us =>
  obtain ⟨v,vs',rfl,a,b⟩:=ru.inv_cons
  exact ⟨v,vs',rfl,h1 u v σ τ H M _ a rs rm h _ fun σ1 τ1 H1 M1 s rm1 rs1 q=>h2 us vs' σ1 τ1 H1 M1 Q' (b.stp s) rs1 rm1 q Q fun σ2 τ2 H2 M2 s2=>c σ2 τ2 H2 M2 (s.trans s2)⟩
def jY (n:Nat) (r:BE):UG:=fun u τ M Q=>match u with
 | .tup us=>us.length=n/\r us τ M Q
 | _=>False
theorem Ox {n:Nat} {r:qD} {r':BE} (h2:Bt K r r'):zK K (ES K n r) (jY n r'):=fun u v σ τ H M Q' ru rs rm h Q c=>by
 cases u with
 | tup us =>
  obtain ⟨a,vs,rfl,s1,r1⟩:=ru.tup
  exact ⟨a,vs,rfl,s1,by rw [<- r1.length];exact h.1,h2 us vs σ τ H M Q' r1 rs rm h.2 Q c⟩
 | _=>exact h.elim
def bH (te:UE) (g:UG):US:=fun D τ M=>te τ M fun x M1=>g x τ M1 D.nx
theorem Aa {g:TG} {g':UG} (h1:bT K te te') (h2:zK K g g'):jG K (JD te g) (bH te' g'):=fun σ τ H M D' rs rm h D d =>
 h1 σ τ H M _ rs rm h _ fun u v M1 H1 s rm1 ru q=>h2 u v σ τ H1 M1 _ ru (rs.stp s) rm1 q _ fun σ1 τ1 H2 M2 s2 rm2 rs2 q2=>d.nx σ1 τ1 H2 M2 (s.trans s2) rm2 rs2 q2
def By (c:UT) (tb:US):US:=fun D τ M=>∃ (P:SU->aE->Prop) (μ:SU->aE->Nat),P τ M/\∀ τ M,P τ M->c τ M fun b M1=>if b=true then tb { D with nx:=fun τ' M'=>P τ' M'/\μ τ' M' < μ τ M,ct:=fun τ' M'=>P τ' M'/\μ τ' M' < μ τ M,bk:=D.nx } τ M1 else D.nx τ M1
theorem KN {c:TT} {c':UT} (hc:jQ K c c') (h1:jG K t t'):jG K (Fg c t) (By c' t'):=fun σ τ H M D' rs rm h D d=>by
 obtain ⟨P,μ,p0,turn⟩:=h
 refine ⟨fun m σ1 H1=>∃ τ1 M1,aW H M H1 M1/\RelM K H1 M1/\cJ K H1 M1 σ1 τ1/\P τ1 M1/\m=μ τ1 M1,⟨_,τ,M,aW.refl _ _,rm,rs,p0,rfl⟩,?_⟩
 rintro m σ1 H1 ⟨τ1,M1,s1,rm1,rs1,p1,rfl⟩
 refine hc σ1 τ1 H1 M1 _ rs1 rm1 (turn τ1 M1 p1) _ fun b M2 H2 s2 rm2 q=>?_
 cases b with
 | true =>
  refine ⟨fun σ3 H3=>∃ τ3 M3,aW H M H3 M3/\RelM K H3 M3/\cJ K H3 M3 σ3 τ3/\P τ3 M3/\μ τ3 M3 < μ τ1 M1,?_,?_⟩
  ·rintro σ3 H3 ⟨τ3,M3,s3,rm3,rs3,p3,lt⟩
   exact ⟨_,lt,τ3,M3,s3,rm3,rs3,p3,rfl⟩
  ·have d2:=d.stp (s1.trans s2)
   exact h1 σ1 τ1 H2 M2 _ (rs1.stp s2) rm2 q _ ⟨fun σ3 τ3 H3 M3 s3 rm3 rs3 q3=>⟨τ3,M3,(s1.trans s2).trans s3,rm3,rs3,q3.1,q3.2⟩,d2.rt,d2.nx,fun σ3 τ3 H3 M3 s3 rm3 rs3 q3=>⟨τ3,M3,(s1.trans s2).trans s3,rm3,rs3,q3.1,q3.2⟩⟩
 | false=>exact d.nx σ1 τ1 H2 M2 (s1.trans s2) rm2 (rs1.stp s2) q
structure Src where
 own:Option Addr
 xs:List U
def Src.ok (S:Src) (M:aE):Prop:=∀ a,S.own=some a->M a=some (.lst S.xs)
structure Walk (K:PySem.W.Frag) (J:It) (S:Src) (H:Hp) (M:aE):Prop where
 step:∀ H1 M1,aW H M H1 M1->RelM K H1 M1->S.ok M1->∀ (i:Nat) u,S.xs[i]?=some u->J.go i H1/\∀ x H2,J.yld i H1 x H2->aW H1 M1 H2 M1/\RelM K H2 M1/\aP K H2 M1 u x
 stop:∀ H1 M1,aW H M H1 M1->RelM K H1 M1->S.ok M1->J.stop S.xs.length H1
abbrev UI:=SU->aE->(Src->aE->Prop)->Prop
def vY (K:PySem.W.Frag) (t:TI) (t':UI):Prop:=∀ (σ:St) (τ:SU) (H:Hp) (M:aE) (R':Src->aE->Prop),cJ K H M σ τ->RelM K H M->t' τ M R' ->
 ∀ R:It->Hp->Prop,(∀ J S M1 H1,aW H M H1 M1->RelM K H1 M1->Walk K J S H1 M1->R' S M1->R J H1)->t σ H R
def HU (wi:UI) (g:UG) (tb:US):US:=fun D τ M=>wi τ M fun S M1=>∃ P:Nat->SU->aE->Prop,P 0 τ M1/\(∀ i τ M,P i τ M->S.ok M) /\
 (∀ i x τ M,S.xs[i]?=some x->P i τ M->g x τ M fun τ2 M2=>tb { D with nx:=P (i + 1),ct:=P (i + 1),bk:=D.nx } τ2 M2)/\∀ τ M,P S.xs.length τ M->D.nx τ M
theorem Ru {wi:TI} {wi':UI} {g:TG} {g':UG} (hi:vY K wi wi') (hg:zK K g g') (h1:jG K t t'):jG K (MC wi g t) (HU wi' g' t'):=fun σ τ H M D' rs rm h D d=>by
 refine hi σ τ H M _ rs rm h _ fun J S M0 H0 s0 rm0 w h=>?_
 obtain ⟨P,p0,hok,turn,fin⟩:=h
 refine ⟨fun i m σ1 H1=>∃ τ1 M1,aW H0 M0 H1 M1/\RelM K H1 M1/\cJ K H1 M1 σ1 τ1/\P i τ1 M1/\i<=S.xs.length/\m=S.xs.length - i,⟨_,τ,M0,aW.refl _ _,rm0,rs.stp s0,p0,Nat.zero_le _,rfl⟩,?_⟩
 rintro i m σ1 H1 ⟨τ1,M1,s1,rm1,rs1,p1,hle,rfl⟩
 have ok1:=hok i τ1 M1 p1
 by_cases hlt:i < S.xs.length
 ·obtain ⟨go,yl⟩:=w.step H1 M1 s1 rm1 ok1 i S.xs[i] (by simp [hlt])
  refine .inr ⟨go,fun σ3 H3=>∃ τ3 M3,aW H0 M0 H3 M3/\RelM K H3 M3/\cJ K H3 M3 σ3 τ3/\P (i + 1) τ3 M3,?_,fun x H2 y=>?_⟩
  ·rintro σ3 H3 ⟨τ3,M3,s3,rm3,rs3,p3⟩
   exact ⟨S.xs.length - (i + 1),by omega,τ3,M3,s3,rm3,rs3,p3,hlt,rfl⟩
  ·obtain ⟨s2,rm2,ru⟩:=yl x H2 y
   refine hg _ x σ1 τ1 H2 M1 _ ru (rs1.stp s2) rm2 (turn i S.xs[i] τ1 M1 (by simp [hlt]) p1) _ fun σ3 τ3 H3 M3 s3 rm3 rs3 q3=>?_
   have d3:=d.stp (((s0.trans s1).trans s2).trans s3)
   exact h1 σ3 τ3 H3 M3 _ rs3 rm3 q3 _ ⟨fun σ4 τ4 H4 M4 s4 rm4 rs4 q4=>⟨τ4,M4,((s1.trans s2).trans s3).trans s4,rm4,rs4,q4⟩,d3.rt,d3.nx,fun σ4 τ4 H4 M4 s4 rm4 rs4 q4=>⟨τ4,M4,((s1.trans s2).trans s3).trans s4,rm4,rs4,q4⟩⟩
 ·have e:i=S.xs.length:=by omega
  subst e
  exact .inl ⟨w.stop H1 M1 s1 rm1 ok1,d.nx σ1 τ1 H1 M1 (s0.trans s1) rm1 rs1 (fin τ1 M1 p1)⟩
end
end U2
namespace U2
open PySem L2
section
variable {K:PySem.W.Frag}
theorem J4 {a:Addr} {us:List U} {vs:List V} {H:Hp} {M:aE} (m:(M a=none/\Rd H a (.lst vs))\/KL K a vs) (r:aI K H M us vs):Walk K (OZ K a) ⟨none,us⟩ H M:=by
 have sq:∀ H1 M1,aW H M H1 M1->eV K H1 a vs:=fun H1 M1 s=>by
  rcases m with ⟨m,h⟩ | k
  ·exact .inl (Rd.stp s m h).2
  ·exact .inr k
 refine ⟨fun H1 M1 s rm _ i u e=>?_,fun H1 M1 s rm _=>⟨vs,sq H1 M1 s,by rw [r.length];exact Nat.le_refl _⟩⟩
 obtain ⟨v,e2,ru⟩:=r.get e
 refine ⟨⟨vs,v,sq H1 M1 s,e2⟩,fun x H2 y=>?_⟩
 obtain ⟨rfl,y⟩:=y
 have:=y vs (sq _ M1 s)
 rw [e2] at this;cases this
 exact ⟨aW.refl _ _,rm,ru.stp s⟩
theorem NM {a:Addr} {us:List U} {vs:List V} {H:Hp} {M:aE} (m:M a=none/\H a=some (.tup vs)) (r:aI K H M us vs):Walk K (UX K a) ⟨none,us⟩ H M:=by
 have sq:∀ H1 M1,aW H M H1 M1->fW K H1 a vs:=fun H1 M1 s=>by
  exact .inl (.inl (s.to m.2 m.1).1)
 refine ⟨fun H1 M1 s rm _ i u e=>?_,fun H1 M1 s rm _=>⟨vs,sq H1 M1 s,by rw [r.length];exact Nat.le_refl _⟩⟩
 obtain ⟨v,e2,ru⟩:=r.get e
 refine ⟨⟨vs,v,sq H1 M1 s,e2⟩,fun x H2 y=>?_⟩
 obtain ⟨rfl,y⟩:=y
 have:=y vs (sq _ M1 s)
 rw [e2] at this;cases this
 exact ⟨aW.refl _ _,rm,ru.stp s⟩
theorem Nd {a:Addr} {us:List U} {H:Hp} {M:aE}:Walk K (OZ K a) ⟨some a,us⟩ H M:=by
 refine ⟨fun H1 M1 s rm ok i u e=>?_,fun H1 M1 s rm ok=>?_⟩
 ·obtain ⟨vs,h1,r⟩:=rm a _ (ok a rfl)
  obtain ⟨v,e2,ru⟩:=r.get e
  refine ⟨⟨vs,v,.inl (.inl h1),e2⟩,fun x H2 y=>?_⟩
  obtain ⟨rfl,y⟩:=y
  have:=y vs (.inl (.inl h1))
  rw [e2] at this;cases this
  exact ⟨aW.refl _ _,rm,ru⟩
 ·obtain ⟨vs,h1,r⟩:=rm a _ (ok a rfl)
  exact ⟨vs,.inl (.inl h1),by rw [r.length];exact Nat.le_refl _⟩
def SJ (z:Str):It:=⟨fun i _=>i < z.cps.size,fun i H x H'=>H'=H/\∃ c,z.cps[i]?=some c/\x=.str ⟨#[c]⟩,fun i _=>i=z.cps.size⟩
def chars (z:Str):List U:=z.cps.toList.map fun c=>.str ⟨#[c]⟩
theorem MS {z:Str} {H:Hp} {M:aE}:Walk K (SJ z) ⟨none,chars z⟩ H M:=by
 refine ⟨fun H1 M1 s rm _ i u e=>?_,fun H1 M1 s rm _=>?_⟩
 ·have hi:i < z.cps.size:=by
   have:=(List.getElem?_eq_some_iff.mp e).1
   simpa [chars] using this
  refine ⟨hi,fun x H2 y=>?_⟩
  obtain ⟨rfl,c,h1,rfl⟩:=y
  have:u=.str ⟨#[c]⟩:=by
   simp only [chars,List.getElem?_map,Array.getElem?_toList,h1,Option.map_some] at e
   exact (Option.some.inj e).symm
  subst this
  exact ⟨aW.refl _ _,rm,fJ⟩
 ·show (chars z).length=z.cps.size
  simp [chars]
def SQ (K:PySem.W.Frag) (tl:TE):TI:=fun σ H R=>tl σ H fun x H1 =>
 (∃ a,x=.ref a/\(∃ xs,eV K H1 a xs)/\R (OZ K a) H1)\/(∃ a,x=.ref a/\(∃ xs,fW K H1 a xs)/\R (UX K a) H1)\/(∃ z,x=.str z/\R (SJ z) H1)
def pV (te:UE):UI:=fun τ M R=>te τ M fun u M1=>match u with
 | .lst us=>R ⟨none,us⟩ M1
 | .tup us=>R ⟨none,us⟩ M1
 | .str z=>R ⟨none,chars z⟩ M1
 | .ref a=>match M1 a with
  | some (.lst us)=>R ⟨some a,us⟩ M1
  | _=>False
 | _=>False
theorem Mu {te:TE} {te':UE} (h:bT K te te'):vY K (SQ K te) (pV te'):=fun σ τ H M R' rs rm q R c=>h σ τ H M _ rs rm q _ fun u v M1 H1 s1 rm1 ru h1=>by
 cases u with
 | lst us =>
  simp only [aP] at ru
  obtain ⟨a,vs,rfl,m,r⟩:=ru
  refine .inl ⟨a,rfl,⟨vs,?_⟩,c _ _ M1 H1 s1 rm1 (J4 m r) h1⟩
  rcases m with ⟨_,m⟩ | k
  ·exact .inl m
  ·exact .inr k
 | tup us =>
  simp only [aP] at ru
  obtain ⟨a,vs,rfl,m,r⟩:=ru
  refine .inr (.inl ⟨a,rfl,⟨vs,?_⟩,c _ _ M1 H1 s1 rm1 (NM m r) h1⟩)
  exact .inl (.inl m.2)
 | str z=>exact .inr (.inr ⟨z,ru.str,c _ _ M1 H1 s1 rm1 MS h1⟩)
 | ref a =>
  dsimp only at h1
  split at h1
  ·rename_i us e
   obtain ⟨vs,h2,r⟩:=rm1 a _ e
   exact .inl ⟨a,ru.ref,⟨vs,.inl (.inl h2)⟩,c _ _ M1 H1 s1 rm1 Nd h1⟩
  ·exact h1.elim
 | _=>exact h1.elim
def cY (lo:Int) (n:Nat):List U:=(List.range n).map fun (k:Nat)=>U.int (lo + (k:Int))
theorem Iw {lo:Int} {n:Nat} {H:Hp} {M:aE}:Walk K (O2 lo n) ⟨none,cY lo n⟩ H M:=by
 refine ⟨fun H1 M1 s rm _ i u e=>?_,fun H1 M1 s rm _=>?_⟩
 ·have hi:i < n:=by
   have:=(List.getElem?_eq_some_iff.mp e).1
   simpa [cY] using this
  refine ⟨hi,fun x H2 y=>?_⟩
  obtain ⟨rfl,rfl⟩:=y
  have:u=.int (lo + i):=by
   simp only [cY,List.getElem?_map,List.getElem?_range hi,Option.map_some] at e
   exact (Option.some.inj e).symm
  subst this
  exact ⟨aW.refl _ _,rm,dM⟩
 ·show n<=(cY lo n).length
  simp [cY]
def pQ (ta:UA):UI:=fun τ M R=>ta τ M fun us M1=>match us with
 | [.int j]=>-(2 ^ 62)<=j/\j < 2 ^ 62/\R ⟨none,cY 0 j.toNat⟩ M1
 | _=>False
def v5 (ta:UA):UI:=fun τ M R=>ta τ M fun us M1=>match us with
 | [.int i,.int j]=>(-(2 ^ 62)<=i/\i < 2 ^ 62/\-(2 ^ 62)<=j/\j < 2 ^ 62)/\R ⟨none,cY i (j - i).toNat⟩ M1
 | _=>False
theorem ND {ta:TA} {ta':UA} (h:lE K ta ta'):vY K (Pg ta) (pQ ta'):=fun σ τ H M R' rs rm q R c=>h σ τ H M _ rs rm q _ fun us vs M1 H1 s1 rm1 ru h1=>by
 split at h1
 ·rename_i j
  obtain ⟨v,vs',rfl,a,b⟩:=ru.inv_cons
  cases b.inv_nil
  cases a.int
  exact ⟨j,rfl,h1.1,h1.2.1,c _ _ M1 H1 s1 rm1 Iw h1.2.2⟩
 ·exact h1.elim
abbrev cF:=List U->aE->UK->Prop
def fZ (K:PySem.W.Frag) (sp:cF):Sp:=fun vs H Q _=>∃ us M Q',RelM K H M/\aI K H M us vs/\sp us M Q'/\cK K H M Q' Q
def pW (sp:cF) (dus:List U) (t:UA):UE:=fun τ M Q=>t τ M fun us M1=>sp (us++dus) M1 Q
theorem OE {sp:cF} {dus:List U} {dvs:List V} {E:XK} {t:TA} {t':UA} (hd:∀ H M,aI K H M dus dvs) (h:lE K t t'):bT K (Jg (fZ K sp) dvs E t) (pW sp dus t'):=fun σ τ H M Q' rs rm q Q c =>
 h σ τ H M _ rs rm q _ fun us vs M1 H1 s1 rm1 ru h1=>⟨us++dus,M1,Q',rm1,ru.append (hd _ _),h1,cK.stp c s1⟩
def Sub (M' M1:aE):Prop:=∀ b mo,M' b=some mo->M1 b=some mo
theorem Sub.refl (M:aE):Sub M M:=fun _ _ h=>h
theorem Sub.mup {M M1:aE} {p:Addr} {o:MO} (h:Sub M M1) (hp:M p=none):Sub M (mup M1 p o):=fun b mo e=>by
 have:b≠p:=fun z=>by subst z;rw [hp] at e;cases e
 rw [cA this];exact h b mo e
theorem Sub.less {M M1:aE} (h:Sub M M1) {H:Hp}:aW H M1 H M:=aW.less fun b e=>by
 cases q:M b with
 | none=>rfl
 | some mo=>rw [h b mo q] at e;cases e
theorem RelM.sub {H:Hp} {M M1:aE} (rm:RelM K H M1) (h:Sub M M1):RelM K H M:=fun a mo e=>(rm a mo (h a mo e)).stp (fun b q z=>h b _ z) (h.less) rfl
def Out (M1 M':aE) (u u':U):Prop:=u'=u\/∃ a us,u=.ref a/\M1 a=some (.lst us)/\M' a=none/\u'=.lst us
def hZ (Q:UK):UK:=fun u M1=>∃ u' M',Sub M' M1/\Out M1 M' u u'/\Q u' M'
theorem hZ.ok {H H1:Hp} {M M1:aE} {Q':UK} {Q:VK} {u:U} {v:V} (c:cK K H M Q' Q) (s:aW H M H1 M1) (rm:RelM K H1 M1) (ru:aP K H1 M1 u v) (h:hZ Q' u M1):Q v H1:=by
 obtain ⟨u',M',sb,o,q⟩:=h
 have s':aW H1 M1 H1 M':=sb.less
 refine c u' v M' H1 (s.trans s') (rm.sub sb) ?_ q
 rcases o with rfl | ⟨a,us,rfl,h1,h2,rfl⟩
 ·exact ru.stp s'
 ·obtain ⟨vs,h3,h4⟩:=rm a _ h1
  cases ru.ref
  exact Ba h2 h3 (h4.stp s')
def c9 (N:List Str) (us:List U):SU:=us.map some++List.replicate (N.length - us.length) none
def He (M:aE) (x:U):Prop:=∃ us,view M x=.lst us
def AL (r:U->List U->aE->UK->Prop) (to:UE) (t:UA):UE:=fun τ M Q=>to τ M fun x M1=>He M1 x/\t τ M1 fun xs M2=>r x xs M2 Q
def wR (r:U->List U->aE->UK->Prop) (to:UE):UE:=fun τ M Q=>to τ M fun x M1=>He M1 x/\r x [] M1 Q
theorem He.ty {H:Hp} {M:aE} {u:U} {v:V} (rm:RelM K H M) (ru:aP K H M u v) (h:He M u):Gz K "list" v H:=by
 obtain ⟨us,h⟩:=h
 obtain ⟨a,vs,rfl,s,_⟩:=iS rm ru h
 exact .inl ⟨rfl,vs,s⟩
theorem KA {r:V->List V->Hp->VK->Prop} {r':U->List U->aE->UK->Prop} {to:TE} {to':UE} {t:TA} {t':UA} (hr:nV K r r') (ho:bT K to to') (h:lE K t t') :
  bT K (PD K "list" r to t) (AL r' to' t'):=fun σ τ H M Q' rs rm q Q c =>
 ho σ τ H M _ rs rm q _ fun u v M1 H1 s1 rm1 ru h1=>⟨h1.1.ty rm1 ru,h σ τ H1 M1 _ (rs.stp s1) rm1 h1.2 _ fun us vs M2 H2 s2 rm2 rus h2=>hr v vs u us H2 M2 Q' rm2 (ru.stp s2) rus h2 Q (cK.stp c (s1.trans s2))⟩
theorem Qm {r:V->List V->Hp->VK->Prop} {r':U->List U->aE->UK->Prop} {to:TE} {to':UE} (hr:nV K r r') (ho:bT K to to') :
  bT K (Uo K "list" r to) (wR r' to'):=fun σ τ H M Q' rs rm q Q c =>
 ho σ τ H M _ rs rm q _ fun u v M1 H1 s1 rm1 ru h1=>⟨h1.1.ty rm1 ru,hr v [] u [] H1 M1 Q' rm1 ru .nil h1.2 Q (cK.stp c s1)⟩
theorem cK.write {H:Hp} {M:aE} {Q':UK} {Q:VK} {a:Addr} {us us':List U} {xs':List V} {r:U} {v:V} (c:cK K H M Q' Q) (rm:RelM K H M) (e:M a=some (.lst us)) (r1:aI K H M us' xs') (r2:aP K H M r v) (q:Q' r (mup M a (.lst us'))):Q v (upd H a (.lst xs')):=by
 have st:aW H M (upd H a (.lst xs')) (mup M a (.lst us')):=aW.write e
 exact c _ _ _ _ st (rm.put st ⟨xs',bQ,r1.stp st⟩) (r2.stp st) q
def iY:U->List U->aE->UK->Prop:=fun x ws M Q=>match x,ws with
 | .ref a,[w]=>match M a with
  | some (.lst us)=>us.length < sizeLine/\Q .non (mup M a (.lst (us++[w])))
  | _=>False
 | _,_=>False
theorem BB:nV K B5 iY:=fun x xs u us H M Q' rm ru rus h Q c=>by
 unfold iY at h
 split at h
 ·rename_i a w
  split at h
  ·rename_i ws e
   obtain ⟨vs,h1,r⟩:=rm a _ e
   obtain ⟨v,vs',rfl,a1,b⟩:=rus.inv_cons
   cases b.inv_nil
   cases ru.ref
   exact ⟨a,vs,v,rfl,rfl,h1,by rw [<- r.length];exact h.1,c.write rm e (r.append (.cons a1 .nil)) jD h.2⟩
  ·exact h.elim
 ·exact h.elim
def tH:U->List U->aE->UK->Prop:=fun x ws M Q=>match x,ws with
 | .ref a,[]=>match M a with
  | some (.lst us)=>match us.getLast? with
   | some w=>Q w (mup M a (.lst us.dropLast))
   | none=>False
  | _=>False
 | _,_=>False
theorem QT:nV K Vi tH:=fun x xs u us H M Q' rm ru rus h Q c=>by
 unfold tH at h
 split at h
 ·rename_i a
  split at h
  ·rename_i ws e
   split at h
   ·rename_i w e2
    obtain ⟨vs,h1,r⟩:=rm a _ e
    cases rus.inv_nil
    cases ru.ref
    rw [List.getLast?_eq_getElem?] at e2
    obtain ⟨v,h3,h4⟩:=r.get e2
    exact ⟨a,vs,v,rfl,rfl,h1,by rw [<- r.length];exact h3,c.write rm e r.dropLast h4 h⟩
   ·exact h.elim
  ·exact h.elim
 ·exact h.elim
def Ep (K:PySem.W.Frag):V->List V->Hp->VK->Prop:=fun x vs H Q=>∃ l b xs zs,x=.ref l/\vs=[.ref b]/\H l=some (.lst xs)/\eV K H b zs/\xs.length + zs.length<=sizeLine/\Q .non (upd H l (.lst (xs++zs)))
def jL:U->List U->aE->UK->Prop:=fun x ws M Q=>match x,ws with
 | .ref a,[w]=>match M a,view M w with
  | some (.lst us),.lst zs=>us.length + zs.length<=sizeLine/\Q .non (mup M a (.lst (us++zs)))
  | _,_=>False
 | _,_=>False
theorem Ii:nV K (Ep K) jL:=fun x xs u us H M Q' rm ru rus h Q c=>by
 unfold jL at h
 split at h
 ·rename_i a w
  split at h
  ·rename_i ws zs e e2
   obtain ⟨vs,h1,r⟩:=rm a _ e
   obtain ⟨v,vs',rfl,a1,b⟩:=rus.inv_cons
   cases b.inv_nil
   cases ru.ref
   obtain ⟨b,zvs,rfl,s2,r2⟩:=iS rm a1 e2
   exact ⟨a,b,vs,zvs,rfl,rfl,h1,s2,by rw [<- r.length,<- r2.length];exact h.1,c.write rm e (r.append r2) jD h.2⟩
  ·exact h.elim
 ·exact h.elim
def rO:U->List U->aE->UK->Prop:=fun x ws M Q=>match x,ws with
 | .ref a,[]=>match M a with
  | some (.lst us)=>Q .non (mup M a (.lst []))
  | _=>False
 | _,_=>False
def o6:List U->aE->UK->Prop:=fun us M Q=>match us with
 | [x]=>match view M x with
  | .lst ws=>Q (.int ws.length) M
  | .tup ws=>Q (.int ws.length) M
  | .str z=>z.length<=sizeLine/\Q (.int z.length) M
  | _=>False
 | _=>False
theorem Rp:Al K (fun xs H Q=>∃ x n,xs=[x]/\Tg K x H n/\Q (.int n) H) o6:=fun xs us H M Q' rm rus h Q c=>by
 unfold o6 at h
 split at h
 ·rename_i x
  obtain ⟨v,vs',rfl,a1,b⟩:=rus.inv_cons
  cases b.inv_nil
  split at h
  ·rename_i ws e
   obtain ⟨b,zvs,rfl,s2,r2⟩:=iS rm a1 e
   exact ⟨_,zvs.length,rfl,.inl ⟨zvs,s2,rfl⟩,c.here rm dM (by rw [<- r2.length];exact h)⟩
  ·rename_i ws e
   have e':=wQ e
   subst e'
   obtain ⟨b,zvs,rfl,s2,r2⟩:=a1.tup
   exact ⟨_,zvs.length,rfl,.inr ⟨zvs,s2,rfl⟩,c.here rm dM (by rw [<- r2.length];exact h)⟩
  ·rename_i z e
   have e':=A2 e
   subst e'
   cases a1.str
   exact ⟨_,z.length,rfl,⟨h.1,rfl⟩,c.here rm dM h.2⟩
  ·exact h.elim
 ·exact h.elim
def nG (C:Int->Prop) (g:Int->U):List U->aE->UK->Prop:=fun us M Q=>match us with
 | [.int i]=>C i/\Q (g i) M
 | _=>False
def w9 (g:Int->Int->U):List U->aE->UK->Prop:=fun us M Q=>match us with
 | [.int i,.int j]=>Q (g i j) M
 | _=>False
theorem aI.one {H:Hp} {M:aE} {u:U} {vs:List V} (h:aI K H M [u] vs):∃ v,vs=[v]/\aP K H M u v:=by
 obtain ⟨v,vs',rfl,a1,b⟩:=h.inv_cons
 cases b.inv_nil
 exact ⟨v,rfl,a1⟩
theorem aI.two {H:Hp} {M:aE} {u w:U} {vs:List V} (h:aI K H M [u,w] vs):∃ v z,vs=[v,z]/\aP K H M u v/\aP K H M w z:=by
 obtain ⟨v,vs',rfl,a1,b⟩:=h.inv_cons
 obtain ⟨z,rfl,b1⟩:=b.one
 exact ⟨v,z,rfl,a1,b1⟩
theorem HZ:Al K (fun xs H Q=>∃ i,xs=[.int i]/\i.natAbs.log2 < 1920/\Q (.str (toString i)) H) (nG (fun i=>i.natAbs.log2 < 1920) fun i=>.str (toString i)):=fun xs us H M Q' rm rus h Q c=>by
 unfold nG at h
 split at h
 ·rename_i i
  obtain ⟨v,rfl,a⟩:=rus.one
  cases a.int
  exact ⟨i,rfl,h.1,c.here rm fJ h.2⟩
 ·exact h.elim
def wW (o:Bool):List U->aE->UK->Prop:=fun us M Q=>match us with
 | [x]=>match view M x with
  | .lst ws=>jX o ws M Q
  | .tup ws=>jX o ws M Q
  | _=>False
 | _=>False
def kX:List U->aE->UK->Prop:=fun us M Q=>match us with
 | [x]=>match view M x with
  | .lst ws=>Q (.tup ws) M
  | .tup ws=>Q (.tup ws) M
  | _=>False
 | _=>False
theorem Kk:Al K (fun xs H Q=>∃ p ys,xs=[.ref p]/\((eV K H p ys/\∀ l,H l=none->Q (.ref l) (upd H l (.tup ys)))\/(fW K H p ys/\Q (.ref p) H))) kX:=fun xs us H M Q' rm rus h Q c=>by
 unfold kX at h
 split at h
 ·rename_i x
  obtain ⟨v,rfl,a1⟩:=rus.one
  split at h
  ·rename_i ws e
   obtain ⟨b,zvs,rfl,s2,r2⟩:=iS rm a1 e
   exact ⟨b,zvs,rfl,.inl ⟨s2,fun l hl=>c.tup rm r2 hl h⟩⟩
  ·rename_i ws e
   have e':=wQ e
   subst e'
   have a2:=a1
   obtain ⟨b,zvs,rfl,s2,r2⟩:=a1.tup
   exact ⟨b,zvs,rfl,.inr ⟨s2,c.here rm a2 h⟩⟩
  ·exact h.elim
 ·exact h.elim
def wV (M:aE) (x:U):Option String:=match x with
 | .non=>some "NoneType"
 | .bl _=>some "bool"
 | .int _=>some "int"
 | .str _=>some "str"
 | .tup _=>some "tuple"
 | .lst _=>some "list"
 | .ref a=>match M a with
  | some (.lst _)=>some "list"
  | some (.dK _)=>some "dict"
  | some (.dT _)=>some "dict"
  | _=>none
 | .dic _ _ _=>some "dict"
 | .ty _=>none
def yW:U->U->Option Bool
 | .non,.non=>some true
 | .non,.int _=>some false | .int _,.non=>some false | .non,.bl _=>some false | .bl _,.non=>some false | .non,.str _=>some false | .str _,.non=>some false
 | .int i,.int j=>some (decide (i=j))
 | .bl i,.bl j=>some (decide (i=j))
 | .str i,.str j=>some (decide (i=j))
 | .int _,.str _=>some false | .str _,.int _=>some false | .bl _,.str _=>some false | .str _,.bl _=>some false
 | _,_=>none
def AR:dW:=fun x y M Q=>match yW x y with
 | some b=>Q (.bl b) M
 | none=>False
def A1:dW:=fun x y M Q=>match yW x y with
 | some b=>Q (.bl (!b)) M
 | none=>False
theorem GD {H:Hp} {M:aE} {x y:V} {u w:U} {b:Bool} (ru:aP K H M u x) (rw:aP K H M w y) (h:yW u w=some b):Iu x y=true/\decide (x=y)=b:=by
 cases u <;> cases w <;> simp only [yW,Option.some.injEq,reduceCtorEq] at h <;> subst h <;>
  (first
   | (cases ru.non) | (cases ru.bl) | (cases ru.int) | (cases ru.str)) <;>
  (first
   | (cases rw.non) | (cases rw.bl) | (cases rw.int) | (cases rw.str)) <;> simp [Iu]
def eH:U->Bool
 | .non=>true
 | _=>false
def tS:dW:=fun x y M Q=>match y with
 | .non=>Q (.bl (eH x)) M
 | _=>False
def u7:dW:=fun x y M Q=>match y with
 | .non=>Q (.bl (!eH x)) M
 | _=>False
theorem QV {H:Hp} {M:aE} {x:V} {u:U} (ru:aP K H M u x):decide (x=.non)=eH u:=by
 cases u with
 | non=>cases ru.non;simp [eH]
 | bl b=>cases ru.bl;simp [eH]
 | int b=>cases ru.int;simp [eH]
 | str b=>cases ru.str;simp [eH]
 | ty b=>cases ru.ty;simp [eH]
 | ref b=>cases ru.ref;simp [eH]
 | tup b=>obtain ⟨a,vs,rfl,_⟩:=ru.tup;simp [eH]
 | lst b=>obtain ⟨a,vs,rfl,_⟩:=ru.lst;simp [eH]
 | dic ks tk us=>simp only [aP] at ru;obtain ⟨a,vs,rfl,_⟩:=ru;simp [eH]
theorem RM:eX K (fun x y H Q=>y=.non/\Q (.bl (decide (x=.non))) H) tS:=fun x y u w H M Q' rm ru rw h Q c=>by
 unfold tS at h
 split at h
 ·exact ⟨rw.non,c.here rm (by rw [QV ru];exact cX) h⟩
 ·exact h.elim
def xZ (neg:Bool):dW:=fun x y M Q=>match x,y with
 | .str i,.str j=>Q (.bl (if neg then !(!(Builtin.Str.occurrences j i 0 j.length 1).isEmpty) else !(Builtin.Str.occurrences j i 0 j.length 1).isEmpty)) M
 | _,_=>False
end
end U2
namespace U2
open PySem L2
def eG {α:Type} (k:Nat) (ix:List Nat) (σ:List (Option α)):List (Option α):=List.replicate k none++ix.map fun i=>(σ[i]?).getD none
def DH (k:Nat) (ix:List Nat) (wi:TI) (g:TG) (tc:TT) (te:TE):TE:=fun σ H Q=>wi σ H fun J H1=>∀ D,H1 D=none->∃ W:Nat->Nat->Hp->Prop,(∃ m,W 0 m (upd H1 D (.lst [])))/\∀ i m H,W i m H ->
 (J.stop i H/\Q (.ref D) H)\/(J.go i H/\∀ x H',J.yld i H x H'->g x (eG k ix σ) H' fun σ2 H2=>tc σ2 H2 fun ok H3 =>
  if ok=true then te σ2 H3 fun y H4=>∃ ys,H4 D=some (.lst ys)/\ys.length < sizeLine/\∃ m',m' < m/\W (i + 1) m' (upd H4 D (.lst (ys++[y]))) else ∃ m',m' < m/\W (i + 1) m' H3)
def R5 (o:Bool) (Q:UK) (D:Addr) (ys:List U) (M:aE):Prop:=match o with
 | true=>Q (.ref D) M
 | false=>∃ M',Sub M' M/\M' D=none/\Q (.lst ys) M'
def Bo (o:Bool) (k:Nat) (ix:List Nat) (wi:UI) (g:UG) (tc:UT) (te:UE):UE:=fun τ M Q=>wi τ M fun S M1=>S.xs.length<=sizeLine/\∀ D,M1 D=none->∃ P:Nat->List U->aE->Prop,P 0 [] (mup M1 D (.lst [])) /\
 (∀ i ys M,P i ys M->S.ok M/\M D=some (.lst ys)/\ys.length<=i) /\
 (∀ i x ys M,S.xs[i]?=some x->P i ys M->g x (eG k ix τ) M fun τ2 M2=>tc τ2 M2 fun ok M3=>if ok=true then te τ2 M3 fun y M4=>M4 D=some (.lst ys)/\P (i + 1) (ys++[y]) (mup M4 D (.lst (ys++[y]))) else P (i + 1) ys M3) /\
 ∀ ys M,P S.xs.length ys M->R5 o Q D ys M
section
variable {K:PySem.W.Frag}
theorem Oi {H:Hp} {M:aE} {σ:St} {τ:SU} (k:Nat) (ix:List Nat) (r:cJ K H M σ τ):cJ K H M (eG k ix σ) (eG k ix τ):=by
 refine ⟨by simp [eG],fun i u e=>?_⟩
 unfold eG at e ⊢
 by_cases hi:i < k
 ·rw [List.getElem?_append_left (by simpa using hi),List.getElem?_replicate] at e
  split at e <;> cases e
 ·rw [List.getElem?_append_right (by simpa using Nat.le_of_not_lt hi),List.getElem?_map] at e ⊢
  simp only [List.length_replicate] at e ⊢
  cases q:ix[i - k]? with
  | none=>rw [q] at e;cases e
  | some j =>
   rw [q] at e
   simp only [Option.map_some,Option.some.injEq] at e ⊢
   cases z:τ[j]? with
   | none=>rw [z] at e;cases e
   | some w =>
    rw [z] at e
    simp only [Option.getD_some] at e
    subst e
    obtain ⟨v,h1,h2⟩:=r.2 j u z
    exact ⟨v,by rw [h1];rfl,h2⟩
theorem D6 {o:Bool} {k:Nat} {ix:List Nat} {wi:TI} {wi':UI} {g:TG} {g':UG} {tc:TT} {tc':UT} {te:TE} {te':UE} (hi:vY K wi wi') (hg:zK K g g') (hc:jQ K tc tc') (he:bT K te te') :
  bT K (DH k ix wi g tc te) (Bo o k ix wi' g' tc' te'):=fun σ τ H M Q' rs rm h Q c=>by
 refine hi σ τ H M _ rs rm h _ fun J S M1 H1 s1 rm1 w h=>?_
 obtain ⟨hz,h⟩:=h
 intro D hD
 obtain ⟨P,p0,inv,turn,fin⟩:=h D (rm1.no hD)
 have sD:aW H1 M1 (upd H1 D (.lst [])) (mup M1 D (.lst [])):=aW.own rm1 hD
 have rmD:RelM K (upd H1 D (.lst [])) (mup M1 D (.lst [])):=rm1.put sD ⟨[],bQ,.nil⟩
 refine ⟨fun i m H2=>∃ M2 ys,aW H1 M1 H2 M2/\RelM K H2 M2/\P i ys M2/\i<=S.xs.length/\m=S.xs.length - i,⟨_,_,[],sD,rmD,p0,Nat.zero_le _,rfl⟩,?_⟩
 rintro i m H2 ⟨M2,ys,s2,rm2,p2,hle,rfl⟩
 obtain ⟨ok2,d2,l2⟩:=inv i ys M2 p2
 by_cases hlt:i < S.xs.length
 ·obtain ⟨go,yl⟩:=w.step H2 M2 s2 rm2 ok2 i S.xs[i] (by simp [hlt])
  refine .inr ⟨go,fun x H3 y=>?_⟩
  obtain ⟨s3,rm3,ru⟩:=yl x H3 y
  have rs3:cJ K H3 M2 (eG k ix σ) (eG k ix τ):=Oi k ix (((rs.stp s1).stp s2).stp s3)
  refine hg _ x _ _ H3 M2 _ ru rs3 rm3 (turn i S.xs[i] ys M2 (by simp [hlt]) p2) _ fun σ4 τ4 H4 M4 s4 rm4 rs4 q4=>?_
  refine hc σ4 τ4 H4 M4 _ rs4 rm4 q4 _ fun b M5 H5 s5 rm5 q5=>?_
  have s25:aW H1 M1 H5 M5:=((s2.trans s3).trans s4).trans s5
  cases b with
  | false =>
   exact ⟨S.xs.length - (i + 1),by omega,M5,ys,s25,rm5,q5,hlt,rfl⟩
  | true =>
   refine he σ4 τ4 H5 M5 _ (rs4.stp s5) rm5 q5 _ fun u v M6 H6 s6 rm6 ru6 q6=>?_
   obtain ⟨d6,p6⟩:=q6
   obtain ⟨vs,h6,r6⟩:=rm6 D _ d6
   have l6:vs.length < sizeLine:=by rw [<- r6.length];omega
   have s7:aW H6 M6 (upd H6 D (.lst (vs++[v]))) (mup M6 D (.lst (ys++[u]))):=aW.write d6
   exact ⟨vs,h6,l6,S.xs.length - (i + 1),by omega,_,ys++[u],(s25.trans s6).trans s7,rm6.put s7 ⟨_,bQ,(r6.append (.cons ru6 .nil)).stp s7⟩,p6,hlt,rfl⟩
 ·have e:i=S.xs.length:=by omega
  subst e
  refine .inl ⟨w.stop H2 M2 s2 rm2 ok2,?_⟩
  have q:=fin ys M2 p2
  cases o with
  | true=>exact c _ _ M2 H2 (s1.trans s2) rm2 rL q
  | false =>
   obtain ⟨M',sb,n,q⟩:=q
   obtain ⟨vs,h6,r6⟩:=rm2 D _ d2
   have s':aW H2 M2 H2 M':=sb.less
   exact c _ _ M' H2 ((s1.trans s2).trans s') (rm2.sub sb) (Ba n h6 (r6.stp s')) q
end
theorem Lu {o:Bool} {k:Nat} {ix:List Nat} {wi:UI} {g:UG} {tc:UT} {te:UE} {τ:SU} {M1:aE} {Q:UK} {S:Src} (f:U->Option U) (hz:S.xs.length<=sizeLine) (hs:S.ok M1)
  (h:∀ x∈S.xs,∀ M,Sub M1 M->∀ R:Option U->aE->Prop,R (f x) M->g x (eG k ix τ) M fun τ2 M2=>tc τ2 M2 fun ok M3=>if ok=true then te τ2 M3 fun y M4=>R (some y) M4 else R none M3)
  (q:jX o (S.xs.filterMap f) M1 Q):S.xs.length<=sizeLine/\∀ D,M1 D=none->∃ P:Nat->List U->aE->Prop,P 0 [] (mup M1 D (.lst [])) /\
 (∀ i ys M,P i ys M->S.ok M/\M D=some (.lst ys)/\ys.length<=i) /\
 (∀ i x ys M,S.xs[i]?=some x->P i ys M->g x (eG k ix τ) M fun τ2 M2=>tc τ2 M2 fun ok M3=>if ok=true then te τ2 M3 fun y M4=>M4 D=some (.lst ys)/\P (i + 1) (ys++[y]) (mup M4 D (.lst (ys++[y]))) else P (i + 1) ys M3) /\
 ∀ ys M,P S.xs.length ys M->R5 o Q D ys M:=by
 refine ⟨hz,fun D hD=>⟨fun i ys M=>ys=(S.xs.take i).filterMap f/\M=mup M1 D (.lst ys)/\i<=S.xs.length,⟨by simp,rfl,Nat.zero_le _⟩,?_,?_,?_⟩⟩
 ·rintro i ys M ⟨rfl,rfl,hi⟩
  refine ⟨fun a e=>?_,bM,?_⟩
  ·have:=hs a e
   rw [cA (fun z=>by subst z;rw [hD] at this;cases this)]
   exact this
  ·refine Nat.le_trans (List.length_filterMap_le _ _) ?_
   rw [List.length_take];omega
 ·rintro i x ys M e ⟨rfl,rfl,hi⟩
  have hlt:i < S.xs.length:=(List.getElem?_eq_some_iff.mp e).1
  have hx:x∈S.xs:=List.mem_of_getElem? e
  have tk:(S.xs.take (i + 1)).filterMap f=(S.xs.take i).filterMap f++(f x).toList:=by
   rw [List.take_add_one,e,List.filterMap_append]
   cases q:f x <;> simp [q]
  refine h x hx (mup M1 D (.lst ((S.xs.take i).filterMap f))) ((Sub.refl M1).mup hD) (fun r M4=>match r with
   | some y=>M4 D=some (.lst ((S.xs.take i).filterMap f))/\((S.xs.take i).filterMap f++[y]=(S.xs.take (i + 1)).filterMap f/\mup M4 D (.lst ((S.xs.take i).filterMap f++[y]))=mup M1 D (.lst ((S.xs.take i).filterMap f++[y]))/\i + 1<=S.xs.length)
   | none=>(S.xs.take i).filterMap f=(S.xs.take (i + 1)).filterMap f/\M4=mup M1 D (.lst ((S.xs.take i).filterMap f))/\i + 1<=S.xs.length) ?_
  rw [tk]
  cases f x with
  | none=>exact ⟨by simp,rfl,hlt⟩
  | some y=>exact ⟨bM,rfl,gI,hlt⟩
 ·rintro ys M ⟨rfl,rfl,hi⟩
  rw [List.take_length]
  cases o with
  | true=>exact q D hD
  | false=>exact ⟨M1,(Sub.refl M1).mup hD,hD,q⟩
end U2
namespace U2
open PySem PySem.Spec PyProof.Rows L2
theorem EB {P:Program} {w:World} {K:PySem.W.Frag} {tg:Expr} {ty:String} (z:Str) (t:Tok) (it:Addr)
  (W:∀ A':Around,A'.handled=none->Walks P w A' it [it] [it] z.cps.size (SignAt z) (fun i h=>h.IsStrIter it ty z t i))
  (hty:["enumerate","zip","dict_itemiterator","dict_reverseitemiterator","odict_iterator","itertools.zip_longest","itertools.pairwise"].contains ty=false)
  (self:∀ (A:Around) (i:Nat) (s:Shared) (Q:Value->Shared->Prop) (E:Value->Shared->Prop),s.heap.IsStrIter it ty z t i->Q (.ref it) s->wpAny (model P w) A (pyIter (.ref it)) Q E s) :
  Turn P w K tg (SJ z) [it] it (fun i h=>h.IsStrIter it ty z t i) where
 mem:=by simp
 obj:=fun i h st b hb=>by
  have e:b=it:=by simpa using hb
  subst e
  obtain ⟨o,e,c,d⟩:=st
  exact ⟨o,e,fun v z=>by rw [d] at z;cases z⟩
 keep:=fun i h h' st k=>let ⟨o,ho,r⟩:=st;⟨o,k it (by simp) o ho,r⟩
 item:=by
  intro X hP hw hK hc i pins s σ H E I hf st hg
  subst hP hw hK
  obtain ⟨f0,f1,f2,f3,f4,f5⟩:=hf it (by simp)
  refine (W X.A (I.ok.hd hc)).item i s _ E hg st fun v h' tk hv st' k=>?_
  obtain ⟨c,u,hc',rfl⟩:=hv
  have I1:Inv X pins σ H { s with heap:=h',toks:=tk }:=I.turned (t':=tk) (fun b o hb e=>k b o (by simpa using hb) e) f0 f1 f3 f4 f5
  obtain ⟨o,e,cl,d⟩:=id st'
  exact ⟨_,rfl,DJ (s:={ s with heap:=h',toks:=tk }) e cl d hty ⟨.str ⟨#[c]⟩,H,I1,⟨_,rfl⟩,⟨rfl,c,hc',rfl⟩,st',fun b hb=>(hf b hb).1⟩⟩
 done:=by
  intro X hP hw hK hc i pins s σ H E I hf st hg
  subst hP hw hK
  have hg':i=z.cps.size:=hg
  subst hg'
  obtain ⟨f0,f1,f2,f3,f4,f5⟩:=hf it (by simp)
  exact (W X.A (I.ok.hd hc)).done s _ E st fun h' tk k=>⟨rfl,I.turned (t':=tk) (fun b o hb e=>k b o (by simpa using hb) e) f0 f1 f3 f4 f5⟩
 self:=self
section
variable {X:Cx} {tg:Expr}
theorem TR {l:Expr} {tl:TE} (hl:PE X l tl):PI X tg l (SQ X.K tl):=by
 intro pins s σ H R I h
 refine aZ (hl pins s σ H _ I h) fun v s1 ⟨x,H1,I1,r1,q1⟩=>?_
 have fp:∀ b∈[s1.heap.objs.size],tV X pins H1 b:=fun b hb=>by
  have e:b=s1.heap.objs.size:=by simpa using hb
  subst e
  exact I1.fpOk (Nat.le_refl _) (I1.hok.fresh (Nat.le_refl _))
 rcases q1 with ⟨a,rfl,⟨xs,hq⟩,q⟩ | ⟨a,rfl,⟨xs,hq⟩,q⟩ | ⟨z,rfl,q⟩
 ·cases r1
  obtain ⟨its,rv,p,hz⟩:=I1.list hq
  refine wpAny_pyIter_list p.isList ?_
  exact ⟨s1.heap.objs.size,[s1.heap.objs.size],_,_,H1,rfl,I1.kept (t':=s1.toks) fun b o e=>Heap.get?_push_of_some _ e,JU a _,⟨_,Heap.get?_push_size _ rfl,rfl,rfl⟩,fp,q⟩
 ·cases r1
  obtain ⟨its,rv,p,hz⟩:=I1.tuple hq
  refine wpAny_pyIter_tuple (show s1.heap.IsTuple a its.toArray from p) ?_
  exact ⟨s1.heap.objs.size,[s1.heap.objs.size],_,_,H1,rfl,I1.kept (t':=s1.toks) fun b o e=>Heap.get?_push_of_some _ e,Ib a _,⟨_,Heap.get?_push_size _ rfl,rfl,rfl⟩,fp,q⟩
 ·obtain ⟨t,rfl⟩:=r1
  cases ha:z.cps.all (· < 128)
  ·refine wpAny_pyIter_wide ha ?_
   exact ⟨s1.heap.objs.size,[s1.heap.objs.size],_,_,H1,rfl,I1.kept (t':=s1.toks) fun b o e=>Heap.get?_push_of_some _ e,
    EB z t _ (fun A' hA=>Walks.strWide hA _ z t) (by decide) (fun A i s Q E st h=>wpAny_pyIter_striter_wide st h),⟨_,Heap.get?_push_size _ rfl,rfl,rfl⟩,fp,q⟩
  ·refine wpAny_pyIter_ascii ha ?_
   exact ⟨s1.heap.objs.size,[s1.heap.objs.size],_,_,H1,rfl,I1.kept (t':=s1.toks) fun b o e=>Heap.get?_push_of_some _ e,
    EB z t _ (fun A' hA=>Walks.strAscii hA _ z t) (by decide) (fun A i s Q E st h=>wpAny_pyIter_striter_ascii st h),⟨_,Heap.get?_push_size _ rfl,rfl,rfl⟩,fp,q⟩
end
section
variable {prog:Program} {w:World} {A:Around} {R:Result->Shared->Prop} {s:Shared}
theorem FJ {elt target iter:Expr} {ifs:List Expr} {scope:Scope} {pos:Pos} {it acc:Value} {env:Env} (I:Nat->Shared->Prop)
  (turn:∀ n s,I n s->wpAny (model prog w) A (pyNext it) (fun r s₁=>match r with
   | none=>R (.ok .next) s₁
   | some v=>wpAny (model prog w) A (letOwnedTupleGo target it v) (fun _ s₀=>wpAny (model prog w) A (assign target env v) (fun _ s₂ =>
     wpAny (model prog w) A (forIn ifs true fun c r=>if r=true then do let ok <- isTrue c env (eval c env);pure (ForInStep.yield ok) else pure (ForInStep.yield r)) (fun ok s₃ =>
      if ok=true then wpAny (model prog w) A (eval elt env) (fun x s₄ =>
       wpAny (model prog w) A (call (.builtin "list.append") [acc,x]) (fun _ s₅=>∃ m,m < n/\I m s₅) (fun _ _=>False) s₄) (fun _ _=>False) s₃
      else ∃ m,m < n/\I m s₃) (fun _ _=>False) s₂) (fun _ _=>False) s₀) (fun _ _=>False) s₁) (fun _ _=>False) s)
  (n:Nat) (h:I n s) :
  codeAny (model prog w) A (.compLoop (.ListComp elt [⟨target,iter,ifs,0⟩] scope pos) 0 it acc env) R s:=by
 refine codeAny_loop rfl I (fun n s hI=>?_) n h
 show wpAny _ A ((compTurn (.ListComp elt [⟨target,iter,ifs,0⟩] scope pos) 0 it acc env).onRaise (fun x=>do noteFrame x env;theTreesLotGoes x)) _ _ s
 refine wpAny_noted ?_
 rw [compTurn_list]
 refine wpAny_bind (wpAny_standAt (wpAny_bind (wpAny_mono (turn n s hI) (fun r s₁ h₁=>?_) fun _ _ h'=>h'.elim)))
 cases r with
 | none=>exact wpAny_pure h₁
 | some v =>
  refine wpAny_bind (wpAny_mono h₁ (fun _ s₀ h₀=>?_) fun _ _ h'=>h'.elim)
  refine wpAny_bind (wpAny_mono h₀ (fun _ s₂ h₂=>wpAny_bind (wpAny_mono h₂ (fun ok s₃ h₃=>?_) fun _ _ h'=>h'.elim)) fun _ _ h'=>h'.elim)
  cases ok with
  | false=>exact wpAny_pure ⟨rfl,h₃⟩
  | true =>
   exact wpAny_bind (wpAny_bind (wpAny_mono h₃ (fun x s₄ h₄=>wpAny_bind (wpAny_mono h₄ (fun _ s₅ h₅=>wpAny_pure (wpAny_pure ⟨rfl,h₅⟩)) fun _ _ h'=>h'.elim)) fun _ _ h'=>h'.elim))
theorem u9 {env:Env}:∀ (names:List (Str × NameKind)) (cs:List (Str × Addr)),(∀ x∈names,x.2=.free->∃ c,env.cells.lookup x.1=some c) ->
  (∀ x c,cs.lookup x=some c->env.cells.lookup x=some c) ->
  ∃ cl,(forIn names cs fun (x:Str × NameKind) (cs:List (Str × Addr))=>(if (x.2 == NameKind.free)=true then do let c <- cellOf env x.1;pure (ForInStep.yield ((x.1,c) :: cs)) else pure (ForInStep.yield cs):Sem (ForInStep (List (Str × Addr)))))=pure cl /\
   (∀ x c,cl.lookup x=some c->env.cells.lookup x=some c)/\(∀ x,(∃ c,cs.lookup x=some c)\/(x,NameKind.free)∈names->∃ c,cl.lookup x=some c)
 | [],cs,_,h=>⟨cs,rfl,h,fun x hx=>by rcases hx with hx | hx;exact hx;cases hx⟩
 | (n,k) :: r,cs,hf,h=>by
  rw [List.forIn_cons]
  by_cases hk:k=.free
  ·subst hk
   obtain ⟨c,hc⟩:=hf (n,.free) List.mem_cons_self rfl
   have e:cellOf env n=pure c:=by unfold cellOf;rw [hc]
   simp only [beq_self_eq_true,if_true,e,pure_bind]
   obtain ⟨cl,h1,h2,h3⟩:=u9 r ((n,c) :: cs) (fun x hx=>hf x (List.mem_cons_of_mem _ hx)) (fun x d q=>by
    rw [List.lookup_cons] at q
    split at q
    ·rename_i e;cases q;rw [beq_iff_eq.mp e];exact hc
    ·exact h x d q)
   refine ⟨cl,h1,h2,fun x hx=>h3 x ?_⟩
   rcases hx with ⟨d,hd⟩ | hx
   ·left
    rw [List.lookup_cons]
    split
    ·exact ⟨_,rfl⟩
    ·exact ⟨d,hd⟩
   ·rcases List.mem_cons.mp hx with e | hx
    ·left;cases e;exact ⟨c,by simp [List.lookup_cons]⟩
    ·exact .inr hx
  ·have hb:(k == NameKind.free)=false:=by simpa using hk
   simp only [hb,Bool.false_eq_true,if_false,pure_bind]
   obtain ⟨cl,h1,h2,h3⟩:=u9 r cs (fun x hx=>hf x (List.mem_cons_of_mem _ hx)) h
   refine ⟨cl,h1,h2,fun x hx=>h3 x ?_⟩
   rcases hx with hx | hx
   ·exact .inl hx
   ·rcases List.mem_cons.mp hx with e | hx
    ·cases e;exact absurd rfl hk
    ·exact .inr hx
theorem u6 {env:Env} {scope:Scope} (hf:∀ x∈scope.names,x.2=.free->∃ c,env.cells.lookup x.1=some c) :
  ∃ cl,closureFor scope env=pure cl/\(∀ x c,cl.lookup x=some c->env.cells.lookup x=some c)/\(∀ x,(x,NameKind.free)∈scope.names->∃ c,cl.lookup x=some c):=by
 obtain ⟨cl,h1,h2,h3⟩:=u9 (env:=env) scope.names [] hf (fun x c h=>by cases h)
 refine ⟨cl,?_,h2,fun x hx=>h3 x (.inr hx)⟩
 unfold closureFor
 first
  | exact h1
  | (have:_:=h1;simpa using this)
end
def eB (X:Cx) (N:List Str) (scope:Scope) (cl:List (Str × Addr)) (C:Addr) (s:Shared) (H:Hp) (fp:List Addr):Cx where
 prog:=X.prog
 w:=X.w
 K:=X.K
 mg:=X.mg
 base:=X.base
 A:=X.A
 N:=N
 s₀:=s
 H₀:=H
 env:=compEnvC scope cl C X.env
 outer:=X.stack
 stack:=X.stack
 ex:=fp
 fn:=fun _=>false
 calm:=X.calm
 pn:=[]
 xe:=fun _ _=>False
def Hm (X:Cx) (ifs:List Expr) (t:TT):Prop :=
 ∀ (pins:List (Addr × Obj)) (s:Shared) (σ:L2.St) (H:Hp) (Q:Bool->Hp->Prop),Inv X pins σ H s->t σ H Q ->
  wpAny (model X.prog X.w) X.A (forIn ifs true fun c r=>if r=true then do let ok <- isTrue c X.env (eval c X.env);pure (ForInStep.yield ok) else pure (ForInStep.yield r)) (TP X pins σ Q) X.xe s
def U8:TT:=fun _ H Q=>Q true H
theorem Qs {X:Cx}:Hm X [] U8:=fun pins s σ H Q I h=>wpAny_tests_nil ⟨H,I,h⟩
theorem RP {X:Cx} {c:Expr} {t:TT} (h:PT X c t):Hm X [c] t:=fun pins s σ H Q I q=>wpAny_tests_one (h pins s σ H Q I q)
def GK (k:Nat) (g:TG):Prop:=∀ x σ H Q,g x σ H Q->g x σ H (fun σ2 H2=>(∀ j,k<=j->σ2[j]?=σ[j]?)/\Q σ2 H2)
def KW (k:Nat) (g:qD):Prop:=∀ xs σ H Q,g xs σ H Q->g xs σ H (fun σ2 H2=>(∀ j,k<=j->σ2[j]?=σ[j]?)/\Q σ2 H2)
theorem Q5 {k i:Nat} (h:i < k):GK k (xC i):=fun x σ H Q q=>⟨fun j hj=>by rw [List.getElem?_set,if_neg (by omega)],q⟩
theorem Sx {k:Nat}:KW k E4:=fun xs σ H Q q=>⟨q.1,fun j _=>rfl,q.2⟩
theorem Qh {k:Nat} {g:TG} {r:qD} (h1:GK k g) (h2:KW k r) (m2:∀ xs σ H Q Q',(∀ σ2 H2,Q σ2 H2->Q' σ2 H2)->r xs σ H Q->r xs σ H Q') (m1:∀ x σ H Q Q',(∀ σ2 H2,Q σ2 H2->Q' σ2 H2)->g x σ H Q->g x σ H Q'):KW k (Br g r):=fun xs σ H Q q=>by
 obtain ⟨v,r',rfl,q⟩:=q
 refine ⟨v,r',rfl,m1 _ _ _ _ _ (fun σ2 H2 z=>?_) (h1 _ _ _ _ q)⟩
 exact m2 _ _ _ _ _ (fun σ3 H3 y=>⟨fun j hj=>(y.1 j hj).trans (z.1 j hj),y.2⟩) (h2 _ _ _ _ z.2)
theorem Ua {i:Nat}:∀ x σ H (Q Q':L2.St->Hp->Prop),(∀ σ2 H2,Q σ2 H2->Q' σ2 H2)->xC i x σ H Q->xC i x σ H Q':=fun x σ H Q Q' h q=>h _ _ q
theorem Vy:∀ xs σ H (Q Q':L2.St->Hp->Prop),(∀ σ2 H2,Q σ2 H2->Q' σ2 H2)->E4 xs σ H Q->E4 xs σ H Q':=fun x σ H Q Q' h q=>⟨q.1,h _ _ q.2⟩
theorem To {g:TG} {r:qD} (m1:∀ x σ H Q Q',(∀ σ2 H2,Q σ2 H2->Q' σ2 H2)->g x σ H Q->g x σ H Q') (m2:∀ xs σ H Q Q',(∀ σ2 H2,Q σ2 H2->Q' σ2 H2)->r xs σ H Q->r xs σ H Q') :
  ∀ xs σ H (Q Q':L2.St->Hp->Prop),(∀ σ2 H2,Q σ2 H2->Q' σ2 H2)->Br g r xs σ H Q->Br g r xs σ H Q':=fun xs σ H Q Q' h q=>by
 obtain ⟨v,r',rfl,q⟩:=q
 exact ⟨v,r',rfl,m1 _ _ _ _ _ (fun σ2 H2 z=>m2 _ _ _ _ _ h z) q⟩
theorem Vg {K:PySem.W.Frag} {k n:Nat} {r:qD} (h:KW k r):GK k (ES K n r):=fun x σ H Q q=>by
 obtain ⟨a,xs,rfl,h1,h2,q⟩:=q
 exact ⟨a,xs,rfl,h1,h2,h _ _ _ _ q⟩
theorem VY {K:PySem.W.Frag} {n:Nat} {r:qD} (m2:∀ xs σ H Q Q',(∀ σ2 H2,Q σ2 H2->Q' σ2 H2)->r xs σ H Q->r xs σ H Q') :
  ∀ x σ H (Q Q':L2.St->Hp->Prop),(∀ σ2 H2,Q σ2 H2->Q' σ2 H2)->ES K n r x σ H Q->ES K n r x σ H Q':=fun x σ H Q Q' h q=>by
 obtain ⟨a,xs,rfl,h1,h2,q⟩:=q
 exact ⟨a,xs,rfl,h1,h2,m2 _ _ _ _ _ h q⟩
theorem CZ {X:Cx} {tg elt iter:Expr} {ifs:List Expr} {scope:Scope} {pos:Pos} {N:List Str} {k:Nat} {ix:List Nat} {wi:TI} {g:TG} {tc:TT} {te:TE}
  (hc:X.calm=true) (hi:PI X tg iter wi) (gk:GK k g)
  (hk:scope.kind=.function) (hcell:∀ y∈scope.names,y.2≠.cell) (hnames:∀ y∈scope.names,y.2=.local->scope.names.lookup y.1=some .local)
  (hfree:∀ y∈scope.names,y.2=.free->X.env.kindOf y.1=some .cell\/X.env.kindOf y.1=some .free)
  (hone:∀ y∈scope.names,y.2=.free->scope.names.lookup y.1=some .free)
  (hN:∀ (j:Nat) x,N[k + j]?=some x->∃ i,ix[j]?=some i/\X.N[i]?=some x)
  (hcap:∀ (j:Nat) x,N[k + j]?=some x->scope.names.lookup x=some .free)
  (hlen:N.length=k + ix.length)
  (hg:∀ cl C s H fp,PG (eB X N scope cl C s H fp) tg g)
  (hif:∀ cl C s H fp,Hm (eB X N scope cl C s H fp) ifs tc)
  (he:∀ cl C s H fp,PE (eB X N scope cl C s H fp) elt te)
  (hs:∀ x,foldedSetIterable iter X.env x=pure x) {pins:List (Addr × Obj)} {s:Shared} {σ:L2.St} {H:Hp} {Q:VK} (I:L2.Inv X pins σ H s) (h:DH k ix wi g tc te σ H Q) {pos':Pos} {use:Option (Value->Sem Unit)} {QQ:Value->Shared->Prop}
  (end_:∀ (D C:Addr) (H3:Hp) (s4:Shared),L2.Inv X pins σ H3 s4->(∃ m,s4.heap.Ns C m)->H3 C=none->C≠X.env.locals->X.s₀.heap.objs.size<=C->(∀ x c,X.env.cells.lookup x=some c->c≠C)->(∀ p∈X.pn++pins,p.1≠C) ->
   (∀ h':Heap,Heap.SameBut C s4.heap h'->L2.Inv X pins σ H3 { s4 with heap:=h' })->Q (.ref D) H3->compPost (model X.prog X.w) X.A X.xe use QQ (.ref D) C (.ok .next) s4) :
  wpAny (model X.prog X.w) X.A (comprehension (.ListComp elt [⟨tg,iter,ifs,0⟩] scope pos) scope X.env pos' (newList []) false (eval iter X.env) use) QQ X.xe s:=by
 obtain ⟨cl,hclos,hcl,hcl2⟩:=u6 (env:=X.env) (scope:=scope) (fun x hx e=>I.ok.has x.1 (hfree x hx e))
 refine wpAny_comprehension_free (use:=use) rfl hs hclos hk hnames (aZ (hi pins s σ H _ I h) fun v s1 h1=>aZ h1 fun itv s2 h2=>?_)
 obtain ⟨it,fp,tn,J,H2,rfl,I2,T,st2,f2,h2⟩:=h2
 refine wpAny_newObj_type (wpAny_newFunctionEnv hcell (by intro y hy;simp at hy) (fun h₁ hns₁ hsb₁=>?_) hk)
 dsimp only at hns₁ hsb₁ ⊢
 generalize hP:s2.heap.push { cls:=.type "list",dict:=none,data:=.seq ([]:List Value).toArray }=P2 at hns₁ hsb₁ ⊢
 have hCs:P2.objs.size=s2.heap.objs.size + 1:=by rw [<- hP,Heap.size_push]
 have below:∀ b,b < s2.heap.objs.size->b≠P2.objs.size:=fun b hb=>by rw [hCs];omega
 have old:∀ b o,s2.heap.get? b=some o->h₁.get? b=some o:=fun b o e=>hsb₁.extBut b o (below b (Heap.lt_size e)) (Heap.get?_push_of_some _ (hP ▸ Heap.get?_push_of_some _ e))
 have hacc:h₁.get? s2.heap.objs.size=some { cls:=.type "list",dict:=none,data:=.seq ([]:List Value).toArray }:=hsb₁.extBut _ _ (show s2.heap.objs.size≠P2.objs.size by rw [hCs];exact Nat.ne_of_lt (Nat.lt_succ_self _)) (Heap.get?_push_of_some _ (hP ▸ Heap.get?_push_size _ rfl))
 obtain ⟨W,⟨m0,w0⟩,turn⟩:=h2 s2.heap.objs.size (I2.hok.fresh (Nat.le_refl _))
 have fpl:∀ b∈fp,b < s2.heap.objs.size:=fun b hb=>let ⟨o,e,_⟩:=T.obj _ _ st2 b hb;Heap.lt_size e
 have σl:(eG k ix σ).length=N.length:=by rw [hlen];simp [eG]
 have i2:=I2.ok
 have ok':(eB X N scope cl P2.objs.size s2 H2 fp).Ok:=by
  refine ⟨i2.mod,hk,i2.glob,i2.blt,(by show s2.heap.objs.size<=P2.objs.size;rw [hCs];exact Nat.le_succ _),fun x y c e1 e2=>i2.inj x y c (hcl x c e1) (hcl y c e2),fun x hx=>?_,(fun x c e=>by cases e),i2.hd,i2.frames,.inl rfl,fun b hb=>?_,fun b o e=>I2.bs b o e,Nat.le_trans i2.bsz I2.sz,fun b o e hb=>?_,fun b hb hb2=>?_,I2.stack,I2.stkFree⟩
  ·
   have hx':(relabel scope X.env).names.lookup x=some .cell\/(relabel scope X.env).names.lookup x=some .free:=hx
   have key:∀ (names:List (Str × NameKind)),(∀ y∈names,y.2≠.cell)->((names.map fun (n,k)=>if (k == NameKind.free && X.env.scope.kind == .function && X.env.kindOf n == some .cell) then (n,NameKind.cell) else (n,k)).lookup x=some .cell \/
     (names.map fun (n,k)=>if (k == NameKind.free && X.env.scope.kind == .function && X.env.kindOf n == some .cell) then (n,NameKind.cell) else (n,k)).lookup x=some .free)->(x,NameKind.free)∈names:=by
    intro names
    induction names with
    | nil=>intro _ h;rcases h with h | h <;> cases h
    | cons y r ih =>
     obtain ⟨n,kd⟩:=y
     intro hnc h
     by_cases hxn:x=n
     ·subst hxn
      have hkc:kd≠.cell:=hnc (x,kd) List.mem_cons_self
      by_cases hkf:kd=.free
      ·subst hkf;exact List.mem_cons_self
      ·exfalso
       have hb:(kd == NameKind.free)=false:=by simpa using hkf
       simp only [List.map_cons,hb,Bool.false_and,Bool.false_eq_true,if_false,List.lookup_cons,beq_self_eq_true] at h
       rcases h with h | h
       ·exact hkc (Option.some.inj h)
       ·exact hkf (Option.some.inj h)
     ·have hb:(x == n)=false:=by simpa using hxn
      refine List.mem_cons_of_mem _ (ih (fun y hy=>hnc y (List.mem_cons_of_mem _ hy)) ?_)
      have e1:∀ z:NameKind,List.lookup x (((n,z)) :: (r.map fun (n,k)=>if (k == NameKind.free && X.env.scope.kind == .function && X.env.kindOf n == some .cell) then (n,NameKind.cell) else (n,k)))=List.lookup x (r.map fun (n,k)=>if (k == NameKind.free && X.env.scope.kind == .function && X.env.kindOf n == some .cell) then (n,NameKind.cell) else (n,k)):=fun z=>by rw [List.lookup_cons,hb]
      rw [List.map_cons] at h
      dsimp only at h
      split at h
      ·rw [e1] at h;exact h
      ·rw [e1] at h;exact h
   exact hcl2 x (key scope.names hcell hx')
  ·exact ⟨below b (fpl b hb),fun x c e=>(f2 b hb).2.2.2.2.1 x c (hcl x c e)⟩
  ·rcases (f2 b hb).2.2.2.1 with z | z
   ·exact i2.noex b o e z
   ·exact absurd (Nat.lt_of_lt_of_le (Heap.lt_size e) (Nat.le_trans i2.bsz z)) (Nat.lt_irrefl _)
  ·rcases List.mem_cons.mp (I2.stkSub b hb2) with z | z
   ·exact (f2 b hb).2.1 z
   ·exact (f2 b hb).2.2.1 z
 have stat:∀ {H':Hp},(∀ b∈fp,H' b=none)->∀ b∈fp,tV (eB X N scope cl P2.objs.size s2 H2 fp) [] H' b:=fun hn b hb =>
  ⟨hn b hb,below b (fpl b hb),fun z=>ok'.exfs b hb z,.inl hb,fun x c e=>(f2 b hb).2.2.2.2.1 x c (hcl x c e),(fun p hp=>by cases hp)⟩
 have hD:H2 s2.heap.objs.size=none:=I2.hok.fresh (Nat.le_refl _)
 have relf:∀ x,scope.names.lookup x=some .free->(X.env.kindOf x=some .cell\/X.env.kindOf x=some .free)->((relabel scope X.env).names.lookup x=some .cell\/(relabel scope X.env).names.lookup x=some .free):=by
  intro x hx hkx
  have key:∀ (names:List (Str × NameKind)),names.lookup x=some .free->((names.map fun (n,k)=>if (k == NameKind.free && X.env.scope.kind == .function && X.env.kindOf n == some .cell) then (n,NameKind.cell) else (n,k)).lookup x=some .cell \/
    (names.map fun (n,k)=>if (k == NameKind.free && X.env.scope.kind == .function && X.env.kindOf n == some .cell) then (n,NameKind.cell) else (n,k)).lookup x=some .free):=by
   intro names
   induction names with
   | nil=>intro h;cases h
   | cons y r ih =>
    obtain ⟨n,kd⟩:=y
    intro h
    rw [List.lookup_cons] at h
    by_cases hxn:x=n
    ·subst hxn
     simp only [beq_self_eq_true] at h
     cases h
     rw [List.map_cons]
     dsimp only
     split
     ·left;simp [List.lookup_cons]
     ·right;simp [List.lookup_cons]
    ·have hb:(x == n)=false:=by simpa using hxn
     rw [hb] at h
     have:=ih h
     rw [List.map_cons]
     dsimp only
     split
     ·rw [List.lookup_cons,hb];exact this
     ·rw [List.lookup_cons,hb];exact this
  exact key scope.names hx
 have Istart:∀ tk,Inv (eB X N scope cl P2.objs.size s2 H2 fp) [] (eG k ix σ) (upd H2 s2.heap.objs.size (.lst [])) { s2 with heap:=h₁,toks:=tk }:=fun tk=>by
  refine ⟨ok',rfl,I2.bare,Un.laid old (Nat.le_refl _) hD,⟨_,hns₁,fun i x v e1 e2 e3=>?_⟩,fun x c e=>?_,?_,fun x c e=>?_,(fun p hp=>by cases hp),I2.hok.laid old (Nat.le_refl _) ⟨Nat.zero_le _,[],_,.nil,hacc⟩,σl⟩
  ·by_cases hik:i < k
   ·exfalso
    unfold eG at e2
    rw [List.getElem?_append_left (by simpa using hik),List.getElem?_replicate] at e2
    split at e2 <;> cases e2
   ·have ej:i=k + (i - k):=by omega
    have e1':N[k + (i - k)]?=some x:=by rw [<- ej];exact e1
    obtain ⟨i0,hi0,hXN⟩:=hN (i - k) x e1'
    have hfx:=hcap (i - k) x e1'
    have hmem:(x,NameKind.free)∈scope.names:=PySem.mem_of_lookup hfx
    have hkx:=hfree _ hmem rfl
    have e4:σ[i0]?=some (some v):=by
     unfold eG at e2
     rw [List.getElem?_append_right (by simpa using Nat.le_of_not_lt hik),List.getElem?_map] at e2
     simp only [List.length_replicate,hi0,Option.map_some,Option.some.injEq] at e2
     cases z:σ[i0]? with
     | none=>rw [z] at e2;cases e2
     | some y=>rw [z] at e2;simp only [Option.getD_some] at e2;rw [e2]
    obtain ⟨m2,hn2,hl2⟩:=I2.loc
    obtain ⟨u,ru,lk⟩:=hl2 i0 x v hXN e4 (by rcases hkx with z | z;exact .inr (.inl z);exact .inr (.inr z))
    rcases lk with ⟨z,_⟩ | ⟨_,c,hc1,hc2⟩
    ·exfalso
     have z':X.env.kindOf x=some .local:=z
     rcases hkx with y | y <;> (rw [z'] at y;cases y)
    ·obtain ⟨c',hc'⟩:=hcl2 x hmem
     have e5:=hcl x c' hc'
     rw [hc1] at e5;cases e5
     obtain ⟨o,ho,hd⟩:=hc2
     exact ⟨u,ru,.inr ⟨relf x hfx hkx,c,hc',o,old _ _ ho,hd⟩⟩
  ·obtain ⟨v,o,ho,hd⟩:=I2.cell x c (hcl x c e)
   exact ⟨v,o,old _ _ ho,hd⟩
  ·show upd H2 s2.heap.objs.size (.lst []) P2.objs.size=none
   rw [bC (show P2.objs.size≠s2.heap.objs.size by rw [hCs];exact Nat.succ_ne_self _)]
   exact I2.hok.fresh (show s2.heap.objs.size<=P2.objs.size by rw [hCs];exact Nat.le_succ _)
  ·have e':=hcl x c e
   obtain ⟨v,o,ho,hd⟩:=I2.cell x c e'
   rw [bC (Nat.ne_of_lt (Heap.lt_size ho))]
   exact I2.freeC x c e'
 have st1:tn 0 h₁:=T.keep 0 _ _ st2 fun b hb o e=>old b o e
 have fr1:∀ b∈fp,upd H2 s2.heap.objs.size (.lst []) b=none:=fun b hb=>by rw [bC (Nat.ne_of_lt (fpl b hb))];exact (f2 b hb).1
 have fin:∀ (H3:Hp) (s4:Shared),Inv (eB X N scope cl P2.objs.size s2 H2 fp) [] (eG k ix σ) H3 s4->∀ h':Heap,Heap.SameBut P2.objs.size s4.heap h'->Inv X pins σ H3 { s4 with heap:=h' }:=fun H3 s4 I4 h' sb=>by
  have kp:∀ b o,b < s2.heap.objs.size->s4.heap.get? b=some o->h'.get? b=some o:=fun b o hb e=>sb.extBut b o (below b hb) e
  have u:Un (gA X.stack) fp H2 H3 s2.heap s4.heap:=I4.base
  refine I2.call' (ch:=fp) (H':=H3) I4.os ⟨fun b o q n hb hx=>kp b o (Heap.lt_size q) (u.keep b o q n hb hx),fun b o q n hb hx=>?_,u.free,fun b o q hx=>?_,u.tups,u.frzs,u.tbls⟩ (fun a o e=>?_) I4.bare fun b hb=>⟨(f2 b hb).2.2.2.1,(f2 b hb).2.1,(f2 b hb).2.2.2.2.1,(f2 b hb).2.2.2.2.2⟩
  ·obtain ⟨sl,e⟩:=u.slot b o q n hb hx
   exact ⟨sl,kp b _ (Heap.lt_size q) e⟩
  ·obtain ⟨o',e⟩:=u.there b o q hx
   exact ⟨o',kp b _ (Heap.lt_size q) e⟩
  ·have nC:H3 P2.objs.size=none:=I4.free
   refine (I4.hok a o e).stay (fun b z hb q=>sb.extBut b z ?_ q) (fun _ q=>q) fun _ _ q=>q
   rcases hb with rfl | hb
   ·exact bO e nC
   ·exact bO hb nC
 have loop:∀ tk,codeAny (model X.prog X.w) X.A (.compLoop (.ListComp elt [⟨tg,iter,ifs,0⟩] scope pos) 0 (.ref it) (.ref s2.heap.objs.size) (compEnvC scope cl P2.objs.size X.env))
   (compPost (model X.prog X.w) X.A X.xe use QQ (.ref s2.heap.objs.size) P2.objs.size) { s2 with heap:=h₁,toks:=tk }:=fun tk=>by
  refine FJ (fun n s'=>∃ i H',Inv (eB X N scope cl P2.objs.size s2 H2 fp) [] (eG k ix σ) H' s'/\tn i s'.heap/\(∀ b∈fp,H' b=none)/\W i n H') ?_ m0 ⟨0,_,Istart tk,st1,fr1,w0⟩
  rintro n s3 ⟨i,H3,I3,st3,fr3,w3⟩
  rcases turn i n H3 w3 with ⟨stop,q⟩ | ⟨go,step⟩
  ·refine aZ (T.done (eB X N scope cl P2.objs.size s2 H2 fp) rfl rfl rfl hc i [] s3 _ H3 (fun _ _=>False) I3 (stat fr3) st3 stop) fun r s4 ⟨hr,I4⟩=>?_
   subst hr
   obtain ⟨m,hn,_⟩:=I4.loc
   refine end_ s2.heap.objs.size P2.objs.size H3 s4 (fin H3 s4 I4 s4.heap (Heap.SameBut.refl ..)) ⟨m,hn⟩ I4.free (Ne.symm (below _ I2.lt)) (Nat.le_trans I2.sz (show s2.heap.objs.size<=P2.objs.size by rw [hCs];exact Nat.le_succ _)) (fun x c e=>?_) (fun p hp=>below _ (Heap.lt_size (I2.pin p hp).1)) (fin H3 s4 I4) q
   obtain ⟨v,o,ho,_⟩:=I2.cell x c e
   exact below _ (Heap.lt_size ho)
  ·refine aZ (T.item (eB X N scope cl P2.objs.size s2 H2 fp) rfl rfl rfl hc i [] s3 _ H3 (fun _ _=>False) I3 (stat fr3) st3 go) fun r s4 ⟨u,hr,h4⟩=>?_
   subst hr
   refine aZ h4 fun _ s5 ⟨x,H5,I5,r5,y5,st5,fr5⟩=>?_
   have I5':=I5.pinned (stat fr5) (T.obj _ _ st5)
   refine aZ (hg cl P2.objs.size s2 H2 fp _ s5 _ H5 x u _ I5' r5 (gk _ _ _ _ (step x H5 y5))) fun _ s6 ⟨σ6,H6,I6,ag,q6⟩=>?_
   have again:∀ {s7:Shared} {H7:Hp} {m':Nat},Inv (eB X N scope cl P2.objs.size s2 H2 fp) ([]++uN fp s5.heap) σ6 H7 s7->m' < n->W (i + 1) m' H7->∃ m,m < n/\∃ i H',Inv (eB X N scope cl P2.objs.size s2 H2 fp) [] (eG k ix σ) H' s7/\tn i s7.heap/\(∀ b∈fp,H' b=none)/\W i m H':=fun {s7 H7 m'} I7 hm w7=>by
    refine ⟨m',hm,i + 1,H7,(I7.unpinned).weak (by rw [σl];exact (I7.len).symm) (fun j v e=>?_),T.keep _ _ _ st5 fun b hb o e=>(I7.pin (b,o) (List.mem_append_right _ (List.mem_append_right _ (kG hb e)))).1,fun b hb=>?_,w7⟩
    ·by_cases hj:j < k
     ·exfalso
      unfold eG at e
      rw [List.getElem?_append_left (by simpa using hj),List.getElem?_replicate] at e
      split at e <;> cases e
     ·rw [ag j (by omega)];exact e
    ·obtain ⟨o,e,d⟩:=T.obj _ _ st5 b hb
     exact (I7.pin (b,o) (List.mem_append_right _ (List.mem_append_right _ (kG hb e)))).2.1
   refine aZ (hif cl P2.objs.size s2 H2 fp _ s6 σ6 H6 _ I6 q6) fun ok s7 ⟨H7,I7,q7⟩=>?_
   cases ok with
   | false =>
    obtain ⟨m',hm,w7⟩:=q7
    exact again I7 hm w7
   | true =>
    refine aZ (he cl P2.objs.size s2 H2 fp _ s7 σ6 H7 _ I7 q7) fun y s8 ⟨yv,H8,I8,r8,ys,hD8,hz8,m',hm,w8⟩=>?_
    refine aZ (zI _ s8 σ6 H8 (.ref s2.heap.objs.size) [yv] (.ref s2.heap.objs.size) [y] (fun v H9=>H9=upd H8 s2.heap.objs.size (.lst (ys++[yv]))) I8 rfl (.cons r8 .nil) ⟨_,ys,yv,rfl,rfl,hD8,hz8,rfl⟩) fun _ s9 ⟨_,H9,I9,_,e9⟩=>?_
    subst e9
    exact again I9 hm w8
 exact codeAny_compStart_list (loop _) (T.self _ 0 _ _ _ st1 (loop _))
theorem Qx {X:Cx} {tg elt iter:Expr} {ifs:List Expr} {scope:Scope} {pos:Pos} {N:List Str} {k:Nat} {ix:List Nat} {wi:TI} {g:TG} {tc:TT} {te:TE}
  (hc:X.calm=true) (hi:PI X tg iter wi) (gk:GK k g)
  (hk:scope.kind=.function) (hcell:∀ y∈scope.names,y.2≠.cell) (hnames:∀ y∈scope.names,y.2=.local->scope.names.lookup y.1=some .local)
  (hfree:∀ y∈scope.names,y.2=.free->X.env.kindOf y.1=some .cell\/X.env.kindOf y.1=some .free)
  (hone:∀ y∈scope.names,y.2=.free->scope.names.lookup y.1=some .free)
  (hN:∀ (j:Nat) x,N[k + j]?=some x->∃ i,ix[j]?=some i/\X.N[i]?=some x)
  (hcap:∀ (j:Nat) x,N[k + j]?=some x->scope.names.lookup x=some .free)
  (hlen:N.length=k + ix.length)
  (hg:∀ cl C s H fp,PG (eB X N scope cl C s H fp) tg g)
  (hif:∀ cl C s H fp,Hm (eB X N scope cl C s H fp) ifs tc)
  (he:∀ cl C s H fp,PE (eB X N scope cl C s H fp) elt te)
  (hs:∀ x,foldedSetIterable iter X.env x=pure x:=by intro _;rfl) :
  PE X (.ListComp elt [⟨tg,iter,ifs,0⟩] scope pos) (DH k ix wi g tc te):=by
 intro pins s σ H Q I h
 rw [eval_ListComp]
 refine CZ (use:=none) hc hi gk hk hcell hnames hfree hone hN hcap hlen hg hif he hs I h fun D C H3 s4 I4 ⟨m,hn⟩ _ _ _ _ _ fin q=>?_
 exact ⟨m,hn,fun h' sb=>⟨.ref D,H3,fin h' sb,rfl,q⟩⟩
theorem QU {X:Cx} {tg elt iter:Expr} {ifs:List Expr} {scope:Scope} {pos spos py:Pos} {N:List Str} {k:Nat} {ix:List Nat} {wi:TI} {g:TG} {tc:TT} {te:TE} {i:Nat} {y:Str}
  (hc:X.calm=true) (hi:PI X tg iter wi) (gk:GK k g)
  (hk:scope.kind=.function) (hcell:∀ y∈scope.names,y.2≠.cell) (hnames:∀ y∈scope.names,y.2=.local->scope.names.lookup y.1=some .local)
  (hfree:∀ y∈scope.names,y.2=.free->X.env.kindOf y.1=some .cell\/X.env.kindOf y.1=some .free)
  (hone:∀ y∈scope.names,y.2=.free->scope.names.lookup y.1=some .free)
  (hN:∀ (j:Nat) x,N[k + j]?=some x->∃ i,ix[j]?=some i/\X.N[i]?=some x)
  (hcap:∀ (j:Nat) x,N[k + j]?=some x->scope.names.lookup x=some .free)
  (hlen:N.length=k + ix.length)
  (hg:∀ cl C s H fp,PG (eB X N scope cl C s H fp) tg g)
  (hif:∀ cl C s H fp,Hm (eB X N scope cl C s H fp) ifs tc)
  (he:∀ cl C s H fp,PE (eB X N scope cl C s H fp) elt te)
  (hs:∀ x,foldedSetIterable iter X.env x=pure x) (hsw:swapsWith (.ListComp elt [⟨tg,iter,ifs,0⟩] scope pos) (some (.Name y py)) spos.line X.env=pure true)
  (hNd:X.N.Nodup) (hiy:X.N[i]?=some y) (hy:Loc X.env.scope y) (hf:X.fn y=true\/X.env.scope.names.lookup y=some .local) :
  PS X (.Assign [.Name y py] (.ListComp elt [⟨tg,iter,ifs,0⟩] scope pos) spos) (JD (DH k ix wi g tc te) (xC i)):=by
 intro pins s σ H D I h
 rw [exec_Assign_Name_used _ _ _ _ hsw]
 refine wpAny_bind (wpAny_standAt (wpAny_bind ?_))
 show wpAny _ X.A (do let _ <- comprehension (.ListComp elt [⟨tg,iter,ifs,0⟩] scope pos) scope X.env _ (newList []) false (eval iter X.env) (some (assign (.Name y py) X.env))) _ _ s
 refine wpAny_bind (wpAny_mono (CZ (use:=some (assign (.Name y py) X.env)) (QQ:=fun _ s'=>SP X pins D .next s') hc hi gk hk hcell hnames hfree hone hN hcap hlen hg hif he hs I h fun A C H3 s4 I4 hn nC nL sC cC pC fin q=>?_) (fun _ s' hq=>wpAny_pure (wpAny_pure hq)) fun _ _ e=>e)
 show wpAny _ X.A (assign (.Name y py) X.env (.ref A)) _ _ _
 refine wpAny_assign_Name (CY (i:=i) (v:=.ref A) I4 hNd hiy hy rfl (fun s5 I5 ⟨a,sb,ha⟩=>?_) hf)
 obtain ⟨m,hn⟩:=hn
 have aC:C≠a:=by
  rcases ha with z | z
  ·rw [z];exact nL
  ·exact fun e=>cC y a z e.symm
 refine ⟨m,hn.at' fun o e=>sb.extBut C o aC e,fun h' sb'=>?_⟩
 exact ⟨_,H3,I5.turned (t':=s5.toks) (fun b o hb e=>sb'.extBut b o hb e) nC nL (.inr sC) cC pC,q⟩
section
variable {X:Cx}
theorem GB:cZ X (binaryOp .Add) (JO X.K):=by
 intro pins s σ H x y v u Q I rx ry h
 obtain ⟨l,b,xs,zs,rfl,rfl,hH,hB,hz,q⟩:=h
 cases rx
 cases ry
 obtain ⟨its,r,p,hl⟩:=I.list hH
 obtain ⟨its2,r2,p2,hl2⟩:=I.list hB
 obtain ⟨⟨cls,dd,data,sl⟩,n,ho,hc,_,hd⟩:=p
 obtain ⟨⟨cls2,dd2,data2,sl2⟩,n2,ho2,hc2,_,hd2⟩:=p2
 simp only at hc hd hc2 hd2
 subst hc hd hc2 hd2
 have q1:=r.length
 have q2:=r2.length
 have e:its.toArray++its2.toArray=(its++its2).toArray:=by simp
 refine concat_meets ⟨_,ho,rfl⟩ ⟨_,ho2,rfl⟩ noFill_list_add seq_list_add PySem.F.slot_list_add PySem.F.entry_list_add (PySem.F.args_list_add_2 _ _) (list_addW l b its.toArray its2.toArray n n2 dd dd2 sl sl2 (by rw [List.size_toArray,List.size_toArray];omega)) ⟨ho,ho2,?_⟩
 rw [e]
 exact ⟨.ref _,_,I.lnew (t':=s.toks) (r.append r2) (by rw [List.length_append];omega),rfl,q _ I.fresh⟩
theorem D5:cZ X (binaryOp .Add) (E6 X.K):=by
 intro pins s σ H x y v u Q I rx ry h
 obtain ⟨a,b,xs,ys,rfl,rfl,ha,hb,hz,q0,q1,q2⟩:=h
 by_cases hx:xs=[]
 ·cases rx
  cases ry
  obtain ⟨its,r1,p1,_⟩:=I.tuple ha
  obtain ⟨its2,r2,p2,_⟩:=I.tuple hb
  obtain ⟨⟨cls,dd,data,sl⟩,ho,hc,n,hd⟩:=p1
  obtain ⟨⟨cls2,dd2,data2,sl2⟩,ho2,hc2,n2,hd2⟩:=p2
  simp only at hc hd hc2 hd2
  subst hc hd hc2 hd2
  have e:its=[]:=r1.nil_iff.mpr hx
  exact concat_meets ⟨_,ho,rfl⟩ ⟨_,ho2,rfl⟩ noFill_tuple_add seq_tuple_add PySem.F.slot_tuple_add PySem.F.entry_tuple_add (PySem.F.args_tuple_add_2 _ _) (tuple_addW0 a b its.toArray its2.toArray n n2 dd dd2 sl sl2 (by rw [e];rfl)) ⟨ho,ho2,.ref b,H,I,rfl,q0 hx⟩
 ·exact Q3 pins s σ H _ _ v u Q I rx ry ⟨a,b,xs,ys,rfl,rfl,ha,hb,hx,hz,q1 hx,q2 hx⟩
theorem R6:AI X (fun x lo hi H Q=>∃ z:Str,x=.str z/\z.length<=sizeLine/\Q (.str (Txt.slice z lo hi)) H):=by
 intro pins s σ H x v vl vu lo hi sl Q I rx hs pl pu h
 obtain ⟨z,rfl,hz,q⟩:=h
 obtain ⟨t,rfl⟩:=rx
 refine ⟨"str",_,F.slot_str_getitem.lookup,typeIs_str _ _ _,?_⟩
 have fin:∀ t' k,EP X pins σ Q (.str (Txt.slice z lo hi) t') { s with toks:=k }:=fun t' k=>⟨.str (Txt.slice z lo hi),H,I.tok k,⟨t',rfl⟩,q⟩
 cases pl with
 | none=>cases pu with
  | none=>exact wpAny_getItem_str_slice (l:=none) (u:=none) (st:=none) hs rfl (post_val_or_str ⟨Nat.le_trans (Txt.slice_le z _ _) hz,fun t' k=>fin t' k⟩)
  | int j uj=>exact wpAny_getItem_str_slice (l:=none) (u:=some (j,uj)) (st:=none) hs rfl (post_val_or_str ⟨Nat.le_trans (Txt.slice_le z _ _) hz,fun t' k=>fin t' k⟩)
 | int i ui=>cases pu with
  | none=>exact wpAny_getItem_str_slice (l:=some (i,ui)) (u:=none) (st:=none) hs rfl (post_val_or_str ⟨Nat.le_trans (Txt.slice_le z _ _) hz,fun t' k=>fin t' k⟩)
  | int j uj=>exact wpAny_getItem_str_slice (l:=some (i,ui)) (u:=some (j,uj)) (st:=none) hs rfl (post_val_or_str ⟨Nat.le_trans (Txt.slice_le z _ _) hz,fun t' k=>fin t' k⟩)
theorem Uq:AI X (Tz X.K):=RN.or (T5.or R6)
theorem Kj (hc:X.calm=true):sJ X (.builtin "all") (fun xs H Q=>∃ (p:Addr) (bs:List Bool),xs=[.ref p]/\eV X.K H p (bs.map V.bl)/\Q (.bl (bs.all fun b=>b)) H):=by
 intro pins s σ H xs us Q I r h
 obtain ⟨a,bs,rfl,ha,q⟩:=h
 obtain ⟨u,rfl,ru⟩:=vals1 r
 cases ru
 obtain ⟨its,rv,p,hz⟩:=I.list ha
 have hl:=rv.length
 have hne:a≠s.heap.objs.size:=by
  obtain ⟨o,n,e,_⟩:=p
  exact Nat.ne_of_lt (Heap.lt_size e)
 refine call_all_walk (wpAny_pyIter_list p.isList ?_)
 refine ⟨s.heap.objs.size,_,_,_,_,_,fun i=>(bs[i]?).getD false,rfl,Walks.list (show X.A.in1.handled=none from I.ok.hd hc) s.heap.objs.size a hne its.toArray,⟨⟨_,Heap.get?_push_size _ rfl,rfl,rfl⟩,?_⟩,?_,fun h' tk k=>?_⟩
 ·obtain ⟨o,n,e,c,d,z⟩:=p
  exact ⟨o,Heap.get?_push_of_some _ e,c,n,z⟩
 ·intro i v s' Q' E' hP hQ
  have hv:its[i]?=some v:=by simpa using hP
  have hi:i < bs.length:=by
   have:=(List.getElem?_eq_some_iff.mp hv).1
   rw [<- hl] at this;simpa using this
  obtain ⟨u,hu,ru⟩:=rv.get (i:=i) (x:=.bl bs[i]) (by simp [hi])
  rw [hv] at hu;cases hu
  cases ru
  refine wpAny_truthy_bool ?_
  have:(bs[i]?).getD false=bs[i]:=by simp [hi]
  rw [<- this];exact hQ
 ·have e:(List.range its.toArray.size).all (fun i=>(bs[i]?).getD false)=bs.all fun b=>b:=by
   have:its.toArray.size=bs.length:=by rw [List.size_toArray,<- hl,List.length_map]
   rw [this]
   clear this hl rv p hz k
   rw [Bool.eq_iff_iff]
   simp only [List.all_eq_true,List.mem_range]
   constructor
   ·intro h b hb
    obtain ⟨i,hi,rfl⟩:=List.mem_iff_getElem.mp hb
    have:=h i hi
    simpa [hi] using this
   ·intro h i hi
    have:=h bs[i] (List.getElem_mem hi)
    simpa [hi] using this
  rw [e]
  exact ⟨.bl _,H,I.kept (t':=tk) (fun b o e=>k b o (fun z=>Nat.lt_irrefl _ (Nat.lt_of_lt_of_le (Heap.lt_size e) (Nat.le_of_eq (show s.heap.objs.size=b from (List.mem_singleton.mp z).symm)))) (Heap.get?_push_of_some _ e)),rfl,q⟩
end
end U2
namespace U2
open PySem PySem.Spec PyProof.Rows L2
structure Dat where
 prog:Program
 w:World
 K:PySem.W.Frag
 mg:Str->Option Value
 base:Heap
 N:List Str
 sc:Scope
 k:Nat
 fn:Bool
 cod:Value:=.none
 qual:Str:=""
structure jU (D:Dat) (X:Cx):Prop where
 prog:X.prog=D.prog
 w:X.w=D.w
 K:X.K=D.K
 mg:X.mg=D.mg
 base:X.base=D.base
 N:X.N=D.N
 sc:X.env.scope=D.sc
 room:cW D.k X.A
 calm:X.calm=true
 xe:X.xe=fun _ _=>False
 fn:D.fn=true->∀ x,X.fn x=true
 cod:D.cod≠.none->X.env.code=D.cod/\X.env.qual=D.qual
 dl:D.fn=true->X.ex=[]/\X.stack=X.env :: X.outer/\X.env.frame=some X.env.locals
def bA (D:Dat) (e:Expr) (t':UE):Prop:=∃ t,(∀ X,jU D X->PE X e t)/\bT D.K t t'
def oA (D:Dat) (e:Expr) (t':UT):Prop:=∃ t,(∀ X,jU D X->PT X e t)/\jQ D.K t t'
def i9 (D:Dat) (e:Expr) (t':UT):Prop:=∃ t,(∀ X,jU D X->PW X e t)/\jQ D.K t t'
def jZ (D:Dat) (es:List Expr) (t':UA):Prop:=∃ t,(∀ X,jU D X->PA X es t)/\lE D.K t t'
def rW (D:Dat) (s:Stmt) (t':US):Prop:=∃ t,(∀ X,jU D X->PS X s t)/\jG D.K t t'
def m7 (D:Dat) (s:List Stmt) (t':US):Prop:=∃ t,(∀ X,jU D X->lH X s t)/\jG D.K t t'
def Dh (D:Dat) (k:Nat) (e:Expr) (g':UG):Prop:=∃ g,(∀ X,jU D X->PG X e g)/\zK D.K g g'/\GK k g/\∀ x σ H Q Q',(∀ σ2 H2,Q σ2 H2->Q' σ2 H2)->g x σ H Q->g x σ H Q'
def Jx (D:Dat) (k:Nat) (es:List Expr) (g':BE):Prop:=∃ g,(∀ X,jU D X->Li X es g)/\Bt D.K g g'/\KW k g/\∀ x σ H Q Q',(∀ σ2 H2,Q σ2 H2->Q' σ2 H2)->g x σ H Q->g x σ H Q'
def BD (D:Dat) (tg e:Expr) (t':UI):Prop:=∃ t,(∀ X,jU D X->PI X tg e t)/\vY D.K t t'
def Pr (D:Dat) (e:Option Expr) (t':UO):Prop:=∃ t,(∀ X,jU D X->PO X e t)/\D4 D.K t t'
def IM (D:Dat) (es:List Expr) (t':UT):Prop:=∃ t,(∀ X,jU D X->Hm X es t)/\jQ D.K t t'
section
variable {D:Dat} {a b c e o:Expr} {ta tb tc te:UE} {pos:Pos}
theorem uv (i:Nat) {x:Str} (hN:D.N[i]?=some x:=by rfl) (hv:BR D.sc x:=by first | exact Or.inl rfl | exact Or.inr (Or.inl rfl) | exact Or.inr (Or.inr rfl)) (hd:(x == ("__debug__":Str))=false:=by decide)
  (hcd:(x == ("__classdict__":Str))=false:=by decide):bA D (.Name x pos) (i5 i) :=
 ⟨_,fun X h=>lV (by rw [h.N];exact hN) (by rw [h.sc];exact hv) hd hcd,Ah i⟩
theorem aJ {i j}:bA D (.Constant (.int i) j pos) (uC (.int i)):=⟨_,fun X h=>S5,GQ⟩
theorem n5 {i j}:bA D (.Constant (.bool i) j pos) (uC (.bl i)):=⟨_,fun X h=>VQ,U4⟩
theorem bZ {i j}:bA D (.Constant (.str i) j pos) (uC (.str i)):=⟨_,fun X h=>LH,Hf⟩
theorem GY {j}:bA D (.Constant .none j pos) (uC .non):=⟨_,fun X h=>SI,RJ⟩
theorem kN {x:Str} {i:Int} {t:Tok} (hm:D.mg x=some (.int i t)) (hg:D.sc.names.lookup x=some .globalImplicit:=by rfl) (hd:(x == ("__debug__":Str))=false:=by decide):bA D (.Name x pos) (uC (.int i)) :=
 ⟨_,fun X h=>Ca (v:=.int i) (by show X.env.scope.names.lookup x=_;rw [h.sc];exact hg) (by rw [h.mg];exact hm) ⟨t,rfl⟩ hd,GQ⟩
theorem BA {x:Str} {i:Str} {t:Tok} (hm:D.mg x=some (.str i t)) (hg:D.sc.names.lookup x=some .globalImplicit:=by rfl) (hd:(x == ("__debug__":Str))=false:=by decide):bA D (.Name x pos) (uC (.str i)) :=
 ⟨_,fun X h=>Ca (v:=.str i) (by show X.env.scope.names.lookup x=_;rw [h.sc];exact hg) (by rw [h.mg];exact hm) ⟨t,rfl⟩ hd,Hf⟩
theorem uK {x:Str} {f:Addr} (hm:D.mg x=some (.ref f)) (hg:D.sc.names.lookup x=some .globalImplicit:=by rfl) (hd:(x == ("__debug__":Str))=false:=by decide):bA D (.Name x pos) (uC (.ref f)) :=
 ⟨_,fun X h=>Ca (v:=.ref f) (by show X.env.scope.names.lookup x=_;rw [h.sc];exact hg) (by rw [h.mg];exact hm) rfl hd,Qb⟩
theorem iE {x:Str} {n:String} (hm:D.mg x=none) (hv:bootBuiltins x=some (.type n):=by kernel_rfl) (hg:D.sc.names.lookup x=some .globalImplicit:=by rfl) (hn:x≠"__name__":=by decide) (hd:(x == ("__debug__":Str))=false:=by decide):bA D (.Name x pos) (uC (.ty n)) :=
 ⟨_,fun X h=>Rx (v:=.ty n) (by show X.env.scope.names.lookup x=_;rw [h.sc];exact hg) (by rw [h.mg];exact hm) hv rfl hn hd,Te⟩
theorem As {op:Operator} {r:R2} {r':dW} (ho:∀ X,jU D X->cZ X (binaryOp op) r) (hr:eX D.K r r') (ha:bA D a ta) (hb:bA D b tb):bA D (.BinOp a op b pos) (gB r' ta tb):=by
 obtain ⟨x,p,s⟩:=ha;obtain ⟨y,q,r⟩:=hb
 exact ⟨_,fun X h=>Wf (ho X h) (p X h) (q X h),yB hr s r⟩
theorem lU (ha:bA D a ta) (hb:bA D b tb):bA D (.BinOp a .Sub b pos) (gB (qV fun i j=>.int (i - j)) ta tb):=As (fun _ _=>TU) EV ha hb
theorem cL (ha:bA D a ta) (hb:bA D b tb):bA D (.BinOp a .Mod b pos) (gB (uI (fun _ j=>0 < j) fun i j=>.int (i % j)) ta tb):=As (fun _ _=>Ud) sA ha hb
theorem Bg (ha:bA D a ta) (hb:bA D b tb):bA D (.BinOp a .Pow b pos) (gB (uI Sr fun i j=>.int (i ^ j.toNat)) ta tb):=As (fun _ _=>R1) sA ha hb
def mU (o:Bool):dW:=fun x y M Q=>match x,y with
 | .int i,.int j=>Q (.int (i + j)) M
 | .str i,.str j=>i.length + j.length<=sizeLine/\Q (.str (i++j)) M
 | .tup us,.tup ws=>us.length + ws.length<=sizeLine/\Q (.tup (us++ws)) M
 | x,y=>nM o x y M Q
def JC (K:PySem.W.Frag):R2:=fun x y H Q=>yE (fun i j=>.int (i + j)) x y H Q\/((∃ i j,x=.str i/\y=.str j/\i.length + j.length<=sizeLine/\Q (.str (i++j)) H)\/(E6 K x y H Q\/JO K x y H Q))
theorem GF {K:PySem.W.Frag} {o:Bool}:eX K (JC K) (mU o):=fun x y u w H M Q' rm ru rw h Q c=>by
 unfold mU at h
 split at h
 ·exact .inl (EV x y _ _ H M Q' rm ru rw h Q c)
 ·exact .inr (.inl (OA x y _ _ H M Q' rm ru rw h Q c))
 ·exact .inr (.inr (.inl (NG x y _ _ H M Q' rm ru rw h Q c)))
 ·exact .inr (.inr (.inr (MZ x y _ _ H M Q' rm ru rw h Q c)))
theorem aQ (own:Bool:=false) (ha:bA D a ta) (hb:bA D b tb):bA D (.BinOp a .Add b pos) (gB (mU own) ta tb) :=
 As (r:=JC D.K) (fun X h=>by have:=Ki.or (BC.or ((D5 (X:=X)).or (GB (X:=X))));rw [h.K] at this;exact this) GF ha hb
theorem SO {op:CmpOp} {r:R2} {r':dW} (ho:∀ X,jU D X->cZ X (compareOp op) r) (hr:eX D.K r r') (ha:bA D a ta) (hb:bA D b tb) (hm:behindInMarks op b=false):bA D (.Compare a [op] [b] pos) (gB r' ta tb):=by
 obtain ⟨x,p,s⟩:=ha;obtain ⟨y,q,r⟩:=hb
 exact ⟨_,fun X h=>P8 (ho X h) (p X h) (q X h) hm,yB hr s r⟩
theorem UW {op:CmpOp} {r:R2} {r':dW} (ho:∀ X,jU D X->cZ X (compareOp op) r) (hr:eX D.K r r') (ha:bA D a ta) (hb:bA D b tb) (hm:behindInMarks op b=false):oA D (.Compare a [op] [b] pos) (lX (gB r' ta tb)):=by
 obtain ⟨x,p,s⟩:=ha;obtain ⟨y,q,r⟩:=hb
 exact ⟨_,fun X h=>Ry (ho X h) (p X h) (q X h) hm,EI (yB hr s r)⟩
abbrev Eu:dW:=qV fun i j=>.bl (decide (i < j))
abbrev Di:dW:=qV fun i j=>.bl (decide (i<=j))
abbrev CV:dW:=qV fun i j=>.bl (decide (j < i))
abbrev DT:dW:=qV fun i j=>.bl (decide (j<=i))
structure nW (D:Dat) (op:CmpOp) (r':dW):Prop where
 ex:∃ r:R2,(∀ X,jU D X->cZ X (compareOp op) r)/\eX D.K r r'
theorem i6:nW D .LtE Di:=⟨⟨_,fun _ _=>Vx,xR⟩⟩
theorem D9:nW D .Gt CV:=⟨⟨_,fun _ _=>Wh,xR⟩⟩
theorem OY:nW D .Is tS:=⟨⟨_,fun _ _=>Se,RM⟩⟩
def xW (neg:Bool):dW:=fun x y M Q=>match x,y with
 | .str i,.str j=>Q (.bl (if neg then !(!(Builtin.Str.occurrences j i 0 j.length 1).isEmpty) else !(Builtin.Str.occurrences j i 0 j.length 1).isEmpty)) M
 | _,_=>False
theorem Ji:nW D .In (xW false):=⟨⟨_,fun _ _=>Ks,fun x y u w H M Q' rm ru rw h Q c=>by
 cases u with
 | str i=>cases w with
  | str j=>exact ⟨i,j,ru.str,rw.str,c.here rm cX h⟩
  | _=>exact h.elim
 | _=>exact h.elim⟩⟩
theorem gE {op:CmpOp} {r':dW} (k:nW D op r') (ha:bA D a ta) (hb:bA D b tb) (hm:behindInMarks op b=false:=by first | exact J8 _ | with_unfolding_all rfl):bA D (.Compare a [op] [b] pos) (gB r' ta tb) :=
 let ⟨_,h1,h2⟩:=k.ex;SO h1 h2 ha hb hm
theorem bS {op:CmpOp} {r':dW} (k:nW D op r') (ha:bA D a ta) (hb:bA D b tb) (hm:behindInMarks op b=false:=by first | exact J8 _ | with_unfolding_all rfl):oA D (.Compare a [op] [b] pos) (lX (gB r' ta tb)) :=
 let ⟨_,h1,h2⟩:=k.ex;UW h1 h2 ha hb hm
theorem Wg {op op':CmpOp} {r r':dW} (k:nW D op r) (k':nW D op' r') (ha:bA D a ta) (hb:bA D b tb) (hc:bA D c tc) (hm:lastMarks [op,op'] [b,c]=false:=by with_unfolding_all rfl) :
  bA D (.Compare a [op,op'] [b,c] pos) (kS r r' ta tb tc):=by
 obtain ⟨x,p,s⟩:=ha;obtain ⟨y,q,r⟩:=hb;obtain ⟨z,u,v⟩:=hc
 obtain ⟨_,h1,h2⟩:=k.ex
 obtain ⟨_,h3,h4⟩:=k'.ex
 exact ⟨_,fun X h=>N0 (h1 X h) (h3 X h) (p X h) (q X h) (u X h) hm,CI h2 h4 s r v⟩
theorem DD {op op':CmpOp} {r r':dW} (k:nW D op r) (k':nW D op' r') (ha:bA D a ta) (hb:bA D b tb) (hc:bA D c tc) (hm:lastMarks [op,op'] [b,c]=false:=by with_unfolding_all rfl) :
  oA D (.Compare a [op,op'] [b,c] pos) (lX (kS r r' ta tb tc)):=by
 obtain ⟨x,p,s⟩:=ha;obtain ⟨y,q,r⟩:=hb;obtain ⟨z,u,v⟩:=hc
 obtain ⟨_,h1,h2⟩:=k.ex
 obtain ⟨_,h3,h4⟩:=k'.ex
 exact ⟨_,fun X h=>Nq (h1 X h) (h3 X h) (p X h) (q X h) (u X h) hm,EI (CI h2 h4 s r v)⟩
theorem cN (ha:bA D a ta) (he:∀ env whole,isTrue a env whole=(do let v <- whole;standAt a.pos;holding [v] (truthy v)):=by intro _ _;rfl):oA D a (vG ta):=by
 obtain ⟨x,p,s⟩:=ha
 refine ⟨_,fun X h=>?_,QK s⟩
 have:=N7 (p X h) (he X.env)
 rw [h.K] at this
 exact this
theorem i9.pt {t:UT} (h:i9 D a t):oA D a t:=let ⟨_,p,s⟩:=h;⟨_,fun X h=>(p X h).pt,s⟩
variable {rest:List Expr} {tA tB':UT}
theorem Ao (ha:oA D a tA):i9 D (.BoolOp .And [a] pos) tA:=let ⟨_,p,s⟩:=ha;⟨_,fun X h=>QH (p X h),s⟩
theorem iB (ha:oA D a tA):i9 D (.BoolOp .Or [a] pos) tA:=let ⟨_,p,s⟩:=ha;⟨_,fun X h=>S4 (p X h),s⟩
theorem xX (ha:oA D a tA) (hb:i9 D (.BoolOp .And (b :: rest) pos) tB'):i9 D (.BoolOp .And (a :: b :: rest) pos) (u5 tA tB'):=let ⟨_,p,s⟩:=ha;let ⟨_,q,r⟩:=hb;⟨_,fun X h=>TC (p X h) (q X h),P6 s r⟩
theorem iW (ha:oA D a tA) (hb:i9 D (.BoolOp .Or (b :: rest) pos) tB'):i9 D (.BoolOp .Or (a :: b :: rest) pos) (Bv tA tB'):=let ⟨_,p,s⟩:=ha;let ⟨_,q,r⟩:=hb;⟨_,fun X h=>VP (p X h) (q X h),SE s r⟩
theorem c5 (ha:oA D a tA):oA D (.UnaryOp .Not a pos) (vD tA):=let ⟨_,p,s⟩:=ha;⟨_,fun X h=>Ux (p X h),P5 s⟩
theorem iJ {op} (ha:bA D a ta):bA D (.BoolOp op [a] pos) ta:=let ⟨_,p,s⟩:=ha;⟨_,fun X h=>SG (p X h),s⟩
theorem gX (ha:bA D a ta) (hb:bA D (.BoolOp .And (b :: rest) pos) tb):bA D (.BoolOp .And (a :: b :: rest) pos) (kE ta tb):=let ⟨_,p,s⟩:=ha;let ⟨_,q,r⟩:=hb;⟨_,fun X h=>Tx (p X h) (q X h),Om s r⟩
theorem VA (ha:bA D a ta) (hb:bA D (.BoolOp .Or (b :: rest) pos) tb):bA D (.BoolOp .Or (a :: b :: rest) pos) (v9 ta tb):=let ⟨_,p,s⟩:=ha;let ⟨_,q,r⟩:=hb;⟨_,fun X h=>Vv (p X h) (q X h),Qr s r⟩
theorem EC (ha:bA D a ta):bA D (.UnaryOp .Not a pos) (pU ta):=let ⟨_,p,s⟩:=ha;⟨_,fun X h=>RZ (p X h),Nj s⟩
theorem Vz (hc:oA D c tA) (ha:bA D a ta) (hb:bA D b tb):bA D (.IfExp c a b pos) (BI tA ta tb):=let ⟨_,p,s⟩:=ha;let ⟨_,q,r⟩:=hb;let ⟨_,u,v⟩:=hc;⟨_,fun X h=>Nl (u X h) (p X h) (q X h),SS v s r⟩
variable {es:List Expr} {tas:UA}
theorem aB:jZ D [] mN:=⟨_,fun X h=>Bj,Rt⟩
theorem aA (ha:bA D e te) (hr:jZ D es tas) (hs:∀ env,starEach (e :: es) env=(false,eval e env) :: starEach es env:=by intro _;rfl):jZ D (e :: es) (kA te tas):=let ⟨_,p,s⟩:=ha;let ⟨_,q,r⟩:=hr;⟨_,fun X h=>uW (p X h) (q X h) (hs _),NV s r⟩
theorem bB {x1} (h:jZ D es tas):bA D (.Tuple es x1 pos) (vQ tas):=let ⟨_,p,s⟩:=h;⟨_,fun X h=>Um (p X h),RQ s⟩
theorem nX (own:Bool:=false) (h:jZ D es tas):bA D (.List es pos) (wF own tas):=let ⟨_,p,s⟩:=h;⟨_,fun X h=>Vd (p X h),RH s⟩
theorem aV (ha:bA D a ta) (hb:bA D b tb) (hs:zN b:=by intro _ _;rfl):bA D (.Subscript a b pos) (gB sP ta tb):=by
 obtain ⟨x,p,s⟩:=ha;obtain ⟨y,q,r⟩:=hb
 refine ⟨_,fun X h=>?_,yB T9 s r⟩
 have:=Vn (pos:=pos) Sa (p X h) (q X h) hs
 rw [h.K] at this
 exact this
theorem Cv:Pr D none kD:=⟨_,fun X h=>Qj,Jk⟩
theorem dO (h:bA D e te):Pr D (some e) (pX te):=let ⟨_,p,s⟩:=h;⟨_,fun X h=>QG (p X h),N1 s⟩
variable {st:Stmt} {sts body body2:List Stmt} {t u:US}
theorem aY:m7 D [] bJ:=⟨_,fun X h=>Qz,OH⟩
theorem aG (h1:rW D st t) (h2:m7 D sts u):m7 D (st :: sts) (sX t u):=let ⟨_,p,s⟩:=h1;let ⟨_,q,r⟩:=h2;⟨_,fun X h=>Ef (p X h) (q X h),Rz s r⟩
theorem aM (h1:rW D st t):m7 D [st] t:=let ⟨_,p,s⟩:=h1;⟨_,fun X h=>Cm (p X h),s⟩
theorem Oq:rW D (.Break pos) mD:=⟨_,fun X h=>Nx,Kc⟩
theorem qB (he:bA D e te) (hs:∀ env,swapsWith e none pos.line env=pure false:=by intro _;rfl):rW D (.Expr e pos) (k8 te):=let ⟨_,p,s⟩:=he;⟨_,fun X h=>GI (p X h) (hs _),NP s⟩
theorem aR (he:bA D e te):rW D (.Return (some e) pos) (bG te):=let ⟨_,p,s⟩:=he;⟨_,fun X h=>UZ (p X h),QC s⟩
theorem bY {c:Expr} {tc:UT} (hc:oA D c tc) (ha:m7 D body t) (hb:m7 D body2 u):rW D (.If c body body2 pos) (wJ tc t u):=let ⟨_,p,s⟩:=ha;let ⟨_,q,r⟩:=hb;let ⟨_,x,y⟩:=hc;⟨_,fun X h=>VF (x X h) (p X h) (q X h),Ra y s r⟩
theorem v7 {c:Expr} {tc:UT} (hc:oA D c tc) (hb:m7 D body t):rW D (.While c body [] pos) (By tc t):=by
 obtain ⟨_,p,s⟩:=hb;obtain ⟨_,x,y⟩:=hc
 exact ⟨_,fun X h=>MY (by rw [h.xe];exact PassesOwn.never) (x X h) (p X h),KN y s⟩
variable {k:Nat} {g:UG} {gs:BE}
theorem cM (i:Nat) {x:Str} (hN:D.N.Nodup) (hi:D.N[i]?=some x:=by rfl) (hx:Loc D.sc x:=by first | exact Or.inl rfl | exact Or.inr rfl) (hik:i < k:=by decide) (hf:D.fn=true\/D.sc.names.lookup x=some .local:=by first | exact .inl rfl | exact .inr rfl):Dh D k (.Name x pos) (hName i) :=
 ⟨_,fun X h=>QI (i:=i) (by rw [h.N];exact hN) (by rw [h.N];exact hi) (by rw [h.sc];exact hx) (by rcases hf with z | z;exact .inl (h.fn z x);exact .inr (by rw [h.sc];exact z)),sL i,Q5 hik,Ua⟩
theorem uG:Jx D k [] qQ:=⟨_,fun X h=>Rh,N6,Sx,Vy⟩
theorem gY (h1:Dh D k e g) (h2:Jx D k es gs) (hs:∀ env,(assignEach (e :: es) env).map (·.2)=assign e env :: (assignEach es env).map (·.2):=by intro _;rfl):Jx D k (e :: es) (lW g gs) :=
 let ⟨_,p,s,x,y⟩:=h1;let ⟨_,q,r,z,w⟩:=h2;⟨_,fun X h=>Nr (p X h) (q X h) (hs _),L8 s r,Qh x z w y,To y w⟩
theorem yT {kk:Nat} {n:Nat} (h:Jx D k es gs) (hn:∀ env,(assignEach es env).length=n:=by intro _;rfl) (hst:∀ env,(assignEach es env).findIdx? (·.1)=none:=by intro _;rfl):Dh D k (.Tuple es kk pos) (jY n gs):=by
 obtain ⟨_,p,s,x,y⟩:=h
 refine ⟨_,fun X h=>?_,Ox s,Vg x,VY y⟩
 have:=S6 (pos:=pos) (k:=kk) h.calm (p X h) (hn _) (hst _)
 rw [h.K] at this
 exact this
theorem Ul {tg:Expr} (he:bA D e te) (hg:Dh D k tg g) (hs:∀ env,swapsWithSole [tg] e pos.line env=pure false:=by intro _;rfl) (hw:∀ env,swappedStores [tg] e env=pure none:=by intro _;rfl)
  (h1:∀ env,(assignEach [tg] env).map (·.2)=[assign tg env]:=by intro _;rfl):rW D (.Assign [tg] e pos) (bH te g):=let ⟨_,p,s⟩:=he;let ⟨_,q,r,_⟩:=hg;⟨_,fun X h=>LG (p X h) (q X h) (hs _) (hw _) (h1 _),Aa s r⟩
theorem aS (i:Nat) {x:Str} {pos':Pos} (hN:D.N.Nodup) (he:bA D e te) (hi:D.N[i]?=some x:=by rfl) (hx:Loc D.sc x:=by first | exact Or.inl rfl | exact Or.inr rfl) (hs:∀ env,swapsWith e (some (.Name x pos')) pos.line env=pure false:=by intro _;rfl)
  (hf:D.fn=true\/D.sc.names.lookup x=some .local:=by first | exact .inl rfl | exact .inr rfl):rW D (.Assign [.Name x pos'] e pos) (bH te (hName i)):=by
 obtain ⟨_,p,s⟩:=he
 exact ⟨_,fun X h=>Lk (i:=i) (by rw [h.N];exact hN) (by rw [h.N];exact hi) (by rw [h.sc];exact hx) (p X h) (hs _) (by rcases hf with z | z;exact .inl (h.fn z x);exact .inr (by rw [h.sc];exact z)),Aa s (sL i)⟩
variable {tg iter:Expr} {wi:UI}
theorem lZ (h:bA D e te):BD D tg e (pV te):=by
 obtain ⟨_,p,s⟩:=h
 refine ⟨_,fun X h=>?_,Mu s⟩
 have:=TR (tg:=tg) (p X h)
 rw [h.K] at this
 exact this
theorem Cc {p:Pos} {ta:UA} (hm:D.mg "range"=none) (ha:jZ D [a] ta) (hg:D.sc.names.lookup ("range":Str)=some .globalImplicit:=by rfl) (hs:∀ env,starEach [a] env=[(false,eval a env)]:=by intro _;rfl):BD D tg (.Call (.Name "range" p) [a] [] pos) (pQ ta):=by
 obtain ⟨_,q,s⟩:=ha
 exact ⟨_,fun X h=>LL (by show X.env.scope.names.lookup _=_;rw [h.sc];exact hg) (by rw [h.mg];exact hm) (q X h) (hs _),ND s⟩
theorem yX (hi:BD D tg iter wi) (hg:Dh D k tg g) (hb:m7 D body t) (hs:∀ env x,foldedSetIterable iter env x=pure x:=by intro _ _;rfl):rW D (.For tg iter body [] pos) (HU wi g t):=by
 obtain ⟨_,p,s⟩:=hi;obtain ⟨_,q,r,_⟩:=hg;obtain ⟨_,x,y⟩:=hb
 exact ⟨_,fun X h=>SV (by rw [h.xe];exact PassesOwn.never) h.calm (p X h) (q X h) (x X h) (hs _),Ru s r y⟩
end
end U2
namespace U2
open PySem PySem.Spec PyProof.Rows L2
structure Callee (P:Program) (w:World) (K:PySem.W.Frag) (mg:Str->Option Value) (base:Heap) (j:Nat) (x:Str) (sp:cF) (dus:List U):Prop where
 ex:∃ f fd ps dvs ds,fD P w K mg base iU j f fd ps (fZ K sp)/\mg x=some (.ref f)/\PySem.W.keepIn K (.ref f)=true/\Binds K fd ps ds/\Vals dvs ds/\∀ H M,aI K H M dus dvs
abbrev WZ (D:Dat):=Callee D.prog D.w D.K D.mg D.base
section
variable {D:Dat} {a b c e o:Expr} {ta tb tc te:UE} {pos p:Pos} {es:List Expr} {tas:UA} {x:Str}
theorem bD {sp:cF} {dus:List U} {j:Nat} (F:WZ D j x sp dus) (ha:jZ D (e :: es) tas) (hj:j<=D.k:=by first | exact Nat.le_refl _ | (dsimp only;omega) | omega | (dsimp only [cP];omega)) (hg:D.sc.names.lookup x=some .globalImplicit:=by rfl) (hdb:(x == ("__debug__":Str))=false:=by decide)
  (he:∀ env,starEach (e :: es) env=(false,eval e env) :: starEach es env:=by intro _;rfl) (hpl:∀ env,(backTo pos (starEach es env)).any (·.1)=false:=by intro _;rfl):bA D (.Call (.Name x p) (e :: es) [] pos) (pW sp dus tas):=by
 obtain ⟨f,fd,ps,dvs,ds,F,hm,kp,hb,hd,hr⟩:=F.ex
 obtain ⟨_,q,s⟩:=ha
 refine ⟨Jg (fZ D.K sp) dvs E0 _,fun X h=>?_,OE hr s⟩
 have F':fD X.prog X.w X.K X.mg X.base iU j f fd ps (fZ D.K sp):=by rw [h.prog,h.w,h.K,h.mg,h.base];exact F
 exact QM F' (h.room.mono hj) (by show X.env.scope.names.lookup x=_;rw [h.sc];exact hg) (by rw [h.mg];exact hm) (by rw [h.K];exact kp) (by rw [h.K];exact hb) hd HW (q X h) hdb (he _) (hpl _)
structure E8 (D:Dat) (f:Value) (r':List U->aE->UK->Prop):Prop where
 ex:∃ r,(∀ X,jU D X->sJ X f r)/\Al D.K r r'
theorem cI {id:String} {r':List U->aE->UK->Prop} (k:E8 D (.builtin id) r') (hm:D.mg x=none) (ha:jZ D (e :: es) tas) (hv:bootBuiltins x=some (.builtin id):=by kernel_rfl) (hg:D.sc.names.lookup x=some .globalImplicit:=by rfl) (hn:x≠"__name__":=by decide) (hdb:(x == ("__debug__":Str))=false:=by decide)
  (he:∀ env,starEach (e :: es) env=(false,eval e env) :: starEach es env:=by intro _;rfl) (hpl:∀ env,(backTo pos (starEach es env)).any (·.1)=false:=by intro _;rfl):bA D (.Call (.Name x p) (e :: es) [] pos) (rS r' tas):=by
 obtain ⟨r,h1,h2⟩:=k.ex
 obtain ⟨_,q,s⟩:=ha
 exact ⟨_,fun X h=>OL (h1 X h) (by show X.env.scope.names.lookup x=_;rw [h.sc];exact hg) (by rw [h.mg];exact hm) hv (q X h) hn hdb (he _) (hpl _),K6 h2 s⟩
theorem pE {T:String} {r':List U->aE->UK->Prop} (k:E8 D (.type T) r') (hm:D.mg x=none) (ha:jZ D (e :: es) tas) (hv:bootBuiltins x=some (.type T):=by kernel_rfl) (hg:D.sc.names.lookup x=some .globalImplicit:=by rfl) (hn:x≠"__name__":=by decide) (hdb:(x == ("__debug__":Str))=false:=by decide)
  (he:∀ env,starEach (e :: es) env=(false,eval e env) :: starEach es env:=by intro _;rfl) (hpl:∀ env,(backTo pos (starEach es env)).any (·.1)=false:=by intro _;rfl):bA D (.Call (.Name x p) (e :: es) [] pos) (rS r' tas):=by
 obtain ⟨r,h1,h2⟩:=k.ex
 obtain ⟨_,q,s⟩:=ha
 exact ⟨_,fun X h=>Lf (h1 X h) (by show X.env.scope.names.lookup x=_;rw [h.sc];exact hg) (by rw [h.mg];exact hm) hv (q X h) hn hdb (he _) (hpl _),K6 h2 s⟩
theorem eI:E8 D (.builtin "len") o6:=⟨⟨_,fun X h=>by have:=Ol (X:=X);rw [h.K] at this;exact this,Rp⟩⟩
theorem zW:E8 D (.type "str") (nG (fun i=>i.natAbs.log2 < 1920) fun i=>.str (toString i)):=⟨⟨_,fun X h=>D0,HZ⟩⟩
theorem qC:E8 D (.type "tuple") kX:=⟨⟨_,fun X h=>by have:=Dw (X:=X);rw [h.K] at this;exact this,Kk⟩⟩
def Ss (K:PySem.W.Frag):List V->Hp->VK->Prop:=fun xs H Q=>∃ x T t b,xs=[x,.ty T]/\(nB K H x (.type t)\/(t="tuple"/\∃ p vs ob,x=.ref p/\H p=some (.frz ob (.tup vs)))\/(t="tuple"/\∃ p vs,x=.ref p/\KT K p vs)\/(t="list"/\∃ p vs,x=.ref p/\KL K p vs)\/(t="dict"/\∃ p ob u,x=.ref p/\H p=some (.frz ob u)/\Of u=true))/\PySem.W.kitOne K (.type t) (.type T)=some b/\Q (.bl b) H
theorem Mo {X:Cx}:sJ X (.builtin "isinstance") (Ss X.K):=by
 intro pins s σ H xs us Q I r h
 obtain ⟨x,T,t,b,rfl,ty,e,q⟩:=h
 obtain ⟨u,w',rfl,ru,rw'⟩:=vals2 r
 cases rw'
 rcases ty with ty | ⟨rfl,p,vs,ob,rfl,m⟩ | ⟨rfl,p,vs,rfl,o,its,n,hk,hc,hd,_,_⟩ | ⟨rfl,p,vs,rfl,o,its,n,hk,hc,_,hd,_,_⟩ | ⟨rfl,p,ob,du,rfl,m,dk⟩
 ·exact Mg I ru ty e fun tk=>⟨.bl b,H,I.tok tk,rfl,q⟩
 ·cases ru
  obtain ⟨_,_,_,_,o,h1,h2,_⟩:=(show dC X.prog X.w H s.heap p (.frz ob (.tup vs)) from I.hok p _ m)
  exact PySem.W.kia_one PySem.W.kitx_tuple I.kIn ⟨o,h1,h2⟩ e (fun z=>nomatch z) fun tk=>⟨.bl b,H,I.tok tk,rfl,q⟩
 ·cases ru
  exact PySem.W.kia_one PySem.W.kitx_tuple I.kIn ⟨o,I.kIn _ _ hk,hc⟩ e (fun z=>nomatch z) fun tk=>⟨.bl b,H,I.tok tk,rfl,q⟩
 ·cases ru
  exact PySem.W.kia_one PySem.W.kitx_list I.kIn ⟨o,I.kIn _ _ hk,hc⟩ e (fun z=>nomatch z) fun tk=>⟨.bl b,H,I.tok tk,rfl,q⟩
 ·cases ru
  obtain ⟨hg,ho⟩:=(show dC X.prog X.w H s.heap p (.frz ob du) from I.hok p _ m)
  have hx:∃ o,s.heap.get? p=some o/\o.cls=.type "dict":=by
   cases du with
   | dK kvs=>obtain ⟨_,_,_,_,o,_,_,h1,h2,_⟩:=ho;exact ⟨o,h1,h2.1⟩
   | dT kvs=>obtain ⟨_,_,_,_,o,_,_,h1,h2,_⟩:=ho;exact ⟨o,h1,h2.1⟩
   | _=>cases dk
  exact PySem.W.kia_one PySem.W.kitx_dict I.kIn hx e (fun z=>nomatch z) fun tk=>⟨.bl b,H,I.tok tk,rfl,q⟩
def Bz:List (String × String × Bool):=[("NoneType","bool",false),("NoneType","int",false),("NoneType","str",false),("NoneType","tuple",false),("NoneType","list",false),("NoneType","dict",false),("bool","bool",true),("bool","int",true),("bool","str",false),("bool","tuple",false),("bool","list",false),("bool","dict",false),("int","bool",false),("int","int",true),("int","str",false),("int","tuple",false),("int","list",false),("int","dict",false),("str","bool",false),("str","int",false),("str","str",true),("str","tuple",false),("str","list",false),("str","dict",false),("tuple","bool",false),("tuple","int",false),("tuple","str",false),("tuple","tuple",true),("tuple","list",false),("tuple","dict",false),("list","bool",false),("list","int",false),("list","str",false),("list","tuple",false),("list","list",true),("list","dict",false),("dict","bool",false),("dict","int",false),("dict","str",false),("dict","tuple",false),("dict","list",false),("dict","dict",true)]
theorem K9 {K:PySem.W.Frag}:∀ r∈Bz,PySem.W.kitOne K (.type r.1) (.type r.2.1)=some r.2.2:=by
 intro r hr
 simp only [Bz,List.mem_cons,List.not_mem_nil,or_false] at hr
 rcases hr with rfl | rfl | rfl | rfl | rfl | rfl | rfl | rfl | rfl | rfl | rfl | rfl | rfl | rfl | rfl | rfl | rfl | rfl | rfl | rfl | rfl | rfl | rfl | rfl | rfl | rfl | rfl | rfl | rfl | rfl | rfl | rfl | rfl | rfl | rfl | rfl | rfl | rfl | rfl | rfl | rfl | rfl <;> first | rfl | kernel_rfl
def bI (t T:String):Option Bool:=(Bz.find? fun r=>r.1 == t && r.2.1 == T).map (·.2.2)
theorem LU {K:PySem.W.Frag} {t T:String} {b:Bool} (h:bI t T=some b):PySem.W.kitOne K (.type t) (.type T)=some b:=by
 unfold bI at h
 cases e:Bz.find? fun r=>r.1 == t && r.2.1 == T with
 | none=>rw [e] at h;cases h
 | some r =>
  rw [e] at h
  cases h
  have h1:=List.find?_some e
  have h2:=K9 (K:=K) r (List.mem_of_find?_eq_some e)
  simp only [Bool.and_eq_true,beq_iff_eq] at h1
  rw [h1.1,h1.2] at h2
  exact h2
def nK:List U->aE->UK->Prop:=fun us M Q=>match us with
 | [x,.ty T]=>match wV M x with
  | some t=>match bI t T with
   | some b=>Q (.bl b) M
   | none=>False
  | none=>False
 | _=>False
theorem Q6 {K:PySem.W.Frag}:Al K (Ss K) nK:=fun xs us H M Q' rm rus h Q c=>by
 unfold nK at h
 split at h
 ·rename_i x T
  split at h
  ·rename_i t e
   split at h
   ·rename_i b e2
    obtain ⟨v,z,rfl,a1,a2⟩:=rus.two
    cases a2.ty
    refine ⟨v,T,t,b,rfl,?_,LU e2,c.here rm cX h⟩
    cases x with
    | non=>cases a1.non;cases e;exact .inl .non
    | bl y=>cases a1.bl;cases e;exact .inl (.bl y)
    | int y=>cases a1.int;cases e;exact .inl (.int y)
    | str y=>cases a1.str;cases e;exact .inl (.str y)
    | ty y=>cases e
    | tup y =>
     cases e
     simp only [aP] at a1
     obtain ⟨a,vs,rfl,m,r⟩:=a1
     exact .inl (.tup m.2)
    | lst y =>
     cases e
     simp only [aP] at a1
     obtain ⟨a,vs,rfl,m,r⟩:=a1
     rcases m with ⟨_,m | ⟨ob,m⟩⟩ | k
     ·exact .inl (.lst m)
     ·exact .inl (.frz m)
     ·exact .inr (.inr (.inr (.inl ⟨rfl,a,vs,rfl,k⟩)))
    | dic ks tk y =>
     cases e
     simp only [aP] at a1
     obtain ⟨a,vs,rfl,m,r,_⟩:=a1
     cases tk with
     | true =>
      obtain ⟨ws,h1 | ⟨ob,h1⟩,_⟩:=r
      ·exact .inl (.dT h1)
      ·exact .inr (.inr (.inr (.inr ⟨rfl,a,ob,_,rfl,h1,rfl⟩)))
     | false =>
      obtain ⟨ws,h1 | ⟨ob,h1⟩,_⟩:=r
      ·exact .inl (.dK h1)
      ·exact .inr (.inr (.inr (.inr ⟨rfl,a,ob,_,rfl,h1,rfl⟩)))
    | ref y =>
     cases a1.ref
     simp only [wV] at e
     split at e
     ·rename_i ws e3
      cases e
      obtain ⟨vs,h1,_⟩:=rm y _ e3
      exact .inl (.lst h1)
     ·rename_i ws e4
      cases e
      obtain ⟨vs,h1,_⟩:=rm y _ e4;exact .inl (.dK h1)
     ·rename_i ws e4
      cases e
      obtain ⟨vs,h1,_⟩:=rm y _ e4;exact .inl (.dT h1)
     ·cases e
   ·exact h.elim
  ·exact h.elim
 ·exact h.elim
theorem iL:E8 D (.builtin "isinstance") nK:=⟨⟨_,fun X h=>by have:=Mo (X:=X);rw [h.K] at this;exact this,Q6⟩⟩
def oM:List U->Option (List Bool)
 | []=>some []
 | .bl b :: r=>(oM r).map (b :: ·)
 | _=>none
def wZ:List U->aE->UK->Prop:=fun us M Q=>match us with
 | [x]=>match view M x with
  | .lst ws=>match oM ws with
   | some bs=>Q (.bl (bs.all fun b=>b)) M
   | none=>False
  | _=>False
 | _=>False
theorem FH {K:PySem.W.Frag} {H:Hp} {M:aE}:∀ {us:List U} {vs:List V} {bs:List Bool},aI K H M us vs->oM us=some bs->vs=bs.map V.bl
 | [],_,_,r,h=>by cases h;exact r.inv_nil
 | u :: us,_,bs,r,h=>by
  obtain ⟨v,vs',rfl,a,b⟩:=r.inv_cons
  cases u with
  | bl y =>
   simp only [oM] at h
   cases e:oM us with
   | none=>rw [e] at h;cases h
   | some cs =>
    rw [e] at h
    cases h
    rw [FH b e,a.bl];rfl
  | _=>cases h
theorem HX:E8 D (.builtin "all") wZ:=⟨⟨_,fun X h=>by have:=Kj (X:=X) h.calm;rw [h.K] at this;exact this,fun xs us H M Q' rm rus h Q c=>by
 unfold wZ at h
 split at h
 ·rename_i x
  obtain ⟨v,rfl,a1⟩:=rus.one
  split at h
  ·rename_i ws e
   split at h
   ·rename_i bs e2
    obtain ⟨b,zvs,rfl,s2,r2⟩:=iS rm a1 e
    rw [FH r2 e2] at s2
    exact ⟨b,bs,rfl,s2,c.here rm cX h⟩
   ·exact h.elim
  ·exact h.elim
 ·exact h.elim⟩⟩
theorem rV {apos:Pos} (ho:bA D o ta) (ha:jZ D [e] tas) (hbase:∀ env,attributeBase o "append" env (eval o env)=eval o env:=by intro _;rfl)
  (hfew:∀ env,((backTo pos (starEach [e] env)).all (fun x=>!x.1) && (backToKw pos (keywordEach [] env)).all (fun x=>x.1.isSome) && decide ([e].length + ([]:List Keyword).length + (if ([]:List Keyword).isEmpty then 0 else 1) < 30))=true:=by intro _;rfl)
  (hline:(apos.endLine == pos.line)=true:=by rfl) (hs:∀ env,starEach [e] env=[(false,eval e env)]:=by intro _;rfl):bA D (.Call (.Attribute o "append" apos) [e] [] pos) (AL iY ta tas):=by
 obtain ⟨_,p,s⟩:=ho;obtain ⟨_,q,r⟩:=ha
 refine ⟨_,fun X h=>?_,KA BB s r⟩
 have:=zP (cpos:=pos) (apos:=apos) PySem.F.plainAttrs_list PySem.F.slot_list_append PySem.F.type_list_append zI (p X h) (q X h) (hbase _) (hfew _) hline (hs _) (by rfl)
 rw [h.K] at this
 exact this
theorem Km {apos:Pos} (ho:bA D o ta) (hbase:∀ env,attributeBase o "pop" env (eval o env)=eval o env:=by intro _;rfl)
  (hline:(apos.endLine == pos.line)=true:=by rfl):bA D (.Call (.Attribute o "pop" apos) [] [] pos) (wR tH ta):=by
 obtain ⟨_,p,s⟩:=ho
 refine ⟨_,fun X h=>?_,Qm QT s⟩
 have:=TJ (cpos:=pos) (apos:=apos) PySem.F.plainAttrs_list PySem.F.slot_list_pop PySem.F.type_list_pop Vf (p X h) (hbase _) hline
 rw [h.K] at this
 exact this
def dS (scope sc:Scope):Scope :=
 { scope with names:=scope.names.map fun (n,k)=>if (k == .free && sc.kind == .function && sc.names.lookup n == some .cell) then (n,.cell) else (n,k) }
def cP (D:Dat) (N:List Str) (scope:Scope):Dat:={ D with N:=N,sc:=dS scope D.sc,fn:=false,cod:=.none }
theorem jU.comp {X:Cx} (h:jU D X) (N:List Str) (scope:Scope) (cl:List (Str × Addr)) (C:Addr) (s:Shared) (H:Hp) (fp:List Addr):jU (cP D N scope) (eB X N scope cl C s H fp) :=
 ⟨h.prog,h.w,h.K,h.mg,h.base,rfl,by show dS scope X.env.scope=dS scope D.sc;rw [h.sc],h.room,h.calm,rfl,(fun z=>by cases z),(fun z=>absurd rfl z),(fun z=>by cases z)⟩
theorem lJ:IM D [] (fun _ M Q=>Q true M):=⟨U8,fun X h=>Qs,fun σ τ H M Q' rs rm q Q c=>c true M H (aW.refl _ _) rm q⟩
theorem Qn {t:UT} (h:oA D c t):IM D [c] t:=let ⟨_,p,s⟩:=h;⟨_,fun X h=>RP (p X h),s⟩
theorem lG (own:Bool) (N:List Str) (k:Nat) (ix:List Nat) {scope:Scope} {tg iter elt:Expr} {ifs:List Expr} {wi:UI} {g:UG} {tcs:UT} (hi:BD D tg iter wi) (hg:Dh (cP D N scope) k tg g) (hif:IM (cP D N scope) ifs tcs) (he:bA (cP D N scope) elt te)
  (hk:scope.kind=.function:=by rfl) (hcell:∀ y∈scope.names,y.2≠.cell:=by first | decide +kernel | (dsimp only;decide +kernel) | (dsimp only [cP,dS];decide +kernel)) (hnames:∀ y∈scope.names,y.2=.local->scope.names.lookup y.1=some .local:=by first | decide +kernel | (dsimp only;decide +kernel) | (dsimp only [cP,dS];decide +kernel))
  (hfree:∀ y∈scope.names,y.2=.free->D.sc.names.lookup y.1=some .cell\/D.sc.names.lookup y.1=some .free:=by first | decide +kernel | (dsimp only;decide +kernel) | (dsimp only [cP,dS];decide +kernel)) (hone:∀ y∈scope.names,y.2=.free->scope.names.lookup y.1=some .free:=by first | decide +kernel | (dsimp only;decide +kernel) | (dsimp only [cP,dS];decide +kernel))
  (hN:ix.map (fun i=>D.N[i]?)=(N.drop k).map some:=by rfl) (hcap:∀ x∈N.drop k,scope.names.lookup x=some .free:=by first | decide +kernel | (dsimp only;decide +kernel) | (dsimp only [cP,dS];decide +kernel)) (hlen:N.length=k + ix.length:=by rfl)
  (hs:∀ env x,foldedSetIterable iter env x=pure x:=by intro _ _;rfl):bA D (.ListComp elt [⟨tg,iter,ifs,0⟩] scope pos) (Bo own k ix wi g tcs te):=by
 obtain ⟨_,p1,s1⟩:=hi;obtain ⟨_,p2,s2,gk,_⟩:=hg;obtain ⟨_,p3,s3⟩:=hif;obtain ⟨_,p4,s4⟩:=he
 have hN':∀ (j:Nat) x,N[k + j]?=some x->∃ i,ix[j]?=some i/\D.N[i]?=some x:=fun j x e=>by
  have e1:((N.drop k).map some)[j]?=some (some x):=by rw [List.getElem?_map,List.getElem?_drop,e];rfl
  rw [<- hN,List.getElem?_map] at e1
  cases q:ix[j]? with
  | none=>rw [q] at e1;cases e1
  | some i=>rw [q] at e1;exact ⟨i,rfl,Option.some.inj e1⟩
 have hcap':∀ (j:Nat) x,N[k + j]?=some x->scope.names.lookup x=some .free:=fun j x e=>hcap x (List.mem_of_getElem? (i:=j) (by rw [List.getElem?_drop];exact e))
 refine ⟨_,fun X h=>Qx (N:=N) (k:=k) (ix:=ix) h.calm (p1 X h) gk hk hcell hnames (fun y hy e=>by show X.env.scope.names.lookup y.1=_\/X.env.scope.names.lookup y.1=_;rw [h.sc];exact hfree y hy e) hone (fun j x e=>by rw [h.N];exact hN' j x e) hcap' hlen
  (fun cl C s H fp=>p2 _ (h.comp N scope cl C s H fp)) (fun cl C s H fp=>p3 _ (h.comp N scope cl C s H fp)) (fun cl C s H fp=>p4 _ (h.comp N scope cl C s H fp)) (hs _),D6 s1 s2 s3 s4⟩
theorem OI {elt:Expr} {gens:List Comprehension} {scope:Scope} {pos py:Pos} {y:Str} {line:Nat} {env:Env} (h1:env.scope.kind=.function) (h2:env.scope.names.lookup y=some .local) (h3:(py.line == pos.line && !(scope.names.any fun (n,k)=>n == y && (k == .local || k == .cell)))=true) :
  swapsWith (.ListComp elt gens scope pos) (some (.Name y py)) line env=pure true:=by
 have e1:(env.blockKind == .function)=true:=by first | (unfold Env.blockKind;rw [h1];rfl) | (unfold Env.blockKind;simp [h1])
 have e2:(env.kindOf y == some .local)=true:=by unfold Env.kindOf;rw [h2];rfl
 show pure (env.blockKind == .function && env.kindOf y == some .local && py.line == pos.line && !(scope.names.any fun (n,k)=>n == y && (k == .local || k == .cell)))=pure true
 rw [e1,e2]
 simp only [Bool.and_eq_true] at h3
 rw [h3.1,h3.2]
 rfl
theorem Ro (i:Nat) {y:Str} {spos py:Pos} (hNd:D.N.Nodup) (own:Bool) (N:List Str) (k:Nat) (ix:List Nat) {scope:Scope} {tg iter elt:Expr} {ifs:List Expr} {wi:UI} {g:UG} {tcs:UT} (hi:BD D tg iter wi) (hg:Dh (cP D N scope) k tg g) (hif:IM (cP D N scope) ifs tcs) (he:bA (cP D N scope) elt te)
  (hk:scope.kind=.function:=by rfl) (hcell:∀ y∈scope.names,y.2≠.cell:=by first | decide +kernel | (dsimp only;decide +kernel) | (dsimp only [cP,dS];decide +kernel)) (hnames:∀ y∈scope.names,y.2=.local->scope.names.lookup y.1=some .local:=by first | decide +kernel | (dsimp only;decide +kernel) | (dsimp only [cP,dS];decide +kernel))
  (hfree:∀ y∈scope.names,y.2=.free->D.sc.names.lookup y.1=some .cell\/D.sc.names.lookup y.1=some .free:=by first | decide +kernel | (dsimp only;decide +kernel) | (dsimp only [cP,dS];decide +kernel)) (hone:∀ y∈scope.names,y.2=.free->scope.names.lookup y.1=some .free:=by first | decide +kernel | (dsimp only;decide +kernel) | (dsimp only [cP,dS];decide +kernel))
  (hN:ix.map (fun i=>D.N[i]?)=(N.drop k).map some:=by rfl) (hcap:∀ x∈N.drop k,scope.names.lookup x=some .free:=by first | decide +kernel | (dsimp only;decide +kernel) | (dsimp only [cP,dS];decide +kernel)) (hlen:N.length=k + ix.length:=by rfl)
  (hs:∀ env x,foldedSetIterable iter env x=pure x:=by intro _ _;rfl) (hl1:D.sc.kind=.function:=by rfl) (hl2:D.sc.names.lookup y=some .local:=by rfl) (hl3:(py.line == pos.line && !(scope.names.any fun (n,k)=>n == y && (k == .local || k == .cell)))=true:=by decide +kernel)
  (hiy:D.N[i]?=some y:=by rfl) (hy:Loc D.sc y:=by first | exact Or.inl rfl | exact Or.inr rfl) (hf:D.fn=true\/D.sc.names.lookup y=some .local:=by first | exact .inl rfl | exact .inr rfl):rW D (.Assign [.Name y py] (.ListComp elt [⟨tg,iter,ifs,0⟩] scope pos) spos) (bH (Bo own k ix wi g tcs te) (hName i)):=by
 obtain ⟨_,p1,s1⟩:=hi;obtain ⟨_,p2,s2,gk,_⟩:=hg;obtain ⟨_,p3,s3⟩:=hif;obtain ⟨_,p4,s4⟩:=he
 have hN':∀ (j:Nat) x,N[k + j]?=some x->∃ i,ix[j]?=some i/\D.N[i]?=some x:=fun j x e=>by
  have e1:((N.drop k).map some)[j]?=some (some x):=by rw [List.getElem?_map,List.getElem?_drop,e];rfl
  rw [<- hN,List.getElem?_map] at e1
  cases q:ix[j]? with
  | none=>rw [q] at e1;cases e1
  | some i=>rw [q] at e1;exact ⟨i,rfl,Option.some.inj e1⟩
 have hcap':∀ (j:Nat) x,N[k + j]?=some x->scope.names.lookup x=some .free:=fun j x e=>hcap x (List.mem_of_getElem? (i:=j) (by rw [List.getElem?_drop];exact e))
 refine ⟨_,fun X h=>QU (i:=i) (N:=N) (k:=k) (ix:=ix) h.calm (p1 X h) gk hk hcell hnames (fun y hy e=>by show X.env.scope.names.lookup y.1=_\/X.env.scope.names.lookup y.1=_;rw [h.sc];exact hfree y hy e) hone (fun j x e=>by rw [h.N];exact hN' j x e) hcap' hlen
  (fun cl C s H fp=>p2 _ (h.comp N scope cl C s H fp)) (fun cl C s H fp=>p3 _ (h.comp N scope cl C s H fp)) (fun cl C s H fp=>p4 _ (h.comp N scope cl C s H fp)) (hs _) (OI (by rw [h.sc];exact hl1) (by rw [h.sc];exact hl2) hl3) (by rw [h.N];exact hNd) (by rw [h.N];exact hiy) (by rw [h.sc];exact hy) (by rcases hf with z | z;exact .inl (h.fn z y);exact .inr (by rw [h.sc];exact z)),Aa (D6 s1 s2 s3 s4) (sL i)⟩
end
section
variable {P:Program} {w:World} {K:PySem.W.Frag} {mg:Str->Option Value} {base:Heap}
theorem rR {H:Hp} {M:aE} {N:List Str} {us:List U} {vs:List V} (r:aI K H M us vs):cJ K H M (L2.start N vs) (c9 N us):=by
 have hl:=r.length
 refine ⟨by simp [L2.start,c9,hl],fun i u e=>?_⟩
 unfold c9 at e
 unfold L2.start
 by_cases hi:i < us.length
 ·rw [List.getElem?_append_left (by simpa using hi),List.getElem?_map] at e
  cases q:us[i]? with
  | none=>rw [q] at e;cases e
  | some u' =>
   rw [q] at e
   cases e
   obtain ⟨v,h1,h2⟩:=r.get q
   exact ⟨v,by rw [List.getElem?_append_left (by rw [List.length_map];omega),List.getElem?_map,h1];rfl,h2⟩
 ·rw [List.getElem?_append_right (by simpa using hi),List.getElem?_replicate] at e
  split at e <;> cases e
theorem Qw {x:Str} {st:Stmt} {f:Addr} {fd:FuncData} {N ps:List Str} {k:Nat} {sp:cF} {t:US} (F:b8 K x x st f fd) (S:aU N ps (aH st))
  (len:∀ us M Q,sp us M Q->us.length=ps.length)
  (h:m7 ⟨P,w,K,mg,base,N,aH st,k,true,.none,""⟩ (cH st) t)
  (q:∀ us M Q,sp us M Q->t { nx:=fun _ M'=>hZ Q .non M',rt:=hZ Q } (c9 N us) M):fD P w K mg base iU (k + 1) f fd ps (fZ K sp):=by
 obtain ⟨t0,h1,h2⟩:=h
 refine F.ok S (fun vs H Q E ⟨us,M,Q',_,r,hs,_⟩=>by rw [<- r.length];exact len us M Q' hs) (fun cdv A outer s H vs Q E hr ⟨us,M,Q',rm,r,hs,c⟩=>?_)
 refine ⟨t0,h1 _ ⟨rfl,rfl,rfl,rfl,rfl,rfl,rfl,hr,rfl,rfl,fun _ _=>rfl,fun h=>absurd rfl h,fun _=>⟨rfl,rfl,rfl⟩⟩,?_⟩
 refine h2 _ (c9 N us) H M _ (rR r) rm (q us M Q' hs) _ ⟨fun σ τ H1 M1 s1 rm1 rs1 q1=>?_,fun u v H1 M1 s1 rm1 ru q1=>hZ.ok c s1 rm1 ru q1,fun _ _ _ _ _ _ _ z=>z.elim,fun _ _ _ _ _ _ _ z=>z.elim⟩
 exact hZ.ok c s1 rm1 jD q1
theorem Lc {x:Str} {st:Stmt} {f:Addr} {fd:FuncData} {N ps:List Str} {k:Nat} {sp:cF} {t:US} (F:b8 K x x st f fd) (hm:mg x=some (.ref f)) (S:aU N ps (aH st))
  (bind:∀ (kV doc pm:Value) (an:Option Addr) (cdv ct:Value) (us:List Value),us.length=ps.length->bindArgs (PySem.W.fnOf x x (eM st) (cH st) (aH st) .none kV doc pm an cdv ct) ⟨us,[]⟩=pure (ps.zip us))
  (len:∀ us M Q,sp us M Q->us.length=ps.length)
  (h:m7 ⟨P,w,K,mg,base,N,aH st,k,true,.none,""⟩ (cH st) t)
  (q:∀ us M Q,sp us M Q->t { nx:=fun _ M'=>hZ Q .non M',rt:=hZ Q } (c9 N us) M):Callee P w K mg base (k + 1) x sp []:=by
 obtain ⟨t0,h1,h2⟩:=h
 refine ⟨f,fd,ps,[],[],F.ok S (fun vs H Q E ⟨us,M,Q',_,r,hs,_⟩=>by rw [<- r.length];exact len us M Q' hs) (fun cdv A outer s H vs Q E hr ⟨us,M,Q',rm,r,hs,c⟩=>?_),hm,F.kp,F.binds bind,.nil,fun H M=>.nil⟩
 refine ⟨t0,h1 _ ⟨rfl,rfl,rfl,rfl,rfl,rfl,rfl,hr,rfl,rfl,fun _ _=>rfl,fun h=>absurd rfl h,fun _=>⟨rfl,rfl,rfl⟩⟩,?_⟩
 refine h2 _ (c9 N us) H M _ (rR r) rm (q us M Q' hs) _ ⟨fun σ τ H1 M1 s1 rm1 rs1 q1=>?_,fun u v H1 M1 s1 rm1 ru q1=>hZ.ok c s1 rm1 ru q1,fun _ _ _ _ _ _ _ z=>z.elim,fun _ _ _ _ _ _ _ z=>z.elim⟩
 exact hZ.ok c s1 rm1 jD q1
end
end U2
namespace U2
open PySem L2
theorem c6:bI "NoneType" "bool"=some false:=by decide +kernel
theorem dH:bI "NoneType" "int"=some false:=by decide +kernel
theorem dJ:bI "NoneType" "str"=some false:=by decide +kernel
theorem cV:bI "NoneType" "tuple"=some false:=by decide +kernel
theorem c8:bI "NoneType" "list"=some false:=by decide +kernel
theorem c7:bI "NoneType" "dict"=some false:=by decide +kernel
theorem fE:bI "bool" "bool"=some true:=by decide +kernel
theorem gN:bI "bool" "int"=some true:=by decide +kernel
theorem hW:bI "bool" "str"=some false:=by decide +kernel
theorem eO:bI "bool" "tuple"=some false:=by decide +kernel
theorem fK:bI "bool" "list"=some false:=by decide +kernel
theorem fF:bI "bool" "dict"=some false:=by decide +kernel
theorem gU:bI "int" "bool"=some false:=by decide +kernel
theorem iM:bI "int" "int"=some true:=by decide +kernel
theorem iT:bI "int" "str"=some false:=by decide +kernel
theorem fN:bI "int" "tuple"=some false:=by decide +kernel
theorem gM:bI "int" "list"=some false:=by decide +kernel
theorem gO:bI "int" "dict"=some false:=by decide +kernel
theorem gK:bI "str" "bool"=some false:=by decide +kernel
theorem iR:bI "str" "int"=some false:=by decide +kernel
theorem iN:bI "str" "str"=some true:=by decide +kernel
theorem fT:bI "str" "tuple"=some false:=by decide +kernel
theorem gZ:bI "str" "list"=some false:=by decide +kernel
theorem gQ:bI "str" "dict"=some false:=by decide +kernel
theorem eQ:bI "tuple" "bool"=some false:=by decide +kernel
theorem fM:bI "tuple" "int"=some false:=by decide +kernel
theorem fP:bI "tuple" "str"=some false:=by decide +kernel
theorem dZ:bI "tuple" "tuple"=some true:=by decide +kernel
theorem eK:bI "tuple" "list"=some false:=by decide +kernel
theorem eJ:bI "tuple" "dict"=some false:=by decide +kernel
theorem fR:bI "list" "bool"=some false:=by decide +kernel
theorem gS:bI "list" "int"=some false:=by decide +kernel
theorem gR:bI "list" "str"=some false:=by decide +kernel
theorem eP:bI "list" "tuple"=some false:=by decide +kernel
theorem fO:bI "list" "list"=some true:=by decide +kernel
theorem fL:bI "list" "dict"=some false:=by decide +kernel
theorem fS:bI "dict" "bool"=some false:=by decide +kernel
theorem gL:bI "dict" "int"=some false:=by decide +kernel
theorem gT:bI "dict" "str"=some false:=by decide +kernel
theorem eT:bI "dict" "tuple"=some false:=by decide +kernel
theorem fH:bI "dict" "list"=some false:=by decide +kernel
theorem fG:bI "dict" "dict"=some true:=by decide +kernel
theorem aL {Q:UK} {u:U} {M:aE} (q:Q u M):hZ Q u M:=⟨u,M,Sub.refl M,.inl rfl,q⟩
theorem BK {o:Bool} {k:Nat} {ix:List Nat} {wi:UI} {g:UG} {tc:UT} {te:UE} {τ:SU} {M M1:aE} {Q:UK} {S:Src} (f:U->Option U) (hw:∀ R:Src->aE->Prop,R S M1->wi τ M R) (hz:S.xs.length<=sizeLine) (hs:S.ok M1)
  (h:∀ x∈S.xs,∀ M,Sub M1 M->∀ R:Option U->aE->Prop,R (f x) M->g x (eG k ix τ) M fun τ2 M2=>tc τ2 M2 fun ok M3=>if ok=true then te τ2 M3 fun y M4=>R (some y) M4 else R none M3)
  (q:jX o (S.xs.filterMap f) M1 Q):Bo o k ix wi g tc te τ M Q:=hw _ (Lu (wi:=wi) f hz hs h q)
theorem uH {wi:UI} {g:UG} {tb:US} {D:kY} {τ:SU} {M M1:aE} {S:Src} (hw:∀ R:Src->aE->Prop,R S M1->wi τ M R) (P:Nat->SU->aE->Prop) (h0:P 0 τ M1) (hok:∀ i τ M,P i τ M->S.ok M)
  (turn:∀ i x τ M,S.xs[i]?=some x->P i τ M->g x τ M fun τ2 M2=>tb { D with nx:=P (i + 1),ct:=P (i + 1),bk:=D.nx } τ2 M2) (fin:∀ τ M,P S.xs.length τ M->D.nx τ M):HU wi g tb D τ M:=hw _ ⟨P,h0,hok,turn,fin⟩
theorem lA {c:UT} {tb:US} {D:kY} {τ:SU} {M:aE} (P:SU->aE->Prop) (μ:SU->aE->Nat) (h0:P τ M)
  (turn:∀ τ M,P τ M->c τ M fun b M1=>if b=true then tb { D with nx:=fun τ' M'=>P τ' M'/\μ τ' M' < μ τ M,ct:=fun τ' M'=>P τ' M'/\μ τ' M' < μ τ M,bk:=D.nx } τ M1 else D.nx τ M1):By c tb D τ M:=⟨P,μ,h0,turn⟩
theorem u4 {lo:Int} {n i:Nat} {x:U} (h:(cY lo n)[i]?=some x):x=.int (lo + i)/\i < n:=by
 have hi:i < n:=by
  have:=(List.getElem?_eq_some_iff.mp h).1
  simpa [cY] using this
 simp only [cY,List.getElem?_map,List.getElem?_range hi,Option.map_some] at h
 exact ⟨(Option.some.inj h).symm,hi⟩
theorem Vq (lo:Int) (n:Nat):(cY lo n).length=n:=by simp [cY]
end U2
namespace U2
open PySem PySem.Spec PyProof.Rows L2
inductive Fl where
 | int (i:Int) | str (x:Str)
def Fl.d:Fl->PyData
 | .int i=>.int i
 | .str x=>.str x
def Fl.u:Fl->U
 | .int i=>.int i
 | .str x=>.str x
def Fl.v:Fl->V
 | .int i=>.int i
 | .str x=>.str x
def NI (T:List (Str × Fl)):List (PyData × PyData):=T.map fun p=>(PyData.str p.1,p.2.d)
def bU:List (Str × Fl)->Str->Option Fl
 | [],_=>none
 | (a,b) :: r,z=>if a=z then some b else bU r z
structure nF (P:Program) (w:World) (K:PySem.W.Frag) (d:Addr) (T:List (Str × Fl)):Prop where
 at_:∀ h:Heap,K.In h->StrTab P w h d (NI T)
theorem Wb (a b:Str):same (.str a) (.str b)=decide (a=b):=by
 by_cases h:a=b <;> simp [same,h]
theorem lookup_tab:∀ (T:List (Str × Fl)) (z:Str),PySem.Spec.lookup (.str z) (NI T)=(bU T z).map Fl.d
 | [],_=>rfl
 | (a,b) :: r,z=>by
  have ih:=lookup_tab r z
  show (if same (.str a) (.str z)=true then some b.d else PySem.Spec.lookup (.str z) (NI r))=((if a=z then some b else bU r z).map Fl.d)
  rw [Wb]
  by_cases e:a=z
  ·rw [if_pos (decide_eq_true e),if_pos e];rfl
  ·rw [if_neg (by simpa using e),if_neg e,ih]
def x8 (T:List (Str × Fl)):List (Str × PyData):=T.map fun p=>(p.1,p.2.d)
theorem tab_of {P:Program} {w:World} {K:PySem.W.Frag} {d:Addr} {T:List (Str × Fl)} (n:((x8 T).map (·.1)).Nodup) (e:KTD.tabLook KTD.flatLooks (fun b=>K.lookup b) d (x8 T)=true) (q:KTD.hashesOf (fun b=>K.lookup b) d=(x8 T).map fun p=>(PySem.strKind P w).hash p.1):nF P w K d T:=⟨fun h hK=>by
 have:=PySem.W.kt_tab_in P w hK e n q
 unfold x8 at this
 rw [List.map_map] at this
 exact this⟩
section
variable {X:Cx} {d:Addr} {T:List (Str × Fl)}
theorem OK (t:nF X.prog X.w X.K d T):cZ X (compareOp .In) (fun x y H Q=>∃ z,x=.str z/\y=.ref d/\Q (.bl (bU T z).isSome) H):=by
 intro pins s σ H x y v u Q I rx ry h
 obtain ⟨z,rfl,rfl,q⟩:=h
 obtain ⟨tk,rfl⟩:=rx
 cases ry
 refine in_strTab (t.at_ _ I.kIn) ?_
 rw [lookup_tab,Option.isSome_map]
 exact ⟨.bl _,H,I.tok _,rfl,q⟩
theorem FK (t:nF X.prog X.w X.K d T):cZ X (compareOp .NotIn) (fun x y H Q=>∃ z,x=.str z/\y=.ref d/\Q (.bl (!(bU T z).isSome)) H):=by
 intro pins s σ H x y v u Q I rx ry h
 obtain ⟨z,rfl,rfl,q⟩:=h
 obtain ⟨tk,rfl⟩:=rx
 cases ry
 refine notin_strTab (t.at_ _ I.kIn) ?_
 rw [lookup_tab,Option.isSome_map]
 exact ⟨.bl _,H,I.tok _,rfl,q⟩
theorem RC {f:Fl} {v:Value} (h:PyProof.V.Flat v f.d):RelV f.v v:=by
 have:=h default
 cases f with
 | int i=>cases this;exact ⟨_,rfl⟩
 | str i=>cases this;exact ⟨_,rfl⟩
theorem T6 {x:Str} {px pos:Pos} {b:Expr} {ta tb:TE} (t:nF X.prog X.w X.K d T) (ha:PE X (.Name x px) ta) (hb:PE X b tb) (hs:zN b) :
  PE X (.Subscript (.Name x px) b pos) (Ho (fun x y H Q=>∃ z f,x=.ref d/\y=.str z/\bU T z=some f/\Q f.v H) ta tb):=by
 intro pins s σ H Q I h
 refine Subscript_ (JL ha hb I h fun v u s2 x' y H2 I2 rx ry q=>?_)
 obtain ⟨z,f,rfl,rfl,e,q⟩:=q
 cases rx
 obtain ⟨tk,rfl⟩:=ry
 exact item_strTab (t.at_ _ I2.kIn) (dv:=f.d) (by rw [lookup_tab,e];rfl) (fun v hv=>⟨f.v,H2,I2.tok _,RC hv,q⟩) (hs _ _) (fun r=>rfl)
end
section
variable {D:Dat} {d:Addr} {T:List (Str × Fl)}
abbrev Tab (D:Dat):=nF D.prog D.w D.K
def l3 (d:Addr) (T:List (Str × Fl)) (neg:Bool):dW:=fun x y M Q=>match x with
 | .str z=>y=.ref d/\Q (.bl (if neg then !(bU T z).isSome else (bU T z).isSome)) M
 | _=>False
theorem G2 (t:Tab D d T):nW D .In (l3 d T false):=⟨⟨_,fun X h=>OK (by rw [h.prog,h.w,h.K];exact t),fun x y u w H M Q' rm ru rw h Q c=>by
 cases u with
 | str z=>obtain ⟨rfl,h⟩:=h;exact ⟨z,ru.str,rw.ref,c.here rm cX h⟩
 | _=>exact h.elim⟩⟩
theorem Ie (t:Tab D d T):nW D .NotIn (l3 d T true):=⟨⟨_,fun X h=>FK (by rw [h.prog,h.w,h.K];exact t),fun x y u w H M Q' rm ru rw h Q c=>by
 cases u with
 | str z=>obtain ⟨rfl,h⟩:=h;exact ⟨z,ru.str,rw.ref,c.here rm cX h⟩
 | _=>exact h.elim⟩⟩
def nI (d:Addr) (T:List (Str × Fl)):dW:=fun x y M Q=>match y with
 | .str z=>x=.ref d/\match bU T z with
  | some f=>Q f.u M
  | none=>False
 | _=>False
theorem U7 {K:PySem.W.Frag} {H:Hp} {M:aE} (f:Fl):aP K H M f.u f.v:=by cases f;exact dM;exact fJ
theorem KY {x:Str} {px pos:Pos} {b:Expr} {ta tb:UE} (t:Tab D d T) (ha:bA D (.Name x px) ta) (hb:bA D b tb) (hs:zN b:=by intro _ _;rfl):bA D (.Subscript (.Name x px) b pos) (gB (nI d T) ta tb):=by
 obtain ⟨_,p,s⟩:=ha;obtain ⟨_,q,r⟩:=hb
 refine ⟨_,fun X h=>T6 (d:=d) (T:=T) (by rw [h.prog,h.w,h.K];exact t) (p X h) (q X h) hs,yB (fun x y u w H M Q' rm ru rw h Q c=>?_) s r⟩
 cases w with
 | str z =>
  obtain ⟨rfl,h⟩:=h
  cases e:bU T z with
  | none=>rw [e] at h;exact h.elim
  | some f=>rw [e] at h;exact ⟨z,f,ru.ref,rw.str,e,c.here rm (U7 f) h⟩
 | _=>exact h.elim
def K0 (i:Nat) (f:Addr) (sp:Sp) (t:TA):TE:=fun σ H Q=>sY i σ H fun v H1=>v=.ref f/\t σ H1 fun vs H2=>sp vs H2 Q E0
def nY (i:Nat) (f:Addr) (sp:cF) (t:UA):UE:=fun τ M Q=>i5 i τ M fun v M1=>v=.ref f/\t τ M1 fun us M2=>sp us M2 Q
end
end U2
namespace U2
open PySem PySem.Spec PyProof.Rows L2
def half (j:Int):Nat:=((j + 1) / 2).toNat
theorem WU {j:Int} (h:0<=j):Builtin.Range.rangeSize 0 j 2=(half j:Nat):=by
 unfold Builtin.Range.rangeSize half
 simp only [show (2:Int) > 0 by decide,if_true]
 split <;> omega
def GP (n:Nat):List U:=(List.range n).map fun (k:Nat)=>U.int ((k:Int) * 2)
theorem Vl (n:Nat):(GP n).length=n:=by simp [GP]
end U2
namespace U2
open PySem PySem.Spec PyProof.Rows L2
def rY:List U->Option (List Str)
 | []=>some []
 | .str b :: r=>(rY r).map (b :: ·)
 | _=>none
theorem CH {K:PySem.W.Frag} {H:Hp} {M:aE}:∀ {us:List U} {vs:List V} {bs:List Str},aI K H M us vs->rY us=some bs->vs=bs.map V.str
 | [],_,_,r,h=>by cases h;exact r.inv_nil
 | u :: us,_,bs,r,h=>by
  obtain ⟨v,vs',rfl,a,b⟩:=r.inv_cons
  cases u with
  | str y =>
   simp only [rY] at h
   cases e:rY us with
   | none=>rw [e] at h;cases h
   | some cs =>
    rw [e] at h
    cases h
    rw [CH b e,a.str];rfl
  | _=>cases h
end U2
namespace U2
open PySem L2
theorem yC {α:Type} {a:α} {r:List α}:iI (a :: r) 0=some a:=iX (j:=0) rfl
theorem CL {α:Type} {a b:α} {r:List α}:iI (a :: b :: r) 1=some b:=iX (j:=1) rfl
theorem at2 {α:Type} {a b c:α} {r:List α}:iI (a :: b :: c :: r) 2=some c:=iX (j:=2) rfl
theorem ED {α:Type} {a b c d:α} {r:List α}:iI (a :: b :: c :: d :: r) 3=some d:=iX (j:=3) rfl
theorem WI {α:Type} (l:List α) (a:α):(l++[a]).getLast?=some a:=by simp
theorem WN {α:Type} (l:List α) (a:α):(l++[a]).dropLast=l:=List.dropLast_concat
theorem OC {α:Type} (a:α) (r:List α):oK (a :: r) (some 1) none=r:=by
 unfold oK
 simp [HT.bP]
 try omega
theorem zC {M:aE}:view M .non=.non:=rfl
theorem B0 {M:aE} {x:Bool}:view M (.bl x)=.bl x:=rfl
theorem yJ {M:aE} {x:Int}:view M (.int x)=.int x:=rfl
theorem yN {M:aE} {x:Str}:view M (.str x)=.str x:=rfl
theorem zJ {M:aE} {x:List U}:view M (.tup x)=.tup x:=rfl
theorem yA {M:aE} {x:List U}:view M (.lst x)=.lst x:=rfl
theorem uD {M:aE} {p:Addr} {us:List U}:view (mup M p (.lst us)) (.ref p)=.lst us:=lF bM
theorem lM {M:aE} {p:Addr} {us:List U}:He (mup M p (.lst us)) (.ref p):=⟨us,uD⟩
theorem iG {o:Bool} {k:Nat} {ix:List Nat} {wi:UI} {g:UG} {te:UE} {τ:SU} {M M1:aE} {Q:UK} {S:Src} (zs:List U) (hw:∀ R:Src->aE->Prop,R S M1->wi τ M R) (hl:zs.length=S.xs.length) (hz:S.xs.length<=sizeLine) (hs:S.ok M1)
  (h:∀ (i:Nat) x y,S.xs[i]?=some x->zs[i]?=some y->∀ M,Sub M1 M->∀ R:UK,R y M->g x (eG k ix τ) M fun τ2 M2=>te τ2 M2 R)
  (q:jX o zs M1 Q):Bo o k ix wi g (fun _ M Q=>Q true M) te τ M Q:=by
 refine hw _ ⟨hz,fun D hD=>⟨fun i ys M=>ys=zs.take i/\M=mup M1 D (.lst ys)/\i<=S.xs.length,⟨by simp,rfl,Nat.zero_le _⟩,?_,?_,?_⟩⟩
 ·rintro i ys M ⟨rfl,rfl,hi⟩
  refine ⟨fun a e=>?_,bM,?_⟩
  ·have:=hs a e
   rw [cA (fun z=>by subst z;rw [hD] at this;cases this)]
   exact this
  ·rw [List.length_take];omega
 ·rintro i x ys M e ⟨rfl,rfl,hi⟩
  have hlt:i < S.xs.length:=(List.getElem?_eq_some_iff.mp e).1
  have hy:zs[i]?=some zs[i]:=by simp [show i < zs.length by omega]
  have tk:zs.take (i + 1)=zs.take i++[zs[i]]:=by rw [List.take_add_one,hy];rfl
  refine h i x zs[i] e hy (mup M1 D (.lst (zs.take i))) ((Sub.refl M1).mup hD) (fun y M4=>M4 D=some (.lst (zs.take i))/\(zs.take i++[y]=zs.take (i + 1)/\mup M4 D (.lst (zs.take i++[y]))=mup M1 D (.lst (zs.take i++[y]))/\i + 1<=S.xs.length)) ?_
  exact ⟨bM,tk.symm,gI,hlt⟩
 ·rintro ys M ⟨rfl,rfl,hi⟩
  rw [show zs.take S.xs.length=zs by rw [<- hl];exact List.take_length]
  cases o with
  | true=>exact q D hD
  | false=>exact ⟨M1,(Sub.refl M1).mup hD,hD,q⟩
end U2
namespace U2
open PySem PySem.Spec PyProof.Rows L2
section
variable {prog:Program} {w:World} {A:Around} {E:Value->Shared->Prop} {s:Shared}
theorem Ax {it t:Addr} {i:Nat} {items} {x:Value} {Q:Value->Shared->Prop} (hit:s.heap.IsTupleIter it t i)
  (ht:s.heap.IsTuple t items) (hx:items[i]?=some x)
  (hQ:∀ h',h'.IsTupleIter it t (i + 1)->Heap.SameBut it s.heap h'->Q x { s with heap:=h' }) :
  wpAny (model prog w) A (Builtin.SmallTypes.nextOf (.ref it)) Q E s:=by
 obtain ⟨o,ho,hc,hd⟩:=id hit
 obtain ⟨ol,hol,_,nl,hdl⟩:=ht
 unfold Builtin.SmallTypes.nextOf
 refine wpAny_bind (wpAny_callSpecial?_slot (name:=Str.ofString "__next__") hit.typeIs PySem.F.slot_tuple_iterator_next
  (wpAny_call_entry PySem.F.slot_tuple_iterator_next hit.typeIs PySem.F.entry_tuple_iterator_next ?_ (PySem.F.args_tuple_iterator_next_1 _)))
 show wpAny _ _ (field (.ref it) 0 >>= _) _ _ s
 refine wpAny_bind (wpAny_field ho hd (x:=.ref t) rfl ?_)
 show wpAny _ _ (if (Value.ref t == Value.none)=true then _ else _) _ _ s
 rw [if_neg (show ¬ ((Value.ref t == Value.none)=true) from Bool.false_ne_true)]
 show wpAny _ _ (field (.ref it) 1 >>= _) _ _ s
 refine wpAny_bind (wpAny_field ho hd (x:=.int i 0) rfl ?_)
 show wpAny _ _ (seqItems? (.ref t) >>= _) _ _ s
 refine wpAny_bind (wpAny_seqItems hol hdl ?_)
 simp only [Int.toNat_natCast,hx]
 refine wpAny_bind (wpAny_setField ho hd (by simp) (wpAny_pure ⟨x,rfl,wpAny_pure (hQ _ ?_ (Heap.SameBut.update ..))⟩))
 exact ⟨_,Heap.get?_update_self _ ho (Obj.isFreed_of_fields (Obj.data_mapFields hd _)),(Obj.cls_mapFields ..).trans hc,by
  rw [Obj.data_mapFields hd];simp [rawInt]⟩
theorem AO {it t:Addr} {i:Nat} {items} {Q:Value->Shared->Prop} (hh:A.handled=none)
  (hit:s.heap.IsTupleIter it t i) (ht:s.heap.IsTuple t items) (hx:items[i]?=none)
  (hE:∀ h' e,Heap.ExtBut it s.heap h'->(∃ o,h'.get? e=some o/\o.cls=.type "StopIteration")->E (.ref e) { s with heap:=h' }) :
  wpAny (model prog w) A (Builtin.SmallTypes.nextOf (.ref it)) Q E s:=by
 obtain ⟨o,ho,hc,hd⟩:=id hit
 obtain ⟨ol,hol,_,nl,hdl⟩:=ht
 unfold Builtin.SmallTypes.nextOf
 refine wpAny_bind (wpAny_callSpecial?_slot (name:=Str.ofString "__next__") hit.typeIs PySem.F.slot_tuple_iterator_next
  (wpAny_call_entry PySem.F.slot_tuple_iterator_next hit.typeIs PySem.F.entry_tuple_iterator_next ?_ (PySem.F.args_tuple_iterator_next_1 _)))
 show wpAny _ _ (field (.ref it) 0 >>= _) _ _ s
 refine wpAny_bind (wpAny_field ho hd (x:=.ref t) rfl ?_)
 show wpAny _ _ (if (Value.ref t == Value.none)=true then _ else _) _ _ s
 rw [if_neg (show ¬ ((Value.ref t == Value.none)=true) from Bool.false_ne_true)]
 show wpAny _ _ (field (.ref it) 1 >>= _) _ _ s
 refine wpAny_bind (wpAny_field ho hd (x:=.int i 0) rfl ?_)
 show wpAny _ _ (seqItems? (.ref t) >>= _) _ _ s
 refine wpAny_bind (wpAny_seqItems hol hdl ?_)
 simp only [Int.toNat_natCast,hx]
 refine wpAny_bind (wpAny_rule (wpAny_bind (wpAny_setField ho hd (by simp) ?_)))
 show wpAny _ _ (newExc (.type "StopIteration") [] >>= _) _ _ _
 refine wpAny_bind ?_
 simp only [newExc,newTuple]
 refine wpAny_bind (wpAny_newObj_type ?_ (by size_fits))
 refine wpAny_bind (m:=firstArgMember _ _) (wpAny_of_eq (a:=Value.none) (by first | rfl | (simp only [firstArgMember];rfl)) ?_)
 refine wpAny_newObj_type ?_ (by size_fits)
 simp only [raiseNew]
 refine wpAny_bind (wpAny_handled ?_)
 first | rw [show A.in1.handled=none from hh] | rw [hh]
 refine wpAny_bind (wpAny_pure (wpAny_throw ?_))
 exact hE _ _ (((Heap.SameBut.update ..).extBut.push _).push _) ⟨_,Heap.get?_push_size _ rfl,rfl⟩
theorem FT {prog:Program} {w:World} {A:Around} (hh:A.handled=none) (it l:Addr) (hne:l≠it) (items:Array Value) :
  Draws prog w A it [it,l] items.size (fun i v=>items[i]?=some v) (fun i h=>h.IsTupleIter it l i/\h.IsTuple l items) where
 live:=fun _ _ st=>let ⟨o,ho,_⟩:=st.1;⟨o,ho⟩
 frame:=fun _ _ _ st hk=>⟨st.1.at fun o e=>hk it (by simp) o e,let ⟨o,ho,r⟩:=st.2;⟨o,hk l (by simp) o ho,r⟩⟩
 item:=fun i s Q E hi st hQ=>by
  refine Ax st.1 st.2 (x:=items[i]) (by simp [hi]) fun h' hit' hs'=>?_
  exact hQ _ h' s.toks (by simp [hi]) ⟨hit',let ⟨o,ho,r⟩:=st.2;⟨o,hs'.extBut l o hne ho,r⟩⟩ hs'
 done:=fun s Q E st hE=>AO hh st.1 st.2 (by simp) hE
end
def lL (b:Bool) (K:PySem.W.Frag) (H:Hp) (a:Addr) (xs:List V):Prop:=match b with
 | true=>eV K H a xs
 | false=>fW K H a xs
def jH (b:Bool) (h:Heap) (a:Addr) (xs:Array Value):Prop:=match b with
 | true=>h.IsList a xs
 | false=>h.IsTuple a xs
def kJ (b:Bool) (h:Heap) (it a:Addr) (i:Nat):Prop:=match b with
 | true=>h.IsListIter it a i
 | false=>h.IsTupleIter it a i
def Wz:Bool->String
 | true=>"list"
 | false=>"tuple"
def xJ:Bool->String
 | true=>"list_iterator"
 | false=>"tuple_iterator"
theorem iD {h:Heap} {b b':Addr} {o o':Obj} {n n':String} (x:h.get? b=some o) (y:h.get? b'=some o') (p:o.cls=.type n) (q:o'.cls=.type n') (ne:n≠n'):b≠b':=fun z=>by
 subst z;rw [x] at y;cases y;rw [p] at q;exact ne (Value.type.inj q)
theorem jH.obj {b:Bool} {h:Heap} {a:Addr} {xs:Array Value} (p:jH b h a xs):∃ o n,h.get? a=some o/\o.cls=.type (Wz b)/\o.data=.seq xs n:=by
 cases b <;> (obtain ⟨o,e,c,n,d⟩:=p;exact ⟨o,n,e,c,d⟩)
theorem kJ.obj {b:Bool} {h:Heap} {it a:Addr} {i:Nat} (p:kJ b h it a i):∃ o,h.get? it=some o/\o.cls=.type (xJ b)/\o.data=.fields #[.ref a,.int i 0]:=by
 cases b <;> exact p
theorem kJ.of {b:Bool} {h:Heap} {it a:Addr} {i:Nat} {o:Obj} (e:h.get? it=some o) (c:o.cls=.type (xJ b)) (d:o.data=.fields #[.ref a,.int i 0]):kJ b h it a i:=by
 cases b <;> exact ⟨o,e,c,d⟩
theorem kJ.at {b:Bool} {h h':Heap} {it a:Addr} {i:Nat} (p:kJ b h it a i) (k:∀ o,h.get? it=some o->h'.get? it=some o):kJ b h' it a i :=
 let ⟨o,e,c,d⟩:=p.obj;.of (k o e) c d
theorem jH.ne {b b':Bool} {h:Heap} {a it c:Addr} {xs:Array Value} {i:Nat} (p:jH b h a xs) (q:kJ b' h it c i):a≠it :=
 let ⟨_,_,e,c,_⟩:=p.obj;let ⟨_,e',c',_⟩:=q.obj;iD e e' c c' (by cases b <;> cases b' <;> decide)
theorem xM {X:Cx} {pins:List (Addr × Obj)} {σ:L2.St} {H:Hp} {s:Shared} {b:Bool} {a:Addr} {xs:List V} (I:L2.Inv X pins σ H s) (h:lL b X.K H a xs):∃ its:List Value,Vals xs its/\jH b s.heap a its.toArray/\xs.length<=sizeLine:=by
 cases b
 ·exact I.tuple h
 ·obtain ⟨its,r,p,z⟩:=I.list h;exact ⟨its,r,p.isList,z⟩
theorem Pa {X:Cx} {pins:List (Addr × Obj)} {σ:L2.St} {H:Hp} {s:Shared} {b:Bool} {a:Addr} {xs ys:List V} (I:L2.Inv X pins σ H s) (h:lL b X.K H a xs) (h':lL b X.K H a ys):xs=ys:=by
 cases b
 ·exact I.tuple_inj h h'
 ·exact I.list_inj h h'
theorem jJ {prog:Program} {w:World} {A:Around} (b:Bool) (hh:A.handled=none) (it l:Addr) (hne:l≠it) (items:Array Value) :
  Draws prog w A it [it,l] items.size (fun i v=>items[i]?=some v) (fun i h=>kJ b h it l i/\jH b h l items):=by
 cases b
 ·exact FT hh it l hne items
 ·exact Draws.list hh it l hne items
def G0 (b:Bool) (K:PySem.W.Frag) (H:Hp) (M:aE) (a:Addr) (vs:List V):Prop:=∀ H1 M1,aW H M H1 M1->lL b K H1 a vs
theorem Kb {K:PySem.W.Frag} {H:Hp} {M:aE} {a:Addr} {vs:List V} (m:M a=none/\H a=some (.tup vs)):G0 false K H M a vs:=fun _ _ s=>.inl (.inl (s.to m.2 m.1).1)
theorem WX {K:PySem.W.Frag} {H:Hp} {M:aE} {a:Addr} {vs:List V} (m:(M a=none/\Rd H a (.lst vs))\/KL K a vs):G0 true K H M a vs:=fun _ _ s=>by
 rcases m with ⟨m,h⟩ | k
 ·exact .inl (Rd.stp s m h).2
 ·exact .inr k
section
variable {prog:Program} {w:World} {A:Around} {E:Value->Shared->Prop} {s:Shared}
theorem A3 (l:Addr) (items:Array Value) (n:Nat) (dd:Option Addr) (sl:Array (Option Value)) :
  Meets (Builtin.«enumerate.__new__» ⟨[.type "enumerate",.ref l],[]⟩) (fun _ R s=>s.heap.get? l=some { cls:=.type "tuple",dict:=dd,data:=.seq items n,slots:=sl } /\
   R (.ok (.ret (.ref (s.heap.push { cls:=.type "tuple_iterator",data:=.fields #[.ref l,.int 0 0] }).objs.size)))
    { s with heap:=(s.heap.push { cls:=.type "tuple_iterator",data:=.fields #[.ref l,.int 0 0] }).push { cls:=.type "enumerate",data:=.fields #[.none,.bool false,.ref s.heap.objs.size,rawInt 0,.none,.none] } }) :=
 .of_wp fun prog w A R s h=>by
  obtain ⟨hp,g,d,tk,os⟩:=s;obtain ⟨hl,h⟩:=h
  have hsub:=PySem.sub_enumerate
  have hL:Heap.IsTuple (Shared.heap ⟨hp,g,d,tk,os⟩) l items:=⟨_,hl,rfl,n,rfl⟩
  wp_walk using wpAny_loadPart' hl
  refine wpAny_stack_any fun st=>wpAny_pure ?_
  split
  ·rename_i c _ _ _ _ _
   cases (c == Value.type "enumerate")
   ·wp_walk using wpAny_loadPart' hl,wpAny_pyIter_tuple hL
    exact ⟨_,rfl,h⟩
   ·wp_walk using wpAny_loadPart' hl,wpAny_pyIter_tuple hL
    exact ⟨_,rfl,h⟩
  ·wp_walk using wpAny_loadPart' hl,wpAny_pyIter_tuple hL
   exact ⟨_,rfl,h⟩
theorem BU (l:Addr) (items:Array Value) (n:Nat) (dd:Option Addr) (sl:Array (Option Value)) :
  Meets (Builtin.«enumerate.__new__» ⟨[.type "enumerate",.ref l],[]⟩) (fun _ R s=>s.heap.get? l=some { cls:=.type "list",dict:=dd,data:=.seq items n,slots:=sl } /\
   R (.ok (.ret (.ref (s.heap.push { cls:=.type "list_iterator",data:=.fields #[.ref l,.int 0 0] }).objs.size)))
    { s with heap:=(s.heap.push { cls:=.type "list_iterator",data:=.fields #[.ref l,.int 0 0] }).push { cls:=.type "enumerate",data:=.fields #[.none,.bool false,.ref s.heap.objs.size,rawInt 0,.none,.none] } }) :=
 .of_wp fun prog w A R s h=>by
  obtain ⟨hp,g,d,tk,os⟩:=s;obtain ⟨hl,h⟩:=h
  have hsub:=PySem.sub_enumerate
  have hL:Heap.IsList (Shared.heap ⟨hp,g,d,tk,os⟩) l items:=⟨_,hl,rfl,n,rfl⟩
  wp_walk using wpAny_loadPart' hl
  refine wpAny_stack_any fun st=>wpAny_pure ?_
  split
  ·rename_i c _ _ _ _ _
   cases (c == Value.type "enumerate")
   ·wp_walk using wpAny_loadPart' hl,wpAny_pyIter_list hL
    exact ⟨_,rfl,h⟩
   ·wp_walk using wpAny_loadPart' hl,wpAny_pyIter_list hL
    exact ⟨_,rfl,h⟩
  ·wp_walk using wpAny_loadPart' hl,wpAny_pyIter_list hL
   exact ⟨_,rfl,h⟩
end
theorem mV {X:Cx} {pins:List (Addr × Obj)} {σ:L2.St} {H:Hp} {s:Shared} {h':Heap} {ch:List Addr} {T:Addr} {o:HO} {tk:Nat} (I:L2.Inv X pins σ H s) (hf:∀ b∈ch,tV X pins H b)
  (k:∀ b o,b ∉ ch->s.heap.get? b=some o->h'.get? b=some o) (hT:s.heap.objs.size<=T) (new:dC X.prog X.w (upd H T o) h' T o):L2.Inv X pins σ (upd H T o) { s with heap:=h',toks:=tk }:=by
 have hn:H T=none:=I.hok.fresh hT
 refine I.call' (ch:=ch) (H':=upd H T o) rfl ⟨fun b u q n hb hx=>k b u hx q,fun b u q n hb hx=>⟨u.slots,k b u hx q⟩,fun b u q n hx=>?_,fun b u q hx=>⟨u,k b u hx q⟩,fun b xs q=>by rw [bC (bO q hn)];exact q,fun b u xs q=>by rw [bC (bO q hn)];exact q,
  fun b ps q=>⟨#[],by rw [bC (bO q hn),q];simp⟩⟩ (fun a u e=>?_) I.bare fun b hb=>⟨(hf b hb).2.2.2.1,(hf b hb).2.1,(hf b hb).2.2.2.2.1,(hf b hb).2.2.2.2.2⟩
 ·rw [bC (Nat.ne_of_lt (Nat.lt_of_lt_of_le (Heap.lt_size q) hT))];exact n
 ·by_cases ha:a=T
  ·subst ha;rw [bQ] at e;cases e;exact new
  ·rw [bC ha] at e
   refine (I.hok a u e).stay (fun b z hb q=>k b z (fun hc=>?_) q) (fun c q=>by rw [bC (bO q hn)];exact q) fun c xs q=>by rw [bC (bO q hn)];exact q
   have hnone:=(hf b hc).1
   rcases hb with rfl | hb
   ·rw [hnone] at e;cases e
   ·rw [hnone] at hb;cases hb
def UC (f:Bool) (K:PySem.W.Frag) (a:Addr):It :=
 ⟨fun i H=>∃ xs x,lL f K H a xs/\xs[i]?=some x,fun i H x H'=>∃ p v,(∀ xs,lL f K H a xs->xs[i]?=some v)/\H p=none/\x=.ref p/\H'=upd H p (.tup [.int i,v]),fun i H=>∃ xs,lL f K H a xs/\xs.length=i⟩
theorem LN {P:Program} {w:World} {K:PySem.W.Frag} {elts:List Expr} {kk:Nat} {pos:Pos} (f:Bool) (a it e:Addr):Turn P w K (.Tuple elts kk pos) (UC f K a) [e,it] e (fun i h=>(∃ old,IsEnum h e it i old)/\kJ f h it a i) where
 mem:=by simp
 obj:=fun i h st b hb=>by
  obtain ⟨⟨old,he⟩,hi⟩:=st
  obtain ⟨o,ho,hc,hd⟩:=hi.obj
  have:b=e\/b=it:=by simpa using hb
  rcases this with rfl | rfl
  ·exact ⟨_,he,fun v z=>by
    have z':Data.fields _=Data.cell v:=z
    cases z'⟩
  ·exact ⟨o,ho,fun v z=>by rw [hd] at z;cases z⟩
 keep:=fun i h h' st k=>let ⟨⟨old,he⟩,hi⟩:=st;⟨⟨old,k e (by simp) _ he⟩,hi.at fun o q=>k it (by simp) o q⟩
 item:=by
  intro X hP hw hK hc i pins s σ H E I hf st hg
  subst hP hw hK
  obtain ⟨⟨old,he⟩,hit⟩:=st
  obtain ⟨xs,x,hq,hx⟩:=hg
  obtain ⟨its,rv,p,hz⟩:=xM I hq
  obtain ⟨u,hu,ru⟩:=rv.get hx
  have p':jH f s.heap a its.toArray:=p
  obtain ⟨oi,hoi,hci,hdi⟩:=hit.obj
  obtain ⟨oa,na,hoa,hca,hda⟩:=p'.obj
  have n1:a≠it:=p'.ne hit
  have n2:e≠it:=iD he hoi rfl hci (by cases f <;> decide)
  have n3:e≠a:=iD he hoa rfl hca (by cases f <;> decide)
  have W:=WalksT.enumerateD (prog:=X.prog) (w:=X.w) (A:=X.A) (jJ f (A:=X.A.in1) (show X.A.in1.handled=none from I.ok.hd hc) it a n1 its.toArray) e n2 (by simp [n2,n3]) (by simp)
  have hlt:i < its.toArray.size:=by
   have:=(List.getElem?_eq_some_iff.mp hu).1
   simpa using this
  have hD:=jJ f (prog:=X.prog) (w:=X.w) (A:=X.A.in1) (show X.A.in1.handled=none from I.ok.hd hc) it a n1 its.toArray
  refine wpAny_pyNext_enum_itemD hD he ⟨hit,p'⟩ hlt n2 (by simp [n2,n3]) fun y h' tk hy ho0 hs0 hT0 hsz0 hk0=>?_
  have helt:e < s.heap.objs.size:=Heap.lt_size he
  have hilt:it < s.heap.objs.size:=Heap.lt_size hoi
  have jY:gW h' s.heap.objs.size #[Value.int i tk,y]:=⟨_,hT0,rfl,rfl,_,rfl⟩
  have hk:∀ b o,b ∉ [e,it]->s.heap.get? b=some o->h'.get? b=some o:=fun b o hb z=>hk0 b o (fun e'=>hb (by simp [e'])) (fun e'=>hb (by simp [e'])) z
  have hMid:=(⟨⟨_,ho0⟩,hs0,Nat.ne_of_gt helt,Nat.ne_of_gt hilt⟩:(∃ x,IsEnumOut h' e it ((i:Int) + 1) x s.heap.objs.size)/\_/\s.heap.objs.size≠e/\s.heap.objs.size≠it)
  obtain ⟨T,hTe⟩:∃ T,T=s.heap.objs.size:=⟨_,rfl⟩
  rw [<- hTe] at jY hMid ⊢
  have hT:s.heap.objs.size<=T:=Nat.le_of_eq hTe.symm
  refine ⟨.ref T,rfl,W.go elts kk pos i T _ _ E hMid fun h'' hSt hk2=>?_⟩
  have hy':y=u:=by
   have h3:its[i]?=some y:=by simpa using hy
   rw [hu] at h3;exact (Option.some.inj h3).symm
  subst hy'
  have hTT:gW h'' T #[.int i tk,y]:=let ⟨o,ho,r⟩:=jY;⟨o,hk2 T o (W.apart i T _ hMid) ho,r⟩
  refine ⟨.ref T,upd H T (.tup [.int i,x]),mV (s:=s) (h':=h'') (tk:=tk + 1) (ch:=[e,it]) I hf (fun b o hb q=>hk2 b o (by simpa using hb) (hk b o (by simpa using hb) q)) hT ⟨by show 2<=sizeLine;decide,[.int i tk,y],.cons ⟨tk,rfl⟩ (.cons ru .nil),hTT⟩,rfl,⟨T,x,fun ys hy=>by rw [<- Pa I hq hy];exact hx,I.hok.fresh hT,rfl,rfl⟩,⟨by simpa using hSt.1,hSt.2.1⟩,fun b hb=>?_⟩
  have hn:=(hf b hb).1
  rw [bC (Nat.ne_of_lt (Nat.lt_of_lt_of_le ?_ hT))]
  ·exact hn
  ·have:b=e\/b=it:=by simpa using hb
   rcases this with rfl | rfl
   ·exact Heap.lt_size he
   ·exact Heap.lt_size hoi
 done:=by
  intro X hP hw hK hc i pins s σ H E I hf st hg
  subst hP hw hK
  obtain ⟨⟨old,he⟩,hit⟩:=st
  obtain ⟨xs,hq,hx⟩:=hg
  obtain ⟨its,rv,p,hz⟩:=xM I hq
  have p':jH f s.heap a its.toArray:=p
  obtain ⟨oi,hoi,hci,hdi⟩:=hit.obj
  obtain ⟨oa,na,hoa,hca,hda⟩:=p'.obj
  have n1:a≠it:=p'.ne hit
  have n2:e≠it:=iD he hoi rfl hci (by cases f <;> decide)
  have n3:e≠a:=iD he hoa rfl hca (by cases f <;> decide)
  have W:=WalksT.enumerateD (prog:=X.prog) (w:=X.w) (A:=X.A) (jJ f (A:=X.A.in1) (show X.A.in1.handled=none from I.ok.hd hc) it a n1 its.toArray) e n2 (by simp [n2,n3]) (by simp)
  have hi:i=its.toArray.size:=by rw [List.size_toArray,<- rv.length];exact hx.symm
  subst hi
  refine W.done s _ E ⟨⟨old,he⟩,hit,p'⟩ fun h' tk hk=>⟨rfl,?_⟩
  have:=I.call' (ch:=[e,it]) (H':=H) (s':={ s with heap:=h',toks:=tk }) rfl ⟨fun b u q n hb hx=>hk b u (by simpa using hx) q,fun b u q n hb hx=>⟨u.slots,hk b u (by simpa using hx) q⟩,fun b u q n hx=>n,fun b u q hx=>⟨u,hk b u (by simpa using hx) q⟩,fun b xs q=>q,fun b u xs q=>q,fun b ps q=>⟨#[],by rw [q];simp⟩⟩
   (fun a u e'=>?_) I.bare fun b hb=>⟨(hf b hb).2.2.2.1,(hf b hb).2.1,(hf b hb).2.2.2.2.1,(hf b hb).2.2.2.2.2⟩
  ·exact this
  ·refine (I.hok a u e').stay (fun b z hb q=>hk b z (fun hc=>?_) q) (fun _ q=>q) fun _ _ q=>q
   have hnone:=(hf b (by simpa using hc)).1
   rcases hb with rfl | hb
   ·rw [hnone] at e';cases e'
   ·rw [hnone] at hb;cases hb
 self:=fun _ _ _ _ _ st h=>let ⟨⟨old,he⟩,_⟩:=st;wpAny_pyIter_enum he h
theorem JF {prog:Program} {w:World} {A:Around} {E:Value->Shared->Prop} {s:Shared} {f:Bool} {l:Addr} {items:Array Value} {Q:Value->Shared->Prop}
  (hl:jH f s.heap l items)
  (h:∀ h',IsEnum h' (s.heap.objs.size + 1) s.heap.objs.size 0 .none->kJ f h' s.heap.objs.size l 0->h'.objs.size=s.heap.objs.size + 2 ->
   (∀ b o,s.heap.get? b=some o->h'.get? b=some o)->Q (.ref (s.heap.objs.size + 1)) { s with heap:=h' }) :
  wpAny (model prog w) A (call (.type "enumerate") [.ref l]) Q E s:=by
 have fin:Q (.ref (s.heap.push { cls:=.type (xJ f),data:=.fields #[.ref l,.int 0 0] }).objs.size)
   { s with heap:=(s.heap.push { cls:=.type (xJ f),data:=.fields #[.ref l,.int 0 0] }).push { cls:=.type "enumerate",data:=.fields #[.none,.bool false,.ref s.heap.objs.size,rawInt 0,.none,.none] } } /\
   ((s.heap.push { cls:=.type (xJ f),data:=.fields #[.ref l,.int 0 0] }).push { cls:=.type "enumerate",data:=.fields #[.none,.bool false,.ref s.heap.objs.size,rawInt 0,.none,.none] }).get? (s.heap.push { cls:=.type (xJ f),data:=.fields #[.ref l,.int 0 0] }).objs.size=some { cls:=.type "enumerate",data:=.fields #[.none,.bool false,.ref s.heap.objs.size,rawInt 0,.none,.none] }:=by
  have hz:(s.heap.push { cls:=.type (xJ f),data:=.fields #[.ref l,.int 0 0] }).objs.size=s.heap.objs.size + 1:=Heap.size_push ..
  have he:=Heap.get?_push_size (s.heap.push { cls:=.type (xJ f),data:=.fields #[.ref l,.int 0 0] })
   (o:={ cls:=.type "enumerate",data:=.fields #[.none,.bool false,.ref s.heap.objs.size,rawInt 0,.none,.none] }) rfl
  refine ⟨?_,he⟩
  rw [hz] at he
  rw [hz]
  exact h _ he (.of (Heap.get?_push_of_some _ (Heap.get?_push_size _ rfl)) rfl rfl) (by rw [Heap.size_push,hz]) fun b o x=>Heap.get?_push_of_some _ (Heap.get?_push_of_some _ x)
 obtain ⟨⟨oc,od,odt,osl⟩,n,ho,hc,hd⟩:=hl.obj
 have hc':oc=.type (Wz f):=hc
 have hd':odt=.seq items n:=hd
 subst hc' hd'
 cases f
 ·exact callType_new F.called_enumerate (by decide) (F.typeCall_enumerate_1 _) (F.newCall_enumerate_1 _) (fun obj=>F.args_object_init_2 obj _) F.entry_enumerate_new
   (A3 l items n od osl) ⟨ho,⟨_,fin.2,rfl⟩,fin.1⟩
 ·exact callType_new F.called_enumerate (by decide) (F.typeCall_enumerate_1 _) (F.newCall_enumerate_1 _) (fun obj=>F.args_object_init_2 obj _) F.entry_enumerate_new
   (BU l items n od osl) ⟨ho,⟨_,fin.2,rfl⟩,fin.1⟩
def Pn (f:Bool) (K:PySem.W.Frag) (ta:TA):TI:=fun σ H R=>ta σ H fun vs H1=>∃ a,vs=[.ref a]/\(∃ xs,lL f K H1 a xs)/\R (UC f K a) H1
theorem Qy {f:Bool} {X:Cx} {elts:List Expr} {kk:Nat} {tpos:Pos} {a:Expr} {ta:TA} {p pos:Pos} (hg:Gl X "enumerate") (hm:X.mg "enumerate"=none) (ha:PA X [a] ta) (hs:starEach [a] X.env=[(false,eval a X.env)]) :
  PI X (.Tuple elts kk tpos) (.Call (.Name "enumerate" p) [a] [] pos) (Pn f X.K ta):=by
 intro pins s σ H R I h
 refine Call_ (l4 I hg hm boot_enumerate (PyProof.Rows.callWith_type1 (aZ (ha pos pins s σ H _ I h) fun us s1 ⟨vs,H1,I1,r1,q1⟩=>?_) hs rfl))
 obtain ⟨a,e,⟨xs,hq⟩,q⟩:=q1
 subst e
 cases r1 with
 | cons r rr =>
  cases rr
  cases r
  obtain ⟨its,rv,p,hz⟩:=xM I1 hq
  refine JF p fun h' he hit hsz hk=>?_
  refine wpAny_pyIter_enum (s:={ s1 with heap:=h' }) he ?_
  have I2:L2.Inv X pins σ H1 { s1 with heap:=h',toks:=s1.toks }:=I1.kept hk
  refine ⟨s1.heap.objs.size + 1,[s1.heap.objs.size + 1,s1.heap.objs.size],_,_,H1,rfl,I2,LN f a s1.heap.objs.size (s1.heap.objs.size + 1),⟨⟨_,he⟩,hit⟩,fun b hb=>?_,q⟩
  have e:b=s1.heap.objs.size + 1\/b=s1.heap.objs.size:=by simpa using hb
  rcases e with rfl | rfl
  ·exact I1.fpOk (Nat.le_succ _) (I1.hok.fresh (Nat.le_succ _))
  ·exact I1.fpOk (Nat.le_refl _) (I1.hok.fresh (Nat.le_refl _))
def numbered (us:List U):List U:=us.zipIdx.map fun p=>.tup [.int (p.2:Nat),p.1]
theorem zH (us:List U):(numbered us).length=us.length:=by simp [numbered]
theorem y8 {us:List U} {i:Nat} {x:U} (h:(numbered us)[i]?=some x):∃ u,us[i]?=some u/\x=.tup [.int i,u]:=by
 simp only [numbered,List.getElem?_map,List.getElem?_zipIdx] at h
 cases e:us[i]? with
 | none=>rw [e] at h;simp at h
 | some u=>rw [e] at h;simp at h;exact ⟨u,rfl,h.symm⟩
theorem KS {f:Bool} {K:PySem.W.Frag} {a:Addr} {us:List U} {vs:List V} {H:Hp} {M:aE} (sq:G0 f K H M a vs) (r:aI K H M us vs):Walk K (UC f K a) ⟨none,numbered us⟩ H M:=by
 refine ⟨fun H1 M1 s rm _ i u e=>?_,fun H1 M1 s rm _=>⟨vs,sq H1 M1 s,by show vs.length=(numbered us).length;rw [zH,r.length]⟩⟩
 obtain ⟨w,e1,rfl⟩:=y8 e
 obtain ⟨v,e2,ru⟩:=r.get e1
 refine ⟨⟨vs,v,sq H1 M1 s,e2⟩,fun x H2 y=>?_⟩
 obtain ⟨p,v',y,hp,rfl,rfl⟩:=y
 have:=y vs (sq _ M1 s)
 rw [e2] at this;cases this
 have st:=aW.laid (o:=.tup [.int i,v]) rm hp
 have rr:aI K H1 M1 [.int i,w] [.int i,v]:=by
  simp only [aI]
  exact ⟨_,_,rfl,dM,_,_,rfl,ru.stp s,rfl⟩
 exact ⟨st,rm.laid hp,vE (rm.no hp) bQ (rr.stp st)⟩
def aF (ta:UA):UI:=fun τ M R=>ta τ M fun us M1=>match us with
 | [.tup us]=>R ⟨none,numbered us⟩ M1
 | _=>False
theorem Nh {K:PySem.W.Frag} {ta:TA} {ta':UA} (h:lE K ta ta'):vY K (Pn false K ta) (aF ta'):=fun σ τ H M R' rs rm q R c=>h σ τ H M _ rs rm q _ fun us vs M1 H1 s1 rm1 ru h1=>by
 split at h1
 ·rename_i xs
  obtain ⟨v,rfl,a⟩:=ru.one
  simp only [aP] at a
  obtain ⟨a,vs,rfl,m,r⟩:=a
  refine ⟨a,rfl,⟨vs,?_⟩,c _ _ M1 H1 s1 rm1 (KS (Kb m) r) h1⟩
  exact .inl (.inl m.2)
 ·exact h1.elim
theorem EY {D:Dat} {elts:List Expr} {kk:Nat} {tpos:Pos} {a:Expr} {p pos:Pos} {ta:UA} (hm:D.mg "enumerate"=none) (ha:jZ D [a] ta) (hg:D.sc.names.lookup ("enumerate":Str)=some .globalImplicit:=by rfl) (hs:∀ env,starEach [a] env=[(false,eval a env)]:=by intro _;rfl):BD D (.Tuple elts kk tpos) (.Call (.Name "enumerate" p) [a] [] pos) (aF ta):=by
 obtain ⟨_,q,s⟩:=ha
 exact ⟨_,fun X h=>h.K ▸ Qy (by show X.env.scope.names.lookup _=_;rw [h.sc];exact hg) (by rw [h.mg];exact hm) (q X h) (hs _),Nh s⟩
def aD (ta:UA):UI:=fun τ M R=>ta τ M fun us M1=>match us with
 | [.lst us]=>R ⟨none,numbered us⟩ M1
 | _=>False
end U2
namespace U2
open PySem PySem.Spec PyProof.Rows L2
mutual
def gC (K:PySem.W.Frag) (H:Hp):PyData->V->Prop
 | .none,v=>v=.non
 | .bool b,v=>v=.bl b
 | .int i,v=>v=.int i
 | .str z,v=>v=.str z
 | .list ds,v=>∃ a xs,v=.ref a/\eV K H a xs/\dF K H ds xs
 | .tuple ds,v=>∃ a xs,v=.ref a/\fW K H a xs/\dF K H ds xs
 | .dict _,_=>False
def dF (K:PySem.W.Frag) (H:Hp):List PyData->List V->Prop
 | [],vs=>vs=[]
 | d :: ds,vs=>∃ v vs',vs=v :: vs'/\gC K H d v/\dF K H ds vs'
end
mutual
theorem gC.reads {X:Cx} {pins:List (Addr × Obj)} {σ:L2.St} {H:Hp} {s:Shared} (I:L2.Inv X pins σ H s):∀ {d:PyData} {v:V} {u:Value},gC X.K H d v->RelV v u->∃ as,Reads s.heap u d as
 | .none,v,u,h,r=>by simp only [gC] at h;subst h;cases r;exact ⟨_,.none⟩
 | .bool b,v,u,h,r=>by simp only [gC] at h;subst h;cases r;exact ⟨_,.bool b⟩
 | .int i,v,u,h,r=>by simp only [gC] at h;subst h;obtain ⟨t,rfl⟩:=r;exact ⟨_,.int i t⟩
 | .str z,v,u,h,r=>by simp only [gC] at h;subst h;obtain ⟨t,rfl⟩:=r;exact ⟨_,.str z t⟩
 | .list ds,v,u,h,r=>by
  simp only [gC] at h
  obtain ⟨a,xs,rfl,q,hs⟩:=h
  cases r
  obtain ⟨its,rv,p,hz⟩:=I.list q
  obtain ⟨as,ra⟩:=dF.reads I hs rv
  obtain ⟨o,h1,h2,n,h3⟩:=p.isList
  exact ⟨_,.list h1 h2 h3 (by simpa using ra)⟩
 | .tuple ds,v,u,h,r=>by
  simp only [gC] at h
  obtain ⟨a,xs,rfl,q,hs⟩:=h
  cases r
  obtain ⟨its,rv,p,hz⟩:=I.tuple q
  obtain ⟨as,ra⟩:=dF.reads I hs rv
  obtain ⟨o,h1,h2,n,h3⟩:=(show s.heap.IsTuple a its.toArray from p)
  exact ⟨_,.tuple h1 h2 h3 (by simpa using ra)⟩
 | .dict _,v,u,h,r=>by simp only [gC] at h
theorem dF.reads {X:Cx} {pins:List (Addr × Obj)} {σ:L2.St} {H:Hp} {s:Shared} (I:L2.Inv X pins σ H s):∀ {ds:List PyData} {vs:List V} {us:List Value},dF X.K H ds vs->Vals vs us->∃ as,ReadsAll s.heap us ds as
 | [],vs,us,h,r=>by simp only [dF] at h;subst h;cases r;exact ⟨_,.nil⟩
 | d :: ds,vs,us,h,r=>by
  simp only [dF] at h
  obtain ⟨v,vs',rfl,h1,h2⟩:=h
  cases r with
  | cons r rr =>
   obtain ⟨as,ra⟩:=gC.reads I h1 r
   obtain ⟨bs,rb⟩:=dF.reads I h2 rr
   exact ⟨_,.cons ra rb⟩
end
def NH (K:PySem.W.Frag) (neg:Bool):R2:=fun x y H Q=>∃ d d',gC K H d x/\gC K H d' y/\d.canLay0=true/\d'.canLay0=true/\min d.depth d'.depth<=64/\Q (.bl (if neg then !PyData.eqv d d' else PyData.eqv d d')) H
theorem TK {X:Cx} {k:Nat} (hr:cW k X.A):cZ X (compareOp .Eq) (NH X.K false):=by
 intro pins s σ H x y v u Q I rx ry h
 obtain ⟨d,d',h1,h2,c1,c2,hd,q⟩:=h
 obtain ⟨as,ra⟩:=h1.reads I rx
 obtain ⟨bs,rb⟩:=h2.reads I ry
 exact SeqAt.compareEq_reads ra rb c1 c2 (by have:=hr.units;omega) ⟨.bl _,H,I,rfl,q⟩
theorem Tw {X:Cx} {k:Nat} (hr:cW k X.A):cZ X (compareOp .NotEq) (NH X.K true):=by
 intro pins s σ H x y v u Q I rx ry h
 obtain ⟨d,d',h1,h2,c1,c2,hd,q⟩:=h
 obtain ⟨as,ra⟩:=h1.reads I rx
 obtain ⟨bs,rb⟩:=h2.reads I ry
 exact SeqAt.compareNe_reads ra rb c1 c2 (by have:=hr.units;omega) ⟨.bl _,H,I,rfl,q⟩
mutual
def toD:U->Option PyData
 | .non=>some .none
 | .bl b=>some (.bool b)
 | .int i=>some (.int i)
 | .str z=>some (.str z)
 | .tup us=>(dI us).map .tuple
 | .lst us=>(dI us).map .list
 | .ty _=>none
 | .ref _=>none
 | .dic _ _ _=>none
def dI:List U->Option (List PyData)
 | []=>some []
 | u :: us=>match toD u,dI us with
  | some d,some ds=>some (d :: ds)
  | _,_=>none
end
def vC (M:aE) (u:U):Option PyData:=match u with
 | .ref a=>match M a with
  | some (.lst us)=>(dI us).map .list
  | _=>none
 | u=>toD u
mutual
theorem GO {K:PySem.W.Frag} {H:Hp} {M:aE}:∀ {u:U} {v:V} {d:PyData},aP K H M u v->toD u=some d->gC K H d v
 | .non,v,d,r,e=>by simp only [toD,Option.some.injEq] at e;subst e;simp only [gC];exact r.non
 | .bl b,v,d,r,e=>by simp only [toD,Option.some.injEq] at e;subst e;simp only [gC];exact r.bl
 | .int i,v,d,r,e=>by simp only [toD,Option.some.injEq] at e;subst e;simp only [gC];exact r.int
 | .str i,v,d,r,e=>by simp only [toD,Option.some.injEq] at e;subst e;simp only [gC];exact r.str
 | .tup us,v,d,r,e=>by
  simp only [toD] at e
  cases e2:dI us with
  | none=>rw [e2] at e;simp at e
  | some ds =>
   rw [e2] at e;simp at e;subst e
   obtain ⟨a,vs,rfl,q,rs⟩:=r.tup
   simp only [gC]
   exact ⟨a,vs,rfl,q,qI rs e2⟩
 | .lst us,v,d,r,e=>by
  simp only [toD] at e
  cases e2:dI us with
  | none=>rw [e2] at e;simp at e
  | some ds =>
   rw [e2] at e;simp at e;subst e
   obtain ⟨a,vs,rfl,q,rs⟩:=r.lst
   simp only [gC]
   exact ⟨a,vs,rfl,q,qI rs e2⟩
 | .ty _,v,d,r,e=>by simp [toD] at e
 | .ref _,v,d,r,e=>by simp [toD] at e
 | .dic _ _ _,v,d,r,e=>by simp [toD] at e
theorem qI {K:PySem.W.Frag} {H:Hp} {M:aE}:∀ {us:List U} {vs:List V} {ds:List PyData},aI K H M us vs->dI us=some ds->dF K H ds vs
 | [],vs,ds,r,e=>by simp only [dI,Option.some.injEq] at e;subst e;simp only [dF];exact r.inv_nil
 | u :: us,vs,ds,r,e=>by
  obtain ⟨v,vs',rfl,a,b⟩:=r.inv_cons
  simp only [dI] at e
  cases e1:toD u with
  | none=>rw [e1] at e;simp at e
  | some d =>
   cases e2:dI us with
   | none=>rw [e1,e2] at e;simp at e
   | some ds' =>
    rw [e1,e2] at e;simp at e;subst e
    simp only [dF]
    exact ⟨v,vs',rfl,GO a e1,qI b e2⟩
end
theorem AW {K:PySem.W.Frag} {H:Hp} {M:aE} {u:U} {v:V} {d:PyData} (rm:RelM K H M) (r:aP K H M u v) (e:vC M u=some d):gC K H d v:=by
 cases u with
 | ref a =>
  simp only [vC] at e
  split at e
  ·rename_i us hM
   cases e2:dI us with
   | none=>rw [e2] at e;simp at e
   | some ds =>
    rw [e2] at e;simp at e;subst e
    obtain ⟨vs,h1,rs⟩:=rm a _ hM
    cases r.ref
    simp only [gC]
    exact ⟨a,vs,rfl,.inl (.inl h1),qI rs e2⟩
  ·cases e
 | _=>exact GO r (by simpa only [vC] using e)
def A5 (neg:Bool):dW:=fun x y M Q=>∃ d d',vC M x=some d/\vC M y=some d'/\d.canLay0=true/\d'.canLay0=true/\min d.depth d'.depth<=64/\Q (.bl (if neg then !PyData.eqv d d' else PyData.eqv d d')) M
theorem GN {K:PySem.W.Frag} {neg:Bool}:eX K (NH K neg) (A5 neg):=fun x y u w H M Q' rm ru rw h Q c=>by
 obtain ⟨d,d',e1,e2,c1,c2,hd,q⟩:=h
 exact ⟨d,d',AW rm ru e1,AW rm rw e2,c1,c2,hd,c.here rm cX q⟩
variable {D:Dat}
def zX:U->Bool
 | .non=>true
 | .bl _=>true
 | .int _=>true
 | .str _=>true
 | _=>false
def Pu:U->U->Bool
 | .non,.non=>true
 | .bl a,.bl b=>a == b
 | .bl a,.int j=>(if a then 1 else 0) == j
 | .int i,.bl b=>i == (if b then 1 else 0)
 | .int i,.int j=>i == j
 | .str x,.str y=>x == y
 | _,_=>false
def items (M:aE):U->Option (List U)
 | .tup us=>some us
 | .lst us=>some us
 | .ref a=>match M a with
  | some (.lst us)=>some us
  | _=>none
 | _=>none
def GZ (neg:Bool):dW:=fun x y M Q=>match items M y with
 | some us=>zX x=true/\us.all zX=true/\Q (.bl (if neg then !us.any (fun u=>Pu u x) else us.any (fun u=>Pu u x))) M
 | none=>False
theorem RO {K:PySem.W.Frag} {H:Hp} {M:aE} {u w:U} {v x:V} (r:aP K H M u v) (r':aP K H M w x) (f:zX u=true) (f':zX w=true):Dg v x=Pu u w:=by
 cases u <;> (first | (cases r.non) | (cases r.bl) | (cases r.int) | (cases r.str) | exact absurd (show false=true from f) Bool.false_ne_true) <;> cases w <;>
  (first | (cases r'.non) | (cases r'.bl) | (cases r'.int) | (cases r'.str) | exact absurd (show false=true from f') Bool.false_ne_true) <;> rfl
theorem Rl {K:PySem.W.Frag} {H:Hp} {M:aE} {w:U} {x:V} (r':aP K H M w x) (f':zX w=true):∀ {us:List U} {vs:List V},aI K H M us vs->us.all zX=true->Wu x vs=us.any fun u=>Pu u w
 | [],vs,r,_=>by cases r.inv_nil;rfl
 | u :: us,vs,r,f=>by
  obtain ⟨v,vs',rfl,a,b⟩:=r.inv_cons
  rw [List.all_cons,Bool.and_eq_true] at f
  have:=Rl r' f' b f.2
  unfold Wu at this ⊢
  rw [List.any_cons,List.any_cons,this,RO a r' f.1 f']
theorem yF {K:PySem.W.Frag} {H:Hp} {M:aE} {u:U} {v:V} {us:List U} (rm:RelM K H M) (r:aP K H M u v) (e:items M u=some us):∃ p xs,v=.ref p/\(eV K H p xs\/fW K H p xs)/\aI K H M us xs:=by
 cases u with
 | tup us'=>cases e;obtain ⟨a,vs,rfl,q,rs⟩:=r.tup;exact ⟨a,vs,rfl,.inr q,rs⟩
 | lst us'=>cases e;obtain ⟨a,vs,rfl,q,rs⟩:=r.lst;exact ⟨a,vs,rfl,.inl q,rs⟩
 | ref a =>
  simp only [items] at e
  split at e
  ·rename_i us' hM
   cases e
   obtain ⟨vs,h1,rs⟩:=rm a _ hM
   exact ⟨a,vs,r.ref,.inl (.inl (.inl h1)),rs⟩
  ·cases e
 | _=>cases e
def jR (neg:Bool):dW:=fun x y M Q=>match yW x y with
 | some b=>Q (.bl (if neg then !b else b)) M
 | none=>A5 neg x y M Q
theorem cG:nW D .Eq (jR false):=⟨⟨_,fun X h=>h.K ▸ Wd.or (TK h.room),fun x y u w H M Q' rm ru rw h Q c=>by
 unfold jR at h
 split at h
 ·rename_i b e
  obtain ⟨h1,h2⟩:=GD ru rw e
  exact .inl ⟨h1,c.here rm (by rw [h2];exact cX) h⟩
 ·exact .inr (GN x y u w H M Q' rm ru rw h Q c)⟩⟩
theorem sG:nW D .NotEq (jR true):=⟨⟨_,fun X h=>h.K ▸ VO.or (Tw h.room),fun x y u w H M Q' rm ru rw h Q c=>by
 unfold jR at h
 split at h
 ·rename_i b e
  obtain ⟨h1,h2⟩:=GD ru rw e
  exact .inl ⟨h1,c.here rm (by rw [h2];exact cX) h⟩
 ·exact .inr (GN x y u w H M Q' rm ru rw h Q c)⟩⟩
end U2
namespace U2
open PySem PySem.Spec PyProof.Rows L2
structure Zp (z TI TO i1 i2:Addr) (f1 f2:List Addr):Prop where
 TIz:TI≠z
 TOz:TO≠z
 i1z:i1≠z
 i2z:i2≠z
 TITO:TI≠TO
 TIi1:TI≠i1
 TIi2:TI≠i2
 TOi1:TO≠i1
 TOi2:TO≠i2
 i12:i1≠i2
 zf1:z ∉ f1
 zf2:z ∉ f2
 Tf1:TO ∉ f1
 Tf2:TO ∉ f2
 if2:i1 ∉ f2
 if1:i2 ∉ f1
theorem Draws.same {prog:Program} {w:World} {A:Around} {it:Addr} {fp:List Addr} {n:Nat} {P:Nat->Value->Prop} {St:Nat->Heap->Prop} (D:Draws prog w A it fp n P St) {i:Nat} {h h':Heap} {c:Addr} (st:St i h) (sb:Heap.ExtBut c h h') (hc:c ∉ fp):St i h' :=
 D.frame _ _ _ st fun b hb o e=>sb b o (fun q=>hc (q ▸ hb)) e
section
variable {prog:Program} {w:World} {A:Around} {E:Value->Shared->Prop} {s:Shared} {z TI TO i1 i2:Addr} {f1 f2:List Addr} {n1 n2:Nat} {P1 P2:Nat->Value->Prop} {S1 S2:Nat->Heap->Prop} {i:Nat} {a b:Value}
theorem NW (Z:Zp z TI TO i1 i2 f1 f2) (D1:Draws prog w A i1 f1 n1 P1 S1) (D2:Draws prog w A i2 f2 n2 P2 S2) {Q:Value->Shared->Prop}
  (hz:IsZip s.heap z TI TO .none) (hTI:IsPair s.heap TI (.ref i1) (.ref i2)) (hTO:IsPair s.heap TO a b) (h1:S1 i s.heap) (h2:S2 i s.heap) (l1:i < n1) (l2:i < n2)
  (hQ:∀ x y h' tk,P1 i x->P2 i y->IsZip h' z TI TO (rawInt s.heap.objs.size)->IsPair h' TO x y->S1 (i + 1) h'->S2 (i + 1) h'->IsPair h' s.heap.objs.size x y ->
   (∀ c o,c≠z->c≠TO->c≠i1->c≠i2->s.heap.get? c=some o->h'.get? c=some o)->Q (.ref s.heap.objs.size) { s with heap:=h',toks:=tk }) :
  wpAny (model prog w) A (Builtin.«zip.__next__» ⟨[.ref z],[]⟩) (fun fin s'=>∃ v,fin=.done (.ret v)/\Q v s') E s:=by
 show wpAny _ _ (field (.ref z) 2 >>= _) _ _ _
 refine wpAny_bind (wpAny_field hz rfl (x:=.bool false) rfl ?_)
 show wpAny _ _ (field (.ref z) 3 >>= _) _ _ _
 refine wpAny_bind (wpAny_field hz rfl (x:=.ref TI) rfl ?_)
 refine wpAny_bind (wpAny_seqItems hTI rfl ?_)
 show wpAny _ _ (Builtin.SmallTypes.ownedTupleIsFree (.ref z) >>= _) _ _ _
 refine wpAny_bind ?_
 unfold Builtin.SmallTypes.ownedTupleIsFree
 refine wpAny_bind (wpAny_field hz rfl (x:=.none) rfl (wpAny_pure ?_))
 simp only [if_true]
 refine wpAny_bind (wpAny_rule ?_)
 refine wpAny_bind (wpAny_field hz rfl (x:=.ref TO) rfl ?_)
 refine wpAny_bind (wpAny_setField_rec hz (by simp) fun g1 hz1 hs1=>?_)
 replace hz1:IsZip g1 z TI TO .ellipsis:=hz1
 refine wpAny_bind ?_
 simp only [List.zipIdx_cons,List.zipIdx_nil,List.forIn_cons,List.forIn_nil]
 refine wpAny_bind (wpAny_bind (wpAny_onRaise ?_))
 show wpAny _ _ (Builtin.SmallTypes.nextOf (.ref i1) >>= _) _ _ _
 refine wpAny_bind (D1.item i _ _ _ l1 (Draws.same D1 h1 hs1.extBut Z.zf1) fun x g2 tk2 px st2 hs2=>wpAny_pure ?_)
 have hTO2:IsPair g2 TO a b:=hs2.extBut _ _ Z.TOi1 (hs1.extBut _ _ Z.TOz hTO)
 refine wpAny_bind (wpAny_seqItems hTO2 rfl ?_)
 refine wpAny_bind (wpAny_updateSeq_pair hTO2 fun g3 hTO3 hs3=>?_)
 replace hTO3:IsPair g3 TO x b:=hTO3
 refine wpAny_bind (wpAny_letGo (wpAny_pure ?_))
 refine wpAny_bind (wpAny_bind (wpAny_onRaise ?_))
 show wpAny _ _ (Builtin.SmallTypes.nextOf (.ref i2) >>= _) _ _ _
 refine wpAny_bind (D2.item i _ _ _ l2 (Draws.same D2 (Draws.same D2 (Draws.same D2 h2 hs1.extBut Z.zf2) hs2.extBut Z.if2) hs3.extBut Z.Tf2) fun y g4 tk4 py st4 hs4=>wpAny_pure ?_)
 have hTO4:IsPair g4 TO x b:=hs4.extBut _ _ Z.TOi2 hTO3
 refine wpAny_bind (wpAny_seqItems hTO4 rfl ?_)
 refine wpAny_bind (wpAny_updateSeq_pair hTO4 fun g5 hTO5 hs5=>?_)
 replace hTO5:IsPair g5 TO x y:=hTO5
 refine wpAny_bind (wpAny_letGo (wpAny_pure (wpAny_pure ?_)))
 refine wpAny_bind (wpAny_seqItems hTO5 rfl ?_)
 refine wpAny_bind (wpAny_newTuple ?_)
 have hsz:g5.objs.size=s.heap.objs.size:=by rw [hs5.1,hs4.1,hs3.1,hs2.1,hs1.1]
 have hz5:IsZip g5 z TI TO .ellipsis:=hs5.extBut _ _ Z.TOz.symm (hs4.extBut _ _ Z.i2z.symm (hs3.extBut _ _ Z.TOz.symm (hs2.extBut _ _ Z.i1z.symm hz1)))
 have hk5:∀ c o,c≠z->c≠TO->c≠i1->c≠i2->s.heap.get? c=some o->g5.get? c=some o:=fun c o c1 c2 c3 c4 e =>
  hs5.extBut _ _ c2 (hs4.extBut _ _ c4 (hs3.extBut _ _ c2 (hs2.extBut _ _ c3 (hs1.extBut _ _ c1 e))))
 have h15:S1 (i + 1) g5:=Draws.same D1 (Draws.same D1 (Draws.same D1 st2 hs3.extBut Z.Tf1) hs4.extBut Z.if1) hs5.extBut Z.Tf1
 have h25:S2 (i + 1) g5:=Draws.same D2 st4 hs5.extBut Z.Tf2
 have hzlt:z < g5.objs.size:=Heap.lt_size hz5
 show wpAny _ _ (Builtin.SmallTypes.ownedTupleHandOut (.ref z) (.ref g5.objs.size) >>= _) _ _ _
 refine wpAny_bind ?_
 unfold Builtin.SmallTypes.ownedTupleHandOut
 have hz6:IsZip (g5.push { cls:=.type "tuple",data:=.seq #[x,y] }) z TI TO .ellipsis:=Heap.get?_push_of_some _ hz5
 refine wpAny_bind (wpAny_setField_rec hz6 (by simp) fun g7 hz7 hs7=>?_)
 replace hz7:IsZip g7 z TI TO (rawInt g5.objs.size):=hz7
 refine wpAny_setField_rec hz7 (by simp) fun g8 hz8 hs8=>?_
 replace hz8:IsZip g8 z TI TO (rawInt g5.objs.size):=hz8
 have up:∀ c o,c≠z->g5.get? c=some o->g8.get? c=some o:=fun c o c1 e=>hs8.extBut _ _ c1 (hs7.extBut _ _ c1 (Heap.get?_push_of_some _ e))
 have hT8:IsPair g8 g5.objs.size x y:=hs8.extBut _ _ (Nat.ne_of_gt hzlt) (hs7.extBut _ _ (Nat.ne_of_gt hzlt) (Heap.get?_push_size _ rfl))
 rw [hsz] at hz8 hT8
 refine wpAny_pure ⟨_,rfl,?_⟩
 show Q (.ref g5.objs.size) _
 rw [hsz]
 exact hQ x y g8 _ px py hz8 (up _ _ Z.TOz hTO5) (D1.frame _ _ _ h15 fun b hb o e=>up b o (fun q=>Z.zf1 (q ▸ hb)) e) (D2.frame _ _ _ h25 fun b hb o e=>up b o (fun q=>Z.zf2 (q ▸ hb)) e) hT8 fun c o c1 c2 c3 c4 e=>up c o c1 (hk5 c o c1 c2 c3 c4 e)
theorem QB (Z:Zp z TI TO i1 i2 f1 f2) (D1:Draws prog w A i1 f1 n1 P1 S1) (D2:Draws prog w A i2 f2 n2 P2 S2) {Q:Fin->Shared->Prop}
  (hz:IsZip s.heap z TI TO .none) (hTI:IsPair s.heap TI (.ref i1) (.ref i2)) (hTO:IsPair s.heap TO a b) (h1:S1 i s.heap) (h2:S2 i s.heap) (l1:i<=n1) (hi:i=min n1 n2)
  (hE:∀ h' e tk,(∀ c o,c≠z->c≠TO->c≠i1->c≠i2->s.heap.get? c=some o->h'.get? c=some o)->(∃ o,h'.get? e=some o/\o.cls=.type "StopIteration")->E (.ref e) { s with heap:=h',toks:=tk }) :
  wpAny (model prog w) A (Builtin.«zip.__next__» ⟨[.ref z],[]⟩) Q E s:=by
 show wpAny _ _ (field (.ref z) 2 >>= _) _ _ _
 refine wpAny_bind (wpAny_field hz rfl (x:=.bool false) rfl ?_)
 show wpAny _ _ (field (.ref z) 3 >>= _) _ _ _
 refine wpAny_bind (wpAny_field hz rfl (x:=.ref TI) rfl ?_)
 refine wpAny_bind (wpAny_seqItems hTI rfl ?_)
 show wpAny _ _ (Builtin.SmallTypes.ownedTupleIsFree (.ref z) >>= _) _ _ _
 refine wpAny_bind ?_
 unfold Builtin.SmallTypes.ownedTupleIsFree
 refine wpAny_bind (wpAny_field hz rfl (x:=.none) rfl (wpAny_pure ?_))
 simp only [if_true]
 refine wpAny_bind (wpAny_rule ?_)
 refine wpAny_bind (wpAny_field hz rfl (x:=.ref TO) rfl ?_)
 refine wpAny_bind (wpAny_setField_rec hz (by simp) fun g1 hz1 hs1=>?_)
 replace hz1:IsZip g1 z TI TO .ellipsis:=hz1
 refine wpAny_bind ?_
 simp only [List.zipIdx_cons,List.zipIdx_nil,List.forIn_cons,List.forIn_nil]
 refine wpAny_bind (wpAny_bind (wpAny_onRaise ?_))
 show wpAny _ _ (Builtin.SmallTypes.nextOf (.ref i1) >>= _) _ _ _
 have hA:S1 i g1:=Draws.same D1 h1 hs1.extBut Z.zf1
 by_cases hlt:i < n1
 ·have hn2:i=n2:=by omega
  refine wpAny_bind (D1.item i _ _ _ hlt hA fun x g2 tk2 px st2 hs2=>wpAny_pure ?_)
  have hTO2:IsPair g2 TO a b:=hs2.extBut _ _ Z.TOi1 (hs1.extBut _ _ Z.TOz hTO)
  refine wpAny_bind (wpAny_seqItems hTO2 rfl ?_)
  refine wpAny_bind (wpAny_updateSeq_pair hTO2 fun g3 hTO3 hs3=>?_)
  refine wpAny_bind (wpAny_letGo (wpAny_pure ?_))
  refine wpAny_bind (wpAny_bind (wpAny_onRaise ?_))
  show wpAny _ _ (Builtin.SmallTypes.nextOf (.ref i2) >>= _) _ _ _
  refine wpAny_bind (D2.done _ _ _ (hn2 ▸ Draws.same D2 (Draws.same D2 (Draws.same D2 h2 hs1.extBut Z.zf2) hs2.extBut Z.if2) hs3.extBut Z.Tf2) fun g4 e hs4 he=>?_)
  obtain ⟨oe,hoe,hce⟩:=he
  have hz4:IsZip g4 z TI TO .ellipsis:=hs4 _ _ Z.i2z.symm (hs3.extBut _ _ Z.TOz.symm (hs2.extBut _ _ Z.i1z.symm hz1))
  have hez:e≠z:=fun x=>by subst x;rw [hz4] at hoe;cases hoe;simp at hce
  exact wpAny_setField_rec hz4 (by simp) fun g5 _ hs5=>hE g5 e _ (fun c o c1 c2 c3 c4 x=>hs5.extBut _ _ c1 (hs4 _ _ c4 (hs3.extBut _ _ c2 (hs2.extBut _ _ c3 (hs1.extBut _ _ c1 x))))) ⟨oe,hs5.extBut _ _ hez hoe,hce⟩
 ·have hn1:i=n1:=by omega
  refine wpAny_bind (D1.done _ _ _ (hn1 ▸ hA) fun g2 e hs2 he=>?_)
  obtain ⟨oe,hoe,hce⟩:=he
  have hz2:IsZip g2 z TI TO .ellipsis:=hs2 _ _ Z.i1z.symm hz1
  have hez:e≠z:=fun x=>by subst x;rw [hz2] at hoe;cases hoe;simp at hce
  exact wpAny_setField_rec hz2 (by simp) fun g3 _ hs3=>hE g3 e _ (fun c o c1 _ c3 _ x=>hs3.extBut _ _ c1 (hs2 _ _ c3 (hs1.extBut _ _ c1 x))) ⟨oe,hs3.extBut _ _ hez hoe,hce⟩
theorem Du (Z:Zp z TI TO i1 i2 f1 f2) (D1:Draws prog w A.in1 i1 f1 n1 P1 S1) (D2:Draws prog w A.in1 i2 f2 n2 P2 S2) {Q:Option Value->Shared->Prop}
  (hz:IsZip s.heap z TI TO .none) (hTI:IsPair s.heap TI (.ref i1) (.ref i2)) (hTO:IsPair s.heap TO a b) (h1:S1 i s.heap) (h2:S2 i s.heap) (l1:i < n1) (l2:i < n2)
  (hQ:∀ x y h' tk,P1 i x->P2 i y->IsZip h' z TI TO (rawInt s.heap.objs.size)->IsPair h' TO x y->S1 (i + 1) h'->S2 (i + 1) h'->IsPair h' s.heap.objs.size x y ->
   (∀ c o,c≠z->c≠TO->c≠i1->c≠i2->s.heap.get? c=some o->h'.get? c=some o)->Q (some (.ref s.heap.objs.size)) { s with heap:=h',toks:=tk }) :
  wpAny (model prog w) A (pyNext (.ref z)) Q E s:=by
 have hT:s.TypeIs (.ref z) "zip":=⟨_,hz,rfl⟩
 unfold pyNext
 exact wpAny_bind (wpAny_attempt (wpAny_callSpecial?_slot (name:=Str.ofString "__next__") hT PySem.F.slot_zip_next
  (wpAny_call_entry PySem.F.slot_zip_next hT PySem.F.entry_zip_next
   (NW Z D1 D2 hz hTI hTO h1 h2 l1 l2 fun x y h' tk a1 a2 a3 a4 a5 a6 a7 a8=>wpAny_pure (hQ x y h' tk a1 a2 a3 a4 a5 a6 a7 a8)) (PySem.F.args_zip_next_1 _))))
theorem Et (Z:Zp z TI TO i1 i2 f1 f2) (D1:Draws prog w A.in1 i1 f1 n1 P1 S1) (D2:Draws prog w A.in1 i2 f2 n2 P2 S2) {Q:Option Value->Shared->Prop}
  (hz:IsZip s.heap z TI TO .none) (hTI:IsPair s.heap TI (.ref i1) (.ref i2)) (hTO:IsPair s.heap TO a b) (h1:S1 i s.heap) (h2:S2 i s.heap) (l1:i<=n1) (hi:i=min n1 n2)
  (hQ:∀ h' tk,(∀ c o,c≠z->c≠TO->c≠i1->c≠i2->s.heap.get? c=some o->h'.get? c=some o)->Q none { s with heap:=h',toks:=tk }):wpAny (model prog w) A (pyNext (.ref z)) Q E s:=by
 have hT:s.TypeIs (.ref z) "zip":=⟨_,hz,rfl⟩
 unfold pyNext
 refine wpAny_bind (wpAny_attempt (wpAny_callSpecial?_slot (name:=Str.ofString "__next__") hT PySem.F.slot_zip_next
  (wpAny_call_entry PySem.F.slot_zip_next hT PySem.F.entry_zip_next (QB Z D1 D2 hz hTI hTO h1 h2 l1 hi fun h' e tk hk he=>?_) (PySem.F.args_zip_next_1 _))))
 obtain ⟨o,ho,hc⟩:=he
 refine wpAny_bind (wpAny_isInstance (T:="StopIteration") (b:=true) ⟨o,ho,hc⟩ isSubtype_stop ?_)
 exact wpAny_pure (hQ _ _ hk)
end
def SH (f g:Bool) (K:PySem.W.Frag) (a c:Addr):It :=
  ⟨fun i H=>∃ xs ys x y,lL f K H a xs/\lL g K H c ys/\xs[i]?=some x/\ys[i]?=some y,
   fun i H v H'=>∃ p x y,(∀ xs,lL f K H a xs->xs[i]?=some x)/\(∀ ys,lL g K H c ys->ys[i]?=some y)/\H p=none/\v=.ref p/\H'=upd H p (.tup [x,y]),
   fun i H=>∃ xs ys,lL f K H a xs/\lL g K H c ys/\i=min xs.length ys.length⟩
theorem O8 {f g:Bool} {h:Heap} {z TI TO i1 i2 a c:Addr} {f0 u v:Value} {k1 k2:Nat} {xs ys:Array Value} (hz:IsZip h z TI TO f0) (q:TI≠TO/\i1≠i2/\TO≠a/\TO≠c) (hTI:IsPair h TI (.ref i1) (.ref i2)) (hTO:IsPair h TO u v)
  (h1:kJ f h i1 a k1) (h2:kJ g h i2 c k2) (ha:jH f h a xs) (hc:jH g h c ys):Zp z TI TO i1 i2 [i1,a] [i2,c]:=by
 have iz:=fun {r:Bool} {i x:Addr} {k:Nat} (p:kJ r h i x k)=>let ⟨_,e,c,_⟩:=p.obj;iD e hz c rfl (by cases r <;> decide)
 have az:=fun {r:Bool} {x:Addr} {xs:Array Value} (p:jH r h x xs)=>let ⟨_,_,e,c,_⟩:=p.obj;iD e hz c rfl (by cases r <;> decide)
 have ti:=fun {r:Bool} {i x t:Addr} {u v:Value} {k:Nat} (w:IsPair h t u v) (p:kJ r h i x k)=>let ⟨_,e,c,_⟩:=p.obj;iD w e rfl c (by cases r <;> decide)
 refine ⟨iD hTI hz rfl rfl (by decide),iD hTO hz rfl rfl (by decide),iz h1,iz h2,q.1,ti hTI h1,ti hTI h2,ti hTO h1,ti hTO h2,q.2.1,?_,?_,?_,?_,?_,?_⟩ <;> simp only [List.mem_cons,List.not_mem_nil,or_false,not_or]
 ·exact ⟨(iz h1).symm,(az ha).symm⟩
 ·exact ⟨(iz h2).symm,(az hc).symm⟩
 ·exact ⟨ti hTO h1,q.2.2.1⟩
 ·exact ⟨ti hTO h2,q.2.2.2⟩
 ·exact ⟨q.2.1,(hc.ne h1).symm⟩
 ·exact ⟨q.2.1.symm,(ha.ne h2).symm⟩
theorem Ng {P:Program} {w:World} {K:PySem.W.Frag} {elts:List Expr} {kk:Nat} {pos:Pos} (f g:Bool) (a c z TI TO i1 i2:Addr) (q:TI≠TO/\i1≠i2/\TO≠a/\TO≠c) :
  Turn P w K (.Tuple elts kk pos) (SH f g K a c) [z,TI,TO,i1,i2] z (fun i h=>IsZip h z TI TO .none/\IsPair h TI (.ref i1) (.ref i2)/\(∃ u v,IsPair h TO u v)/\kJ f h i1 a i/\kJ g h i2 c i) where
 mem:=by simp
 obj:=fun i h st b hb=>by
  obtain ⟨hz,hTI,⟨u,v,hTO⟩,h1,h2⟩:=st
  obtain ⟨o1,e1,c1,d1⟩:=h1.obj
  obtain ⟨o2,e2,c2,d2⟩:=h2.obj
  have:b=z\/b=TI\/b=TO\/b=i1\/b=i2:=by simpa using hb
  rcases this with rfl | rfl | rfl | rfl | rfl
  ·exact ⟨_,hz,fun v x=>by
    have x':Data.fields _=Data.cell v:=x
    cases x'⟩
  ·exact ⟨_,hTI,fun v x=>by
    have x':Data.seq _ _=Data.cell v:=x
    cases x'⟩
  ·exact ⟨_,hTO,fun v x=>by
    have x':Data.seq _ _=Data.cell v:=x
    cases x'⟩
  ·exact ⟨_,e1,fun v x=>by rw [d1] at x;cases x⟩
  ·exact ⟨_,e2,fun v x=>by rw [d2] at x;cases x⟩
 keep:=fun i h h' st k=>let ⟨hz,hTI,⟨u,v,hTO⟩,h1,h2⟩:=st
  ⟨k z (by simp) _ hz,k TI (by simp) _ hTI,⟨u,v,k TO (by simp) _ hTO⟩,h1.at fun o e=>k i1 (by simp) o e,h2.at fun o e=>k i2 (by simp) o e⟩
 item:=by
  intro X hP hw hK hc i pins s σ H E I hf st hg
  subst hP hw hK
  obtain ⟨hz,hTI,⟨u,v,hTO⟩,h1,h2⟩:=st
  obtain ⟨xs,ys,x,y,hqx,hqy,hx,hy⟩:=hg
  obtain ⟨its,rv,p,_⟩:=xM I hqx
  obtain ⟨its',rv',p',_⟩:=xM I hqy
  obtain ⟨x',hu,ru⟩:=rv.get hx
  obtain ⟨y',hu',ru'⟩:=rv'.get hy
  have Z:=O8 hz q hTI hTO h1 h2 p p'
  have n1:a≠i1:=p.ne h1
  have n2:c≠i2:=p'.ne h2
  have hd:X.A.in1.handled=none:=I.ok.hd hc
  have lt1:i < its.toArray.size:=by
   have:=(List.getElem?_eq_some_iff.mp hu).1
   simpa using this
  have lt2:i < its'.toArray.size:=by
   have:=(List.getElem?_eq_some_iff.mp hu').1
   simpa using this
  refine Du Z (jJ f hd i1 a n1 its.toArray) (jJ g hd i2 c n2 its'.toArray) hz hTI hTO ⟨h1,p⟩ ⟨h2,p'⟩ lt1 lt2 fun x1 y1 h' tk px py hz' hTO' s1 s2 hT hk=>?_
  refine ⟨_,rfl,wpAny_letOwnedTupleGo_zip (s:={ s with heap:=h',toks:=tk }) hz' fun h'' hz'' hs''=>?_⟩
  have ex:x1=x':=by
   have h3:its[i]?=some x1:=by simpa using px
   rw [hu] at h3;exact (Option.some.inj h3).symm
  have ey:y1=y':=by
   have h3:its'[i]?=some y1:=by simpa using py
   rw [hu'] at h3;exact (Option.some.inj h3).symm
  subst ex ey
  have lt:∀ {b o},s.heap.get? b=some o->s.heap.objs.size≠b:=fun e=>Nat.ne_of_gt (Heap.lt_size e)
  have hTT:gW h'' s.heap.objs.size #[x1,y1]:=⟨_,hs''.extBut _ _ (lt hz) hT,rfl,rfl,_,rfl⟩
  refine ⟨.ref s.heap.objs.size,upd H s.heap.objs.size (.tup [x,y]),mV (s:=s) (h':=h'') (tk:=tk) (ch:=[z,TI,TO,i1,i2]) I hf (fun b o hb e=>?_) (Nat.le_refl _) ⟨by show 2<=sizeLine;decide,[x1,y1],.cons ru (.cons ru' .nil),hTT⟩,rfl,
   ⟨s.heap.objs.size,x,y,fun zs hz=>by rw [<- Pa I hqx hz];exact hx,fun zs hz=>by rw [<- Pa I hqy hz];exact hy,I.hok.fresh (Nat.le_refl _),rfl,rfl⟩,⟨hz'',?_,?_,?_,?_⟩,fun b hb=>?_⟩
  ·have hb':¬ (b=z\/b=TI\/b=TO\/b=i1\/b=i2):=by simpa using hb
   simp only [not_or] at hb'
   exact hs''.extBut _ _ hb'.1 (hk b o hb'.1 hb'.2.2.1 hb'.2.2.2.1 hb'.2.2.2.2 e)
  ·exact hs''.extBut _ _ Z.TIz (hk _ _ Z.TIz Z.TITO Z.TIi1 Z.TIi2 hTI)
  ·exact ⟨_,_,hs''.extBut _ _ Z.TOz hTO'⟩
  ·exact s1.1.at fun o e=>hs''.extBut _ _ Z.i1z e
  ·exact s2.1.at fun o e=>hs''.extBut _ _ Z.i2z e
  ·rw [bC (fun e=>?_)]
   ·exact (hf b hb).1
   ·have:b=z\/b=TI\/b=TO\/b=i1\/b=i2:=by simpa using hb
    obtain ⟨o1,e1,_⟩:=h1.obj
    obtain ⟨o2,e2,_⟩:=h2.obj
    rcases this with rfl | rfl | rfl | rfl | rfl
    ·exact lt hz e.symm
    ·exact lt hTI e.symm
    ·exact lt hTO e.symm
    ·exact lt e1 e.symm
    ·exact lt e2 e.symm
 done:=by
  intro X hP hw hK hc i pins s σ H E I hf st hg
  subst hP hw hK
  obtain ⟨hz,hTI,⟨u,v,hTO⟩,h1,h2⟩:=st
  obtain ⟨xs,ys,hqx,hqy,hi⟩:=hg
  obtain ⟨its,rv,p,_⟩:=xM I hqx
  obtain ⟨its',rv',p',_⟩:=xM I hqy
  have Z:=O8 hz q hTI hTO h1 h2 p p'
  have n1:a≠i1:=p.ne h1
  have n2:c≠i2:=p'.ne h2
  have hd:X.A.in1.handled=none:=I.ok.hd hc
  have hi':i=min its.toArray.size its'.toArray.size:=by rw [List.size_toArray,List.size_toArray,<- rv.length,<- rv'.length];exact hi
  refine Et Z (jJ f hd i1 a n1 its.toArray) (jJ g hd i2 c n2 its'.toArray) hz hTI hTO ⟨h1,p⟩ ⟨h2,p'⟩ (by omega) hi' fun h' tk hk=>⟨rfl,?_⟩
  have kk:∀ b o,b ∉ [z,TI,TO,i1,i2]->s.heap.get? b=some o->h'.get? b=some o:=fun b o hb e=>by
   have hb':¬ (b=z\/b=TI\/b=TO\/b=i1\/b=i2):=by simpa using hb
   simp only [not_or] at hb'
   exact hk b o hb'.1 hb'.2.2.1 hb'.2.2.2.1 hb'.2.2.2.2 e
  have:=I.call' (ch:=[z,TI,TO,i1,i2]) (H':=H) (s':={ s with heap:=h',toks:=tk }) rfl ⟨fun b u q n hb hx=>kk b u hx q,fun b u q n hb hx=>⟨u.slots,kk b u hx q⟩,fun b u q n hx=>n,fun b u q hx=>⟨u,kk b u hx q⟩,fun b xs q=>q,fun b u xs q=>q,fun b ps q=>⟨#[],by rw [q];simp⟩⟩
   (fun a u e'=>?_) I.bare fun b hb=>⟨(hf b hb).2.2.2.1,(hf b hb).2.1,(hf b hb).2.2.2.2.1,(hf b hb).2.2.2.2.2⟩
  ·exact this
  ·refine (I.hok a u e').stay (fun b z hb q=>kk b z (fun hc=>?_) q) (fun _ q=>q) fun _ _ q=>q
   have hnone:=(hf b hc).1
   rcases hb with rfl | hb
   ·rw [hnone] at e';cases e'
   ·rw [hnone] at hb;cases hb
 self:=fun _ _ _ _ _ st h=>wpAny_pyIter_zip st.1 h
abbrev Pd (f:Bool) (h:Heap) (a:Addr):Heap:=h.push { cls:=.type (xJ f),data:=.fields #[.ref a,.int 0 0] }
abbrev Ph (f g:Bool) (h:Heap) (a c:Addr):Heap:=(Pd f h a).push { cls:=.type (xJ g),data:=.fields #[.ref c,.int 0 0] }
abbrev O6 (f g:Bool) (h:Heap) (a c:Addr):Heap:=(Ph f g h a c).push { cls:=.type "tuple",data:=.seq #[.ref h.objs.size,.ref (Pd f h a).objs.size] }
abbrev O1 (f g:Bool) (h:Heap) (a c:Addr):Heap:=(O6 f g h a c).push { cls:=.type "tuple",data:=.seq #[.none,.none] }
abbrev GA (f g:Bool) (h:Heap) (a c:Addr):Heap:=(O1 f g h a c).push { cls:=.type "zip",data:=.fields #[.none,.bool false,.bool false,.ref (Ph f g h a c).objs.size,.ref (O6 f g h a c).objs.size] }
theorem jH.push {f:Bool} {h:Heap} {a:Addr} {xs:Array Value} (p:jH f h a xs) (o:Obj):jH f (h.push o) a xs:=by
 obtain ⟨o',n,e,c,d⟩:=p.obj
 cases f <;> exact ⟨o',Heap.get?_push_of_some _ e,c,n,d⟩
theorem KZ {prog:Program} {w:World} {A:Around} {E:Value->Shared->Prop} {s:Shared} {f:Bool} {l:Addr} {items:Array Value} {Q:Value->Shared->Prop} (hl:jH f s.heap l items)
  (hQ:Q (.ref s.heap.objs.size) { s with heap:=s.heap.push { cls:=.type (xJ f),data:=.fields #[.ref l,.int 0 0] } }):wpAny (model prog w) A (pyIter (.ref l)) Q E s:=by
 cases f
 ·exact wpAny_pyIter_tuple hl hQ
 ·exact wpAny_pyIter_list hl hQ
theorem IQ (f g:Bool) (a c:Addr) (xs ys:Array Value) :
  Meets (Builtin.«zip.__new__» ⟨[.type "zip",.ref a,.ref c],[]⟩) (fun _ R s=>jH f s.heap a xs/\jH g s.heap c ys /\
   R (.ok (.ret (.ref (O1 f g s.heap a c).objs.size))) { s with heap:=GA f g s.heap a c }) :=
 .of_wp fun prog w A R s h=>by
  obtain ⟨hp,g',d,tk,os⟩:=s;obtain ⟨h1,h2,h⟩:=h
  have hsub:=sub_zip
  have hL1:jH f (Shared.heap ⟨hp,g',d,tk,os⟩) a xs:=h1
  have hL2:jH g (Shared.heap ⟨hp.push { cls:=.type (xJ f),data:=.fields #[.ref a,.int 0 0] },g',d,tk,os⟩) c ys:=h2.push _
  wp_walk using KZ hL1,KZ hL2
  exact ⟨_,rfl,h⟩
theorem Ky {f g:Bool} {prog:Program} {w:World} {A:Around} {E:Value->Shared->Prop} {s:Shared} {a c:Addr} {xs ys:Array Value} {Q:Value->Shared->Prop} (h1:jH f s.heap a xs) (h2:jH g s.heap c ys)
  (h:∀ h',IsZip h' (s.heap.objs.size + 4) (s.heap.objs.size + 2) (s.heap.objs.size + 3) .none->IsPair h' (s.heap.objs.size + 2) (.ref s.heap.objs.size) (.ref (s.heap.objs.size + 1)) ->
   IsPair h' (s.heap.objs.size + 3) .none .none->kJ f h' s.heap.objs.size a 0->kJ g h' (s.heap.objs.size + 1) c 0 ->
   (∀ b o,s.heap.get? b=some o->h'.get? b=some o)->Q (.ref (s.heap.objs.size + 4)) { s with heap:=h' }) :
  wpAny (model prog w) A (call (.type "zip") [.ref a,.ref c]) Q E s:=by
 refine callType_new PySem.F.called_zip (by decide) (PySem.F.typeCall_zip_2 _ _) (PySem.F.newCall_zip_2 _ _) (fun obj=>PySem.F.args_object_init_3 obj _ _) PySem.F.entry_zip_new
  (IQ f g a c xs ys) ⟨h1,h2,?_⟩
 have z1:(Pd f s.heap a).objs.size=s.heap.objs.size + 1:=Heap.size_push ..
 have z2:(Ph f g s.heap a c).objs.size=s.heap.objs.size + 2:=by rw [Heap.size_push,z1]
 have z3:(O6 f g s.heap a c).objs.size=s.heap.objs.size + 3:=by rw [Heap.size_push,z2]
 have z4:(O1 f g s.heap a c).objs.size=s.heap.objs.size + 4:=by rw [Heap.size_push,z3]
 have g5:(GA f g s.heap a c).get? (O1 f g s.heap a c).objs.size=some _:=Heap.get?_push_size _ rfl
 have g4:(GA f g s.heap a c).get? (O6 f g s.heap a c).objs.size=some _:=Heap.get?_push_of_some _ (Heap.get?_push_size _ rfl)
 have g3:(GA f g s.heap a c).get? (Ph f g s.heap a c).objs.size=some _:=Heap.get?_push_of_some _ (Heap.get?_push_of_some _ (Heap.get?_push_size _ rfl))
 have g2:(GA f g s.heap a c).get? (Pd f s.heap a).objs.size=some _:=Heap.get?_push_of_some _ (Heap.get?_push_of_some _ (Heap.get?_push_of_some _ (Heap.get?_push_size _ rfl)))
 have g1:(GA f g s.heap a c).get? s.heap.objs.size=some _:=Heap.get?_push_of_some _ (Heap.get?_push_of_some _ (Heap.get?_push_of_some _ (Heap.get?_push_of_some _ (Heap.get?_push_size _ rfl))))
 show _/\_
 rw [z2,z3,z4] at g5
 rw [z1,z2] at g3
 rw [z3] at g4
 rw [z1] at g2
 rw [z4]
 exact ⟨⟨_,g5,rfl⟩,h _ g5 g3 g4 (.of g1 rfl rfl) (.of g2 rfl rfl) fun b o x =>
  Heap.get?_push_of_some _ (Heap.get?_push_of_some _ (Heap.get?_push_of_some _ (Heap.get?_push_of_some _ (Heap.get?_push_of_some _ x))))⟩
def S9 (f g:Bool) (K:PySem.W.Frag) (ta:TA):TI:=fun σ H R=>ta σ H fun vs H1=>∃ a c,vs=[.ref a,.ref c]/\(∃ xs,lL f K H1 a xs)/\(∃ ys,lL g K H1 c ys)/\R (SH f g K a c) H1
theorem SN {f g:Bool} {X:Cx} {elts:List Expr} {kk:Nat} {tpos:Pos} {a b:Expr} {ta:TA} {p pos:Pos} (hg:Gl X "zip") (hm:X.mg "zip"=none) (ha:PA X [a,b] ta) (hs:starEach [a,b] X.env=[(false,eval a X.env),(false,eval b X.env)]) (hs2:starEach [b] X.env=[(false,eval b X.env)]) :
  PI X (.Tuple elts kk tpos) (.Call (.Name "zip" p) [a,b] [] pos) (S9 f g X.K ta):=by
 intro pins s σ H R I h
 refine Call_ (l4 I hg hm boot_zip (PyProof.Rows.callWith_type1 (aZ (ha pos pins s σ H _ I h) fun us s1 ⟨vs,H1,I1,r1,q1⟩=>?_) (by rw [hs,hs2]) (by rw [hs2];rfl)))
 obtain ⟨a,c,e,⟨xs,hq⟩,⟨ys,hq'⟩,q⟩:=q1
 subst e
 cases r1 with
 | cons r rr =>
  cases rr with
  | cons r' rr =>
   cases rr
   cases r
   cases r'
   obtain ⟨its,rv,p,hz⟩:=xM I1 hq
   obtain ⟨its',rv',p',hz'⟩:=xM I1 hq'
   have la:a < s1.heap.objs.size:=by obtain ⟨_,_,e,_⟩:=p.obj;exact Heap.lt_size e
   have lc:c < s1.heap.objs.size:=by obtain ⟨_,_,e,_⟩:=p'.obj;exact Heap.lt_size e
   refine Ky p p' fun h' hz hTI hTO h1 h2 hk=>?_
   refine wpAny_pyIter_zip (s:={ s1 with heap:=h' }) hz ?_
   have I2:L2.Inv X pins σ H1 { s1 with heap:=h',toks:=s1.toks }:=I1.kept hk
   refine ⟨_,_,_,_,H1,rfl,I2,Ng f g a c (s1.heap.objs.size + 4) (s1.heap.objs.size + 2) (s1.heap.objs.size + 3) s1.heap.objs.size (s1.heap.objs.size + 1) ⟨Nat.ne_of_lt (Nat.lt_succ_self _),Nat.ne_of_lt (Nat.lt_succ_self _),Nat.ne_of_gt (Nat.lt_of_lt_of_le la (Nat.le_add_right _ _)),Nat.ne_of_gt (Nat.lt_of_lt_of_le lc (Nat.le_add_right _ _))⟩,⟨hz,hTI,⟨_,_,hTO⟩,h1,h2⟩,fun b hb=>?_,q⟩
   have le:s1.heap.objs.size<=b:=by
    have:b=s1.heap.objs.size + 4\/b=s1.heap.objs.size + 2\/b=s1.heap.objs.size + 3\/b=s1.heap.objs.size\/b=s1.heap.objs.size + 1:=by simpa using hb
    rcases this with e | e | e | e | e <;> rw [e]
    ·exact Nat.le_add_right _ _
    ·exact Nat.le_add_right _ _
    ·exact Nat.le_add_right _ _
    ·exact Nat.le_refl _
    ·exact Nat.le_add_right _ _
   exact I1.fpOk le (I1.hok.fresh le)
def fV:List U->List U->List U
 | u :: us,w :: ws=>.tup [u,w] :: fV us ws
 | _,_=>[]
theorem Bm:∀ us ws:List U,(fV us ws).length=min us.length ws.length
 | [],ws=>by simp [fV]
 | _ :: _,[]=>by simp [fV]
 | u :: us,w :: ws=>by simp only [fV,List.length_cons,Bm us ws];omega
theorem vM:∀ {us ws:List U} {i:Nat} {x:U},(fV us ws)[i]?=some x->∃ u w,us[i]?=some u/\ws[i]?=some w/\x=.tup [u,w]
 | [],ws,i,x,h=>by simp [fV] at h
 | _ :: _,[],i,x,h=>by simp [fV] at h
 | u :: us,w :: ws,0,x,h=>by simp [fV] at h;exact ⟨u,w,rfl,rfl,h.symm⟩
 | u :: us,w :: ws,i + 1,x,h=>by
  simp only [fV,List.getElem?_cons_succ] at h ⊢
  exact vM h
theorem Nz {f g:Bool} {K:PySem.W.Frag} {a c:Addr} {us ws:List U} {vs xs:List V} {H:Hp} {M:aE} (m:G0 f K H M a vs) (m':G0 g K H M c xs) (r:aI K H M us vs) (r':aI K H M ws xs):Walk K (SH f g K a c) ⟨none,fV us ws⟩ H M:=by
 refine ⟨fun H1 M1 s rm _ i u e=>?_,fun H1 M1 s rm _=>⟨vs,xs,m _ _ s,m' _ _ s,by show (fV us ws).length=_;rw [Bm,r.length,r'.length]⟩⟩
 obtain ⟨u,w,e1,e1',rfl⟩:=vM e
 obtain ⟨v,e2,ru⟩:=r.get e1
 obtain ⟨x,e2',ru'⟩:=r'.get e1'
 refine ⟨⟨vs,xs,v,x,m _ _ s,m' _ _ s,e2,e2'⟩,fun y H2 y'=>?_⟩
 obtain ⟨p,v',x',y1,y2,hp,rfl,rfl⟩:=y'
 have:=y1 vs (m _ _ s)
 rw [e2] at this;cases this
 have:=y2 xs (m' _ _ s)
 rw [e2'] at this;cases this
 have st:=aW.laid (o:=.tup [v,x]) rm hp
 have rr:aI K H1 M1 [u,w] [v,x]:=by
  simp only [aI]
  exact ⟨_,_,rfl,ru.stp s,_,_,rfl,ru'.stp s,rfl⟩
 exact ⟨st,rm.laid hp,vE (rm.no hp) bQ (rr.stp st)⟩
def aK (ta:UA):UI:=fun τ M R=>ta τ M fun us M1=>match us with
 | [.tup us,.tup ws]=>R ⟨none,fV us ws⟩ M1
 | _=>False
theorem RX {K:PySem.W.Frag} {ta:TA} {ta':UA} (h:lE K ta ta'):vY K (S9 false false K ta) (aK ta'):=fun σ τ H M R' rs rm q R c=>h σ τ H M _ rs rm q _ fun us vs M1 H1 s1 rm1 ru h1=>by
 split at h1
 ·obtain ⟨v,vs',rfl,a,b⟩:=ru.inv_cons
  obtain ⟨v2,rfl,a2⟩:=b.one
  simp only [aP] at a a2
  obtain ⟨a,vs,rfl,m,r⟩:=a
  obtain ⟨a',vs',rfl,m',r'⟩:=a2
  exact ⟨a,a',rfl,⟨vs,Kb m _ _ (aW.refl _ _)⟩,⟨vs',Kb m' _ _ (aW.refl _ _)⟩,c _ _ M1 H1 s1 rm1 (Nz (Kb m) (Kb m') r r') h1⟩
 ·exact h1.elim
theorem Sj {D:Dat} {elts:List Expr} {kk:Nat} {tpos:Pos} {a b:Expr} {p pos:Pos} {ta:UA} (hm:D.mg "zip"=none) (ha:jZ D [a,b] ta) (hg:D.sc.names.lookup ("zip":Str)=some .globalImplicit:=by rfl) (hs:∀ env,starEach [a,b] env=[(false,eval a env),(false,eval b env)]:=by intro _;rfl) (hs2:∀ env,starEach [b] env=[(false,eval b env)]:=by intro _;rfl):BD D (.Tuple elts kk tpos) (.Call (.Name "zip" p) [a,b] [] pos) (aK ta):=by
 obtain ⟨_,q,s⟩:=ha
 exact ⟨_,fun X h=>h.K ▸ SN (by show X.env.scope.names.lookup _=_;rw [h.sc];exact hg) (by rw [h.mg];exact hm) (q X h) (hs _) (hs2 _),RX s⟩
def hX (ta:UA):UI:=fun τ M R=>ta τ M fun us M1=>match us with
 | [.tup us,.lst ws]=>R ⟨none,fV us ws⟩ M1
 | _=>False
end U2
namespace U2
open PySem PySem.Spec PyProof.Rows L2
theorem DA (l:Addr) (items:Array Value) (n:Nat) (b:Addr) (items2:Array Value) (n2:Nat) (dd:Option Addr) (sl:Array (Option Value)) (hc0:¬(!items.isEmpty && Builtin.List.listTooLong (items.size + items2.size))=true) (hc1:items.size<=sizeLine) (hs2:items.size + items2.size<=sizeLine + 1) :
  Meets (Builtin.«list.extend» ⟨[.ref l,.ref b],[]⟩) (fun _ R s=>s.heap.get? l=some { cls:=.type "list",dict:=none,data:=.seq items n,slots:=#[] }/\s.heap.get? b=some { cls:=.type "list",dict:=dd,data:=.seq items2 n2,slots:=sl }/\R (.ok (.ret Value.none)) { s with heap:=s.heap.update l (Obj.mapSeq fun x=>x++items2),toks:=s.toks }) :=
 .of_wp fun prog w A R s h=>by
  obtain ⟨hp,g,d,tk,os⟩:=s;obtain ⟨hl,hb,h⟩:=h
  have f1:=PySem.AutoSeq1.idx_int;have f2:=PySem.AutoSeq1.sub_tuple_tuple;have f3:=PySem.AutoSeq1.sub_list_list;have f4:=PySem.AutoSeq1.sub_tuple_list;have f5:=PySem.AutoSeq1.sub_list_tuple
  have hz':(items++items2).size<=sizeLine + 1:=by rw [Array.size_append];exact hs2
  wp_walk using (wpAny_updateSeq hl rfl (hz:=hc1) (_hz':=hz')),wpAny_loadPart' hl,wpAny_loadPart' hb
  exact ⟨_,rfl,h⟩
theorem HF {X:Cx}:Gr X "list.extend" (Ep X.K):=by
 intro pins s σ H x vs v us Q I rx rv h
 obtain ⟨l,b,xs,zs,rfl,rfl,hH,hB,hz,q⟩:=h
 cases rx
 obtain ⟨u,rfl,ru⟩:=rv.one
 cases ru
 obtain ⟨z,its,n,r,hl,e⟩:=I.lstM hH
 obtain ⟨its2,r2,⟨⟨oc,od,odt,osl⟩,n2,e2,hc,hd,hdt⟩,hl2⟩:=I.list hB
 have hc':oc=.type "list":=hc
 have hdt':odt=.seq its2.toArray n2:=hdt
 subst hc' hdt'
 have l2:=r2.length
 have hsz:its.toArray.size + its2.toArray.size<=sizeLine:=by rw [List.size_toArray,List.size_toArray];omega
 have hlong:¬ (!its.toArray.isEmpty && Builtin.List.listTooLong (its.toArray.size + its2.toArray.size))=true:=by
  rw [Fm hsz,Bool.and_false]
  exact Bool.false_ne_true
 refine call_meets PySem.F.slot_list_extend ⟨_,e,rfl⟩ PySem.F.entry_list_extend (PySem.F.args_list_extend_2 _ _)
  (DA l its.toArray n b its2.toArray n2 od osl hlong (by rw [List.size_toArray];omega) (by omega)) ⟨e,e2,?_⟩
 refine ⟨.non,_,I.lset (its':=its++its2) hH e (by simp) (r.append r2) ?_,rfl,q⟩
 rw [List.length_append]
 omega
variable {D:Dat} {o e:Expr} {ta:UE} {tas:UA} {pos:Pos}
theorem C4 {apos:Pos} (ho:bA D o ta) (ha:jZ D [e] tas) (hbase:∀ env,attributeBase o "extend" env (eval o env)=eval o env:=by intro _;rfl)
  (hfew:∀ env,((backTo pos (starEach [e] env)).all (fun x=>!x.1) && (backToKw pos (keywordEach [] env)).all (fun x=>x.1.isSome) && decide ([e].length + ([]:List Keyword).length + (if ([]:List Keyword).isEmpty then 0 else 1) < 30))=true:=by intro _;rfl)
  (hline:(apos.endLine == pos.line)=true:=by rfl) (hs:∀ env,starEach [e] env=[(false,eval e env)]:=by intro _;rfl):bA D (.Call (.Attribute o "extend" apos) [e] [] pos) (AL jL ta tas):=by
 obtain ⟨_,p,s⟩:=ho;obtain ⟨_,q,r⟩:=ha
 refine ⟨_,fun X h=>?_,KA Ii s r⟩
 have:=zP (cpos:=pos) (apos:=apos) PySem.F.plainAttrs_list PySem.F.slot_list_extend PySem.F.type_list_extend HF (p X h) (q X h) (hbase _) (hfew _) hline (hs _) (by rfl)
 rw [h.K] at this
 exact this
end U2
namespace U2
open PySem PySem.Spec PyProof.Rows L2
def intsOf:List U->Option (List Int)
 | []=>some []
 | .int i :: us=>(intsOf us).map (i :: ·)
 | _ :: _=>none
theorem vS {K:PySem.W.Frag} {H:Hp} {M:aE}:∀ {us:List U} {vs:List V} {xs:List Int},aI K H M us vs->intsOf us=some xs->vs=xs.map V.int
 | [],vs,xs,r,e=>by cases e;exact r.inv_nil
 | u :: us,vs,xs,r,e=>by
  obtain ⟨v,vs',rfl,a,b⟩:=r.inv_cons
  cases u with
  | int i =>
   simp only [intsOf] at e
   cases e2:intsOf us with
   | none=>rw [e2] at e;cases e
   | some ys=>rw [e2] at e;cases e;rw [a.int,vS b e2];rfl
  | _=>cases e
def vB:dW:=fun x y M Q=>match x,y with
 | .int i,.int j=>Q (.bl (decide (i < j))) M
 | .tup us,.tup ws=>∃ xs ys,intsOf us=some xs/\intsOf ws=some ys/\Q (.bl (HT.lexLt xs ys)) M
 | _,_=>False
variable {D:Dat}
theorem sE:nW D .Lt vB:=⟨⟨_,fun X h=>h.K ▸ VB.or (UR h.room.units0),fun x y u w H M Q' rm ru rw h Q c=>by
 unfold vB at h
 split at h
 ·rename_i i j
  exact .inl (xR (f:=fun i j=>decide (i < j)) x y (.int i) (.int j) H M Q' rm ru rw h Q c)
 ·rename_i us ws
  obtain ⟨xs,ys,e1,e2,q⟩:=h
  obtain ⟨a,vs,rfl,s1,r1⟩:=ru.tup
  obtain ⟨a',vs',rfl,s2,r2⟩:=rw.tup
  cases vS r1 e1
  cases vS r2 e2
  exact .inr ⟨a,a',xs,ys,rfl,rfl,s1,s2,c.here rm cX q⟩
 ·exact h.elim⟩⟩
end U2
namespace U2
open PySem PySem.Spec PyProof.Rows L2
def Va:Int->List Int->Int
 | m,[]=>m
 | m,n :: ns=>Va (if n > m then n else m) ns
section
variable {X:Cx}
def A6:List U->aE->UK->Prop:=fun us M Q=>match us with
 | [x]=>match view M x with
  | .lst ws=>∃ ns,intsOf ws=some ns/\PySem.SumFits ns/\Q (.int ns.sum) M
  | _=>False
 | _=>False
def AZ:List U->aE->UK->Prop:=fun us M Q=>match us with
 | [.int i,.int j]=>Q (.int (if j > i then j else i)) M
 | [x]=>match view M x with
  | .lst ws=>∃ m ns,intsOf ws=some (m :: ns)/\Q (.int (Va m ns)) M
  | _=>False
 | _=>False
end
end U2
namespace U2
open PySem PySem.Spec PyProof.Rows L2
section
variable {D:Dat} {a b c e o i:Expr} {ta tb tc te to ti:UE} {pos p:Pos} {es:List Expr} {tas:UA} {x:Str}
def DF (te to ti:UE):US:=fun D τ M=>te τ M fun v M1=>to τ M1 fun x M2=>ti τ M2 fun y M3=>match x,y with
 | .ref a,.int k=>match M3 a with
  | some (.lst us)=>∃ j,xI us.length k=some j/\D.nx τ (mup M3 a (.lst (us.set j v)))
  | _=>False
 | _,_=>False
theorem GV {tpos:Pos} (he:bA D e te) (ho:bA D o to) (hi:bA D i ti) (hs:∀ env,swapsWithSole [.Subscript o i tpos] e pos.line env=pure false:=by intro _;rfl) (hw:∀ env,swappedStores [.Subscript o i tpos] e env=pure none:=by intro _;rfl)
  (h1:∀ env,(assignEach [.Subscript o i tpos] env).map (·.2)=[assign (.Subscript o i tpos) env]:=by intro _;rfl)
  (ha:∀ env v,assign (.Subscript o i tpos) env v=(do
   let ov <- holding [v] (eval o env)
   let iv <- holding [v,ov] (eval i env)
   standAt tpos
   holding [v,ov,iv] (setItem ov iv v)
   release [v,ov,iv] []):=by intro _ _;rfl):rW D (.Assign [.Subscript o i tpos] e pos) (DF te to ti):=by
 obtain ⟨_,p1,s1⟩:=he;obtain ⟨_,p2,s2⟩:=ho;obtain ⟨_,p3,s3⟩:=hi
 refine ⟨_,fun X h=>LG (p1 X h) (Sq (p2 X h) (p3 X h) set_list (ha _)) (hs _) (hw _) (h1 _),fun σ τ H M D' rs rm h EE d=>?_⟩
 refine s1 σ τ H M _ rs rm h _ fun v vv M1 H1 st1 rm1 rv h1=>?_
 refine s2 σ τ H1 M1 _ (rs.stp st1) rm1 h1 _ fun x vx M2 H2 st2 rm2 rx h2=>?_
 refine s3 σ τ H2 M2 _ ((rs.stp st1).stp st2) rm2 h2 _ fun y vy M3 H3 st3 rm3 ry h3=>?_
 split at h3
 ·rename_i a k
  split at h3
  ·rename_i us e
   obtain ⟨j,hj,q⟩:=h3
   cases (rx.stp st3).ref
   cases ry.int
   obtain ⟨vs,hv,rus⟩:=rm3 a _ e
   have rv3:=(rv.stp st2).stp st3
   have st4:aW H3 M3 (upd H3 a (.lst (vs.set j vv))) (mup M3 a (.lst (us.set j v))):=aW.write e
   have rnew:RelM D.K (upd H3 a (.lst (vs.set j vv))) (mup M3 a (.lst (us.set j v))):=rm3.put st4 ⟨_,bQ,(aI.set rv3 j rus).stp st4⟩
   refine ⟨a,vs,k,j,rfl,rfl,hv,by rw [<- rus.length];exact hj,?_⟩
   exact d.nx _ _ _ _ (((st1.trans st2).trans st3).trans st4) rnew ((((rs.stp st1).stp st2).stp st3).stp st4) q
  ·exact h3.elim
 ·exact h3.elim
def zE:U->List U->aE->UK->Prop:=fun x ws M Q=>match x,ws with
 | .ref a,[.int i]=>match M a with
  | some (.lst us)=>-(2 ^ 63)<=i/\i < 2 ^ 63/\∃ k y,seqIndex? i us.length=some k/\us[k]?=some y/\Q y (mup M a (.lst (us.eraseIdx k)))
  | _=>False
 | _,_=>False
def Fo:List U->aE->UK->Prop:=fun us M Q=>match us with
 | [.int i]=>Q (.int i) M
 | [.bl k]=>Q (.int (if k then 1 else 0)) M
 | _=>False
def wU (i j:Int):Prop:=NY i j\/(Builtin.Int.intBits i<=60000000/\Builtin.Int.intBits j<=60000000)
theorem wU.ok {i j:Int} (h:wU i j):IntMulOk i j:=by
 rcases h with h | ⟨h1,h2⟩
 ·exact h.ok
 ·exact IntMulOk.of_le h1 h2 (by decide)
theorem Qt {X:Cx}:cZ X (binaryOp .Mult) (rI wU fun i j=>.int (i * j)):=O0 fun _ _ _ _ _ _ _ hc q=>mul_int q hc.ok
def Ct (z:Str) (n:Int):Str:=if n < 1 then Str.empty else if (n == 1 || z.length == 0)=true then z else ⟨(List.replicate n.toNat z.cps).foldl (·++·) #[]⟩
theorem Rf {X:Cx}:cZ X (binaryOp .Mult) (fun x y H Q=>∃ z n,x=.str z/\y=.int n/\-(2 ^ 63)<=n/\n < 2 ^ 20/\z.length<=2 ^ 20/\z.length * n.toNat<=100000/\Q (.str (Ct z n)) H):=by
 intro pins s σ H x y v u Q I rx ry h
 obtain ⟨z,n,rfl,rfl,h1,h2,h3,h4,q⟩:=h
 obtain ⟨t,rfl⟩:=rx
 obtain ⟨t',rfl⟩:=ry
 have e1:(decide (n < -(2 ^ 63:Int)) || decide (n ≥ 2 ^ 63))=false:=by
  rw [decide_eq_false (by omega),decide_eq_false (by omega)];rfl
 refine PySem.P.mul_str e1 (fun g1 g2=>?_) (fun g1 g2=>?_) ?_
 ·intro hh
  have hn:(1:Int)<=n:=by omega
  have e3:(z.length:Int) * n=((z.length * n.toNat:Nat):Int):=by
   rw [Int.natCast_mul,Int.toNat_of_nonneg (by omega)]
  have:=Int.le_ediv_of_mul_le (show (0:Int) < n by omega) (show (z.length:Int) * n<=2 ^ 63 - 1 by rw [e3];omega)
  omega
 ·unfold Builtin.Str.tooLong sizeLine
  exact decide_eq_false (by omega)
 ·have hq:∀ (t2:Tok) k,EP X pins σ Q (.str (Ct z n) t2) { s with toks:=k }:=fun t2 k=>⟨.str (Ct z n),H,I.tok k,⟨t2,rfl⟩,q⟩
  unfold Ct at hq
  by_cases g1:n < 1
  ·rw [if_pos g1]
   simp only [if_pos g1] at hq
   exact ⟨by decide,hq _ _⟩
  ·rw [if_neg g1]
   simp only [if_neg g1] at hq
   by_cases g2:(n == 1 || z.length == 0)=true
   ·rw [if_pos g2]
    simp only [if_pos g2] at hq
    exact hq t s.toks
   ·rw [if_neg g2]
    simp only [if_neg g2] at hq
    refine ⟨?_,hq _ _⟩
    have hsz:∀ (k:Nat) (acc:Array Nat),((List.replicate k z.cps).foldl (·++·) acc).size=acc.size + k * z.cps.size:=by
     intro k
     induction k with
     | zero=>intro acc;simp
     | succ k ih=>intro acc;rw [List.replicate_succ,List.foldl_cons,ih,Array.size_append,Nat.succ_mul];omega
    show ((List.replicate n.toNat z.cps).foldl (·++·) #[]).size<=sizeLine
    rw [hsz]
    have h5:n.toNat * z.cps.size<=100000:=by rw [Nat.mul_comm];exact h4
    have:(100000:Nat)<=sizeLine:=by decide
    simp only [Array.size_empty,Nat.zero_add]
    omega
def yH (o:Bool):dW:=fun x y M Q=>match x,y with
 | .int i,.int j=>wU i j/\Q (.int (i * j)) M
 | .str z,.int n=>-(2 ^ 63)<=n/\n < 2 ^ 20/\z.length<=2 ^ 20/\z.length * n.toNat<=100000/\Q (.str (Ct z n)) M
 | .ref a,.int k=>match M a with
  | some (.lst us)=>-(2 ^ 63)<=k/\k < 2 ^ 63/\us.length * k.toNat<=sizeLine/\jX o (List.replicate k.toNat us).flatten M Q
  | _=>False
 | _,_=>False
theorem aI.rep {K:PySem.W.Frag} {H:Hp} {M:aE} {us:List U} {vs:List V} (r:aI K H M us vs):∀ k:Nat,aI K H M (List.replicate k us).flatten (List.replicate k vs).flatten
 | 0=>by simp only [List.replicate_zero,List.flatten_nil];exact .nil
 | k + 1=>by simp only [List.replicate_succ,List.flatten_cons];exact r.append (aI.rep r k)
theorem RT {K:PySem.W.Frag} {o:Bool}:eX K (fun x y H Q=>rI wU (fun i j=>.int (i * j)) x y H Q\/((∃ z n,x=.str z/\y=.int n/\-(2 ^ 63)<=n/\n < 2 ^ 20/\z.length<=2 ^ 20/\z.length * n.toNat<=100000/\Q (.str (Ct z n)) H)\/TH x y H Q)) (yH o):=fun x y u w H M Q' rm ru rw h Q c=>by
 unfold yH at h
 split at h
 ·rename_i i j
  exact .inl (sA (C:=wU) (f:=fun i j=>i * j) x y (.int i) (.int j) H M Q' rm ru rw h Q c)
 ·rename_i z n
  cases ru.str;cases rw.int
  exact .inr (.inl ⟨z,n,rfl,rfl,h.1,h.2.1,h.2.2.1,h.2.2.2.1,c.here rm fJ h.2.2.2.2⟩)
 ·rename_i a k
  split at h
  ·rename_i us e
   obtain ⟨vs,hv,r⟩:=rm a _ e
   cases ru.ref;cases rw.int
   exact .inr (.inr ⟨a,k,vs,rfl,rfl,hv,h.1,h.2.1,by rw [<- r.length];exact h.2.2.1,fun p hp=>c.lst rm (r.rep k.toNat) hp h.2.2.2⟩)
  ·exact h.elim
 ·exact h.elim
theorem Cw (own:Bool:=false) (ha:bA D a ta) (hb:bA D b tb):bA D (.BinOp a .Mult b pos) (gB (yH own) ta tb):=As (fun _ _=>Qt.or (Rf.or Su)) RT ha hb
def IV (_ j:Int):Prop:=0 < j/\j < 2 ^ 64
theorem N9 {X:Cx}:cZ X (binaryOp .FloorDiv) (rI IV fun i j=>.int (i / j)):=O0 fun i j _ _ _ _ _ hc q=>by
 have h1:(0:Int) < j:=hc.1
 have h2:j.natAbs.log2 < 9000:=by
  have h3:j.natAbs < 2 ^ 64:=by have:=hc.2;omega
  by_cases h:j.natAbs=0
  ·rw [h];decide
  ·have:=(Nat.log2_lt h).mpr h3
   omega
 exact floordiv_int (by omega) (by rw [Int.fdiv_eq_ediv_of_nonneg i (by omega)];exact q) (.inl (PyProof.noPylong_of_log2 h2))
theorem jM (ha:bA D a ta) (hb:bA D b tb):bA D (.BinOp a .FloorDiv b pos) (gB (uI IV fun i j=>.int (i / j)) ta tb):=As (fun _ _=>N9) sA ha hb
end
end U2
namespace HT
open PySem PySem.Spec PyProof.Rows L2
variable {prog:Program} {w:World} {A:Around} {E:Value->Shared->Prop} {s:Shared}
theorem xP {t sl:Addr} {items:Array Value} {vl vu:Value} {lo hi:Option Int} {Q:Value->Shared->Prop} (ht:IsTup s.heap t items) (hs:s.heap.IsSliceOf sl vl vu .none) (pl:IsPart vl lo) (pu:IsPart vu hi)
  (hw:bP items.size 0 lo=0/\bP items.size items.size hi=items.size)
  (h:Q (.ref t) s):wpAny (model prog w) A (getItem (.ref t) (.ref sl)) Q E s:=by
 obtain ⟨os,hos,hcs,hds⟩:=id hs
 have hTs:s.TypeIs (.ref sl) "slice":=⟨os,hos,hcs⟩
 unfold getItem
 try with_reducible refine wpAny_holding ?_
 first | refine wpAny_bind (wpAny_pure ?_) | skip
 refine wpAny_bind (wpAny_sequenceKey ht.typeIs (by decide) ?_)
 refine wpAny_bind (wpAny_callSpecial?_slot (name:=Str.ofString "__getitem__") ht.typeIs PyProof.Rows.slot_tuple_getitem
  (wpAny_call_entry PyProof.Rows.slot_tuple_getitem ht.typeIs entry_tuple_getitem ?_ (args_tuple_getitem _ _)))
 show wpAny _ _ (Builtin.Tuple.tupleItemsOf (.ref t) >>= _) _ _ s
 refine wpAny_bind (tupleItemsOf_ ht ?_)
 refine wpAny_bind (wpAny_typeOf hTs ?_)
 rw [if_pos (by decide)]
 refine wpAny_bind (qG hs pl pu ?_)
 have hyes:((((bP items.size 0 lo:Nat):Int) == 0 && (1:Int) == 1 && (bP items.size items.size hi - bP items.size 0 lo) == items.size)=true):=by
  rw [hw.1,hw.2];simp
 show wpAny _ _ (if (((bP items.size 0 lo:Nat):Int) == 0 && (1:Int) == 1 && (bP items.size items.size hi - bP items.size 0 lo) == items.size)=true then _ else _) _ _ s
 rw [if_pos hyes]
 unfold Builtin.Tuple.tupleIsExact
 refine wpAny_bind (wpAny_bind (wpAny_typeOf ht.typeIs (wpAny_pure ?_)))
 rw [if_pos (by decide)]
 refine wpAny_bind (wpAny_rule ?_)
 exact wpAny_pure ⟨_,rfl,wpAny_pure h⟩
end HT
namespace U2
open PySem PySem.Spec PyProof.Rows L2
def Tb (K:PySem.W.Frag):V->Option Int->Option Int->Hp->VK->Prop:=fun x lo hi H Q=>∃ a xs,x=.ref a/\fW K H a xs/\(HT.bP xs.length 0 lo=0/\HT.bP xs.length xs.length hi=xs.length)/\Q (.ref a) H
theorem P7 {X:Cx}:AI X (Tb X.K):=by
 intro pins s σ H x v vl vu lo hi sl Q I rx hs pl pu h
 obtain ⟨a,xs,rfl,hx,hw,q⟩:=h
 cases rx
 obtain ⟨its,r,ht,hz⟩:=I.tuple hx
 have hlen:its.toArray.size=xs.length:=by rw [List.size_toArray];exact r.length.symm
 refine ⟨"tuple",_,PyProof.Rows.slot_tuple_getitem.lookup,ht.typeIs,?_⟩
 refine HT.xP ht hs pl pu (by rw [hlen];exact hw) ⟨.ref a,H,I,rfl,q⟩
def qY (o:Bool) (te:UE) (tl th:UO):UE:=fun τ M Q=>te τ M fun x M1=>tl τ M1 fun l M2=>th τ M2 fun h M3=>match view M3 x with
 | .lst us=>jX o (oK us l h) M3 Q
 | .tup us=>Q (.tup (oK us l h)) M3
 | .str z=>z.length<=sizeLine/\Q (.str (Txt.slice z l h)) M3
 | _=>False
theorem P9 {K:PySem.W.Frag} {o:Bool} {te:TE} {te':UE} {tl th:TO} {tl' th':UO} (h0:bT K te te') (h1:D4 K tl tl') (h2:D4 K th th'):bT K (Wt (fun x lo hi H Q=>Tz K x lo hi H Q\/Tb K x lo hi H Q) te tl th) (qY o te' tl' th'):=fun σ τ H M Q' rs rm q Q c =>
 h0 σ τ H M _ rs rm q _ fun u v M1 H1 s1 rm1 ru q1=>h1 σ τ H1 M1 _ (rs.stp s1) rm1 q1 _ fun lo M2 H2 s2 rm2 q2=>h2 σ τ H2 M2 _ ((rs.stp s1).stp s2) rm2 q2 _ fun hi M3 H3 s3 rm3 q3=>by
  have c3:=cK.stp c ((s1.trans s2).trans s3)
  have ru3:=ru.stp (s2.trans s3)
  split at q3
  ·rename_i us e
   obtain ⟨a,xs,rfl,r1,r2⟩:=iS rm3 ru3 e
   exact .inl (.inl ⟨a,xs,rfl,r1,fun p hp=>c3.lst rm3 (Hu r2 lo hi) hp q3⟩)
  ·rename_i us e
   have e':=wQ e
   subst e'
   obtain ⟨a,xs,rfl,r1,r2⟩:=ru3.tup
   by_cases hw:HT.bP xs.length 0 lo=0/\HT.bP xs.length xs.length hi=xs.length
   ·refine .inr ⟨a,xs,rfl,r1,hw,c3 _ _ M3 H3 (aW.refl _ _) rm3 ?_ q3⟩
    have e4:oK us lo hi=us:=by
     unfold oK
     rw [r2.length,hw.1,hw.2,List.drop_zero,Nat.sub_zero,<- r2.length,List.take_length]
    rw [e4]
    exact ru3
   ·exact .inl (.inr (.inl ⟨a,xs,rfl,r1,hw,fun p hp=>c3.tup rm3 (Hu r2 lo hi) hp q3⟩))
  ·rename_i z e
   have e':=A2 e
   subst e'
   exact .inl (.inr (.inr ⟨z,ru3.str,q3.1,c3 _ _ M3 H3 (aW.refl _ _) rm3 fJ q3.2⟩))
  ·exact q3.elim
theorem kQ {D:Dat} {a:Expr} {ta:UE} {pos:Pos} (own:Bool:=false) {lo hi:Option Expr} {tl th:UO} {p2:Pos} (ha:bA D a ta) (hl:Pr D lo tl) (hh:Pr D hi th):bA D (.Subscript a (.Slice lo hi none p2) pos) (qY own ta tl th):=by
 obtain ⟨_,p,s⟩:=ha;obtain ⟨_,q,r⟩:=hl;obtain ⟨_,u,v⟩:=hh
 refine ⟨_,fun X h=>?_,P9 s r v⟩
 have:=Nf (pos:=pos) (p2:=p2) (Uq.or P7) (p X h) (q X h) (u X h)
 rw [h.K] at this
 exact this
end U2
namespace Att
open PySem PySem.Spec PyProof.Rows PySem.W Calls
theorem HI (m:Int):(WData.int m).weight=Builtin.Int.intBits m:=by
 unfold WData.weight Builtin.Int.intBits;rfl
theorem F4 (ns:List Int):∀ m∈ns,Builtin.Int.intBits m<=WData.weightAll (ns.map WData.int):=by
 induction ns with
 | nil=>intro m hm;cases hm
 | cons k r ih =>
  intro m hm
  have e:WData.weightAll ((k :: r).map WData.int)=Builtin.Int.intBits k + 1 + WData.weightAll (r.map WData.int):=by
   rw [List.map_cons]
   conv=>lhs;unfold WData.weightAll
   rw [HI]
  rw [e]
  rcases List.mem_cons.mp hm with rfl | h
  ·omega
  ·have:=ih m h;omega
theorem PN {ns:List Int} (h:WData.layableAll [WData.list (ns.map WData.int)]=true):∀ m∈ns,Builtin.Int.intBits m<=2 ^ 20:=by
 intro m hm
 have h1:(WData.list (ns.map WData.int)).layable=true:=layableW_arg h _ (List.mem_singleton.mpr rfl)
 have h2:(WData.list (ns.map WData.int)).weight<=2 ^ 20:=of_decide_eq_true (Bool.and_eq_true_iff.mp h1).2
 have h3:(WData.list (ns.map WData.int)).weight=WData.weightAll (ns.map WData.int):=by
  conv=>lhs;unfold WData.weight
 rw [h3] at h2
 exact Nat.le_trans (F4 ns m hm) h2
theorem attach_callB {l:OpenLaw} {n:Nat} {q:Program} {loose:List Str} {XP:(Str->Option Value)->Heap->Prop} {YP:World->Heap->Prop} {d:DefRec}
  (hn:l.most=some n) (hdf:d.params.defaults=[])
  (call:∀ (w:World) (s₀ s₁:Shared) (mg mb:Str->Option Value) (fa:Addr) (o:Obj) (pm cd doc:Value) (a:Addr) (vs:List Value) (ns:List Int),
   Ground q loose [] XP w s₀ mg mb s₁.heap->YP w s₁.heap ->
   s₁.heap.get? fa=some o->o.data=.func (docDef d.name d.params d.body d.scope pm cd doc)->s₁.heap.CodeRec cd d.name->mg d.name=some (.ref fa) ->
   s₁.heap.get? a=some { cls:=.type "list",data:=.seq vs.toArray }->IntsAre vs ns->ns.length<=n->s₁.gens=#[]->(∀ m∈ns,Builtin.Int.intBits m<=2 ^ 20) ->
   codeAny (model l.prog w) callerA (.call (.ref fa) ⟨[.ref a],[]⟩) (fun r s'=>r=.ok (.ret (.bool true))/\OldK s₁.heap s'.heap/\s'.os=s₁.os/\AllBare s'.gens) s₁) :
  WalkO q loose XP YP l.row.toRowW d [] (fun f vs=>PySem.call f vs):=by
 intro w s₀ s₁ mg mb G Y fa o pm cd doc dV kV ho hd hcd hD hmg hg args vals as hpre hlay hrd hwl hlo
 obtain rfl:dV=.none:=Dflts.none hD hdf
 obtain rfl:kV=.none:=Dflts.noKw hD
 obtain ⟨a,vs,ns,rfl,rfl,hobj,hints,hlen⟩:=Ku hn hpre hwl
 refine enter_call (codeAny_mono (call w s₀ s₁ mg mb fa o pm cd doc a vs ns G Y ho (fd_plain hd) hcd hmg hobj hints hlen hg (PN hlay)) fun r s' hq=>?_)
 obtain ⟨rfl,h2,h3,h4⟩:=hq
 exact ⟨.inl ⟨.bool true,.bool true,[],rfl,fun _=>rfl,.bool true,Kn l _,fun _=>⟨List.Pairwise.nil,fun _ hm=>(nomatch hm)⟩⟩,h2,h3,h4⟩
end Att
namespace L2
open PySem PySem.Spec PyProof.Rows
end L2
namespace U2
open PySem PySem.Spec PyProof.Rows L2
def lD (ta:UA):UI:=fun τ M R=>ta τ M fun us M1=>match us with
 | [.lst us]=>R ⟨none,us.reverse⟩ M1
 | _=>False
end U2
namespace U2
open PySem PySem.Spec PyProof.Rows L2
section
variable {prog:Program} {w:World} {A:Around} {E:Value->Shared->Prop} {s:Shared}
end
def dG (o:Bool) (ta:UA):UE:=fun τ M Q=>ta τ M fun us M1=>match us with
 | [x]=>match view M1 x with
  | .lst us=>jX o us.reverse M1 Q
  | _=>False
 | _=>False
end U2
namespace U2
open PySem PySem.Spec PyProof.Rows L2
section
variable {prog:Program} {w:World} {A:Around} {E:Value->Shared->Prop} {s:Shared}
end
end U2
namespace U2
open PySem PySem.Spec PyProof.Rows L2
end U2
namespace U2
open PySem PySem.Spec PyProof.Rows L2
theorem dF.len {K:PySem.W.Frag} {H:Hp}:∀ {ds:List PyData} {vs:List V},dF K H ds vs->ds.length=vs.length
 | [],vs,h=>by simp only [dF] at h;subst h;rfl
 | d :: ds,vs,h=>by
  simp only [dF] at h
  obtain ⟨v,vs',rfl,_,h2⟩:=h
  simp only [List.length_cons,dF.len h2]
theorem dF.at {X:Cx} {pins:List (Addr × Obj)} {σ:L2.St} {H:Hp} {s:Shared} (I:L2.Inv X pins σ H s):∀ {ds:List PyData} {vs:List V} {us:List Value},dF X.K H ds vs->Vals vs us->∀ (j:Nat) (d:PyData) (u:Value),ds[j]?=some d->us[j]?=some u->∃ as,Reads s.heap u d as
 | [],vs,us,h,r,j,d,u,e,_=>by cases e
 | d0 :: ds,vs,us,h,r,j,d,u,e,e'=>by
  simp only [dF] at h
  obtain ⟨v,vs',rfl,h1,h2⟩:=h
  cases r with
  | cons r rr =>
   cases j with
   | zero=>cases e;cases e';exact h1.reads I r
   | succ j=>exact dF.at I h2 rr j d u e e'
def M7 (K:PySem.W.Frag) (neg:Bool):R2:=fun x y H Q=>∃ a xs ds d,y=.ref a/\(eV K H a xs\/fW K H a xs)/\dF K H ds xs/\gC K H d x/\PyData.canLayAll0 ds=true/\d.canLay0=true/\d.depth<=60/\Q (.bl (if neg then !ds.any (fun e=>PyData.eqv e d) else ds.any (fun e=>PyData.eqv e d))) H
theorem Gs:∀ {ds:List PyData},PyData.canLayAll0 ds=true->∀ d∈ds,d.canLay0=true
 | [],_,d,h=>by cases h
 | a :: ds,hh,d,h=>by
  simp only [PyData.canLayAll0,Bool.and_eq_true] at hh
  rcases List.mem_cons.mp h with rfl | h
  ·exact hh.1
  ·exact Gs hh.2 d h
open Classical in
theorem Ag {X:Cx} {k:Nat} (hr:cW k X.A) {pins:List (Addr × Obj)} {σ:L2.St} {H:Hp} {s:Shared} (I:L2.Inv X pins σ H s) {ds:List PyData} {vs:List V} {its:List Value} (h:dF X.K H ds vs) (r:Vals vs its) {d:PyData} {x:V} {v:Value} (hd:gC X.K H d x) (rx:RelV x v) (c1:PyData.canLayAll0 ds=true) (c2:d.canLay0=true) (hdep:d.depth<=60) :
  ∃ e:Value->Bool,(∀ y∈its,SeqAt.EqAt X.A.in1 s y v (e y))/\its.any e=ds.any fun d'=>PyData.eqv d' d:=by
 have hl:ds.length=its.length:=by rw [h.len,r.length]
 obtain ⟨bs,rb⟩:=hd.reads I rx
 have key:∀ (j:Nat) (d':PyData) (u:Value),ds[j]?=some d'->its[j]?=some u->SeqAt.EqAt X.A.in1 s u v (PyData.eqv d' d):=fun j d' u e1 e2=>by
  obtain ⟨as,ra⟩:=dF.at I h r j d' u e1 e2
  exact SeqAt.eqAt_reads d' d _ _ _ _ _ _ ra rb (Gs c1 d' (List.mem_of_getElem? e1)) c2 (by have:=hr.units;show X.A.units + 1 + _ < _;omega)
 refine ⟨fun u=>decide (∃ (j:Nat) (d':PyData),ds[j]?=some d'/\its[j]?=some u/\PyData.eqv d' d=true),fun y hy=>?_,?_⟩
 ·obtain ⟨j,hj⟩:=List.getElem?_of_mem hy
  have hjl:j < ds.length:=by rw [hl];exact (List.getElem?_eq_some_iff.mp hj).1
  have hdj:ds[j]?=some ds[j]:=List.getElem?_eq_getElem hjl
  dsimp only
  by_cases hh:∃ (j:Nat) (d':PyData),ds[j]?=some d'/\its[j]?=some y/\PyData.eqv d' d=true
  ·rw [decide_eq_true hh]
   obtain ⟨i,d',e1,e2,e3⟩:=hh
   rw [<- e3];exact key i d' y e1 e2
  ·rw [decide_eq_false hh]
   have hf:PyData.eqv ds[j] d=false:=by
    cases hc:PyData.eqv ds[j] d with
    | false=>rfl
    | true=>exact absurd ⟨j,ds[j],hdj,hj,hc⟩ hh
   rw [<- hf];exact key j ds[j] y hdj hj
 ·rw [Bool.eq_iff_iff,List.any_eq_true,List.any_eq_true]
  constructor
  ·rintro ⟨u,hu,he⟩
   obtain ⟨j,d',e1,e2,e3⟩:=of_decide_eq_true he
   exact ⟨d',List.mem_of_getElem? e1,e3⟩
  ·rintro ⟨d',hd',he⟩
   obtain ⟨j,hj⟩:=List.getElem?_of_mem hd'
   have hjl:j < its.length:=by rw [<- hl];exact (List.getElem?_eq_some_iff.mp hj).1
   have hij:its[j]?=some its[j]:=List.getElem?_eq_getElem hjl
   exact ⟨its[j],List.getElem_mem hjl,decide_eq_true ⟨j,d',hj,hij,he⟩⟩
theorem TY {X:Cx} {k:Nat} (hr:cW k X.A):cZ X (compareOp .In) (M7 X.K false):=by
 intro pins s σ H x y v u Q I rx ry h
 obtain ⟨p,xs,ds,d,rfl,hq,hds,hd,c1,c2,hdep,q⟩:=h
 cases ry
 rcases hq with hq | hq
 ·obtain ⟨its,r,pl,hz⟩:=I.list hq
  obtain ⟨e,he,hany⟩:=Ag hr I hds r hd rx c1 c2 hdep
  refine SeqAt.in_listAt e pl.isList (fun w hw=>he w (by simpa using hw)) ⟨.bl _,H,I,rfl,?_⟩
  rw [show its.toArray.any e=its.any e by simp,hany]
  exact q
 ·obtain ⟨its,r,pl,hz⟩:=I.tuple hq
  obtain ⟨e,he,hany⟩:=Ag hr I hds r hd rx c1 c2 hdep
  refine SeqAt.in_tupleAt e pl (fun w hw=>he w (by simpa using hw)) ⟨.bl _,H,I,rfl,?_⟩
  rw [show its.toArray.any e=its.any e by simp,hany]
  exact q
theorem K3 {X:Cx} {k:Nat} (hr:cW k X.A):cZ X (compareOp .NotIn) (M7 X.K true):=by
 intro pins s σ H x y v u Q I rx ry h
 obtain ⟨p,xs,ds,d,rfl,hq,hds,hd,c1,c2,hdep,q⟩:=h
 cases ry
 rcases hq with hq | hq
 ·obtain ⟨its,r,pl,hz⟩:=I.list hq
  obtain ⟨e,he,hany⟩:=Ag hr I hds r hd rx c1 c2 hdep
  refine SeqAt.notIn_listAt e pl.isList (fun w hw=>he w (by simpa using hw)) ⟨.bl _,H,I,rfl,?_⟩
  rw [show its.toArray.any e=its.any e by simp,hany]
  exact q
 ·obtain ⟨its,r,pl,hz⟩:=I.tuple hq
  obtain ⟨e,he,hany⟩:=Ag hr I hds r hd rx c1 c2 hdep
  refine SeqAt.notIn_tupleAt e pl (fun w hw=>he w (by simpa using hw)) ⟨.bl _,H,I,rfl,?_⟩
  rw [show its.toArray.any e=its.any e by simp,hany]
  exact q
def Jo (neg:Bool):dW:=fun x y M Q=>∃ us ds d,items M y=some us/\dI us=some ds/\vC M x=some d/\PyData.canLayAll0 ds=true/\d.canLay0=true/\d.depth<=60/\Q (.bl (if neg then !ds.any (fun e=>PyData.eqv e d) else ds.any (fun e=>PyData.eqv e d))) M
theorem Hj {K:PySem.W.Frag} {neg:Bool}:eX K (M7 K neg) (Jo neg):=fun x y u w H M Q' rm ru rw h Q c=>by
 obtain ⟨us,ds,d,e1,e2,e3,c1,c2,hdep,q⟩:=h
 obtain ⟨p,xs,rfl,hs,rs⟩:=yF rm rw e1
 exact ⟨p,xs,ds,d,rfl,hs,qI rs e2,AW rm ru e3,c1,c2,hdep,c.here rm cX q⟩
theorem VC {D:Dat}:nW D .In (Jo false):=⟨⟨_,fun X h=>h.K ▸ TY h.room,Hj⟩⟩
theorem N3 {D:Dat}:nW D .NotIn (Jo true):=⟨⟨_,fun X h=>h.K ▸ K3 h.room,Hj⟩⟩
end U2
namespace U2
open PySem PySem.Spec PyProof.Rows L2
def strsOf:List U->Option (List Str)
 | []=>some []
 | .str x :: r=>(strsOf r).map (x :: ·)
 | _=>none
theorem HL:∀ ss:List Str,strsOf (ss.map U.str)=some ss
 | []=>rfl
 | s :: ss=>by simp only [List.map_cons,strsOf,HL ss];rfl
theorem JH {K:PySem.W.Frag} {H:Hp} {M:aE}:∀ {us:List U} {vs:List V} {ss:List Str},aI K H M us vs->strsOf us=some ss->vs=ss.map V.str
 | [],vs,ss,r,e=>by cases e;exact r.inv_nil
 | u :: us,vs,ss,r,e=>by
  obtain ⟨v,vs',rfl,a,b⟩:=r.inv_cons
  cases u with
  | str x =>
   simp only [strsOf] at e
   cases e2:strsOf us with
   | none=>rw [e2] at e;cases e
   | some ss' =>
    rw [e2] at e;cases e
    rw [a.str,JH b e2];rfl
  | _=>cases e
theorem vK {K:PySem.W.Frag} {H:Hp} {M:aE}:∀ ss:List Str,aI K H M (ss.map U.str) (ss.map V.str)
 | []=>.nil
 | s :: ss=>.cons fJ (vK ss)
end U2
namespace U2
open PySem PySem.Spec PyProof.Rows L2
end U2
namespace U2
open PySem PySem.Spec PyProof.Rows L2
abbrev Jq (qual:Str) (scope:Scope) (L f c:Addr) (cl:List (Str × Addr)):Env:=PySem.W.envX qual scope L f (.ref c) cl
def DP (P:Program) (w:World) (K:PySem.W.Frag) (mg:Str->Option Value) (base:Heap) (N:List Str) (qual:Str) (scope:Scope) (f c:Addr) (cl:List (Str × Addr)) (A:Around) (outer:List Env) (s:Shared) (H:Hp):Cx where
 prog:=P
 w:=w
 K:=K
 mg:=mg
 base:=base
 A:=A.deeper (Jq qual scope s.heap.objs.size f c cl)
 N:=N
 s₀:=s
 H₀:=H
 env:=Jq qual scope s.heap.objs.size f c cl
 outer:=outer
 stack:=Jq qual scope s.heap.objs.size f c cl :: outer
 ex:=[]
 calm:=true
 fn:=fun _=>false
 pn:=[]
 xe:=fun _ _=>False
structure E5 (N ps:List Str) (sc:Scope):Prop where
 kind:sc.kind=.function
 co:sc.isCoroutine=false
 gen:sc.isGenerator=false
 nd:N.Nodup
 pre:N.take ps.length=ps
 par:∀ x∈ps,sc.names.lookup x=some .local
 cells:∀ y∈sc.names,y.2≠.cell
 cap:∀ x∈N.drop ps.length,sc.names.lookup x=some .free
theorem BL:∀ {ps:List Str} {us:List Value} {i:Nat} {x:Str} {u:Value},ps.Nodup->ps[i]?=some x->us[i]?=some u->(ps.zip us).reverse.lookup x=some u
 | [],_,i,_,_,_,h,_=>by simp at h
 | _ :: _,[],i,_,_,_,_,h=>by simp at h
 | p :: ps,v :: us,i,x,u,nd,h1,h2=>by
  rw [List.zip_cons_cons,List.reverse_cons,List.lookup_append]
  cases i with
  | zero =>
   have e1:p=x:=by simpa using h1
   have e2:v=u:=by simpa using h2
   subst e1;subst e2
   have hn:(ps.zip us).reverse.lookup p=none:=by
    rw [List.lookup_eq_none_iff]
    intro q hq
    have hq':=List.mem_reverse.mp hq
    have:=(List.of_mem_zip hq').1
    have hne:p≠q.1:=fun z=>(List.nodup_cons.mp nd).1 (by rw [z];exact this)
    simpa using hne
   rw [hn]
   simp [List.lookup_cons]
  | succ i =>
   have:=BL (i:=i) (x:=x) (u:=u) (List.nodup_cons.mp nd).2 (by simpa using h1) (by simpa using h2)
   rw [this];rfl
theorem T4 {P:Program} {w:World} {K:PySem.W.Frag} {mg:Str->Option Value} {base:Heap} {k:Nat} {fl c:Addr} {name qual:Str} {params:Arguments} {body:Expr} {scope:Scope} {cl:List (Str × Addr)} {pm ctv:Value} {N ps:List Str} {caps:List (Option V)} {sp:Sp}
  (ho:base.get? fl=some (PySem.W.kla_obj name qual params body scope cl pm c ctv)) (hc:base.CodeRec (.ref c) qual) (S:E5 N ps scope)
  (inj:∀ x y a,cl.lookup x=some a->cl.lookup y=some a->x=y) (has:∀ x,scope.names.lookup x=some .free->∃ a,cl.lookup x=some a) (cel:∀ x a,cl.lookup x=some a->∃ v,base.IsCell a v)
  (cap:∀ (j:Nat) x v,N[ps.length + j]?=some x->caps[j]?=some (some v)->∃ a u,cl.lookup x=some a/\base.IsCell a (some u)/\RelV v u) (hlN:N.length=ps.length + caps.length)
  (len:∀ vs H Q E,sp vs H Q E->vs.length=ps.length)
  (hbody:∀ (A:Around) (outer:List Env) (s:Shared) (H:Hp) (vs:List V) (Q:VK) (E:XK),cW k (A.deeper (Jq qual scope s.heap.objs.size fl c cl))->sp vs H Q E ->
   ∃ t,PE (DP P w K mg base N qual scope fl c cl A outer s H) body t/\t (vs.map some++caps) H Q) :
  fD P w K mg base iU (k + 1) fl (PySem.W.kla_fn name qual params body scope cl pm (.ref c) ctv) ps sp:=by
 refine ⟨len,fun A outer s H args us vs Q E hr e0 hb r hsp=>?_⟩
 have hl:=len _ _ _ _ hsp
 have lim:s.heap.NoLimit:=e0.mod.nolimit.keeps fun b o e=>(e0.bs b o e).1
 have hloc:∀ y∈ps.zip us,scope.names.lookup y.1=some .local:=fun ⟨n,v⟩ hy=>S.par n (List.of_mem_zip hy).1
 refine PySem.W.kla_callFunE hr.depth (e0.bs _ _ ho).1 rfl S.co S.gen rfl (hc.keeps fun b o e=>(e0.bs b o e).1) (hb _ _ _ _ ?_)
 refine wpAny_newFunctionEnv S.cells hloc (fun h₁ hns hsb=>⟨lim.fresh _ hsb,PySem.W.kla_codeExpr ?_⟩) S.kind
 have keep:∀ b o,s.heap.get? b=some o->h₁.get? b=some o:=fun b o e=>hsb.extBut b o (Nat.ne_of_lt (Heap.lt_size e)) (Heap.get?_push_of_some _ e)
 obtain ⟨t,ht,hq⟩:=hbody A outer s H vs Q E (hr.deeper _) hsp
 have I:L2.Inv (DP P w K mg base N qual scope fl c cl A outer s H) [] (vs.map some++caps) H { s with heap:=h₁,toks:=s.toks + (ps.zip us).length }:=by
  have noA:∀ b:Addr,b ∉ (DP P w K mg base N qual scope fl c cl A outer s H).ex:=fun b z=>absurd (show b∈([]:List Addr) from z) (by simp)
  refine ⟨⟨e0.mod,S.kind,rfl,rfl,Nat.le_refl _,inj,fun y hy=>?_,fun y a z=>(by cases z),fun _=>hr.hd,Around.frames_deeper e0.frames,.inr ⟨rfl,rfl⟩,fun b z=>absurd z (noA b),e0.bs,e0.bsz,fun b _ _=>noA b,fun b z=>absurd z (noA b),e0.funs,e0.frf⟩,
   rfl,e0.bare,Un.kept keep,⟨_,hns,fun i y v h1 h2 h3=>?_⟩,fun y a h=>?_,e0.hok.fresh (Nat.le_refl _),fun y a h=>?_,fun p hp=>absurd (show p∈([]:List (Addr × Obj)) from hp) (by simp),e0.hok.kept keep,?_⟩
  ·have hy:scope.names.lookup y=some .cell\/scope.names.lookup y=some .free:=hy
   rcases hy with hy | hy
   ·exact absurd rfl (S.cells _ (PySem.mem_of_lookup hy))
   ·exact has y hy
  ·have hlen:(vs.map some).length=ps.length:=by rw [List.length_map,hl]
   by_cases hi:i < ps.length
   ·have ha:vs[i]?=some v:=by
     rw [List.getElem?_append_left (by rw [hlen];exact hi),List.getElem?_map] at h2
     cases e:vs[i]? with
     | none=>rw [e] at h2;cases h2
     | some a=>rw [e] at h2;cases h2;rfl
    obtain ⟨u,hu,rv⟩:=r.get ha
    have hp:ps[i]?=some y:=by rw [<- S.pre,List.getElem?_take_of_lt hi];exact h1
    have ndP:ps.Nodup:=by rw [<- S.pre];exact S.nd.sublist (List.take_sublist _ _)
    exact ⟨u,rv,.inl ⟨S.par y (List.mem_of_getElem? hp),BL ndP hp hu⟩⟩
   ·obtain ⟨j,rfl⟩:∃ j,i=ps.length + j:=⟨i - ps.length,by omega⟩
    rw [List.getElem?_append_right (by rw [hlen];omega),hlen,Nat.add_sub_cancel_left] at h2
    obtain ⟨a,u,e1,e2,e3⟩:=cap j y v h1 h2
    have hk:scope.names.lookup y=some .free:=S.cap y (List.mem_of_getElem? (i:=j) (by rw [List.getElem?_drop];exact h1))
    exact ⟨u,e3,.inr ⟨.inr hk,a,e1,e2.keeps fun b o e=>keep b o (e0.bs b o e).1⟩⟩
  ·obtain ⟨v,hv⟩:=cel y a h
   exact ⟨v,hv.keeps fun b o e=>keep b o (e0.bs b o e).1⟩
  ·obtain ⟨v,o,hv,_⟩:=cel y a h
   exact (e0.bs _ _ hv).2
  ·rw [List.length_append,List.length_map,hl];exact hlN.symm
 refine wpAny_mono (ht [] _ _ H Q I hq) (fun u s' hs=>?_) fun e s' hs=>hs.elim
 obtain ⟨v,H',J,rv,q⟩:=hs
 exact ⟨v,H',J.os,J.bare,J.base,J.hok,rv,q⟩
end U2
namespace U2
open PySem PySem.Spec PyProof.Rows L2
structure Lv where
 params:Arguments
 body:Expr
 scope:Scope
def Jv (X:Cx) (s:Shared) (H:Hp) (M:aE) (q:Str) (l:Lv) (fl:Addr):Prop :=
 ∃ cl pm ctv c oc vs t,closureFor l.scope X.env=pure cl/\(s.heap.get? fl=some (PySem.W.kla_obj "<lambda>" q l.params l.body l.scope cl pm c ctv)/\H fl=none/\fl≠X.env.locals/\fl ∉ X.fs)/\H c=some (.frz oc (.own 0))/\M c=none/\oc.data=.fields vs/\vs[1]?=some (.str q t)
abbrev y6:=SU->aE->(List U->List Addr->aE->Prop)->Prop
def AQ (D:Dat) (q:Str) (es:List Expr) (ls:List Lv) (t:y6):Prop :=
 ∀ X,jU D X->∀ (pos:Pos) (pins:List (Addr × Obj)) (s:Shared) (σ:L2.St) (H:Hp) (τ:SU) (M:aE) (Q:List U->List Addr->aE->Prop),L2.Inv X pins σ H s->cJ D.K H M σ τ->RelM D.K H M->t τ M Q ->
  wpAny (model X.prog X.w) X.A (spliced (backTo pos (starEach es X.env))) (fun us s'=>∃ ws vs fs M' H',L2.Inv X pins σ H' s'/\Vals vs us/\aW H M H' M'/\RelM D.K H' M'/\aI D.K H' M' ws vs/\Paired (Jv X s' H' M' q) ls fs/\Q ws fs M') X.xe s
def iF:y6:=fun _ M Q=>Q [] [] M
def fB (te:UE) (t:y6):y6:=fun τ M Q=>te τ M fun u M1=>t τ M1 fun us fs M2=>Q (u :: us) fs M2
def iH (P:Addr) (q:Str) (t:y6):y6:=fun τ M Q=>M P=some (.tbl q)/\∀ fl,t τ M fun us fs M2=>Q (.ref fl :: us) (fl :: fs) M2
theorem U0 {D:Dat} {q:Str}:AQ D q [] [] iF:=fun X h pos pins s σ H τ M Q I rs rm ht=>Calls.spliced_nil ⟨[],[],[],M,H,I,.nil,aW.refl H M,rm,.nil,.nil,ht⟩
theorem Cp {D:Dat} {q:Str} {e:Expr} {es:List Expr} {ls:List Lv} {te:UE} {t:y6} (ha:bA D e te) (hr:AQ D q es ls t) (hs:∀ env,starEach (e :: es) env=(false,eval e env) :: starEach es env:=by intro _;rfl):AQ D q (e :: es) ls (fB te t):=by
 obtain ⟨t0,p,sim⟩:=ha
 intro X h pos pins s σ H τ M Q I rs rm ht
 rw [hs]
 show wpAny _ _ (spliced ((false,eval e X.env) :: backTo pos (starEach es X.env))) _ _ s
 refine Calls.spliced_cons (aZ (p X h pins s σ H (fun v H1=>∃ u M1,aW H M H1 M1/\RelM D.K H1 M1/\aP D.K H1 M1 u v/\t τ M1 fun us fs M2=>Q (u :: us) fs M2) I (sim σ τ H M _ rs rm ht _ fun u v M1 H1 st rm1 ru q=>⟨u,M1,st,rm1,ru,q⟩)) fun uu s1 ⟨v,H1,I1,r1,u,M1,st,rm1,ru,q⟩=>?_)
 exact aZ (hr X h pos pins s1 σ H1 τ M1 _ I1 (rs.stp st) rm1 q) fun us s2 ⟨ws,vs,fs,M2,H2,I2,rv,st2,rm2,rus,pl,q2⟩ =>
  ⟨u :: ws,v :: vs,fs,M2,H2,I2,.cons r1 rv,st.trans st2,rm2,.cons (ru.stp st2) rus,pl,q2⟩
def jO (base:Heap) (mg:Str->Option Value):Prop:=∃ bm o,mg "__builtins__"=some (.ref bm)/\bm≠builtinsNs/\bm≠mainGlobals/\base.get? bm=some o/\o.cls=.type "module"/\o.dict=some builtinsNs/\o.data=.plain
theorem HR {pos:Pos} {a b:Int} {c v:Value}:∀ (l:List Value),TriplesOk l->codeAmong pos (l++[rawInt a,rawInt b,c])=some v->codeAmong pos l=some v\/v=c:=fun l h=>by
 fun_induction TriplesOk l with
 | case1 =>
  intro e
  simp only [List.nil_append,codeAmong,rawInt] at e
  split at e
  ·cases e;exact .inr rfl
  ·cases e
 | case2 a' t b' u x rest ih =>
  intro e
  simp only [List.cons_append,codeAmong] at e ⊢
  split at e
  ·rename_i hc;rw [if_pos hc];exact .inl e
  ·rename_i hc;rw [if_neg hc];exact ih h e
 | case3 l h1 h2=>exact h.elim
theorem Inv.addPin {X:Cx} {pins:List (Addr × Obj)} {σ:L2.St} {H:Hp} {s:Shared} {a:Addr} {o:Obj} (I:L2.Inv X pins σ H s) (h:s.heap.get? a=some o/\H a=none/\a≠X.env.locals/\a ∉ X.fs/\∀ v,o.data≠.cell v):L2.Inv X ((a,o) :: pins) σ H s :=
 ⟨I.ok,I.os,I.bare,I.base,I.loc,I.cell,I.free,I.freeC,fun p hp=>by
  rcases List.mem_append.mp hp with hp | hp
  ·exact I.pin p (List.mem_append_left _ hp)
  ·rcases List.mem_cons.mp hp with rfl | hp
   ·exact h
   ·exact I.pin p (List.mem_append_right _ hp),I.hok,I.len⟩
theorem Inv.unPin {X:Cx} {pins:List (Addr × Obj)} {σ:L2.St} {H:Hp} {s:Shared} {a:Addr} {o:Obj} (I:L2.Inv X ((a,o) :: pins) σ H s):L2.Inv X pins σ H s :=
 ⟨I.ok,I.os,I.bare,I.base,I.loc,I.cell,I.free,I.freeC,fun p hp=>I.pin p (by
  rcases List.mem_append.mp hp with hp | hp
  ·exact List.mem_append_left _ hp
  ·exact List.mem_append_right _ (List.mem_cons_of_mem _ hp)),I.hok,I.len⟩
theorem Vk {D:Dat} {q:Str} {es:List Expr} {ls:List Lv} {t:y6} {params:Arguments} {body:Expr} {scope:Scope} {lpos:Pos} {c0 P:Addr} (hK:PySem.W.codeHdIn D.K c0 P=true) (hB:jO D.base D.mg) (hr:AQ D q es ls t) (hcod:D.cod=.ref c0:=by rfl) (hq:D.qual++"<lambda>"=q:=by rfl)
  (hfree:∀ y∈scope.names,y.2=.free->D.sc.names.lookup y.1=some .cell\/D.sc.names.lookup y.1=some .free:=by first | decide +kernel | (dsimp only;decide +kernel)) (hs:∀ env,starEach (.Lambda params body scope lpos :: es) env=(false,eval (.Lambda params body scope lpos) env) :: starEach es env:=by intro _;rfl) (hdef:∀ env,defaultsOf params env=([],[]):=by intro _;rfl) :
  AQ D q (.Lambda params body scope lpos :: es) (⟨params,body,scope⟩ :: ls) (iH P q t):=by
 intro X h pos pins s σ H τ M Q I rs rm ⟨hMP,ht⟩
 obtain ⟨huniq,ps,hHP,htr,hcodes⟩:=rm P _ hMP
 have hPg:s.heap.get? P=some (PySem.W.tabObj ps):=I.hok P _ hHP
 obtain ⟨e1,e2⟩:=h.cod (by rw [hcod];simp)
 rw [hcod] at e1
 obtain ⟨cl,hclos,hcl,hcl2⟩:=u6 (env:=X.env) (scope:=scope) (fun x hx e=>I.ok.has x.1 (by show X.env.scope.names.lookup _=_\/X.env.scope.names.lookup _=_;rw [h.sc];exact hfree x hx e))
 have C:PySem.W.CodeHd s.heap c0 P:=PySem.W.codeHd_of_K I.kIn (by rw [h.K];exact hK)
 have hg:s.heap.Ns mainGlobals X.mg:=I.mod.glob.keeps I.bk
 have noP:∀ b o,X.base.get? b=some o->b≠P:=fun b o e z=>by
  have:=(I.bs b o e).2
  rw [z,hHP] at this;cases this
 have hgP:mainGlobals≠P:=by
  obtain ⟨o,es,ep,e,_⟩:=I.mod.glob
  exact noP _ _ e
 have hb:s.heap.BuiltinsAt X.mg P:=by
  obtain ⟨bm,o,b1,b2,b3,b4,b5⟩:=hB
  rw [<- h.base] at b4
  rw [<- h.mg] at b1
  exact ⟨bm,o,b1,b2,b3,noP _ _ b4,I.bk _ _ b4,b5⟩
 rw [hs]
 show wpAny _ _ (spliced ((false,eval (.Lambda params body scope lpos) X.env) :: backTo pos (starEach es X.env))) _ _ s
 refine Calls.spliced_cons (PySem.W.kla_eval (hdef _) ?_)
 rw [e2,hq]
 have done:∀ (H1:Hp) (s1:Shared) (fl c:Addr) (oc:Obj) (vs:Array Value) (tk:Tok) (pm ctv:Value),L2.Inv X pins σ H1 s1->s1.heap.get? fl=some (PySem.W.kla_obj "<lambda>" q params body scope cl pm c ctv)->H1 fl=none->fl≠X.env.locals->fl ∉ X.fs->aW H M H1 M->RelM D.K H1 M->H1 c=some (.frz oc (.own 0))->M c=none->oc.data=.fields vs->vs[1]?=some (.str q tk) ->
   wpAny (model X.prog X.w) X.A (spliced (backTo pos (starEach es X.env))) (fun us s'=>∃ ws vs fs M' H',L2.Inv X pins σ H' s'/\Vals vs (.ref fl :: us)/\aW H M H' M'/\RelM D.K H' M'/\aI D.K H' M' ws vs/\Paired (Jv X s' H' M' q) (⟨params,body,scope⟩ :: ls) fs/\Q ws fs M') X.xe s1:=by
  intro H1 s1 fl c oc vs tk pm ctv I1 hfl hH1 hne hnf st rm1 hc hMc hd hv
  have Ip:=Inv.addPin I1 ⟨hfl,hH1,hne,hnf,fun v z=>by cases z⟩
  refine aZ (hr X h pos _ s1 σ H1 τ M _ Ip (rs.stp st) rm1 (ht fl)) fun us s2 ⟨ws,vs',fs,M2,H2,I2,rv,st2,rm2,rus,pl,q2⟩=>?_
  obtain ⟨p1,p2,p3,p4,_⟩:=I2.pin (fl,_) (List.mem_append_right _ List.mem_cons_self)
  exact ⟨.ref fl :: ws,.ref fl :: vs',fl :: fs,M2,H2,Inv.unPin I2,.cons rfl rv,st.trans st2,rm2,.cons rL rus,.cons ⟨cl,pm,ctv,c,oc,vs,tk,hclos,⟨p1,p2,p3,p4⟩,(st2.to hc hMc).1,(st2.to hc hMc).2,hd,hv⟩ pl,q2⟩
 have hLs:X.env.locals < s.heap.objs.size:=I.lt
 cases hf:codeAmong lpos ps.toList with
 | some cv =>
  obtain ⟨c,oc,vs,tk,rfl,hHc,hMc,hd,hv⟩:=hcodes _ _ hf
  refine PySem.W.kla_makeFunctionHit (mg:=X.mg) hclos I.ok.glob hg e1 C hPg htr hf hb fun ctv h' tk' hk hsz=>?_
  have keep:∀ b o,s.heap.get? b=some o->(h'.push (PySem.W.kla_obj "<lambda>" q params body scope cl ((X.mg "__name__").getD .none) c ctv)).get? b=some o:=fun b o e=>Heap.get?_push_of_some _ (hk b o e)
  exact done H _ h'.objs.size c oc vs tk _ ctv (I.kept (t':=tk') keep) (Heap.get?_push_size _ rfl) (I.hok.fresh hsz) (Nat.ne_of_gt (Nat.lt_of_lt_of_le hLs hsz)) (I.nofs hsz) (aW.refl H M) rm hHc hMc hd hv
 | none =>
  refine PySem.W.kla_makeFunction (mg:=X.mg) hclos I.ok.glob hg e1 C hPg htr hf hgP hb fun c ctv h' tk' hx hge hlt hrec htb=>?_
  obtain ⟨c₂,oc,vs,tk,e2,hoc,hd,hv⟩:=hrec
  cases e2
  have hHc:H c=none:=I.hok.fresh hge
  have hcP:c≠P:=fun z=>by rw [z,hHP] at hHc;cases hHc
  have hsz:s.heap.objs.size<=h'.objs.size:=by omega
  generalize hps:ps++#[rawInt lpos.line,rawInt lpos.col,.ref c]=ps' at htb
  generalize hobj:PySem.W.kla_obj "<lambda>" q params body scope cl ((X.mg "__name__").getD .none) c ctv=obj
  have keep:∀ b o,b≠P->s.heap.get? b=some o->(h'.push obj).get? b=some o:=fun b o n e=>Heap.get?_push_of_some _ (hx b o n e)
  have hH1c:upd (upd H c (.frz oc (.own 0))) P (.tbl ps') c=some (.frz oc (.own 0)):=by rw [bC hcP,bQ]
  have hH1:∀ b,b≠P->b≠c->upd (upd H c (.frz oc (.own 0))) P (.tbl ps') b=H b:=fun b n1 n2=>by rw [bC n1,bC n2]
  have hH1P:upd (upd H c (.frz oc (.own 0))) P (.tbl ps') P=some (.tbl ps'):=bQ
  generalize hHH:upd (upd H c (.frz oc (.own 0))) P (.tbl ps')=H1 at hH1c hH1 hH1P
  have nc:∀ b o,H b=some o->b≠c:=fun b o e z=>by rw [z,hHc] at e;cases e
  have lt:∀ b o,s.heap.get? b=some o->b≠c:=fun b o e=>Nat.ne_of_lt (Nat.lt_of_lt_of_le (Heap.lt_size e) hge)
  have un:Un X.fs [] H H1 s.heap (h'.push obj):=by
   refine ⟨fun b o e n _ _=>keep b o (fun z=>by rw [z,hHP] at n;cases n) e,fun b o e n _ _=>⟨o.slots,keep b o (fun z=>by rw [z,hHP] at n;cases n) e⟩,fun b o e n _=>?_,fun b o e _=>?_,fun b xs e=>?_,fun b o u e=>?_,fun b qs e=>?_⟩
   ·rw [hH1 b (fun z=>by rw [z,hHP] at n;cases n) (lt b o e)];exact n
   ·by_cases hbP:b=P
    ·subst hbP;exact ⟨_,Heap.get?_push_of_some _ htb⟩
    ·exact ⟨o,keep b o hbP e⟩
   ·rw [hH1 b (fun z=>by rw [z,hHP] at e;cases e) (nc b _ e)];exact e
   ·rw [hH1 b (fun z=>by rw [z,hHP] at e;cases e) (nc b _ e)];exact e
   ·by_cases hbP:b=P
    ·subst hbP
     rw [hHP] at e;cases e
     exact ⟨_,by rw [hH1P,<- hps]⟩
    ·exact ⟨#[],by rw [hH1 b hbP (nc b _ e),e];simp⟩
  have hok:dX X.prog X.w H1 (h'.push obj):=by
   intro b o e
   by_cases hbP:b=P
   ·subst hbP;rw [hH1P] at e;cases e;exact Heap.get?_push_of_some _ htb
   ·by_cases hbc:b=c
    ·subst hbc;rw [hH1c] at e;cases e;exact ⟨Heap.get?_push_of_some _ hoc,_,Heap.get?_push_of_some _ hoc⟩
    ·rw [hH1 b hbP hbc] at e
     refine (I.hok b o e).stay (fun a u ha ea=>keep a u (fun z=>?_) ea) (fun a ea=>?_) (fun a xs ea=>?_)
     ·rcases ha with ha | ha
      ·exact hbP (ha.symm.trans z)
      ·rw [z,hHP] at ha;cases ha
     ·rw [hH1 a (fun z=>by rw [z,hHP] at ea;cases ea) (nc a _ ea)];exact ea
     ·rw [hH1 a (fun z=>by rw [z,hHP] at ea;cases ea) (nc a _ ea)];exact ea
  have hMc:M c=none:=rm.no hHc
  have st:aW H M H1 M:=.by' fun b o e m=>⟨by rw [hH1 b (fun z=>by rw [z,hMP] at m;cases m) (nc b o e)];exact e,m⟩
  have rm1:RelM D.K H1 M:=fun a mo e=>by
   by_cases haP:a=P
   ·subst haP
    rw [hMP] at e;cases e
    refine ⟨huniq,ps',hH1P,by rw [<- hps];simpa using TriplesOk_snoc _ _ _ _ htr,fun pos' v hv'=>?_⟩
    rw [<- hps] at hv'
    have hv2:codeAmong pos' (ps.toList++[rawInt lpos.line,rawInt lpos.col,.ref c])=some v:=by simpa using hv'
    rcases HR ps.toList htr hv2 with z | rfl
    ·obtain ⟨c',oc',vs',t',y1,y2,y3,y4⟩:=hcodes _ _ z
     exact ⟨c',oc',vs',t',y1,(st.to y2 y3).1,y3,y4⟩
    ·exact ⟨c,oc,vs,tk,rfl,hH1c,hMc,hd,hv⟩
   ·have hac:a≠c:=fun z=>by subst z;rw [hMc] at e;cases e
    exact (rm a mo e).stp (fun _ _ z=>z) st (hH1 a haP hac)
  have I1:=I.un (t':=tk') un hok
  refine done H1 _ h'.objs.size c oc vs tk _ ctv I1 (by rw [<- hobj];exact Heap.get?_push_size _ rfl) (by rw [hH1 _ (Nat.ne_of_gt (Nat.lt_of_lt_of_le (Heap.lt_size hPg) hsz)) (Nat.ne_of_gt hlt)];exact I.hok.fresh hsz) (Nat.ne_of_gt (Nat.lt_of_lt_of_le hLs hsz)) (I.nofs hsz) st rm1 hH1c hMc hd hv
end U2
namespace U2
open PySem PySem.Spec PyProof.Rows L2
structure mY (P:Program) (w:World) (K:PySem.W.Frag) (mg:Str->Option Value) (base:Heap) (j:Nat) (f:Addr) (sp:cF):Prop where
 ex:∃ fd ps,fD P w K mg base iU j f fd ps (fZ K sp)/\(PySem.W.keepIn K (.ref f)=true\/∃ o fd',base.get? f=some o/\o.data=.func fd')/\Binds K fd ps []
theorem K8 {X:Cx} {x:Str} {p pos:Pos} {e:Expr} {es:List Expr} {i k:Nat} {f:Addr} {fd:FuncData} {ps:List Str} {sp:Sp} {t:TA} (hN:X.N[i]?=some x) (hv:BR X.env.scope x) (F:fD X.prog X.w X.K X.mg X.base iU k f fd ps sp) (hr:cW k X.A) (hk:PySem.W.keepIn X.K (.ref f)=true\/∃ o fd',X.base.get? f=some o/\o.data=.func fd') (hb:Binds X.K fd ps [])
  (ha:PA X (e :: es) t) (hd:(x == ("__debug__":Str))=false) (hcd:(x == ("__classdict__":Str))=false) (he:starEach (e :: es) X.env=(false,eval e X.env) :: starEach es X.env) (hpl:(backTo pos (starEach es X.env)).any (·.1)=false) :
  PE X (.Call (.Name x p) (e :: es) [] pos) (K0 i f sp t):=by
 intro pins s σ H Q I h
 refine wpAny_Call_Name_kw (aZ (lV (i:=i) hN hv hd hcd pins s σ H _ I h) fun v s1 ⟨x',H1,I1,r1,e1,q1⟩=>?_)
 subst e1
 cases r1
 rcases hk with hk | ⟨o,fd',ho,hof⟩
 ·refine PySem.W.callWith_K (h₀:=X.base) I1.ok.mod.kin hk (aZ (ha pos pins s1 σ H1 _ I1 q1) fun us s2 ⟨vs,H2,I2,r,q⟩=>⟨I2.kIn,?_⟩) he hpl
  exact Fq (dvs:=[]) F hr hb .nil HW I2 r (by rw [List.append_nil];exact q)
 ·have ha':=ha pos pins s1 σ H1 _ I1 q1
  rw [he] at ha' ⊢
  refine PySem.W.callWith_of (P:=fun h=>h.get? f=some o) (by show ((false || (backTo pos (starEach es X.env)).any (·.1)) || false)=false;rw [hpl];rfl) (fun h0 hh=>?_) (Calls.evalArgs_plain (aZ ha' fun us s2 ⟨vs,H2,I2,r,q⟩=>⟨I2.bk _ _ ho,?_⟩))
  ·refine ⟨.frame,.inl rfl,(PySem.W.Looks.ld (part:=none) hh).andThen ?_⟩
   obtain ⟨oc,od,odt,osl⟩:=o
   have:odt=.func fd':=hof
   subst this
   exact .now
  ·exact Fq (dvs:=[]) F hr hb .nil HW I2 r (by rw [List.append_nil];exact q)
section
variable {D:Dat}
theorem MI (i:Nat) {x:Str} {p pos:Pos} {e:Expr} {es:List Expr} {j:Nat} {f:Addr} {sp:cF} {tas:UA} (F:mY D.prog D.w D.K D.mg D.base j f sp) (ha:jZ D (e :: es) tas) (hN:D.N[i]?=some x:=by rfl) (hv:BR D.sc x:=by first | exact Or.inl rfl | exact Or.inr (Or.inl rfl) | exact Or.inr (Or.inr rfl))
  (hj:j<=D.k:=by first | exact Nat.le_refl _ | (dsimp only;omega) | omega | (dsimp only [cP];omega)) (hd:(x == ("__debug__":Str))=false:=by decide) (hcd:(x == ("__classdict__":Str))=false:=by decide)
  (he:∀ env,starEach (e :: es) env=(false,eval e env) :: starEach es env:=by intro _;rfl) (hpl:∀ env,(backTo pos (starEach es env)).any (·.1)=false:=by intro _;rfl):bA D (.Call (.Name x p) (e :: es) [] pos) (nY i f sp tas):=by
 obtain ⟨fd,ps,F,kp,hb⟩:=F.ex
 obtain ⟨t,q,s⟩:=ha
 refine ⟨K0 i f (fZ D.K sp) t,fun X h=>?_,fun σ τ H M Q' rs rm h Q c=>?_⟩
 ·have F':fD X.prog X.w X.K X.mg X.base iU j f fd ps (fZ D.K sp):=by rw [h.prog,h.w,h.K,h.mg,h.base];exact F
  exact K8 (by rw [h.N];exact hN) (by rw [h.sc];exact hv) F' (h.room.mono hj) (by rw [h.K,h.base];exact kp) (by rw [h.K];exact hb) (q X h) hd hcd (he _) (hpl _)
 ·refine Ah i σ τ H M _ rs rm h _ fun u v M1 H1 s1 rm1 ru h1=>?_
  obtain ⟨rfl,h1⟩:=h1
  refine ⟨ru.ref,s σ τ H1 M1 _ (rs.stp s1) rm1 h1 _ fun us vs M2 H2 s2 rm2 rus h2=>?_⟩
  exact ⟨us,M2,Q',rm2,rus,h2,cK.stp c (s1.trans s2)⟩
end
def Fb (H:Hp) (M:aE) (H1:Hp) (M1:aE):Prop:=∀ b o,H b=some o->M b=none->(∀ oc,o≠.frz oc (.own 0))->(∀ ps,o≠.tbl ps)->H1 b=some o/\M1 b=none
mutual
theorem aP.stq {K:PySem.W.Frag} {H H1:Hp} {M M1:aE} (st:Fb H M H1 M1):∀ {u:U} {v:V},aP K H M u v->aP K H1 M1 u v
 | .non,_,h=>by simpa only [aP] using h
 | .bl _,_,h=>by simpa only [aP] using h
 | .int _,_,h=>by simpa only [aP] using h
 | .str _,_,h=>by simpa only [aP] using h
 | .ty _,_,h=>by simpa only [aP] using h
 | .ref _,_,h=>by simpa only [aP] using h
 | .tup us,_,h=>by
  simp only [aP] at h ⊢
  obtain ⟨a,vs,e,h1,h2⟩:=h
  refine ⟨a,vs,e,?_,aI.stq st h2⟩
  obtain ⟨m,r⟩:=h1
  have q:=st a _ r m (by simp) (by simp)
  exact ⟨q.2,q.1⟩
 | .dic ks tk us,_,h=>by
  simp only [aP] at h ⊢
  obtain ⟨a,vs,e,m,h1,h2⟩:=h
  refine ⟨a,vs,e,?_,?_,aI.stq st h2⟩
  ·cases tk with
   | true=>obtain ⟨ws,e | ⟨o,e⟩,r⟩:=h1 <;> exact (st a _ e m (by intro oc z;cases z) (by simp)).2
   | false=>obtain ⟨ws,e | ⟨o,e⟩,r⟩:=h1 <;> exact (st a _ e m (by intro oc z;cases z) (by simp)).2
  ·cases tk with
   | true=>obtain ⟨ws,e | ⟨o,e⟩,r⟩:=h1;exact ⟨ws,.inl (st a _ e m (by simp) (by simp)).1,r⟩;exact ⟨ws,.inr ⟨o,(st a _ e m (by intro oc z;cases z) (by simp)).1⟩,r⟩
   | false=>obtain ⟨ws,e | ⟨o,e⟩,r⟩:=h1;exact ⟨ws,.inl (st a _ e m (by simp) (by simp)).1,r⟩;exact ⟨ws,.inr ⟨o,(st a _ e m (by intro oc z;cases z) (by simp)).1⟩,r⟩
 | .lst us,_,h=>by
  simp only [aP] at h ⊢
  obtain ⟨a,vs,e,h1,h2⟩:=h
  refine ⟨a,vs,e,?_,aI.stq st h2⟩
  rcases h1 with ⟨m,r⟩ | k
  ·rcases r with r | ⟨o,r⟩
   ·have q:=st a _ r m (by simp) (by simp)
    exact .inl ⟨q.2,.inl q.1⟩
   ·have q:=st a _ r m (by intro oc z;cases z) (by simp)
    exact .inl ⟨q.2,.inr ⟨o,q.1⟩⟩
  ·exact .inr k
theorem aI.stq {K:PySem.W.Frag} {H H1:Hp} {M M1:aE} (st:Fb H M H1 M1):∀ {us:List U} {vs:List V},aI K H M us vs->aI K H1 M1 us vs
 | [],_,h=>by simpa only [aI] using h
 | u :: us,_,h=>by
  simp only [aI] at h ⊢
  obtain ⟨v,vs',e,h1,h2⟩:=h
  exact ⟨v,vs',e,aP.stq st h1,aI.stq st h2⟩
end
theorem mB.stq {κ:Type} {K:PySem.W.Frag} {H H1:Hp} {M M1:aE} (st:Fb H M H1 M1):∀ {us:List (κ × U)} {vs:List (κ × V)},mB K H M us vs->mB K H1 M1 us vs
 | _,_,.nil=>.nil
 | _,_,.cons h t=>.cons ⟨h.1,h.2.stq st⟩ (mB.stq st t)
def dU (q:Str) (o:Option HO):Prop:=∃ oc vs t,o=some (.frz oc (.own 0))/\oc.data=.fields vs/\vs[1]?=some (.str q t)
open Classical in
noncomputable def jN (q:Str) (H:Hp):Hp:=fun b=>if dU q (H b) then none else H b
open Classical in
noncomputable def m8 (q:Str) (H H2:Hp):Hp:=fun b=>if dU q (H b) then H b else H2 b
def xV (M:aE) (a:Addr):aE:=fun b=>if b=a then none else M b
theorem Wr {M:aE} {a:Addr}:xV M a a=none:=by unfold xV;rw [if_pos rfl]
theorem WW {M:aE} {a b:Addr} (h:b≠a):xV M a b=M b:=by unfold xV;rw [if_neg h]
theorem rT {q:Str} {H:Hp} {b:Addr} (h:dU q (H b)):jN q H b=none:=by unfold jN;exact if_pos h
theorem cU {q:Str} {H:Hp} {b:Addr} (h:¬ dU q (H b)):jN q H b=H b:=by unfold jN;exact if_neg h
theorem xT {q:Str} {H H2:Hp} {b:Addr} (h:dU q (H b)):m8 q H H2 b=H b:=by unfold m8;exact if_pos h
theorem cS {q:Str} {H H2:Hp} {b:Addr} (h:¬ dU q (H b)):m8 q H H2 b=H2 b:=by unfold m8;exact if_neg h
theorem dD {q:Str} {o:HO} (h:dU q (some o)):∃ oc,o=.frz oc (.own 0):=by
 obtain ⟨oc,_,_,e,_⟩:=h;cases e;exact ⟨oc,rfl⟩
theorem BS {q:Str}:¬ dU q none:=fun ⟨_,_,_,e,_⟩=>by cases e
theorem Qa {q q':Str} {oc:Obj} {vs:Array Value} {t:Tok} (hd:oc.data=.fields vs) (hv:vs[1]?=some (.str q' t)) (h:dU q (some (.frz oc (.own 0)))):q=q':=by
 obtain ⟨oc',vs',t',e,h1,h2⟩:=h
 cases e
 rw [hd] at h1;cases h1
 rw [hv] at h2;cases h2;rfl
theorem K2 {q:Str} {H:Hp} {b:Addr} {o:HO} (h:jN q H b=some o):H b=some o/\¬ dU q (H b):=by
 by_cases hc:dU q (H b)
 ·rw [rT hc] at h;cases h
 ·rw [cU hc] at h;exact ⟨h,hc⟩
end U2
namespace U2
open PySem PySem.Spec PyProof.Rows L2
def Pm (n:Nat) (te:UE) (caps:SU):cF:=fun us M Q=>us.length=n/\te (us.map some++caps) M Q
structure yL where
 lam:Lv
 N:List Str
 ps:List Str
 ix:List Nat
 te:UE
def Mr (D:Dat) (base:Heap) (k:Nat) (N:List Str) (sc:Scope):Dat:={ D with base:=base,N:=N,sc:=sc,k:=k,fn:=false,cod:=.none }
structure OX (D:Dat) (k:Nat) (L:yL):Prop where
 sc:E5 L.N L.ps L.lam.scope
 len:L.N.length=L.ps.length + L.ix.length
 ix:L.ix.map (fun i=>D.N[i]?)=(L.N.drop L.ps.length).map some
 free:∀ y∈L.lam.scope.names,y.2=.free->D.sc.names.lookup y.1=some .cell\/D.sc.names.lookup y.1=some .free
 cap:∀ x∈L.N.drop L.ps.length,D.sc.names.lookup x=some .cell\/D.sc.names.lookup x=some .free
 body:∀ base,jO base D.mg->bA (Mr D base k L.N L.lam.scope) L.lam.body L.te
 bind:∀ (q:Str) (cl:List (Str × Addr)) (pm cd ct:Value) (us:List Value),us.length=L.ps.length->bindArgs (PySem.W.kla_fn "<lambda>" q L.lam.params L.lam.body L.lam.scope cl pm cd ct) ⟨us,[]⟩=pure (L.ps.zip us)
def IX:U->Prop
 | .tup _=>False
 | .lst _=>False
 | .dic _ _ _=>False
 | _=>True
def Ej (L:yL) (τ:SU):SU:=L.ix.map fun i=>(τ[i]?).getD none
def IL (L:yL) (τ:SU):cF:=Pm L.ps.length L.te (Ej L τ)
def eE (G:SU->List U->List Addr->aE->UK->Prop) (t:y6):UE:=fun τ M Q=>t τ M fun us fs M1=>G τ us fs M1 Q
theorem Od {α:Type} {a b:α} (h:(pure a:Sem α)=pure b):a=b:=by
 have h':(Sem.pure a:Sem α)=Sem.pure b:=h
 injection h'
def qR (P:Addr) (q:Str) (L:yL) (sp:Addr->cF->cF):SU->List U->List Addr->aE->UK->Prop:=fun τ us fs M1 Q=>match fs with
 | [fl]=>M1 P=some (.tbl q)/\(∀ u,some u∈Ej L τ->IX u)/\((∀ b,xV M1 P b≠some (.tbl q))->sp fl (IL L τ) us (xV M1 P) fun u M2=>(∀ b,M2 b≠some (.tbl q))/\Q u (mup M2 P (.tbl q)))
 | _=>False
def qN (P:Addr) (q:Str) (L L':yL) (sp:Addr->cF->Addr->cF->cF):SU->List U->List Addr->aE->UK->Prop:=fun τ us fs M1 Q=>match fs with
 | [fl,fl']=>M1 P=some (.tbl q)/\(∀ u,some u∈Ej L τ->IX u)/\(∀ u,some u∈Ej L' τ->IX u)/\((∀ b,xV M1 P b≠some (.tbl q))->sp fl (IL L τ) fl' (IL L' τ) us (xV M1 P) fun u M2=>(∀ b,M2 b≠some (.tbl q))/\Q u (mup M2 P (.tbl q)))
 | _=>False
end U2
namespace U2
open PySem PySem.Spec PyProof.Rows L2
section
variable {P:Program} {w:World} {K:PySem.W.Frag} {mg:Str->Option Value} {base:Heap}
theorem HC {x:Str} {st:Stmt} {f c0:Addr} {fd:FuncData} {N ps:List Str} {k:Nat} {sp:cF} {t:US} (F:b8 K x x st f fd) (hfd:fd.code=.ref c0) (hm:mg x=some (.ref f)) (S:aU N ps (aH st))
  (bind:∀ (kV doc pm:Value) (an:Option Addr) (cdv ct:Value) (us:List Value),us.length=ps.length->bindArgs (PySem.W.fnOf x x (eM st) (cH st) (aH st) .none kV doc pm an cdv ct) ⟨us,[]⟩=pure (ps.zip us))
  (len:∀ us M Q,sp us M Q->us.length=ps.length)
  (h:m7 ⟨P,w,K,mg,base,N,aH st,k,true,.ref c0,x++".<locals>."⟩ (cH st) t)
  (q:∀ us M Q,sp us M Q->t { nx:=fun _ M'=>hZ Q .non M',rt:=hZ Q } (c9 N us) M):Callee P w K mg base (k + 1) x sp []:=by
 obtain ⟨t0,h1,h2⟩:=h
 have hb:=F.binds bind
 have kp:=F.kp
 obtain ⟨oc,od,kV,doc,pm,an,cdv,ct,osl,rfl,lk,hcd⟩:=F.ex
 have hfd':cdv=.ref c0:=hfd
 subst hfd'
 refine ⟨f,_,ps,[],[],OQ lk hcd S (fun vs H Q E ⟨us,M,Q',_,r,hs,_⟩=>by rw [<- r.length];exact len us M Q' hs) (fun A outer s H vs Q E hr ⟨us,M,Q',rm,r,hs,c⟩=>?_),hm,kp,hb,.nil,fun H M=>.nil⟩
 refine ⟨t0,lH.nox (h1 _ ⟨rfl,rfl,rfl,rfl,rfl,rfl,rfl,hr,rfl,rfl,fun _ _=>rfl,fun _=>⟨rfl,rfl⟩,fun _=>⟨rfl,rfl,rfl⟩⟩),?_⟩
 refine h2 _ (c9 N us) H M _ (rR r) rm (q us M Q' hs) _ ⟨fun σ τ H1 M1 s1 rm1 rs1 q1=>?_,fun u v H1 M1 s1 rm1 ru q1=>hZ.ok c s1 rm1 ru q1,fun _ _ _ _ _ _ _ z=>z.elim,fun _ _ _ _ _ _ _ z=>z.elim⟩
 exact hZ.ok c s1 rm1 jD q1
end
def IC (ts:List Addr) (H:Hp):Prop:=∀ b,H b=none\/(∃ o xs,H b=some (.frz o (.lst xs)))\/(b∈ts/\H b=some (.tbl #[]))
theorem Kq {P:Program} {w:World} {K:PySem.W.Frag} {mg mb:Str->Option Value} {k:Nat} {fa a:Addr} {fd:FuncData} {x:Str} {sp:Sp} {s₁:Shared} {vs:List Value} {ns:List Int} {ts:List Addr}
  (KX:K.In s₁.heap) (hns:s₁.heap.Ns mainGlobals mg) (hb:s₁.heap.Ns builtinsNs mb) (hbb:∀ x:Str,x≠"__name__"->mb x=bootBuiltins x) (hlim:s₁.heap.NoLimit) (hg:s₁.gens=#[])
  (hB:jO s₁.heap mg) (hT:∀ p∈ts,s₁.heap.get? p=some (PySem.W.tabObj #[])/\K.lookup p=none/\isCodeTable s₁.heap p)
  (ha:s₁.heap.get? a=some { cls:=.type "list",data:=.seq vs.toArray }) (hi:IntsAre vs ns) (hl:ns.length<=sizeLine) (hr:cW k callerA)
  (F:∀ base:Heap,K.In base->base.Ns mainGlobals mg->jO base mg->fD P w K mg base iU k fa fd [x] sp) (hbind:∀ (s:Shared) (u:Value),BindsTo s fd ⟨[u],[]⟩ [(x,u)])
  (hsp:∀ H:Hp,IC ts H->eV K H a (ns.map V.int)->(∀ p∈ts,H p=some (.tbl #[]))->sp [.ref a] H (fun v _=>v=.bl true) fun _ _ _=>False) :
  codeAny (model P w) callerA (.call (.ref fa) ⟨[.ref a],[]⟩) (fun r s'=>r=.ok (.ret (.bool true))/\OldK s₁.heap s'.heap/\s'.os=s₁.os/\AllBare s'.gens) s₁:=by
 have rv:=C1 hi
 have lenV:=hi.length
 have haT:a ∉ ts:=fun z=>by
  have:=(hT a z).1
  rw [ha] at this;cases this
 have core:∀ H:Hp,IC ts H->eV K H a (ns.map V.int)->(∀ p∈ts,H p=some (.tbl #[]))->dX P w H s₁.heap->(∀ b,H b≠none->b=a\/b∈ts)->(H a≠none->K.lookup a=none) ->
   codeAny (model P w) callerA (.call (.ref fa) ⟨[.ref a],[]⟩) (fun r s'=>r=.ok (.ret (.bool true))/\OldK s₁.heap s'.heap/\s'.os=s₁.os/\AllBare s'.gens) s₁:=by
  intro H hO hS hTb hok hA hK
  have base_of:∀ {b:Addr} {o:Obj},s₁.heap.get? b=some o->H b=none->(gD s₁.heap H).get? b=some o:=fun e n=>rK e n
  have noD:∀ {b:Addr} {o:Obj},s₁.heap.get? b=some o->(∀ xs n,o.data≠.seq xs n)->(∀ vs,o.data≠.fields vs)->H b=none:=fun {b o} e d1 d2=>by
   cases q:H b with
   | none=>rfl
   | some u =>
    rcases hA b (by rw [q];simp) with e' | e'
    ·subst e'
     rw [ha] at e;cases e
     exact absurd rfl (d1 _ _)
    ·rw [(hT b e').1] at e;cases e
     exact absurd rfl (d2 _)
  have noA:∀ {b:Addr} {o:Obj} {es:Array DictEntry} {ep:Nat},s₁.heap.get? b=some o->o.data=.dict es ep->H b=none:=fun {b o es ep} e d=>noD e (fun xs n z=>by rw [d] at z;cases z) (fun vs z=>by rw [d] at z;cases z)
  have nsK:∀ {b:Addr} {m:Str->Option Value},s₁.heap.Ns b m->(gD s₁.heap H).Ns b m:=fun {b m} ⟨o,es,ep,e,d,r⟩=>⟨o,es,ep,base_of e (noA e d),d,r⟩
  have hKb:K.In (gD s₁.heap H):=fun b o e=>base_of (KX b o e) (by
   cases q:H b with
   | none=>rfl
   | some u =>
    rcases hA b (by rw [q];simp) with e' | e'
    ·subst e'
     rw [hK (by rw [q];simp)] at e;cases e
    ·rw [(hT b e').2.1] at e;cases e)
  have hBb:jO (gD s₁.heap H) mg:=by
   obtain ⟨bm,o,b1,b2,b3,b4,b5,b6,b7⟩:=hB
   exact ⟨bm,o,b1,b2,b3,base_of b4 (noD b4 (fun xs n z=>by rw [b7] at z;cases z) (fun vs z=>by rw [b7] at z;cases z)),b5,b6,b7⟩
  have hM:Mod K mg (gD s₁.heap H):=⟨hKb,nsK hns,⟨mb,nsK hb,hbb⟩,let ⟨mc,h1,h2⟩:=hlim;⟨mc,nsK h1,h2⟩⟩
  have e0:tJ P w K mg (gD s₁.heap H) callerA [] s₁ H:=⟨rfl,hM,fun b o e=>B7 e,Nat.le_of_eq (CT _ _),trivial,fun b hb=>absurd (show b∈([]:List Addr) from hb) (by simp),hok,.of_eq hg⟩
  refine codeAny_mono ((F _ hKb (nsK hns) hBb).run callerA [] s₁ H ⟨[.ref a],[]⟩ [.ref a] [.ref a] _ _ hr e0 (hbind s₁ (.ref a)) (.cons rfl .nil) (hsp H hO hS hTb)) fun r s' h=>?_
  cases r with
  | error e=>exact h.elim
  | ok fl =>
   cases fl with
   | next=>exact False.elim h
   | brk=>exact False.elim h
   | cont=>exact False.elim h
   | ret u =>
    obtain ⟨v,H',os,bare,un,hok',r',q⟩:=h
    have q':v=.bl true:=q
    subst q'
    obtain rfl:u=Value.bool true:=r'
    have kept:∀ b o,s₁.heap.get? b=some o->b ∉ ts->s'.heap.get? b=some o:=fun b o e hbt=>by
     cases q:H b with
     | none=>exact un.keep b o e q (by intro z;exact absurd (show b∈([]:List Addr) from z) (by simp)) (by simp)
     | some u =>
      rcases hO b with z | ⟨ob,xs,z⟩ | ⟨z,_⟩
      ·rw [q] at z;cases z
      ·have z2:=un.frzs b ob _ z
       obtain ⟨e1,_⟩:=hok b _ z
       obtain ⟨e2,_⟩:=hok' b _ z2
       rw [e] at e1;cases e1
       exact e2
      ·exact absurd z hbt
    refine ⟨rfl,⟨fun b o e=>?_,fun b o e=>?_⟩,os,bare⟩
    ·by_cases hbt:b∈ts
     ·obtain ⟨h1,_,h3⟩:=hT b hbt
      rw [h1] at e;cases e
      obtain ⟨more,hm⟩:=un.tbls b _ (hTb b hbt)
      have:=hok' b _ hm
      exact .inr (.inl ⟨h3,rfl,#[],more,rfl,this⟩)
     ·exact .inl (kept b o e hbt)
    ·by_cases hbt:b∈ts
     ·obtain ⟨more,hm⟩:=un.tbls b _ (hTb b hbt)
      exact ⟨_,hok' b _ hm⟩
     ·exact ⟨o,kept b o e hbt⟩
 have tOk:∀ (H:Hp) b,b∈ts->dC P w H s₁.heap b (.tbl #[]):=fun H b hb=>(hT b hb).1
 open Classical in
 cases hk:K.lookup a with
 | some o =>
  have e:=KX a o hk
  rw [ha] at e
  cases e
  refine core (fun b=>if b∈ts then some (.tbl #[]) else none) (fun b=>?_) (.inr ⟨_,vs.toArray,_,hk,rfl,rfl,rfl,by rw [List.size_toArray,lenV];exact hl,by simpa using rv⟩) (fun p hp=>if_pos hp) (fun b u z=>?_) (fun b z=>?_) (fun z=>absurd (if_neg haT) z)
  ·by_cases hb:b∈ts
   ·exact .inr (.inr ⟨hb,if_pos hb⟩)
   ·exact .inl (if_neg hb)
  ·by_cases hb:b∈ts
   ·have z':=(if_pos hb).symm.trans z
    cases z'
    exact tOk _ b hb
   ·have z':=(if_neg hb).symm.trans z
    cases z'
  ·by_cases hb:b∈ts
   ·exact .inr hb
   ·exact absurd (if_neg hb) z
 | none =>
  refine core (fun b=>if b=a then some (.frz { cls:=.type "list",data:=.seq vs.toArray } (.lst (ns.map V.int))) else if b∈ts then some (.tbl #[]) else none) (fun b=>?_) (.inl (.inr ⟨{ cls:=.type "list",data:=.seq vs.toArray },if_pos rfl⟩)) (fun p hp=>?_) (fun b u z=>?_) (fun b z=>?_) fun _=>hk
  ·by_cases hb:b=a
   ·exact .inr (.inl ⟨_,_,if_pos hb⟩)
   ·by_cases hbt:b∈ts
    ·exact .inr (.inr ⟨hbt,(if_neg hb).trans (if_pos hbt)⟩)
    ·exact .inl ((if_neg hb).trans (if_neg hbt))
  ·exact (if_neg (fun z:p=a=>haT (z ▸ hp))).trans (if_pos hp)
  ·by_cases hb:b=a
   ·have z':=(if_pos hb).symm.trans z
    cases z'
    subst hb
    exact ⟨ha,by rw [List.length_map];exact hl,vs,_,rv,ha⟩
   ·by_cases hbt:b∈ts
    ·have z':=((if_neg hb).trans (if_pos hbt)).symm.trans z
     cases z'
     exact tOk _ b hbt
    ·have z':=((if_neg hb).trans (if_neg hbt)).symm.trans z
     cases z'
  ·by_cases hb:b=a
   ·exact .inl hb
   ·by_cases hbt:b∈ts
    ·exact .inr hbt
    ·exact absurd ((if_neg hb).trans (if_neg hbt)) z
end U2
namespace U2
open PySem PySem.Spec PyProof.Rows L2
section
variable {D:Dat} {x:Str} {p pos:Pos} {e:Expr} {es:List Expr} {f P:Addr} {q:Str} {j:Nat}
end
end U2
namespace U2
open PySem PySem.Spec PyProof.Rows L2
def yZ (P:Addr) (ps:Array Value) (vs:List V) (cs:List U) (L:yL):cF:=fun us M Q=>M P=some (.cap ps vs cs)/\Pm L.ps.length L.te (cs.map some) us M Q
def JM (P:Addr) (q:Str) (L:yL) (sp:Addr->cF->cF):SU->List U->List Addr->aE->UK->Prop:=fun τ us fs M1 Q=>match fs with
 | [fl]=>M1 P=some (.tbl q)/\∃ cs,Ej L τ=cs.map some/\∀ ps vs,(∀ b,mup M1 P (.cap ps vs cs) b≠some (.tbl q))->sp fl (yZ P ps vs cs L) us (mup M1 P (.cap ps vs cs)) fun u M2=>(∀ b,M2 b≠some (.tbl q))/\M2 P=some (.cap ps vs cs)/\Q u (mup M2 P (.tbl q))
 | _=>False
theorem Ov {K:PySem.W.Frag} {H:Hp} {M:aE} {P:Addr} {q:Str} {vs:List V} {cs:List U} (rm:RelM K H M) (hP:M P=some (.tbl q)) (rc:aI K H M cs vs):∃ ps,H P=some (.tbl ps)/\Fb H M (jN q H) (mup M P (.cap ps vs cs))/\RelM K (jN q H) (mup M P (.cap ps vs cs)):=by
 obtain ⟨un,ps,hHP,htr,hcodes⟩:=rm P _ hP
 have nP:¬ dU q (H P):=fun z=>by rw [hHP] at z;obtain ⟨oc,z⟩:=dD z;cases z
 have sq:Fb H M (jN q H) (mup M P (.cap ps vs cs)):=fun b o e m n1 n2=>by
  refine ⟨?_,?_⟩
  ·rw [cU (fun z=>by rw [e] at z;obtain ⟨oc,z⟩:=dD z;exact n1 oc z)];exact e
  ·have hb:b≠P:=fun z=>by rw [z,hP] at m;cases m
   rw [cA hb];exact m
 refine ⟨ps,hHP,sq,fun a mo e=>?_⟩
 by_cases ha:a=P
 ·subst ha
  rw [bM] at e;cases e
  exact ⟨by rw [cU nP];exact hHP,rc.stq sq⟩
 rw [cA ha] at e
 have h:=rm a mo e
 cases mo with
 | lst us=>obtain ⟨vs,x,y⟩:=h;exact ⟨vs,by rw [cU (fun z=>by rw [x] at z;obtain ⟨oc,z⟩:=dD z;cases z)];exact x,y.stq sq⟩
 | dK us=>obtain ⟨vs,x,y⟩:=h;exact ⟨vs,by rw [cU (fun z=>by rw [x] at z;obtain ⟨oc,z⟩:=dD z;cases z)];exact x,y.stq sq⟩
 | dT us=>obtain ⟨vs,x,y⟩:=h;exact ⟨vs,by rw [cU (fun z=>by rw [x] at z;obtain ⟨oc,z⟩:=dD z;cases z)];exact x,y.stq sq⟩
 | dN us=>obtain ⟨vs,x,y⟩:=h;exact ⟨vs,by rw [cU (fun z=>by rw [x] at z;obtain ⟨oc,z⟩:=dD z;cases z)];exact x,y.stq sq⟩
 | cap ps vs us=>exact ⟨by rw [cU (fun z=>by rw [h.1] at z;obtain ⟨oc,z⟩:=dD z;cases z)];exact h.1,h.2.stq sq⟩
 | tbl q' =>
  obtain ⟨un',ps',x,y,z⟩:=h
  have hq:q'≠q:=fun w=>by subst w;exact ha (un' P hP).symm
  refine ⟨fun b hb=>un' b (by by_cases hbP:b=P;rw [hbP,bM] at hb;cases hb;rw [cA hbP] at hb;exact hb),ps',by rw [cU (fun z=>by rw [x] at z;obtain ⟨oc,z⟩:=dD z;cases z)];exact x,y,fun pos c hc=>?_⟩
  obtain ⟨c',oc,vs,t,h1,h2,h3,h4,h5⟩:=z pos c hc
  refine ⟨c',oc,vs,t,h1,?_,?_,h4,h5⟩
  ·rw [cU (fun z=>by rw [h2] at z;exact hq (Qa h4 h5 z).symm)];exact h2
  ·have hb:c'≠P:=fun z=>by rw [z,hHP] at h2;cases h2
   rw [cA hb];exact h3
theorem M8 {K:PySem.W.Frag} {H H2:Hp} {M M2:aE} {P:Addr} {q:Str} {ps:Array Value} {vs:List V} {cs:List U} (rm:RelM K H M) (hP:M P=some (.tbl q)) (hHP:H P=some (.tbl ps)) (st:aW (jN q H) (mup M P (.cap ps vs cs)) H2 M2) (rm2:RelM K H2 M2) (hM2:M2 P=some (.cap ps vs cs)) (hn:∀ b,dU q (H b)->H2 b=none) (hu:∀ b,M2 b≠some (.tbl q)) :
  aW H M (m8 q H H2) (mup M2 P (.tbl q))/\Fb H2 M2 (m8 q H H2) (mup M2 P (.tbl q))/\RelM K (m8 q H H2) (mup M2 P (.tbl q)):=by
 obtain ⟨un,ps0,hHP0,htr,hcodes⟩:=rm P _ hP
 rw [hHP] at hHP0;cases hHP0
 have nP:¬ dU q (H P):=fun z=>by rw [hHP] at z;obtain ⟨oc,z⟩:=dD z;cases z
 have h2P:H2 P=some (.tbl ps):=(rm2 P _ hM2).1
 have S1:aW H M (m8 q H H2) (mup M2 P (.tbl q)):=fun b o e m=>by
  have hb:b≠P:=fun z=>by rw [z,hP] at m;cases m
  by_cases hc:dU q (H b)
  ·exact ⟨.inl (by rw [xT hc];exact e),by rw [cA hb];exact rm2.no (hn b hc)⟩
  ·obtain ⟨a1,a2⟩:=st b o (by rw [cU hc];exact e) (by rw [cA hb];exact m)
   exact ⟨by rw [cS hc];exact a1,by rw [cA hb];exact a2⟩
 have S2:Fb H2 M2 (m8 q H H2) (mup M2 P (.tbl q)):=fun b o e m n1 n2=>by
  have hb:b≠P:=fun z=>by rw [z,hM2] at m;cases m
  have hc:¬ dU q (H b):=fun z=>by rw [hn b z] at e;cases e
  exact ⟨by rw [cS hc];exact e,by rw [cA hb];exact m⟩
 refine ⟨S1,S2,fun a mo e=>?_⟩
 by_cases ha:a=P
 ·subst ha
  rw [bM] at e;cases e
  refine ⟨fun b hb=>?_,ps,by rw [cS nP];exact h2P,htr,fun pos c hc=>?_⟩
  ·by_cases hba:b=a
   ·exact hba
   ·rw [cA hba] at hb;exact (hu b hb).elim
  ·obtain ⟨c',oc,vs,t,h1,h2,h3,h4⟩:=hcodes pos c hc
   obtain ⟨a1,a2⟩:=S1.to h2 h3
   exact ⟨c',oc,vs,t,h1,a1,a2,h4⟩
 ·rw [cA ha] at e
  have h:=rm2 a mo e
  obtain ⟨o,ho⟩:=rm2.ex e
  have hc:¬ dU q (H a):=fun z=>by rw [hn a z] at ho;cases ho
  cases mo with
  | lst us=>obtain ⟨vs,x,y⟩:=h;exact ⟨vs,by rw [cS hc];exact x,y.stq S2⟩
  | dK us=>obtain ⟨vs,x,y⟩:=h;exact ⟨vs,by rw [cS hc];exact x,y.stq S2⟩
  | dT us=>obtain ⟨vs,x,y⟩:=h;exact ⟨vs,by rw [cS hc];exact x,y.stq S2⟩
  | dN us=>obtain ⟨vs,x,y⟩:=h;exact ⟨vs,by rw [cS hc];exact x,y.stq S2⟩
  | cap ps vs us=>exact ⟨by rw [cS hc];exact h.1,h.2.stq S2⟩
  | tbl q' =>
   obtain ⟨un',ps',x,y,z⟩:=h
   have hqq:q'≠q:=fun w=>by subst w;exact hu a e
   refine ⟨fun b hb=>un' b (by by_cases hbP:b=P;subst hbP;rw [bM] at hb;exact absurd (by cases hb;rfl) hqq;rw [cA hbP] at hb;exact hb),ps',by rw [cS hc];exact x,y,fun pos c hcc=>?_⟩
   obtain ⟨c',oc,vs,t,h1,h2,h3,h4⟩:=z pos c hcc
   have hc':¬ dU q (H c'):=fun z=>by rw [hn c' z] at h2;cases h2
   refine ⟨c',oc,vs,t,h1,by rw [cS hc'];exact h2,?_,h4⟩
   by_cases hb:c'=P
   ·rw [hb,h2P] at h2;cases h2
   ·rw [cA hb];exact h3
theorem FC {K:PySem.W.Frag} {H:Hp} {M:aE} {σ:L2.St} {τ:SU} (rs:cJ K H M σ τ):∀ (ix:List Nat) (cs:List U),ix.map (fun i=>(τ[i]?).getD none)=cs.map some->∃ vs,aI K H M cs vs/\ix.map (fun i=>(σ[i]?).getD none)=vs.map some
 | [],[],_=>⟨[],.nil,rfl⟩
 | [],c :: cs,h=>by cases h
 | i :: ix,[],h=>by cases h
 | i :: ix,c :: cs,h=>by
  simp only [List.map_cons,List.cons.injEq] at h
  obtain ⟨vs,h1,h2⟩:=FC rs ix cs h.2
  have eτ:τ[i]?=some (some c):=by
   cases hz:τ[i]? with
   | none=>rw [hz] at h;cases h.1
   | some o=>rw [hz] at h;simp only [Option.getD_some] at h;rw [h.1]
  obtain ⟨v,hv,rv⟩:=rs.2 i c eτ
  exact ⟨v :: vs,.cons rv h1,by simp only [List.map_cons,hv,Option.getD_some,h2]⟩
open Classical in
theorem LI {D:Dat} {x:Str} {p pos:Pos} {e:Expr} {es:List Expr} {f P:Addr} {q:Str} {j:Nat} (k:Nat) (L:yL) {sp:Addr->cF->cF} {t:y6} (hm:D.mg x=some (.ref f)) (hk:PySem.W.keepIn D.K (.ref f)=true)
  (F:∀ (base:Heap) (fl:Addr) (s:cF),jO base D.mg->mY D.prog D.w D.K D.mg base (k + 1) fl s->Callee D.prog D.w D.K D.mg base j x (sp fl s) []) (hB:jO D.base D.mg) (hL:OX D k L) (ha:AQ D q (e :: es) [L.lam] t)
  (hj:j<=D.k:=by first | exact Nat.le_refl _ | (dsimp only;omega) | omega) (hfn:D.fn=true:=by rfl) (hg:D.sc.names.lookup x=some .globalImplicit:=by rfl) (hdb:(x == ("__debug__":Str))=false:=by decide)
  (he:∀ env,starEach (e :: es) env=(false,eval e env) :: starEach es env:=by intro _;rfl) (hpl:∀ env,(backTo pos (starEach es env)).any (·.1)=false:=by intro _;rfl):bA D (.Call (.Name x p) (e :: es) [] pos) (eE (JM P q L sp) t):=by
 refine ⟨fun σ H Q=>∃ τ M Q',cJ D.K H M σ τ/\RelM D.K H M/\eE (JM P q L sp) t τ M Q'/\cK D.K H M Q' Q,fun X h=>?_,fun σ τ H M Q' rs rm ht Q c=>⟨τ,M,Q',rs,rm,ht,c⟩⟩
 intro pins s σ H Q I ⟨τ,M,Q',rs,rm,ht,cont⟩
 refine wpAny_Call_Name_kw (kH I (by show X.env.scope.names.lookup x=_;rw [h.sc];exact hg) (by rw [h.mg];exact hm) ?_ hdb)
 refine PySem.W.callWith_K (h₀:=X.base) I.ok.mod.kin (by rw [h.K];exact hk) (aZ (ha X h pos pins s σ H τ M _ I rs rm ht) fun us s1 ⟨ws,vs,fs,M1,H1,I1,rv,st1,rm1,rus,pl,q0⟩=>⟨I1.kIn,?_⟩) (he _) (hpl _)
 obtain ⟨fl0,rfl⟩:∃ fl,fs=[fl]:=by
  cases pl with
  | cons _ h2=>cases h2;exact ⟨_,rfl⟩
 obtain ⟨hMP,cs,hcs,q1⟩:=q0
 obtain ⟨huniq,_⟩:=rm1 P _ hMP
 obtain ⟨cvs0,rc0,hcv⟩:=FC (rs.stp st1) L.ix cs hcs
 obtain ⟨ps0,hHP,sq,rmH⟩:=Ov rm1 hMP rc0
 have hno:∀ b,mup M1 P (.cap ps0 cvs0 cs) b≠some (.tbl q):=fun b z=>by
  by_cases hb:b=P
  ·rw [hb,bM] at z;cases z
  ·rw [cA hb] at z;exact hb (huniq b z)
 let Hh:Hp:=fun b=>if b∈gA X.stack then some (.own 0) else jN q H1 b
 have hHh:∀ b,b ∉ gA X.stack->jN q H1 b=none->Hh b=none:=fun b h1 h2=>by show (if b∈gA X.stack then some (.own 0) else jN q H1 b)=none;rw [if_neg h1];exact h2
 have hHn:∀ b,Hh b=none->b ∉ gA X.stack/\jN q H1 b=none:=fun b hb=>by
  have hb':(if b∈gA X.stack then some (HO.own 0) else jN q H1 b)=none:=hb
  by_cases hm:b∈gA X.stack
  ·rw [if_pos hm] at hb';cases hb'
  ·rw [if_neg hm] at hb';exact ⟨hm,hb'⟩
 have nofr:∀ b o,X.base.get? b=some o->b ∉ gA X.stack:=fun b o e hb=>by
  have:=(I1.stack.mem hb).1
  rw [e] at this;cases this
 have hid0:∀ b,H1 b=none->jN q H1 b=none:=fun b e=>by rw [cU (by rw [e];exact BS)];exact e
 have up:∀ b o,X.base.get? b=some o->(gD s1.heap Hh).get? b=some o:=fun b o e=>rK (I1.bk b o e) (hHh b (nofr b o e) (hid0 b (I1.bs b o e).2))
 have hBm:jO (gD s1.heap Hh) D.mg:=by
  obtain ⟨bm,o,b1,b2,b3,b4,b5⟩:=hB
  rw [<- h.base] at b4
  exact ⟨bm,o,b1,b2,b3,up _ _ b4,b5⟩
 have e0:tJ X.prog X.w X.K X.mg (gD s1.heap Hh) X.A X.stack s1 (jN q H1):=by
  have m:=I1.ok.mod
  refine ⟨I1.ok.frames,⟨m.kin.keeps up,m.glob.keeps up,let ⟨mb,a,b⟩:=m.blt;⟨mb,a.keeps up,b⟩,m.nolimit.keeps up⟩,fun b o e=>?_,Nat.le_of_eq (CT _ _),?_,fun b hb=>hid0 b (I1.stkFree b hb),fun b o e=>?_,I1.bare⟩
  ·obtain ⟨a,b2⟩:=B7 e
   exact ⟨a,(hHn b b2).2⟩
  ·have:∀ l:List Env,(∀ b∈gA l,b∈gA X.stack)->s1.heap.FunFrames X.base l->s1.heap.FunFrames (gD s1.heap Hh) l:=by
    intro l
    induction l with
    | nil=>intro _ _;trivial
    | cons env rest ih =>
     intro hs ⟨hk,⟨L,o,hf,hn,ho,hd⟩,hr⟩
     refine ⟨hk,⟨L,o,hf,?_,ho,hd⟩,ih (fun b hb=>hs b (by unfold gA at hb ⊢;rw [List.filterMap_cons,hf];exact List.mem_cons_of_mem _ hb)) hr⟩
     cases hq:(gD s1.heap Hh).get? L with
     | none=>rfl
     | some o'=>exact absurd (hs L (by unfold gA;rw [List.filterMap_cons,hf];exact List.mem_cons_self)) (hHn L (B7 hq).2).1
   exact this X.stack (fun _ hb=>hb) I1.stack
  ·obtain ⟨e1,e2⟩:=K2 e
   refine (I1.hok b o e1).stay (fun _ _ _ z=>z) (fun a ea=>?_) (fun a xs ea=>?_)
   ·rw [cU (fun z=>by rw [ea] at z;obtain ⟨_,z⟩:=dD z;cases z)];exact ea
   ·rw [cU (fun z=>by rw [ea] at z;obtain ⟨_,z⟩:=dD z;cases z)];exact ea
 have one:∀ (fl:Addr),OX D k L->Jv X s1 H1 M1 q L.lam fl->mY D.prog D.w D.K D.mg (gD s1.heap Hh) (k + 1) fl (yZ P ps0 cvs0 cs L):=by
  intro fl ok la
  obtain ⟨cl,pm,ctv,c,oc,cvs,tk,hclos,⟨ho,hf0,hf1,hf2⟩,hc,hMc,hd,hv⟩:=la
  obtain ⟨cl',hclos',hcl,hcl2⟩:=u6 (env:=X.env) (scope:=L.lam.scope) (fun y hy e=>I1.ok.has y.1 (by show X.env.scope.names.lookup _=_\/X.env.scope.names.lookup _=_;rw [h.sc];exact ok.free y hy e))
  have ecl:cl'=cl:=Od (hclos'.symm.trans hclos)
  subst ecl
  have nst:∀ b,b≠X.env.locals->b ∉ X.fs->b ∉ gA X.stack:=fun b n1 n2 hb=>by
   rcases List.mem_cons.mp (I1.stkSub b hb) with z | z
   ·exact n1 z
   ·exact n2 z
  have bfl:(gD s1.heap Hh).get? fl=some (PySem.W.kla_obj "<lambda>" q L.lam.params L.lam.body L.lam.scope cl' pm c ctv):=rK ho (hHh fl (nst fl hf1 hf2) (hid0 fl hf0))
  have hoc:s1.heap.get? c=some oc:=(I1.hok c _ hc).1
  have bc:(gD s1.heap Hh).get? c=some oc:=rK hoc (hHh c (fun hb=>by rw [I1.stkFree c hb] at hc;cases hc) (rT ⟨oc,cvs,tk,hc,hd,hv⟩))
  have hold:∀ y a,cl'.lookup y=some a->∀ o,s1.heap.get? a=some o->(gD s1.heap Hh).get? a=some o:=fun y a e o eo=>by
   have ec:=hcl y a e
   refine rK eo (hHh a (nst a (I1.cne y a ec) (fun hb=>?_)) (hid0 a (I1.freeC y a ec)))
   have h1:=I1.ok.cab y a (h.fn hfn y) ec
   obtain ⟨_,o',ho',_⟩:=I1.ok.funs.mem hb
   exact absurd (Heap.lt_size ho') (Nat.not_lt.mpr h1)
  have cells:∀ y a v,cl'.lookup y=some a->s1.heap.IsCell a v->(gD s1.heap Hh).IsCell a v:=fun y a v e ⟨o,ho,hd⟩=>⟨o,hold y a e o ho,hd⟩
  obtain ⟨m,hns,hloc⟩:=I1.loc
  refine ⟨PySem.W.kla_fn "<lambda>" q L.lam.params L.lam.body L.lam.scope cl' pm (.ref c) ctv,L.ps,?_,.inr ⟨_,_,bfl,rfl⟩,.all fun us hl=>ok.bind q cl' pm _ _ us hl⟩
  have capV:∃ caps:List (Option V),caps=L.ix.map (fun i=>(σ[i]?).getD none):=⟨_,rfl⟩
  obtain ⟨caps,hcaps⟩:=capV
  refine T4 (N:=L.N) (caps:=caps) bfl ⟨c,oc,cvs,tk,rfl,bc,hd,hv⟩ ok.sc (fun y z a e1 e2=>I1.ok.inj y z a (hcl y a e1) (hcl z a e2)) (fun y hy=>hcl2 y (PySem.mem_of_lookup hy)) (fun y a e=>?_) (fun jj y v e1 e2=>?_) (by rw [hcaps,List.length_map];exact ok.len) (fun vs H Q E ⟨us,M,Q',_,r,hs,_⟩=>by rw [<- r.length];exact hs.2.1) ?_
  ·obtain ⟨v,hv⟩:=I1.cell y a (hcl y a e)
   exact ⟨v,cells y a v e hv⟩
  ·
   rw [hcaps,List.getElem?_map] at e2
   cases hi:L.ix[jj]? with
   | none=>rw [hi] at e2;cases e2
   | some i =>
    rw [hi] at e2
    simp only [Option.map_some,Option.some.injEq] at e2
    have eN:D.N[i]?=some y:=by
     have h1:(L.ix.map fun i=>D.N[i]?)[jj]?=some (D.N[i]?):=by rw [List.getElem?_map,hi];rfl
     rw [ok.ix,List.getElem?_map,List.getElem?_drop,e1] at h1
     exact (Option.some.inj h1).symm
    have eσ:σ[i]?=some (some v):=by
     cases hz:σ[i]? with
     | none=>rw [hz] at e2;cases e2
     | some o=>rw [hz] at e2;simp only [Option.getD_some] at e2;rw [e2]
    have hmem:y∈L.N.drop L.ps.length:=List.mem_of_getElem? (i:=jj) (by rw [List.getElem?_drop];exact e1)
    have hkind:=ok.cap y hmem
    obtain ⟨u,ru,lk⟩:=hloc i y v (by rw [h.N];exact eN) eσ (by unfold BR;rw [h.sc];rcases hkind with z | z;exact .inr (.inl z);exact .inr (.inr z))
    rcases lk with ⟨k1,_⟩ | ⟨_,a,e3,e4⟩
    ·have k1':X.env.scope.names.lookup y=some .local:=k1
     rw [h.sc] at k1'
     rcases hkind with z | z <;> (rw [z] at k1';cases k1')
    ·obtain ⟨a',ea'⟩:=hcl2 y (PySem.mem_of_lookup (ok.sc.cap y hmem))
     have:a'=a:=by have:=hcl y a' ea';rw [e3] at this;cases this;rfl
     subst this
     exact ⟨a',u,ea',cells y a' _ ea' e4,ru⟩
  ·intro A outer s2 H2 vs2 Q2 E2 hr ⟨us2,M2,Q2',rm2,rus2,⟨hM2,hl2,hte⟩,c2⟩
   obtain ⟨tb,pb,sb⟩:=ok.body (gD s1.heap Hh) hBm
   refine ⟨tb,?_,?_⟩
   ·have hh:=pb (DP X.prog X.w X.K X.mg (gD s1.heap Hh) L.N q L.lam.scope fl c cl' A outer s2 H2) ⟨h.prog,h.w,h.K,h.mg,rfl,rfl,rfl,hr,rfl,rfl,(fun z=>by cases z),(fun z=>absurd rfl z),(fun z=>by cases z)⟩
    rw [h.prog,h.w,h.K,h.mg] at hh
    exact hh
   ·refine sb _ _ H2 M2 _ ?_ rm2 hte _ c2
    have rc2:aI D.K H2 M2 cs cvs0:=(rm2 P _ hM2).2
    rw [hcv] at hcaps
    refine ⟨by rw [List.length_append,List.length_append,List.length_map,List.length_map,rus2.length,hcaps,List.length_map,List.length_map,rc2.length],fun i u ei=>?_⟩
    have hlv:vs2.length=us2.length:=rus2.length.symm
    by_cases hi:i < us2.length
    ·rw [List.getElem?_append_left (by rw [List.length_map];exact hi),List.getElem?_map] at ei
     cases hu:us2[i]? with
     | none=>rw [hu] at ei;cases ei
     | some u' =>
      rw [hu] at ei
      simp only [Option.map_some,Option.some.injEq] at ei
      subst ei
      obtain ⟨v,hv,rv⟩:=rus2.get hu
      exact ⟨v,by rw [List.getElem?_append_left (by rw [List.length_map,hlv];exact hi),List.getElem?_map,hv];rfl,rv⟩
    ·rw [List.getElem?_append_right (by rw [List.length_map];omega),List.length_map] at ei
     rw [List.getElem?_map] at ei
     cases hj:cs[i - us2.length]? with
     | none=>rw [hj] at ei;cases ei
     | some u' =>
      rw [hj] at ei
      simp only [Option.map_some,Option.some.injEq] at ei
      subst ei
      obtain ⟨v,hv,rv⟩:=rc2.get hj
      refine ⟨v,?_,rv⟩
      rw [List.getElem?_append_right (by rw [List.length_map,hlv];omega),List.length_map,hlv,hcaps,List.getElem?_map,hv]
      rfl
 have lam1:mY D.prog D.w D.K D.mg (gD s1.heap Hh) (k + 1) fl0 (yZ P ps0 cvs0 cs L):=by
  cases pl with
  | cons h1 h2=>exact one _ hL h1
 obtain ⟨f',fd,ps,dvs,ds,FF,hm',_,hb',hvd,hrd⟩:=(F _ _ _ hBm lam1).ex
 rw [hm] at hm';cases hm'
 have edv:dvs=[]:=(hrd (fun _=>none) (fun _=>none)).inv_nil
 subst edv
 cases hvd
 have FF':fD X.prog X.w X.K X.mg (gD s1.heap Hh) iU j f fd ps (fZ D.K (sp fl0 (yZ P ps0 cvs0 cs L))):=by rw [h.prog,h.w,h.K,h.mg];exact FF
 have hsp:fZ D.K (sp fl0 (yZ P ps0 cvs0 cs L)) vs (jN q H1) (fun v H2=>(∀ b,dU q (H1 b)->H2 b=none)->Q v (m8 q H1 H2)) E0:=by
  refine ⟨ws,_,_,rmH,rus.stq sq,q1 ps0 cvs0 hno,fun u v M2 H2 st2 rm2 ru2 ⟨hn2,hP2,q2⟩ hcn=>?_⟩
  obtain ⟨S1,S2,rm3⟩:=M8 rm1 hMP hHP st2 rm2 hP2 hcn hn2
  exact cont u v _ _ (st1.trans S1) rm3 (ru2.stq S2) q2
 have hl:us.length=ps.length:=by rw [<- rv.length];exact FF'.len _ _ _ _ hsp
 have hbK:Binds X.K fd ps []:=by rw [h.K];exact hb'
 have hbs:=hbK s1 us I1.kIn (by rw [List.append_nil];exact hl)
 rw [List.append_nil] at hbs
 refine wpAny_call (codeAny_mono (FF'.run X.A X.stack s1 (jN q H1) ⟨us,[]⟩ us vs _ E0 (h.room.mono hj) e0 hbs rv hsp) fun r s' hq=>?_)
 cases r with
 | error e=>exact hq.elim
 | ok fl =>
  cases fl with
  | next=>exact False.elim hq
  | brk=>exact False.elim hq
  | cont=>exact False.elim hq
  | ret u =>
   obtain ⟨v,H2,os,bare,un,hok2,rvu,q2⟩:=hq
   have cold:∀ b,dU q (H1 b)->∃ o,s1.heap.get? b=some o:=fun b ⟨oc,_,_,e,_⟩=>⟨oc,(I1.hok b _ e).1⟩
   have hcn:∀ b,dU q (H1 b)->H2 b=none:=fun b hb=>by
    obtain ⟨o,ho⟩:=cold b hb
    exact un.free b o ho (rT hb) (by simp)
   have nc:∀ {b o},H1 b=some o->(∀ oc,o≠.frz oc (.own 0))->¬ dU q (H1 b):=fun {b o} e n z=>by rw [e] at z;obtain ⟨oc,z⟩:=dD z;exact n oc z
   have un':Un (gA X.stack) [] H1 (m8 q H1 H2) s1.heap s'.heap:=by
    refine ⟨fun b o e n a1 a2=>un.keep b o e (hid0 b n) a1 a2,fun b o e n a1 a2=>un.slot b o e (hid0 b n) a1 a2,fun b o e n a=>?_,fun b o e a=>un.there b o e a,fun b xs e=>?_,fun b o u e=>?_,fun b qs e=>?_⟩
    ·rw [cS (by rw [n];exact BS)];exact un.free b o e (hid0 b n) a
    ·have hc:=nc e (by simp)
     rw [cS hc];exact un.tups b xs (by rw [cU hc];exact e)
    ·by_cases hc:dU q (H1 b)
     ·rw [xT hc];exact e
     ·rw [cS hc];exact un.frzs b o u (by rw [cU hc];exact e)
    ·have hc:=nc e (by simp)
     rw [cS hc];exact un.tbls b qs (by rw [cU hc];exact e)
   have hok':dX X.prog X.w (m8 q H1 H2) s'.heap:=by
    intro b o e
    by_cases hc:dU q (H1 b)
    ·rw [xT hc] at e
     obtain ⟨oc,vs',t',e',_⟩:=hc
     rw [e] at e';cases e'
     have hb:=(I1.hok b _ e).1
     have hk':=un.keep b oc hb (rT ⟨oc,vs',t',e,by assumption⟩) (fun hb=>by rw [I1.stkFree b hb] at e;cases e) (by simp)
     exact ⟨hk',_,hk'⟩
    ·rw [cS hc] at e
     refine (hok2 b o e).stay (fun _ _ _ z=>z) (fun a ea=>?_) (fun a xs ea=>?_)
     ·rw [cS (fun z=>by rw [hcn a z] at ea;cases ea)];exact ea
     ·rw [cS (fun z=>by rw [hcn a z] at ea;cases ea)];exact ea
   have I2:L2.Inv X pins σ (m8 q H1 H2) s':=Inv.call' (ch:=[]) I1 os un' hok' bare (fun b z=>absurd z (by simp))
   exact ⟨v,_,I2,rvu,q2 hcn⟩
section
variable {D:Dat} {x:Str} {p pos:Pos} {e:Expr} {es:List Expr} {f P:Addr} {q:Str} {j:Nat}
theorem Nu (k:Nat) (N ps:List Str) (ix:List Nat) {params:Arguments} {body:Expr} {scope:Scope} {te:UE} {sp:Addr->cF->cF} {t:y6} (hm:D.mg x=some (.ref f)) (hk:PySem.W.keepIn D.K (.ref f)=true)
  (F:∀ (base:Heap) (fl:Addr) (s:cF),jO base D.mg->mY D.prog D.w D.K D.mg base (k + 1) fl s->Callee D.prog D.w D.K D.mg base j x (sp fl s) []) (hB:jO D.base D.mg) (ha:AQ D q (e :: es) [⟨params,body,scope⟩] t) (hb:∀ base,jO base D.mg->bA (Mr D base k N scope) body te)
  (s1:scope.kind=.function:=by rfl) (s2:scope.isCoroutine=false:=by rfl) (s3:scope.isGenerator=false:=by rfl) (s4:N.Nodup:=by decide +kernel) (s5:N.take ps.length=ps:=by rfl) (s6:∀ x∈ps,scope.names.lookup x=some .local:=by decide +kernel) (s7:∀ y∈scope.names,y.2≠.cell:=by decide +kernel) (s8:∀ x∈N.drop ps.length,scope.names.lookup x=some .free:=by decide +kernel)
  (s9:N.length=ps.length + ix.length:=by rfl) (s10:ix.map (fun i=>D.N[i]?)=(N.drop ps.length).map some:=by rfl) (s11:∀ y∈scope.names,y.2=.free->D.sc.names.lookup y.1=some .cell\/D.sc.names.lookup y.1=some .free:=by first | decide +kernel | (dsimp only;decide +kernel)) (s12:∀ x∈N.drop ps.length,D.sc.names.lookup x=some .cell\/D.sc.names.lookup x=some .free:=by first | decide +kernel | (dsimp only;decide +kernel))
  (s13:∀ (q:Str) (cl:List (Str × Addr)) (pm cd ct:Value) (us:List Value),us.length=ps.length->bindArgs (PySem.W.kla_fn "<lambda>" q params body scope cl pm cd ct) ⟨us,[]⟩=pure (ps.zip us):=by exact fun _ _ _ _ _ us hl=>(match us,hl with | [_],_=>rfl))
  (hj:j<=D.k:=by first | exact Nat.le_refl _ | (dsimp only;omega) | omega) (hfn:D.fn=true:=by rfl) (hg:D.sc.names.lookup x=some .globalImplicit:=by rfl) (hdb:(x == ("__debug__":Str))=false:=by decide)
  (he:∀ env,starEach (e :: es) env=(false,eval e env) :: starEach es env:=by intro _;rfl) (hpl:∀ env,(backTo pos (starEach es env)).any (·.1)=false:=by intro _;rfl):bA D (.Call (.Name x p) (e :: es) [] pos) (eE (JM P q ⟨⟨params,body,scope⟩,N,ps,ix,te⟩ sp) t) :=
 LI k ⟨⟨params,body,scope⟩,N,ps,ix,te⟩ hm hk F hB ⟨⟨s1,s2,s3,s4,s5,s6,s7,s8⟩,s9,s10,s11,s12,hb,s13⟩ ha hj hfn hg hdb he hpl
end
end U2
namespace L2
open PySem PySem.Spec PyProof.Rows
section
variable {M:Model} {A:Around} {E:Value->Shared->Prop} {s:Shared} {base:Heap} {env:Env} {outer:List Env} {L e:Addr} {oe:Obj} {vs:Array Value}
def W8 (e:Addr) (l:List Env) (h h':Heap):Prop:=∀ b o,h.get? b=some o->b≠e->(b ∉ gA l->h'.get? b=some o)/\∃ sl,h'.get? b=some { o with slots:=sl }
theorem Fu {head:Value} {hadNext:Bool} {Q:Unit->Shared->Prop} (hfr:A.frames=some (env :: outer)) (hl:s.heap.FunFrames base (env :: outer)) (hf:env.frame=some L)
  (he:s.heap.get? e=some oe) (hd:oe.data=.fields vs) (hsz:1 < vs.size)
  (h:∀ h' T oT ts,W8 e (env :: outer) s.heap h'->h'.get? e=some (oe.mapFields (·.setIfInBounds 1 (.ref T)))->s.heap.objs.size<=T->h'.get? T=some oT->oT.data=.fields ts->ts[3]?=some (rawInt L)->Q () { s with heap:=h' }) :
  wpAny M A (do let a <- frameOf env;let pl <- entryPlaceOf L hadNext;let b <- EntryCells.newEntry head a .none (rawInt L) .none pl;setField (.ref e) 1 b) Q E s:=by
 have hene:e ∉ (env :: outer).filterMap (·.frame):=fun hm=>by
  obtain ⟨_,o,ho,hnf⟩:=hl.mem hm
  rw [he] at ho;injection ho with ho;subst ho;exact hnf vs hd
 refine wpAny_bind (wpAny_frameOf_fun hfr hl hf fun h₁ hs₁=>?_)
 refine wpAny_bind (wpAny_entryPlaceOf fun pl hpl=>?_)
 unfold EntryCells.newEntry newFields
 refine wpAny_bind (wpAny_newObj_type ?_ (hpl.sizeOk5 _ _ _ _ _))
 have he₁:h₁.get? e=some oe:=(hs₁.2.1 e hene).trans he
 have he₂:=Heap.get?_push_of_some (h:=h₁) { cls:=.type "traceback",dict:=none,data:=.fields ([head,.ref L,.none,rawInt L,.none]++(if pl.isEmpty then List.replicate 6 Value.none else pl)).toArray } he₁
 refine wpAny_setField he₂ hd hsz ?_
 have hTe:h₁.objs.size≠e:=Nat.ne_of_gt (Heap.lt_size he₁)
 have hd₃:=Obj.data_mapFields hd (·.setIfInBounds 1 (Value.ref h₁.objs.size))
 have he₃:=Heap.get?_update_self (Obj.mapFields (·.setIfInBounds 1 (Value.ref h₁.objs.size))) he₂ (Obj.isFreed_of_fields hd₃)
 have hT₃:=(Heap.get?_update_other (h₁.push { cls:=.type "traceback",dict:=none,data:=.fields ([head,.ref L,.none,rawInt L,.none]++(if pl.isEmpty then List.replicate 6 Value.none else pl)).toArray })
  (Obj.mapFields (·.setIfInBounds 1 (Value.ref h₁.objs.size))) (Ne.symm hTe)).trans (Heap.get?_push_size h₁ rfl)
 have keep:∀ b o,b≠e->h₁.get? b=some o ->
   ((h₁.push { cls:=.type "traceback",dict:=none,data:=.fields ([head,.ref L,.none,rawInt L,.none]++(if pl.isEmpty then List.replicate 6 Value.none else pl)).toArray }).update e (Obj.mapFields (·.setIfInBounds 1 (Value.ref h₁.objs.size)))).get? b=some o:=fun b o hbe hb=>by
  rw [Heap.get?_update_other _ _ (Ne.symm hbe)]
  exact Heap.get?_push_of_some _ hb
 refine h _ h₁.objs.size _ _ (fun b o hb hbe=>⟨fun hnf=>keep b o hbe ((hs₁.2.1 b hnf).trans hb),?_⟩) he₃ (by rw [hs₁.1];exact Nat.le_refl _) hT₃ rfl ?_
 ·obtain ⟨sl,hs⟩:=hs₁.2.2 b o hb
  exact ⟨sl,keep b _ hbe hs⟩
 ·simp
def K4 (fl:Value->Prop) (h:Heap) (e:Addr) (vs:Array Value) (T:Option Addr):Prop:=match T with
 | none=>vs[1]?=some .none
 | some T=>vs[1]?=some (.ref T)/\T≠e/\∃ oT ts v,h.get? T=some oT/\oT.data=.fields ts/\ts[3]?=some v/\fl v
end
end L2
namespace L2
open PySem PySem.Spec
section
variable {prog:Program} {w:World} {A:Around} {E:Value->Shared->Prop} {h:Heap} {g:Array GenState} {d:Drawn} {t:Nat} {os:OsState}
variable {nm q:Str} {C N:Addr} {bs bm:List Value} {hdct:Bool} {sn:List Str} {sub:List Value} {ab:Bool} {col:Option Bool} {dd:Option Addr} {k0 k1 k2 k3 k5:Option Value}
def Wx:List Value:=[.type "ValueError",.type "Exception",.type "BaseException",.type "object"]
theorem vF:ExcBaseFacts "ValueError" "ValueError.__new__" "ValueError.__init__" Wx:=PySem.F.excBase_ValueError
structure yD (bm:List Value):Prop where
 v:bm.contains (.type "ValueError")=true
 a:bm.contains (.type "AttributeError")=false
 n:bm.contains (.type "NameError")=false
 b:bm.contains (.type "BaseException")=true
theorem NB (V:yD bm) {M:Model} {rest:List Value} {Q:Unit->Shared->Prop} (hC:h.get? C=some (excClassObj nm q C N bs bm hdct sn sub ab col dd k0 k1 k2 k3 k5 "ValueError.__new__"))
  (hq:Q () ⟨h,g,d,t,os⟩):wpAny M A (checkBuiltinCall "ValueError.__new__" ⟨.ref C :: rest,[]⟩) Q E ⟨h,g,d,t,os⟩:=by
 have hcont:(Value.ref C :: bm).contains (.type "ValueError")=true:=by rw [List.contains_cons,V.v,Bool.or_true]
 have hstar:=vF.noStar
 simp only [checkBuiltinCall,vF.newKind,vF.newSplit,vF.newRow]
 repeat (first | refine wpAny_loadPart_at hC ?_ | (refine wpAny_isSubtype_exc hC ?_;rw [hcont]) | refine wpAny_staticBase_exc hC ?_ | refine wpAny_madeBy_exc hC ?_ | simp only [bne_self_eq_false,Bool.false_eq_true,if_false] | wp_step)
 exact hq
theorem We (V:yD bm) {R:Result->Shared->Prop} {rest:List Value} (hC:h.get? C=some (excClassObj nm q C N bs bm hdct sn sub ab col dd k0 k1 k2 k3 k5 "ValueError.__new__"))
  (hq:R (.ok (.ret (.ref (h.objs.size + 1)))) ⟨(h.push { cls:=.type "tuple",data:=.seq rest.toArray }).push
   { cls:=.ref C,data:=.fields #[.ref h.objs.size,.none,.none,.none,.bool false,.none] },g,d,t,os⟩) (hrest:rest.length<=sizeLine) :
  codeAny (model prog w) A (.builtin "ValueError.__new__" ⟨.ref C :: rest,[]⟩) R ⟨h,g,d,t,os⟩:=by
 have hends:=vF.ends
 have hcB:(Value.ref C :: bm).contains (.type "ValueError")=true:=by rw [List.contains_cons,V.v,Bool.or_true]
 have hcA:(Value.ref C :: bm).contains (.type "AttributeError")=false:=by rw [List.contains_cons,V.a];rfl
 have hcN:(Value.ref C :: bm).contains (.type "NameError")=false:=by rw [List.contains_cons,V.n];rfl
 refine codeAny_builtinAt vF.entry ?_
 unfold Builtin.«BaseException.__new__»
 refine wpAt_bind ?_
 show wpAt _ _ _ (stack >>= _) _ _ _
 refine wpAt_bind (wpAt_stack fun p below=>wpAt_of_wpAny ?_)
 wp_walk
 refine wpAt_of_wpAny ?_
 rw [vF.owner]
 repeat (first | with_reducible refine wpAny_madeHere_exc vF.canon hC ?_ | with_reducible refine wpAny_loadPart_at hC ?_ | (with_reducible refine wpAny_isSubtype_exc hC ?_;first | rw [hcB] | rw [hcA] | rw [hcN]) | wp_step)
 show R _ _
 rw [Heap.size_push]
 exact hq
def nQ (h:Heap) (C:Addr) (us:List Value):Heap:=(h.push { cls:=.type "tuple",data:=.seq us.toArray }).push { cls:=.ref C,data:=.fields #[.ref h.objs.size,.none,.none,.none,.bool false,.none] }
theorem C9 (h:Heap) (C:Addr) (us:List Value):(nQ h C us).get? (h.objs.size + 1)=some { cls:=.ref C,data:=.fields #[.ref h.objs.size,.none,.none,.none,.bool false,.none] }:=by
 unfold nQ;heap_get
theorem kC (h:Heap) (C:Addr) (us:List Value):∀ b o,h.get? b=some o->(nQ h C us).get? b=some o:=fun b o e=>Heap.get?_push_of_some _ (Heap.get?_push_of_some _ e)
theorem HN (V:yD bm) {K:PySem.W.Frag} {rest:List Value} {fI:Addr} {oI:Obj} {Q:Fin->Shared->Prop} (KX:K.In h)
  (hC:h.get? C=some (excClassObj nm q C N bs bm hdct sn sub ab col dd k0 k1 k2 k3 k5 "ValueError.__new__")) (hi:PySem.W.findIn K (.ref C) "__init__"=some (some (.ref fI)))
  (hfI:h.get? fI=some oI) (hfc:oI.cls=.type "function")
  (hq:wpAny (model prog w) A (call (.ref fI) (.ref (h.objs.size + 1) :: rest)) (fun r s'=>r=.none/\Q (.done (.ret (.ref (h.objs.size + 1)))) s') E ⟨nQ h C rest,g,d,t,os⟩) (hrest:rest.length<=sizeLine) :
  wpAny (model prog w) A (Builtin.«type.__call__» ⟨.ref C :: rest,[]⟩) Q E ⟨h,g,d,t,os⟩:=by
 repeat (first | with_reducible refine wpAny_loadPart_at hC ?_ | with_reducible refine wpAny_madeBy_exc hC ?_ | wp_step)
 refine codeAny_call_builtin_code (Code.quiet_builtin _ vF.quiet) (NB V hC ?_)
 refine We V hC ?_ hrest
 show wpAny _ _ _ _ _ _
 have hk:=kC h C rest
 have hC₁:=hk _ _ hC
 have hfI₁:=hk _ _ hfI
 have KX₁:=KX.keeps hk
 have hget:=C9 h C rest
 have hcC:(Value.ref C :: bm).contains (.ref C)=true:=by simp
 show wpAny _ _ _ _ _ (⟨nQ h C rest,g,d,t,os⟩:Shared)
 unfold isInstance
 repeat (first | with_reducible refine wpAny_loadPart_at hget ?_ | (with_reducible refine wpAny_isSubtype_exc hC₁ ?_;rw [hcC]) | wp_step)
 show wpAny _ _ (typeLookup (.ref C) _) _ _ _
 refine (PySem.W.looks_findIn KX₁ hi).here ?_
 refine wpAny_holding (wpAny_bind ?_)
 unfold bindSpecial
 refine wpAny_bind (wpAny_typeOf (T:="function") ⟨_,hfI₁,hfc⟩ ?_)
 rw [if_pos (by decide)]
 refine wpAny_pure (wpAny_bind (wpAny_mono hq (fun r s' hr=>?_) fun _ _ x=>x))
 obtain ⟨rfl,hQ⟩:=hr
 wp_walk
 exact hQ
theorem Uy (V:yD bm) {K:PySem.W.Frag} {rest:List Value} {fI:Addr} {oI:Obj} {Q:Value->Shared->Prop} (KX:K.In h)
  (hC:h.get? C=some (excClassObj nm q C N bs bm hdct sn sub ab col dd k0 k1 k2 k3 k5 "ValueError.__new__")) (hi:PySem.W.findIn K (.ref C) "__init__"=some (some (.ref fI)))
  (hfI:h.get? fI=some oI) (hfc:oI.cls=.type "function")
  (hq:wpAny (model prog w) (A.under (.builtin "type.__call__" ⟨.ref C :: rest,[]⟩)) (call (.ref fI) (.ref (h.objs.size + 1) :: rest)) (fun r s'=>r=.none/\Q (.ref (h.objs.size + 1)) s') E ⟨nQ h C rest,g,d,t,os⟩) (hrest:rest.length<=sizeLine) :
  wpAny (model prog w) A (call (.ref C) rest) Q E ⟨h,g,d,t,os⟩:=by
 have f1:=tc_lookup
 have f2:=tc_bind (.ref C)
 have hT:(⟨h,g,d,t,os⟩:Shared).TypeIs (.ref C) "type":=⟨_,hC,rfl⟩
 refine wpAny_call (codeAny_of_tree ?_)
 show wpAny _ _ (callAny (.ref C) _) _ _ _
 repeat (any_goals (first | assumption | with_reducible refine wpAny_loadPart_at hC ?_ | wp_step))
 refine ⟨rfl,?_⟩
 refine codeAny_call_builtin_at (Code.quiet_builtin _ (by decide +kernel)) entry_typeCall (wpAny_check_type_call_sub hC (HN V KX hC hi hfI hfc ?_ hrest))
 exact hq
end
end L2
namespace L2
open PySem PySem.Spec
open Builtin Builtin.ObjectAttr
section
variable {prog:Program} {w:World} {A:Around} {E:Value->Shared->Prop} {h:Heap} {g:Array GenState} {d:Drawn} {t:Nat} {os:OsState}
variable {nm q:Str} {C N R x:Addr} {bs:List Value} {sn:List Str} {sub:List Value} {ab:Bool} {col:Option Bool} {dd:Option Addr} {k0 k1 k2 k3 k5:Option Value} {K:PySem.W.Frag} {name:Str} {v:Value}
abbrev oB (R:Addr):List Value:=.ref R :: Wx
theorem Ui (R:Addr):yD (oB R):=⟨rfl,rfl,rfl,rfl⟩
theorem QO {M:Model} {o:Obj} {nameV:Value} {Q:Unit->Shared->Prop} (hC:h.get? C=some (excClassObj nm q C N bs (oB R) true sn sub ab col dd k0 k1 k2 k3 k5 "ValueError.__new__")) (hx:h.get? x=some o) (hc:o.cls=.ref C) (hq:Q () ⟨h,g,d,t,os⟩) :
  wpAny M A (checkBuiltinCall "object.__setattr__" ⟨[.ref x,nameV,v],[]⟩) Q E ⟨h,g,d,t,os⟩:=by
 have hcB:(Value.ref C :: oB R).contains (.type "object")=true:=by rw [List.contains_cons];rfl
 have SF:=PySem.F.store_ValueError
 have ha:=SF.args (.ref x) nameV v
 simp only [checkBuiltinCall,SF.kind,SF.split]
 refine wpAny_bind ?_
 ·unfold isInstance
  repeat (first | (with_reducible refine wpAny_loadPart_at hx ?_;rw [hc]) | (with_reducible refine wpAny_isSubtype_exc hC ?_;rw [hcB]) | wp_step)
  exact hq
theorem Q7 {o:Obj} {Q:Unit->Shared->Prop} (KX:K.In h)
  (hC:h.get? C=some (excClassObj nm q C N bs (oB R) true sn sub ab col dd k0 k1 k2 k3 k5 "ValueError.__new__"))
  (hsa:PySem.W.findIn K (.ref C) "__setattr__"=some (some (.builtin "object.__setattr__"))) (hna:PySem.W.findIn K (.ref C) name=some none)
  (hx:h.get? x=some o) (hc:o.cls=.ref C) (hnc:∀ c,o.data≠.cls c) (hdn:o.dict=none)
  (hq:∀ h' tk',h'.Ns1 h.objs.size (fun y=>if y=name then some v else none)->h'.get? x=some { o with dict:=some h.objs.size }->(∀ b ob,b≠x->h.get? b=some ob->h'.get? b=some ob)->Q () ⟨h',g,d,tk',os⟩) :
  wpAny (model prog w) A (setAttr (.ref x) name v) Q E ⟨h,g,d,t,os⟩:=by
 have SF:=PySem.F.store_ValueError
 have f3:=SF.slot.bind (.ref x)
 have hpass:refuseLoop (.ref x) "__setattr__" (.ref C :: oB R)=pure ():=by rw [refuseLoop_ref,refuseLoop_ref];exact SF.passes (.ref x)
 have L1:∀ {h':Heap} {t':Nat} {A':Around} {Q':Option Value->Shared->Prop} {E':Value->Shared->Prop},(∀ b o,h.get? b=some o->h'.get? b=some o)->Q' (some (.builtin "object.__setattr__")) ⟨h',g,d,t',os⟩->wpAny (model prog w) A' (typeLookup (.ref C) "__setattr__") Q' E' ⟨h',g,d,t',os⟩ :=
  fun k z=>(PySem.W.looks_findIn (KX.keeps k) hsa).here z
 have L2':∀ {t':Nat} {A':Around} {Q':Option Value->Shared->Prop} {E':Value->Shared->Prop},Q' none ⟨h,g,d,t',os⟩->wpAny (model prog w) A' (typeLookup (.ref C) name) Q' E' ⟨h,g,d,t',os⟩ :=
  fun z=>(PySem.W.looks_findIn KX hna).here z
 have entry:∀ {tk:Tok} {t':Nat} {A':Around} {Q':Fin->Shared->Prop} {E':Value->Shared->Prop},
   (∀ h' tk',h'.Ns1 h.objs.size (fun y=>if y=name then some v else none)->h'.get? x=some { o with dict:=some h.objs.size }->(∀ b ob,b≠x->h.get? b=some ob->h'.get? b=some ob)->Q' (.done (.ret .none)) ⟨h',g,d,tk',os⟩) ->
   wpAny (model prog w) A' (Builtin.«object.__setattr__» ⟨[.ref x,.str name tk,v],[]⟩) Q' E' ⟨h,g,d,t',os⟩:=by
  intro tk t' A' Q' E' hq
  unfold Builtin.«object.__setattr__»
  repeat (first | rw [refuse_eq] | (rw [hpass]) | (with_reducible refine wpAny_loadPart_at hx ?_;rw [hc]) | with_reducible refine wpAny_mroOf_exc hC ?_ | (with_reducible refine L2' ?_) | wp_step)
  rw [hdn,if_neg (by simp [typeHasDict])]
  split
  ·rename_i hcd
   cases hcd
  split
  ·rename_i c hcd
   exact absurd hcd (hnc c)
  ·have hx₁:(h.push { cls:=.type "dict",data:=.dict #[] }).get? x=some o:=Heap.get?_push_of_some _ hx
   have hxs:x≠h.objs.size:=Nat.ne_of_lt (Heap.lt_size hx)
   refine wpAny_bind (wpAny_alloc' ?_)
   refine wpAny_bind (wpAny_update' hx₁ ?_)
   refine wpAny_pure ?_
   have hgd:((h.push { cls:=.type "dict",data:=.dict #[] }).update x fun o=>{ cls:=o.cls,dict:=some h.objs.size,data:=o.data,slots:=o.slots }).get? h.objs.size
     = some { cls:=.type "dict",data:=.dict #[] } :=
    (Heap.get?_update_ne _ _ _ _ hxs.symm).trans (Heap.get?_push_at rfl rfl)
   have hnd:((h.push { cls:=.type "dict",data:=.dict #[] }).update x fun o=>{ cls:=o.cls,dict:=some h.objs.size,data:=o.data,slots:=o.slots }).Ns h.objs.size (fun _=>none) :=
    ⟨_,#[],_,hgd,rfl,fun e he=>absurd he (by simp),fun _=>rfl⟩
   show wpAny _ _ (storeInDict h.objs.size (.str name tk) name v) _ _ _
   unfold storeInDict newKeyGuard
   refine wpAny_bind (wpAny_pure (wpAny_bind (wpAny_nsSet1 (Heap.Ns1.of_empty hnd) fun h' hn' hs=>?_)))
   obtain ⟨oD,esD,epD,hoD,hdD,hcD⟩:=hn'.count (Within.cons name v Within.nil)
   refine wpAny_bind (wpAny_lookBehind hoD (by rw [hdD];exact pastItsLine_dict (Nat.le_trans hcD (by rw [List.length_cons,List.length_nil,sizeLine_eq];omega))) ?_)
   wp_walk
   refine hq h' _ hn' ?_ (fun b ob hbx hb=>?_)
   ·refine (hs.2 x hxs).trans (Heap.get?_update_self _ hx₁ ?_)
    have hfr:=(Heap.get?_some_iff.mp hx).2
    obtain ⟨oc,od,odt,osl⟩:=o
    cases odt <;> first | rfl | exact hfr
   ·exact (hs.2 b (Nat.ne_of_lt (Heap.lt_size hb))).trans ((Heap.get?_update_ne _ _ _ _ hbx).trans (Heap.get?_push_of_some _ hb))
 unfold setAttr callSpecial? specialOf
 repeat (any_goals (first | assumption | (with_reducible refine wpAny_loadPart_at hx ?_;rw [hc]) | (with_reducible refine L1 (fun _ _ z=>z) ?_) | wp_step))
 refine codeAny_call_builtin SF.slot.plain SF.entry (QO hC hx hc (entry fun h' tk' a1 a2 a3=>?_))
 repeat (any_goals (first | assumption | wp_step))
 exact hq h' tk' a1 a2 a3
def m9 (C t:Addr) (dx:Option Addr):Obj:={ cls:=.ref C,dict:=dx,data:=.fields #[.ref t,.none,.none,.none,.bool false,.none] }
theorem SW {t0:Addr} {rest:List Value} {Q:Value->Shared->Prop}
  (hC:h.get? C=some (excClassObj nm q C N bs (oB R) true sn sub ab col dd k0 k1 k2 k3 k5 "ValueError.__new__")) (hx:h.get? x=some (m9 C t0 none)) (hrest:rest.length<=sizeLine)
  (hq:∀ h',h'.get? x=some (m9 C h.objs.size none)->(∀ b ob,b≠x->h.get? b=some ob->h'.get? b=some ob)->Q .none ⟨h',g,d,t,os⟩) :
  wpAny (model prog w) A (call (.builtin "ValueError.__init__") (.ref x :: rest)) Q E ⟨h,g,d,t,os⟩:=by
 have hcB:(Value.ref C :: oB R).contains (.type "ValueError")=true:=by rw [List.contains_cons];rfl
 have hshort:=vF.noStar
 unfold m9 at hx
 have chk:∀ {A':Around} {E':Value->Shared->Prop} {Q':Unit->Shared->Prop},Q' () ⟨h,g,d,t,os⟩->wpAny (model prog w) A' (checkBuiltinCall "ValueError.__init__" ⟨.ref x :: rest,[]⟩) Q' E' ⟨h,g,d,t,os⟩:=by
  intro A' E' Q' hq
  simp only [checkBuiltinCall,vF.initKind,vF.initSplit,vF.initRow]
  repeat (first | (with_reducible refine wpAny_loadPart_at hx ?_) | with_reducible refine wpAny_loadPart_at hC ?_ | (with_reducible refine wpAny_isSubtype_exc hC ?_;rw [hcB]) | wp_step)
  refine wpAny_onRaise ?_
  rw [show ∀ (a b:String) (n:Nat),Bind.check ⟨.positional,"*","ValueError",.self,[⟨"args",.varPos,false⟩]⟩ a b n (List.map (fun x=>x.fst) ({ pos:=Value.ref x :: rest }:Args).kw)=pure () from
   fun a b n=>check_star_args _ _ _ _ _ _]
  exact wpAny_pure hq
 refine wpAny_call (codeAny_call_builtin vF.init.plain vF.initEntry (chk ?_))
 have hx₁:=Heap.get?_push_of_some { cls:=.type "tuple",data:=.seq rest.toArray } hx
 unfold Builtin.«BaseException.__init__»
 wp_walk
 refine hq _ ?_ fun b ob hb e=>?_
 ·rw [Heap.get?_update_self _ hx₁ rfl];rfl
 ·rw [Heap.get?_update_other _ _ (Ne.symm hb)];exact Heap.get?_push_of_some _ e
end
end L2
namespace L2
open PySem PySem.Spec PyProof.Rows
structure kZ (k:Nat) (A:Around):Prop where
 dp:A.depth + 3 * k + 5 < recursionLimit
 un:A.units + 16 * k + 200 < cLine
theorem cW.h {k:Nat} {A:Around} (r:cW k A):kZ k A:=⟨r.dp,r.un⟩
theorem kZ.mono {j k:Nat} {A:Around} (r:kZ k A) (h:j<=k):kZ j A:=⟨by have:=r.dp;omega,by have:=r.un;omega⟩
theorem kZ.make {k:Nat} {A:Around} (r:kZ (k + 1) A) (C:Addr) (us:List Value) (kw:List (Str × Value)):kZ k (A.under (.builtin "type.__call__" ⟨.ref C :: us,kw⟩)) :=
 ⟨by have:=r.dp;rw [Ia];omega,by have:=r.un;rw [HV];omega⟩
structure lP (P:Program) (w:World) (K:PySem.W.Frag) (mg:Str->Option Value) (base:Heap) (CX:xN) (k:Nat) (f:Addr) (fd:FuncData) (ps:List Str) (sp:Sp):Prop where
 len:∀ vs H Q E,sp vs H Q E->vs.length=ps.length
 run:∀ (A:Around) (outer:List Env) (s:Shared) (H:Hp) (args:Args) (us:List Value) (vs:List V) (Q:VK) (E:XK),kZ k A->tJ P w K mg base A outer s H->BindsTo s fd args (ps.zip us)->Vals vs us->sp vs H Q E ->
  codeAny (model P w) A (.call (.ref f) args) (CR CX outer P w H s Q E) s
def Cx.unc (X:Cx):Cx:={ X with calm:=false }
def Around.ch (A:Around):Around:={ A with handled:=none }
theorem Uj {CX:xN} {P:Program} {w:World} {K:PySem.W.Frag} {mg:Str->Option Value} {base:Heap} {k:Nat} {f:Addr} {name qual:Str} {params:Arguments} {body:List Stmt} {scope:Scope} {dV kV doc pm cdv ct oc:Value} {an od:Option Addr}
  {osl:Array (Option Value)} {N ps:List Str} {sp:Sp} (lk:K.lookup f=some ⟨oc,od,.func (PySem.W.fnOf name qual params body scope dV kV doc pm an cdv ct),osl⟩) (hcd:PySem.W.codeIn K cdv qual=true) (S:aU N ps scope)
  (len:∀ vs H Q E,sp vs H Q E->vs.length=ps.length)
  (hbody:∀ (A:Around) (outer:List Env) (s:Shared) (H:Hp) (vs:List V) (Q:VK) (E:XK),sp vs H Q E ->
   ∃ t,lH (j0 CX P w K mg base N qual scope f cdv A outer s H E).unc body t/\t { nx:=fun _ H'=>Q .non H',rt:=Q } (start N vs) H) :
  lP P w K mg base CX (k + 1) f (PySem.W.fnOf name qual params body scope dV kV doc pm an cdv ct) ps sp:=by
 refine ⟨len,fun A outer s H args us vs Q E hr e0 hb r hsp=>?_⟩
 have hl:=len _ _ _ _ hsp
 have KX:K.In s.heap:=e0.mod.kin.keeps fun b o e=>(e0.bs b o e).1
 have lim:s.heap.NoLimit:=e0.mod.nolimit.keeps fun b o e=>(e0.bs b o e).1
 have hkind:∀ y∈ps.zip us,scope.names.lookup y.1=some .local\/(scope.names.lookup y.1=some .cell/\((cellsFrom (s.heap.objs.size + 1) scope.names []).lookup y.1).isSome=true):=fun ⟨n,v⟩ hy=>by
  rcases S.par n (List.of_mem_zip hy).1 with q | q
  ·exact .inl q
  ·exact .inr ⟨q,PySem.W.cellsFrom_some _ _ _ (.inl q)⟩
 refine codeAny_call_function (by have:=hr.dp;omega) (KX _ _ lk) rfl S.co S.gen rfl (PySem.W.codeRec_of KX hcd) (hb _ _ _ _ ?_)
 refine wpAny_newFunctionEnv_cells S.kind hkind fun env he s1 x=>?_
 subst he
 refine ⟨lim.keeps x.toInCall.keep,codeAny_func ?_⟩
 obtain ⟨t,ht,hq⟩:=hbody A outer s H vs Q E hsp
 have e1:tJ P w K mg base (Around.ch A) outer s H:=⟨e0.frames,e0.mod,e0.bs,e0.bsz,e0.funs,e0.frf,e0.hok,e0.bare⟩
 have I0:Inv (j0 CX P w K mg base N qual scope f cdv (Around.ch A) outer s H E) [] (start N vs) H s1:=xS S rfl e1 hl r x
 have I:Inv (j0 CX P w K mg base N qual scope f cdv A outer s H E).unc [] (start N vs) H s1 :=
  ⟨⟨I0.ok.mod,I0.ok.kind,I0.ok.glob,I0.ok.blt,I0.ok.above,I0.ok.inj,I0.ok.has,I0.ok.cab,(fun z=>nomatch z),I0.ok.frames,I0.ok.stk,I0.ok.exf,I0.ok.bs,I0.ok.bsz,I0.ok.noex,I0.ok.exfs,I0.ok.funs,I0.ok.frf⟩,I0.os,I0.bare,I0.base,I0.loc,I0.cell,I0.free,I0.freeC,I0.pin,I0.hok,I0.len⟩
 refine wpAny_mono (ht [] s1 (start N vs) H _ I hq) (fun fl s' hs=>?_) fun e s' hs=>hs
 have fin:∀ {σ':St} {H':Hp} {v:V} {u:Value},Inv (j0 CX P w K mg base N qual scope f cdv A outer s H E).unc [] σ' H' s'->RelV v u->Q v H'->CE outer P w H s Q u s' :=
  fun {σ' H' v u} J rv q=>⟨v,H',J.os,J.bare,J.base,J.hok,rv,q⟩
 cases fl with
 | ret u =>
  obtain ⟨v,σ',H',J,rv,q⟩:=hs
  exact fin J rv q
 | next =>
  obtain ⟨σ',H',J,q⟩:=hs
  exact fin (v:=V.non) (u:=Value.none) J rfl q
 | brk =>
  obtain ⟨_,_,_,q⟩:=hs
  exact False.elim q
 | cont =>
  obtain ⟨_,_,_,q⟩:=hs
  exact False.elim q
theorem b8.okH {P:Program} {w:World} {K:PySem.W.Frag} {mg:Str->Option Value} {base:Heap} {x qual:Str} {st:Stmt} {f:Addr} {fd:FuncData} {N ps:List Str} {k:Nat} {sp:Sp} (F:b8 K x qual st f fd) (S:aU N ps (aH st)) (len:∀ vs H Q E,sp vs H Q E->vs.length=ps.length)
  (hbody:∀ (cdv:Value) (A:Around) (outer:List Env) (s:Shared) (H:Hp) (vs:List V) (Q:VK) (E:XK),sp vs H Q E ->
   ∃ t,lH (j0 iU P w K mg base N qual (aH st) f cdv A outer s H E).unc.nox (cH st) t/\t { nx:=fun _ H'=>Q .non H',rt:=Q } (start N vs) H):lP P w K mg base iU (k + 1) f fd ps sp:=by
 obtain ⟨oc,od,kV,doc,pm,an,cdv,ct,osl,rfl,lk,hcd⟩:=F.ex
 refine Uj lk hcd S len fun A outer s H vs Q E hsp=>?_
 obtain ⟨t,h,q⟩:=hbody cdv A outer s H vs Q E hsp
 exact ⟨t,h.nox,q⟩
end L2
namespace L2
open PySem PySem.Spec PyProof.Rows
def eW (a C:Addr) (dx:Option Addr) (h:Heap):Prop:=∃ t,h.get? a=some (m9 C t dx)
theorem eW.obj {P:Program} {w:World} {H:Hp} {h:Heap} {a C:Addr} {dx:Option Addr} (x:eW a C dx h):dC P w H h a (.ext (eW a C dx)) :=
 ⟨x,let ⟨_,e⟩:=x;⟨_,e⟩,fun _ _ ⟨t,e⟩ k=>⟨t,k _ e⟩⟩
structure lN (K:PySem.W.Frag) (C R fI:Addr):Prop where
 obj:∃ nm q N bs sn sub ab col dd k0 k1 k2 k3 k5,K.lookup C=some (excClassObj nm q C N bs (oB R) true sn sub ab col dd k0 k1 k2 k3 k5 "ValueError.__new__")
 init:PySem.W.findIn K (.ref C) "__init__"=some (some (.ref fI))
 fn:PySem.W.isFn K (.ref fI)=true
 kp:PySem.W.keepIn K (.ref C)=true
 sa:PySem.W.findIn K (.ref C) "__setattr__"=some (some (.builtin "object.__setattr__"))
structure Am (K:PySem.W.Frag) (R:Addr):Prop where
 rd:PySem.W.readsIn K R (.type "type")=true
 ini:PySem.W.findCls K (.ref R) (.type "type") "__init__"=some (.val (.builtin "ValueError.__init__"))
 sp:PySem.W.specialIn K (.ref R) "__getattribute__"=some (some (.builtin "type.__getattribute__"))
section
variable {P:Program} {w:World} {H:Hp} {h h':Heap} {a d:Addr} {o:HO}
theorem dX.add (x:dX P w H h) (n:H d=none) (new:dC P w (upd H d o) h d o):dX P w (upd H d o) h:=fun b u e=>by
 by_cases hb:b=d
 ·subst hb;rw [bQ] at e;cases e;exact new
 ·rw [bC hb] at e
  exact (x b u e).stay (fun c v _ q=>q) (fun c q=>by rw [bC (bO q n)];exact q) fun c xs q=>by rw [bC (bO q n)];exact q
theorem Un.add {fs ex:List Addr} {H1:Hp} (u:Un fs ex H H1 h h') (hp:h.objs.size<=d) (n:H1 d=none):Un fs ex H (upd H1 d o) h h' where
 keep:=u.keep
 slot:=u.slot
 free:=fun b v q z hx=>by rw [bC (Nat.ne_of_lt (Nat.lt_of_lt_of_le (Heap.lt_size q) hp))];exact u.free b v q z hx
 there:=u.there
 tups:=fun b xs q=>by have:=u.tups b xs q;rw [bC (bO this n)];exact this
 frzs:=fun b v xs q=>by have:=u.frzs b v xs q;rw [bC (bO this n)];exact this
 tbls:=fun b ps q=>by obtain ⟨m,e⟩:=u.tbls b ps q;exact ⟨m,by rw [bC (bO e n)];exact e⟩
end
section
variable {X:Cx} {e1 e2:Expr} {t1 t2 ta tv:TE} {p pos apos pos':Pos} {r f:Str} {R:Addr}
def Wj (K:PySem.W.Frag) (R:Addr) (t1 t2:TE):TE:=fun σ H Q=>t1 σ H fun x H1=>t2 σ H1 fun y H2=>∃ a C fI,x=.ref a/\H2 a=some (.ext (eW a C none))/\lN K C R fI/\Q .non H2
theorem NQ {H:Hp} {a:Addr} {o:HO} (h:H a=some o):upd H a o=H:=by
 funext b;unfold upd;split
 ·rename_i e;subst e;exact h.symm
 ·rfl
theorem Rc {pl:Sem Bool} (hg:Gl X r) (hm:X.mg r=some (.ref R)) (B:Am X.K R) (h1:PE X e1 t1) (h2:PE X e2 t2) (hdb:(r == ("__debug__":Str))=false:=by decide)
  (hs1:starEach [e1,e2] X.env=[(false,eval e1 X.env),(false,eval e2 X.env)]:=by rfl) (hs2:starEach [e2] X.env=[(false,eval e2 X.env)]:=by rfl)
  (ht:eval (.Call (.Attribute (.Name r p) "__init__" apos) [e1,e2] [] pos) X.env=(do
   let ov <- eval (.Name r p) X.env
   standAt apos.atName
   let (f,first) <- holding [ov] (getMethod ov "__init__" pl)
   callWith pos f first (backTo pos (starEach [e1,e2] X.env)) (backToKw pos (keywordEach [] X.env))):=by rfl) :
  PE X (.Call (.Attribute (.Name r p) "__init__" apos) [e1,e2] [] pos) (Wj X.K R t1 t2):=by
 intro pins s σ H Q I h
 refine PySem.W.methodCall_KW (pl:=pl) (kH I hg hm ?_ hdb) ht
 refine PySem.W.method_cls I.kIn B.sp (PySem.W.cls_value I.kIn B.rd B.ini rfl ?_)
 have ha:PA X [e1,e2] (fun σ H Q=>t1 σ H fun x H1=>t2 σ H1 fun y H2=>Q [x,y] H2):=by
  have:=uW h1 (uW h2 Bj (by rw [hs2];rfl)) (by rw [hs1,hs2])
  intro pos pins s σ H Q I h
  exact this pos pins s σ H Q I h
 let Q1:List V->Hp->Prop:=fun vs H2=>match vs with | [x,y]=>(∃ a C fI,x=.ref a/\H2 a=some (.ext (eW a C none))/\lN X.K C R fI/\Q .non H2) | _=>False
 refine PyProof.Rows.callWith_builtin1 (aZ (ha pos pins _ σ H Q1 (I.tok _) h) fun us s1 ⟨vs,H1,I1,rv,q⟩=>?_) (by rw [hs1,hs2]) (by rw [hs2];rfl)
 match vs,rv,q with
 | [x,y],rv,⟨a,C,fI,ex,ea,hK,q⟩ =>
  obtain ⟨u1,u2,rfl,r1,r2⟩:=vals2 rv
  subst ex
  obtain rfl:u1=Value.ref a:=r1
  obtain ⟨nm,qq,N,bs,sn,sub,ab,col,dd,k0,k1,k2,k3,k5,hC⟩:=hK.obj
  obtain ⟨⟨t0,ht0⟩,_,_⟩:=I1.hok a _ ea
  obtain ⟨hh,g,d,t,os⟩:=s1
  refine SW (I1.kIn _ _ hC) ht0 (by show 1<=sizeLine;decide) fun h' e1 e2=>?_
  refine ⟨.non,H1,?_,rfl,q⟩
  have:=I1.write (h':=h') (t':=t) (x:=a) (e:=a) (o:=.ext (eW a C none)) (by rw [ea];trivial) (.inl rfl) e2 ⟨_,e1⟩ (eW.obj ⟨_,e1⟩)
  rw [NQ ea] at this
  exact this
def VG (K:PySem.W.Frag) (ta tv:TE) (f:Str):TS:=fun D σ H=>tv σ H fun y H1=>ta σ H1 fun x H2=>∃ a C,x=.ref a/\H2 a=some (.ext (eW a C none))/\(∃ R fI,lN K C R fI/\uF K C f)/\∀ d,H2 d=none->d≠a->D.nx σ (upd (upd H2 a (.ext (eW a C (some d)))) d (.xd [(f,y)]))
theorem Rm {o value:Expr} (ha:PE X o ta) (hv:PE X value tv) (hs:swapsWith value (some (.Attribute o f pos')) pos.line X.env=pure false):PS X (.Assign [.Attribute o f pos'] value pos) (VG X.K ta tv f):=by
 intro pins s σ H D I h
 refine plainObj_wpAny_Assign_Attribute (aZ (hv pins s σ H _ I h) fun u s1 ⟨y,H1,I1,ry,q⟩=>aZ (ha pins s1 σ H1 _ I1 q) fun ov s2 ⟨x,H2,I2,rx,a,C,ex,ea,c,q2⟩=>?_) hs
 subst ex
 obtain rfl:ov=Value.ref a:=rx
 obtain ⟨R,fI,c,n⟩:=c
 obtain ⟨nm,qq,N,bs,sn,sub,ab,col,dd,k0,k1,k2,k3,k5,hC⟩:=c.obj
 obtain ⟨⟨t0,ht0⟩,_,_⟩:=I2.hok a _ ea
 obtain ⟨hh,g,d,t,os⟩:=s2
 have hlt:a < hh.objs.size:=Heap.lt_size ht0
 have hfr:H2 hh.objs.size=none:=I2.hok.fresh (Nat.le_refl _)
 refine Q7 (o:=m9 C t0 none) I2.kIn (I2.kIn _ _ hC) c.sa n ht0 rfl (fun c z=>by cases z) rfl fun h' tk' hn hx hk=>?_
 refine ⟨σ,_,?_,q2 hh.objs.size hfr (Nat.ne_of_gt hlt)⟩
 have mu:LB (H2 a):=by rw [ea];trivial
 have nd:upd H2 a (.ext (eW a C (some hh.objs.size))) hh.objs.size=none:=by rw [bC (Nat.ne_of_gt hlt)];exact hfr
 have hok1:dX X.prog X.w (upd H2 a (.ext (eW a C (some hh.objs.size)))) h':=I2.hok.write mu (.inl rfl) hk ⟨_,hx⟩ (eW.obj ⟨_,hx⟩)
 have un1:Un X.fs [] H2 (upd H2 a (.ext (eW a C (some hh.objs.size)))) hh h':=Un.write mu (.inl rfl) hk ⟨_,hx⟩
 refine I2.un (t':=tk') (un1.add (Nat.le_refl _) nd) (hok1.add nd ⟨_,hn,fun f'=>?_⟩)
 by_cases hf:f'=f
 ·subst hf
  simp only [List.lookup,beq_self_eq_true,if_true]
  exact ry
 ·have:(f' == f)=false:=beq_eq_false_iff_ne.mpr hf
  simp only [List.lookup,this,if_neg hf]
  trivial
end
def kW (C:Addr) (attr:Str) (cond:V->Prop):Sp:=fun vs H Q E=>∃ a y,vs=[.ref a,y]/\H a=some (.ext (eW a C none))/\cond y/\∀ d,H d=none->d≠a->Q .non (upd (upd H a (.ext (eW a C (some d)))) d (.xd [(attr,y)]))
theorem Ht {P:Program} {w:World} {K:PySem.W.Frag} {mg:Str->Option Value} {base:Heap} {qual par attr rn:Str} {st:Stmt} {f C R:Addr} {fd:FuncData} {k:Nat} {e2:Expr} {cond:V->Prop} {t2:TE} {p1 p2 p3 p5 p6 p7 p8 p9 p10:Pos}
  (F:b8 K "__init__" qual st f fd) (hm:mg rn=some (.ref R)) (B:Am K R) (c:lN K C R f) (n:uF K C attr)
  (hb:cH st=[.Expr (.Call (.Attribute (.Name rn p1) "__init__" p2) [.Name "self" p3,e2] [] p5) p6,.Assign [.Attribute (.Name "self" p7) attr p8] (.Name par p9) p10])
  (S:aU ["self",par] ["self",par] (aH st)) (hg:(aH st).names.lookup rn=some .globalImplicit)
  (h2:∀ X:Cx,X.N=[("self":Str),par]->X.env.scope=aH st->X.mg=mg->PE X e2 t2) (ht2:∀ a y H Q,cond y->(∀ z,Q z H)->t2 [some (.ref a),some y] H Q)
  {pl:Env->Sem Bool} (ht:∀ env,eval (.Call (.Attribute (.Name rn p1) "__init__" p2) [.Name "self" p3,e2] [] p5) env=(do
   let ov <- eval (.Name rn p1) env
   standAt p2.atName
   let (f,first) <- holding [ov] (getMethod ov "__init__" (pl env))
   callWith p5 f first (backTo p5 (starEach [.Name "self" p3,e2] env)) (backToKw p5 (keywordEach [] env))):=by intro _;rfl)
  (hs1:∀ env,starEach [.Name "self" p3,e2] env=[(false,eval (.Name "self" p3) env),(false,eval e2 env)]:=by intro _;rfl) (hs2:∀ env,starEach [e2] env=[(false,eval e2 env)]:=by intro _;rfl)
  (hl1:(aH st).names.lookup ("self":Str)=some .local:=by rfl) (hl2:(aH st).names.lookup par=some .local:=by rfl) (hdb:(rn == ("__debug__":Str))=false:=by decide) (hpd:(par == ("__debug__":Str))=false:=by decide) (hpc:(par == ("__classdict__":Str))=false:=by decide)
  (hsw:∀ env,swapsWith (.Name par p9) (some (.Attribute (.Name "self" p7) attr p8)) p10.line env=pure false:=by intro _;rfl) :
  lP P w K mg base iU (k + 1) f fd ["self",par] (kW C attr cond):=by
 refine F.okH S (fun vs H Q E ⟨a,y,e,_⟩=>by rw [e];rfl) fun cdv A outer s H vs Q E ⟨a,y,e,ha,hy,hq⟩=>?_
 subst e
 rw [hb]
 let X:Cx:=(j0 iU P w K mg base ["self",par] qual (aH st) f cdv A outer s H E).unc.nox
 have ps:PE X (.Name "self" p3) (sY 0):=lV rfl (.inl hl1)
 have ps':PE X (.Name "self" p7) (sY 0):=lV rfl (.inl hl1)
 have pp:PE X (.Name par p9) (sY 1):=lV rfl (.inl hl2) hpd hpc
 refine ⟨_,Ef (GI (Rc (X:=X) hg hm B ps (h2 X rfl rfl rfl) hdb (hs1 _) (hs2 _) (ht _)) ) (Cm (Rm ps' pp (hsw _))),?_⟩
 refine ⟨_,rfl,ht2 a y H _ hy fun z=>⟨a,C,f,rfl,ha,c,?_⟩⟩
 exact ⟨_,rfl,_,rfl,a,C,rfl,ha,⟨R,f,c,n⟩,fun d h1 h2=>hq d h1 h2⟩
end L2
namespace L2
open PySem PySem.Spec PyProof.Rows
structure xO (fl:Value->Prop) (sz:Nat) (nw:Addr->Prop) (h:Heap) (a C d:Addr) (fs:List (Str × V)):Prop where
 sa:sz<=a
 na:nw a
 nd:nw d
 ad:a≠d
 obj:∃ oe vs T,h.get? a=some oe/\oe.cls=.ref C/\oe.dict=some d/\oe.data=.fields vs/\K4 fl h a vs T/\∀ T',T=some T'->sz<=T'/\nw T'/\T'≠d
 att:∃ mA,h.Ns1 d mA/\∀ f,Fy (fs.lookup f) (mA f)
 cx:fs.length=1->∀ oe vs,h.get? a=some oe->oe.data=.fields vs->vs[2]?=some .none
theorem K4.imp {fl fl':Value->Prop} {h:Heap} {e:Addr} {vs:Array Value} {T:Option Addr} (i:∀ v,fl v->fl' v) (t:K4 fl h e vs T):K4 fl' h e vs T:=by
 cases T with
 | none=>exact t
 | some T=>obtain ⟨h1,h2,oT,ts,v,h3,h4,h5,h6⟩:=t;exact ⟨h1,h2,oT,ts,v,h3,h4,h5,i v h6⟩
theorem xO.imp {fl fl':Value->Prop} {n n':Nat} {nw nw':Addr->Prop} {h:Heap} {a C d:Addr} {fs:List (Str × V)} (r:xO fl n nw h a C d fs) (hf:∀ v,fl v->fl' v) (hn:n'<=n) (i:∀ b,nw b->nw' b):xO fl' n' nw' h a C d fs :=
 ⟨Nat.le_trans hn r.sa,i _ r.na,i _ r.nd,r.ad,let ⟨oe,vs,T,h1,h2,h3,h4,h5,h6⟩:=r.obj;⟨oe,vs,T,h1,h2,h3,h4,h5.imp hf,fun T' e=>⟨Nat.le_trans hn (h6 T' e).1,i _ (h6 T' e).2.1,(h6 T' e).2.2⟩⟩,r.att,r.cx⟩
def pL (X:Cx) (pins:List (Addr × Obj)) (H:Hp) (b:Addr):Prop:=X.s₀.heap.get? b=none/\H b=none/\b≠X.env.locals/\∀ p∈X.pn++pins,p.1≠b
section
variable {X:Cx} {pins:List (Addr × Obj)} {σ:St} {H:Hp} {s:Shared} {a C d:Addr} {fs:List (Str × V)}
theorem pL.of (I:Inv X pins σ H s) (hx:X.ex=[]) {H':Hp} {b:Addr} (h:s.heap.get? b=none) (n:H' b=none):pL X pins H' b:=by
 refine ⟨?_,n,fun e=>?_,fun p hp e=>?_⟩
 ·cases q:X.s₀.heap.get? b with
  | none=>rfl
  | some o =>
   obtain ⟨o',e⟩:=I.base.there b o q (by rw [hx];simp)
   rw [h] at e;cases e
 ·obtain ⟨m,⟨o,es,ep,ho,r⟩,_⟩:=I.loc
  rw [<- e,h] at ho;cases ho
 ·have:=(I.pin p hp).1
  rw [e,h] at this;cases this
def WA (X:Cx) (v:Value):Prop:=v=.none\/v=rawInt X.env.locals
abbrev nZ (X:Cx) (pins:List (Addr × Obj)) (H:Hp) (h:Heap) (a C d:Addr) (fs:List (Str × V)):Prop:=xO (WA X) X.s₀.heap.objs.size (pL X pins H) h a C d fs
theorem pL.nofs (I:Inv X pins σ H s) {b:Addr} (n:pL X pins H b):b ∉ gA X.stack:=fun hb=>by
 rcases List.mem_cons.mp (I.stkSub b hb) with e | e
 ·exact n.2.2.1 e
 ·obtain ⟨_,o,ho,_⟩:=I.ok.funs.mem e
  rw [n.1] at ho;cases ho
theorem HS {M:Model} {E:Value->Shared->Prop} {Q:Unit->Shared->Prop} (I:Inv X pins σ H s) (hst:X.stack=X.env :: X.outer) (hf:X.env.frame=some X.env.locals) (hx:X.ex=[]) (r:nZ X pins H s.heap a C d fs)
  (h:∀ s',s'.os=s.os->Inv X pins σ H s'->nZ X pins H s'.heap a C d fs->(∃ oe vs T,s'.heap.get? a=some oe/\oe.data=.fields vs/\vs[1]?=some (.ref T))->Q () s') :
  wpAny M X.A (noteFrame (.ref a) X.env) Q E s:=by
 obtain ⟨oe,vs,T,e1,e2,e3,e4,e5,e6⟩:=r.obj
 obtain ⟨mA,n1,n2⟩:=r.att
 obtain ⟨od,esd,epd,f1,f2,f3⟩:=id n1
 have hsz:1 < vs.size:=by
  cases T with
  | none=>exact (Array.getElem?_eq_some_iff.mp (show vs[1]?=some .none from e5)).1
  | some T=>exact (Array.getElem?_eq_some_iff.mp e5.1).1
 by_cases hh:∃ T0,T=some T0/\∃ oT ts,s.heap.get? T0=some oT/\oT.data=.fields ts/\ts[3]?=some (rawInt X.env.locals)
 ·obtain ⟨T0,rfl,oT,ts,g1,g2,g3⟩:=hh
  unfold noteFrame
  simp only [hf]
  refine wpAny_bind (wpAny_field e1 e4 e5.1 ?_)
  rw [if_pos (show (Value.ref T0 != Value.none)=true from by simp)]
  refine wpAny_bind (wpAny_field g1 g2 g3 ?_)
  rw [if_pos (show (rawInt X.env.locals == rawInt X.env.locals)=true from by first | (simp;done) | exact beq_self_eq_true _)]
  exact wpAny_pure (h s rfl I r ⟨oe,vs,T0,e1,e4,e5.1⟩)
 have e5':K4 (fun v=>v=.none) s.heap a vs T:=by
  cases T with
  | none=>exact e5
  | some T0 =>
   obtain ⟨h1,h2,oT,ts,v,h3,h4,h5,h6⟩:=e5
   rcases h6 with rfl | rfl
   ·exact ⟨h1,h2,oT,ts,_,h3,h4,h5,rfl⟩
   ·exact absurd ⟨T0,rfl,oT,ts,h3,h4,h5⟩ hh
 by_cases hT0:∃ T0,T=some T0/\False
 ·obtain ⟨_,_,z⟩:=hT0;exact z.elim
 have main:∀ h' T' oT ts,(∀ b o,s.heap.get? b=some o->b≠a->T≠some b->(b ∉ gA (X.env :: X.outer)->h'.get? b=some o)/\∃ sl,h'.get? b=some { o with slots:=sl })->h'.get? a=some (oe.mapFields (·.setIfInBounds 1 (.ref T')))->s.heap.objs.size<=T'->h'.get? T'=some oT->oT.data=.fields ts->ts[3]?=some (rawInt X.env.locals)->Q () { s with heap:=h' }:=by
  intro h' T' oT ts k1 k2 k3 k4 k5 k6
  rw [<- hst] at k1
  have nT:∀ T'',T=some T''->pL X pins H T'':=fun T'' e=>(e6 T'' e).2.1
  have kt:∀ b o,s.heap.get? b=some o->H b≠none->h'.get? b=some o:=fun b o e hb =>
   (k1 b o e (fun z=>hb (by rw [z];exact r.na.2.1)) (fun z=>hb (nT b z).2.1)).1 fun z=>hb (I.stkFree b z)
  have kd:h'.get? d=some od:=(k1 d od f1 (Ne.symm r.ad) (fun z=>(e6 d z).2.2 rfl)).1 (r.nd.nofs I)
  have un:Un (gA X.stack) (a :: T.toList) H H s.heap h':=by
   have hch:∀ b,b ∉ a :: T.toList->b≠a/\T≠some b:=fun b hb=>⟨fun z=>hb (by rw [z];exact List.mem_cons_self),fun z=>hb (by rw [z];exact List.mem_cons_of_mem _ List.mem_cons_self)⟩
   exact ⟨fun b o e _ hb hc=>(k1 b o e (hch b hc).1 (hch b hc).2).1 hb,fun b o e _ _ hc=>(k1 b o e (hch b hc).1 (hch b hc).2).2,fun _ _ _ n _=>n,
    fun b o e hc=>let ⟨sl,q⟩:=(k1 b o e (hch b hc).1 (hch b hc).2).2;⟨_,q⟩,fun _ _ q=>q,fun _ _ _ q=>q,fun _ ps q=>⟨#[],by rw [q];simp⟩⟩
  have hok:dX X.prog X.w H h':=fun b o e=>(I.hok b o e).stay (fun c u hc q=>kt c u q (by
   rcases hc with rfl | hc
   ·rw [e];exact fun z=>nomatch z
   ·rw [hc];exact fun z=>nomatch z) ) (fun _ q=>q) fun _ _ q=>q
  have ncell:∀ b:Addr,(∃ o vs,s.heap.get? b=some o/\o.data=.fields vs)->∀ x c,X.env.cells.lookup x=some c->c≠b:=fun b ⟨o,vs,q1,q2⟩ x c e z=>by
   obtain ⟨v,oc,g1,g2⟩:=I.cell x c e
   rw [z,q1] at g1;cases g1;rw [q2] at g2;cases g2
  have I':Inv X pins σ H { s with heap:=h' }:=I.call (g':=s.gens) (t':=s.toks) (d':=s.drawn) un hok I.bare fun b hb=>by
   rcases List.mem_cons.mp hb with rfl | hb
   ·exact ⟨.inr r.sa,r.na.2.2.1,ncell b ⟨_,_,e1,e4⟩,r.na.2.2.2⟩
   ·cases T with
    | none=>cases hb
    | some T =>
     obtain rfl:b=T:=by simpa using hb
     obtain ⟨_,_,oT0,ts0,v0,g1,g2,_⟩:=e5
     exact ⟨.inr (e6 b rfl).1,(nT b rfl).2.2.1,ncell b ⟨_,_,g1,g2⟩,(nT b rfl).2.2.2⟩
  have cx2:fs.length=1->∀ oe vs,h'.get? a=some oe->oe.data=.fields vs->vs[2]?=some .none:=fun hl oe2 vs2 q1 q2=>by
   rw [k2] at q1;cases q1
   rw [Obj.data_mapFields e4] at q2;cases q2
   have:=r.cx hl oe vs e1 e4
   rw [Array.getElem?_setIfInBounds_ne (by decide)]
   exact this
  refine h _ rfl I' ⟨r.sa,r.na,r.nd,r.ad,⟨_,_,some T',k2,?_,?_,Obj.data_mapFields e4 _,⟨?_,?_,oT,ts,_,k4,k5,k6,.inr rfl⟩,?_⟩,⟨mA,⟨od,esd,epd,kd,f2,f3⟩,n2⟩,cx2⟩ ⟨_,_,T',k2,Obj.data_mapFields e4 _,by simp [hsz]⟩
  ·rw [Obj.cls_mapFields];exact e2
  ·obtain ⟨oc,odi,odt,osl⟩:=oe
   cases odt <;> exact e3
  ·simp [hsz]
  ·exact fun z=>absurd (Heap.lt_size e1) (by rw [<- z];exact Nat.not_lt.mpr k3)
  ·intro T'' e
   cases e
   exact ⟨Nat.le_trans I.sz k3,pL.of I hx (Heap.get?_none_of_le k3) (I.hok.fresh k3),fun z=>absurd (Heap.lt_size f1) (by rw [<- z];exact Nat.not_lt.mpr k3)⟩
 cases T with
 | none =>
  have h1:vs[1]?=some .none:=e5
  unfold noteFrame
  simp only [hf]
  refine wpAny_bind (wpAny_field e1 e4 h1 ?_)
  rw [if_neg (by decide)]
  exact Fu (base:=X.base) (L:=X.env.locals) (by rw [<- hst];exact I.ok.frames) (by rw [<- hst];exact I.stack) hf e1 e4 hsz fun h' T' oT ts a1 a2 a3 a4 a5 a6=>main h' T' oT ts (fun b o q ne _=>a1 b o q ne) a2 a3 a4 a5 a6
 | some T0 =>
  obtain ⟨h1,hTe,oT,ts,v,hT,hdT,h3,rfl⟩:=e5'
  unfold noteFrame
  simp only [hf]
  refine wpAny_bind (wpAny_field e1 e4 h1 ?_)
  rw [if_pos (show (Value.ref T0 != Value.none)=true from by simp)]
  refine wpAny_bind (wpAny_field hT hdT h3 ?_)
  rw [if_neg (show ¬ ((Value.none == rawInt X.env.locals)=true) from by simp [rawInt])]
  refine wpAny_bind (wpAny_setField hT hdT (Array.getElem?_eq_some_iff.mp h3).1 ?_)
  have other:∀ b,b≠T0->(s.heap.update T0 (Obj.mapFields (·.setIfInBounds 3 Value.none))).get? b=s.heap.get? b:=fun b hb=>Heap.get?_update_other _ _ (Ne.symm hb)
  have noRecord:∀ b o,s.heap.get? b=some o->(∀ vs,o.data≠.fields vs)->b≠T0:=fun b o hb hnf q=>by
   rw [q,hT] at hb;injection hb with hb;subst hb;exact hnf ts hdT
  have hl:s.heap.FunFrames X.base (X.env :: X.outer):=by rw [<- hst];exact I.stack
  exact Fu (base:=X.base) (L:=X.env.locals) (by rw [<- hst];exact I.ok.frames) (hl.of_keeps fun b o hb hnf=>⟨o,(other b (noRecord b o hb hnf)).trans hb,rfl⟩) hf ((other a (Ne.symm hTe)).trans e1) e4 hsz
   fun h' T' oT' ts' a1 a2 a3 a4 a5 a6=>main h' T' oT' ts' (fun b o q ne nT=>a1 b o ((other b fun z=>nT (by rw [z])).trans q) ne) a2 (by rw [Heap.size_after_update] at a3;exact a3) a4 a5 a6
theorem yP {M:Model} {A:Around} {E:Value->Shared->Prop} {Q:Unit->Shared->Prop} (fr:Option Addr) (I:Inv X pins σ H s) (hex:X.ex=[]) (r:nZ X pins H s.heap a C d fs)
  (h:∀ s',Inv X pins σ H s'->xO (fun v=>v=fr.elim .none fun f=>rawInt f) X.s₀.heap.objs.size (pL X pins H) s'.heap a C d fs->Q () s'):wpAny M A (setFlight (.ref a) fr) Q E s:=by
 obtain ⟨oe,vs,T,e1,e2,e3,e4,e5,e6⟩:=r.obj
 obtain ⟨mA,n1,n2⟩:=r.att
 obtain ⟨od,esd,epd,f1,f2,f3⟩:=id n1
 cases T with
 | none =>
  unfold setFlight
  refine wpAny_bind (wpAny_field e1 e4 (show vs[1]?=some .none from e5) ?_)
  rw [if_neg (by decide)]
  exact wpAny_pure (h s I ⟨r.sa,r.na,r.nd,r.ad,⟨oe,vs,none,e1,e2,e3,e4,e5,e6⟩,r.att,r.cx⟩)
 | some T =>
  obtain ⟨t1,t2,oT,ts,v,t3,t4,t5,t6⟩:=e5
  obtain ⟨T1,T2,T3⟩:=e6 T rfl
  unfold setFlight
  refine wpAny_bind (wpAny_field e1 e4 t1 ?_)
  rw [if_pos (show (Value.ref T != Value.none)=true from by simp)]
  refine wpAny_setField t3 t4 (Array.getElem?_eq_some_iff.mp t5).1 ?_
  generalize hw:(fr.elim Value.none fun f=>rawInt f)=w
  have oth:∀ b,b≠T->(s.heap.update T (Obj.mapFields (·.setIfInBounds 3 w))).get? b=s.heap.get? b:=fun b hb=>Heap.get?_update_other _ _ (Ne.symm hb)
  have self:=Heap.get?_update_self (Obj.mapFields (·.setIfInBounds 3 w)) t3 (Obj.isFreed_of_fields (Obj.data_mapFields t4 _))
  have un:Un (gA X.stack) [T] H H s.heap (s.heap.update T (Obj.mapFields (·.setIfInBounds 3 w))):=by
   have ne:∀ b,b ∉ [T]->b≠T:=fun b hb z=>hb (by rw [z];exact List.mem_cons_self)
   exact ⟨fun b o e _ _ hc=>(oth b (ne b hc)).trans e,fun b o e _ _ hc=>⟨o.slots,(oth b (ne b hc)).trans e⟩,fun _ _ _ n _=>n,fun b o e hc=>⟨o,(oth b (ne b hc)).trans e⟩,fun _ _ q=>q,fun _ _ _ q=>q,fun _ ps q=>⟨#[],by rw [q];simp⟩⟩
  have hok:dX X.prog X.w H (s.heap.update T (Obj.mapFields (·.setIfInBounds 3 w))):=fun b o e=>(I.hok b o e).stay (fun c u hc q=>(oth c (by
   rintro rfl
   rcases hc with rfl | hc
   ·rw [T2.2.1] at e;cases e
   ·rw [T2.2.1] at hc;cases hc)).trans q) (fun _ q=>q) fun _ _ q=>q
  have I':Inv X pins σ H { s with heap:=s.heap.update T (Obj.mapFields (·.setIfInBounds 3 w)) }:=I.call (g':=s.gens) (t':=s.toks) (d':=s.drawn) un hok I.bare fun b hb=>by
   obtain rfl:b=T:=by simpa using hb
   have nc:∀ x c,X.env.cells.lookup x=some c->c≠b:=fun x c e z=>by
    obtain ⟨v,oc,g1,g2⟩:=I.cell x c e
    rw [z,t3] at g1;cases g1;rw [t4] at g2;cases g2
   exact ⟨.inr T1,T2.2.2.1,nc,T2.2.2.2⟩
  subst hw
  refine h _ I' ⟨r.sa,r.na,r.nd,r.ad,⟨oe,vs,some T,(oth a (Ne.symm t2)).trans e1,e2,e3,e4,⟨t1,t2,_,_,_,self,Obj.data_mapFields t4 _,?_,rfl⟩,fun T' e=>by cases e;exact ⟨T1,T2,T3⟩⟩,⟨mA,⟨od,esd,epd,(oth d (Ne.symm T3)).trans f1,f2,f3⟩,n2⟩,fun hl oe2 vs2 q1 q2=>r.cx hl oe2 vs2 ((oth a (Ne.symm t2)).symm.trans q1) q2⟩
  have:=(Array.getElem?_eq_some_iff.mp t5).1
  simp [this]
theorem JR {M:Model} {E:Value->Shared->Prop} {Q:Unit->Shared->Prop} (I:Inv X pins σ H s) (hst:X.stack=X.env :: X.outer) (hf:X.env.frame=some X.env.locals) (hx:X.ex=[]) (r:nZ X pins H s.heap a C d fs)
  (h:∀ s',Inv X pins σ H s'->xO (fun v=>v=.none) X.s₀.heap.objs.size (pL X pins H) s'.heap a C d fs->Q () s') :
  wpAny M X.A (noteFrame (.ref a) X.env) (fun _ s₂=>wpAny M X.A (setFlight (.ref a) none) Q E s₂) E s :=
 HS I hst hf hx r fun s1 _ I1 r1 _=>yP none I1 hx r1 fun s2 I2 r2=>h s2 I2 r2
theorem xO.any {X:Cx} {n:Nat} {nw:Addr->Prop} {h:Heap} {a C d:Addr} {fs:List (Str × V)} (r:xO (fun v=>v=.none) n nw h a C d fs):xO (WA X) n nw h a C d fs:=r.imp (fun _ e=>.inl e) (Nat.le_refl _) fun _ z=>z
end
end L2
namespace L2
open PySem PySem.Spec PyProof.Rows
def sF (P:Program) (w:World):xN:=fun outer H s E e s'=>∃ a C d fs H',e=.ref a/\s'.os=s.os/\AllBare s'.gens/\Un (gA outer) [] H H' s.heap s'.heap/\dX P w H' s'.heap /\
 xO (fun v=>v=.none) s.heap.objs.size (fun b=>s.heap.get? b=none/\H' b=none) s'.heap a C d fs/\E (.ref C) (some d) (upd H' d (.xd fs))
abbrev XS:=Value->Option Addr->St->Hp->Prop
def XP (X:Cx) (pins:List (Addr × Obj)) (E:XS) (e:Value) (s':Shared):Prop:=∃ a C d fs σ' H',e=.ref a/\Inv X pins σ' H' s'/\nZ X pins H' s'.heap a C d fs/\E (.ref C) (some d) σ' (upd H' d (.xd fs))
abbrev jI:=Ends->XS->St->Hp->Prop
abbrev LS:=St->Hp->VK->XS->Prop
def xK (X:Cx) (e:Expr) (t:LS):Prop :=
 ∀ (pins:List (Addr × Obj)) (s:Shared) (σ:St) (H:Hp) (Q:VK) (E:XS),Inv X pins σ H s->t σ H Q E->wpAny (model X.prog X.w) X.A (eval e X.env) (EP X pins σ Q) (XP X pins E) s
def uV (X:Cx) (st:Stmt) (t:jI):Prop :=
 ∀ (pins:List (Addr × Obj)) (s:Shared) (σ:St) (H:Hp) (D:Ends) (E:XS),Inv X pins σ H s->t D E σ H->wpAny (model X.prog X.w) X.A (exec st X.env) (SP X pins D) (XP X pins E) s
def kL (X:Cx) (st:List Stmt) (t:jI):Prop :=
 ∀ (pins:List (Addr × Obj)) (s:Shared) (σ:St) (H:Hp) (D:Ends) (E:XS),Inv X pins σ H s->t D E σ H->wpAny (model X.prog X.w) X.A (execs st X.env) (SP X pins D) (XP X pins E) s
section
variable {X:Cx} {e:Expr} {te:TE} {tx:LS} {st:Stmt} {rest a b:List Stmt} {t u:TS} {t' u':jI} {pos:Pos}
abbrev sO (X:Cx):Prop:=X.xe=fun _ _=>False
theorem Si (hx:sO X) (h:PS X st t):uV X st (fun D _ σ H=>t D σ H):=fun pins s σ H D E I q=>wpAny_mono (h pins s σ H D I q) (fun _ _ z=>z) fun _ _ z=>by rw [hx] at z;exact z.elim
theorem Qg (hx:sO X) (h:lH X rest t):kL X rest (fun D _ σ H=>t D σ H):=fun pins s σ H D E I q=>wpAny_mono (h pins s σ H D I q) (fun _ _ z=>z) fun _ _ z=>by rw [hx] at z;exact z.elim
def WR (t u:jI):jI:=fun D E σ H=>t { D with nx:=u D E } E σ H
theorem KH (h1:uV X st t') (h2:kL X rest u'):kL X (st :: rest) (WR t' u'):=by
 intro pins s σ H D E I h
 refine wpAny_execs_cons (aZ (h1 pins s σ H { D with nx:=u' D E } E I h) fun f s1 q=>?_)
 cases f with
 | next =>
  obtain ⟨σ',H',I',q⟩:=q
  exact h2 pins s1 σ' H' D E I' q
 | ret v=>exact q
 | brk=>exact q
 | cont=>exact q
theorem Ek (h1:uV X st t'):kL X [st] t':=by
 intro pins s σ H D E I h
 refine wpAny_execs_cons (aZ (h1 pins s σ H D E I h) fun f s1 q=>?_)
 cases f with
 | next=>exact wpAny_execs_nil q
 | ret v=>exact q
 | brk=>exact q
 | cont=>exact q
def W0 (c:TT) (t u:jI):jI:=fun D E σ H=>c σ H fun b H1=>if b=true then t D E σ H1 else u D E σ H1
theorem SM {c:Expr} {tc:TT} (hx:sO X) (hc:PT X c tc) (ha:kL X a t') (hb:kL X b u'):uV X (.If c a b pos) (W0 tc t' u'):=by
 intro pins s σ H D E I h
 refine wpAny_If (wpAny_mono (hc pins s σ H _ I h) (fun d s1 ⟨H1,I1,q1⟩=>?_) fun _ _ z=>by rw [hx] at z;exact z.elim)
 cases d with
 | true=>exact ha pins s1 σ H1 D E I1 q1
 | false=>exact hb pins s1 σ H1 D E I1 q1
theorem N8 (he:xK X e tx) (hs:swapsWith e none pos.line X.env=pure false:=by rfl):uV X (.Expr e pos) (fun D E σ H=>tx σ H (fun _ H1=>D.nx σ H1) E):=by
 intro pins s σ H D E I h
 exact wpAny_Expr_any (aZ (he pins s σ H _ E I h) fun v s1 ⟨x,H1,I1,r1,q1⟩=>⟨σ,H1,I1,q1⟩) I.quiet hs
theorem QE (he:xK X e tx):uV X (.Return (some e) pos) (fun D E σ H=>tx σ H D.rt E):=by
 intro pins s σ H D E I h
 exact wpAny_Return_some (aZ (he pins s σ H _ E I h) fun v s1 ⟨x,H1,I1,r1,q1⟩=>⟨x,σ,H1,I1,r1,q1⟩)
theorem Rb {i:Nat} {x:Str} {pos':Pos} (hN:X.N.Nodup) (hi:X.N[i]?=some x) (hx:Loc X.env.scope x) (he:xK X e tx) (hs:swapsWith e (some (.Name x pos')) pos.line X.env=pure false:=by rfl) (hf:X.fn x=true\/X.env.scope.names.lookup x=some .local:=by first | exact .inl rfl | exact .inr rfl | assumption) :
  uV X (.Assign [.Name x pos'] e pos) (fun D E σ H=>tx σ H (fun v H1=>D.nx (σ.set i (some v)) H1) E):=by
 intro pins s σ H D E I h
 refine wpAny_Assign_Name (aZ (he pins s σ H _ E I h) fun v s1 ⟨y,H1,I1,r1,q1⟩=>?_) hs
 exact wN I1 hN hi hx r1 (fun s2 I2=>⟨_,H1,I2,q1⟩) hf
def O9 (sp:Sp) (dvs:List V) (t:TA):LS:=fun σ H Q E=>t σ H fun vs H1=>sp (vs++dvs) H1 Q fun c d H2=>E c d σ H2
theorem Hc {k:Nat} {f:Addr} {fd:FuncData} {ps:List Str} {sp:Sp} {dvs:List V} {ds:List Value} {pins:List (Addr × Obj)} {σ:St} {H:Hp} {s:Shared} {Q:VK} {E:XS} {us:List Value} {vs:List V}
  (hex:X.ex=[]) (F:fD X.prog X.w X.K X.mg X.base (sF X.prog X.w) k f fd ps sp) (hr:cW k X.A) (hb:Binds X.K fd ps ds) (hd:Vals dvs ds) (I:Inv X pins σ H s) (r:Vals vs us) (h:sp (vs++dvs) H Q fun c d H2=>E c d σ H2) :
  wpAny (model X.prog X.w) X.A (call (.ref f) us) (EP X pins σ Q) (XP X pins E) s:=by
 have r2:Vals (vs++dvs) (us++ds):=r.append hd
 have hl:(us++ds).length=ps.length:=by rw [<- r2.length];exact F.len _ _ _ _ h
 refine wpAny_call (codeAny_mono (F.run X.A X.stack s H ⟨us,[]⟩ (us++ds) (vs++dvs) Q (fun c d H2=>E c d σ H2) hr I.env0 (hb s us I.kIn hl) r2 h) fun r s' hq=>?_)
 cases r with
 | error e =>
  obtain ⟨a,C,d,fs,H',rfl,os,bare,un,hok,r,q⟩:=hq
  exact ⟨a,C,d,fs,σ,H',rfl,I.call' os un hok bare (fun b z=>absurd z (by simp)),r.imp (fun _ e=>.inl e) I.sz fun b z=>pL.of I hex z.1 z.2,q⟩
 | ok fl =>
  cases fl with
  | ret u=>exact I.after hq
  | next=>exact False.elim hq
  | brk=>exact False.elim hq
  | cont=>exact False.elim hq
theorem OF {k:Nat} {f:Addr} {fd:FuncData} {ps:List Str} {sp:Sp} {dvs:List V} {ds:List Value} {x:Str} {p:Pos} {es:List Expr} {ta:TA} (hx:sO X) (hex:X.ex=[]) (F:fD X.prog X.w X.K X.mg X.base (sF X.prog X.w) k f fd ps sp) (hr:cW k X.A) (hg:Gl X x) (hm:X.mg x=some (.ref f)) (hk:PySem.W.keepIn X.K (.ref f)=true) (hb:Binds X.K fd ps ds) (hd:Vals dvs ds)
  (ha:PA X (e :: es) ta) (hdb:(x == ("__debug__":Str))=false:=by decide) (he:starEach (e :: es) X.env=(false,eval e X.env) :: starEach es X.env:=by rfl) (hpl:(backTo pos (starEach es X.env)).any (·.1)=false:=by rfl) :
  xK X (.Call (.Name x p) (e :: es) [] pos) (O9 sp dvs ta):=by
 intro pins s σ H Q E I h
 refine wpAny_Call_Name_kw (kH I hg hm ?_ hdb)
 refine PySem.W.callWith_K (h₀:=X.base) I.ok.mod.kin hk (wpAny_mono (ha pos pins s σ H _ I h) (fun us s1 ⟨vs,H1,I1,r,q⟩=>⟨I1.kIn,?_⟩) fun _ _ z=>by rw [hx] at z;exact z.elim) he hpl
 exact Hc hex F hr hb hd I1 r q
def LR (K:PySem.W.Frag) (C:Addr) (attr:Str) (cond:V->Prop) (te:TE):jI:=fun _ E σ H=>te σ H fun y H1=>cond y/\∀ d,H1 d=none->E (.ref C) (some d) σ (upd H1 d (.xd [(attr,y)]))
theorem Hl {nm q:Str} {C N R:Addr} {bs:List Value} {sn:List Str} {sub:List Value} {ab:Bool} {col:Option Bool} {dd:Option Addr} {k0 k1 k2 k3 k5:Option Value} {A:Around} {M:Model} {s:Shared} {E:Value->Shared->Prop} {env:Env} {x:Sem Value} {Q:Flow->Shared->Prop} (hh:A.handled=none)
  (h:wpAny M A x (fun v s₁=>∃ e t d,v=.ref e/\s₁.heap.get? C=some (excClassObj nm q C N bs (oB R) true sn sub ab col dd k0 k1 k2 k3 k5 "ValueError.__new__")/\s₁.heap.get? e=some (m9 C t (some d))/\E (.ref e) s₁) E s) :
  wpAny M A (raiseStmt env (some x) none) Q E s:=by
 have hcB:(Value.ref C :: oB R).contains (.type "BaseException")=true:=by rw [List.contains_cons];rfl
 unfold raiseStmt
 refine wpAny_bind (wpAny_mono h (fun v s₁ h₁=>?_) fun _ _ x=>x)
 obtain ⟨e,t,d,rfl,hC,he,hE⟩:=h₁
 unfold m9 at he
 obtain ⟨hp,g,d,tk,os⟩:=s₁
 repeat (first | with_reducible refine wpAny_loadPart_at he ?_ | with_reducible refine wpAny_loadPart_at hC ?_ | (with_reducible refine wpAny_isSubtype_exc hC ?_;rw [hcB]) | wp_step)
 exact wpAny_raiseNew_none hh hE
end
end L2
namespace L2
open PySem PySem.Spec PyProof.Rows
section
variable {X:Cx}
theorem dX.forget {P:Program} {w:World} {H H':Hp} {h:Heap} (x:dX P w H' h) (sub:∀ b o,H b=some o->H' b=some o) (back:∀ b o,H' b=some o->H b=some o\/(∀ y,o≠.own y)/\∀ xs,o≠.tup xs):dX P w H h:=fun b o e =>
 (x b o (sub b o e)).stay (fun _ _ _ q=>q) (fun c q=>(back c _ q).elim (fun z=>z) fun z=>absurd rfl (z.1 _)) fun c xs q=>(back c _ q).elim (fun z=>z) fun z=>absurd rfl (z.2 _)
theorem Hn {k:Nat} {C R fI:Addr} {fd:FuncData} {par attr:Str} {cond:V->Prop} {pins:List (Addr × Obj)} {σ:St} {H:Hp} {s:Shared} {u:Value} {y:V} {E:Value->Shared->Prop} (hex:X.ex=[]) (c:lN X.K C R fI)
  (F:lP X.prog X.w X.K X.mg X.base iU k fI fd ["self",par] (kW C attr cond)) (hr:kZ (k + 1) X.A) (hb:Binds X.K fd ["self",par] []) (I:Inv X pins σ H s) (r:RelV y u) (hy:cond y) :
  wpAny (model X.prog X.w) X.A (call (.ref C) [u]) (fun v s'=>∃ a t d,v=.ref a/\s'.heap.get? a=some (m9 C t (some d))/\Inv X pins σ H s'/\nZ X pins H s'.heap a C d [(attr,y)]) E s:=by
 obtain ⟨nm,qq,N,bs,sn,sub,ab,col,dd,k0,k1,k2,k3,k5,hC⟩:=c.obj
 have hfn:∃ oI,X.K.lookup fI=some oI/\oI.cls=.type "function":=by
  have:(X.K.lookup fI).map (·.cls)=some (.type "function"):=beq_iff_eq.mp c.fn
  cases q:X.K.lookup fI with
  | none=>rw [q] at this;cases this
  | some oI=>rw [q] at this;exact ⟨oI,rfl,by simpa using this⟩
 obtain ⟨oI,hoI,hoc⟩:=hfn
 obtain ⟨hh,g,d,t,os⟩:=s
 let A0:Addr:=hh.objs.size + 1
 have hn0:H A0=none:=I.hok.fresh (Nat.le_succ _)
 have I2:Inv X pins σ (upd H A0 (.ext (eW A0 C none))) ⟨nQ hh C [u],g,d,t,os⟩:=I.laid (t':=t) (kC hh C [u]) (Nat.le_succ _) (eW.obj ⟨_,C9 hh C [u]⟩)
 let H2:Hp:=upd H A0 (.ext (eW A0 C none))
 let Q1:VK:=fun v H'=>v=.non/\∃ d,H2 d=none/\d≠A0/\H'=upd (upd H2 A0 (.ext (eW A0 C (some d)))) d (.xd [(attr,y)])
 have hq:kW C attr cond [.ref A0,y] H2 Q1 E0:=⟨A0,y,rfl,bQ,hy,fun d h1 h2=>⟨rfl,d,h1,h2,rfl⟩⟩
 have r2:Vals [V.ref A0,y] [Value.ref A0,u]:=.cons rfl (.cons r .nil)
 refine Uy (Ui R) I.kIn (I.kIn _ _ hC) c.init (I.kIn _ _ hoI) hoc ?_ (by show 1<=sizeLine;decide)
 refine wpAny_call (codeAny_mono (F.run _ X.stack _ H2 ⟨[Value.ref A0,u],[]⟩ [Value.ref A0,u] _ Q1 E0 (hr.make C [u] []) (I2.env0.make C [u] []) (by have:=hb ⟨nQ hh C [u],g,d,t,os⟩ [Value.ref A0,u] I2.kIn rfl;simpa using this) r2 hq) fun r s' hq'=>?_)
 cases r with
 | error e=>exact False.elim hq'
 | ok fl =>
  cases fl with
  | next=>exact False.elim hq'
  | brk=>exact False.elim hq'
  | cont=>exact False.elim hq'
  | ret v =>
   obtain ⟨v',H',eo,bare,un,hok,rv,rfl,d',h1,h2,rfl⟩:=hq'
   refine ⟨rv,A0,?_⟩
   have hd0:H d'=none:=by rw [<- bC (H:=H) (o:=.ext (eW A0 C none)) h2];exact h1
   have sz:∀ b o,H b=some o->b≠A0/\b≠d':=fun b o e=>⟨bO e hn0,bO e hd0⟩
   have hgd:(nQ hh C [u]).get? d'=none:=by
    cases q:(nQ hh C [u]).get? d' with
    | none=>rfl
    | some o =>
     have:=un.free d' o q h1 (by simp)
     rw [bQ] at this;cases this
   have hgd0:hh.get? d'=none:=by
    cases q:hh.get? d' with
    | none=>rfl
    | some o=>rw [kC hh C [u] _ _ q] at hgd;cases hgd
   have lt:∀ b o,hh.get? b=some o->b≠A0/\b≠d':=fun b o e=>⟨Nat.ne_of_lt (Nat.lt_succ_of_lt (Heap.lt_size e)),fun z=>by rw [z,hgd0] at e;cases e⟩
   have up:∀ b,b≠A0->H2 b=H b:=fun b hb=>bC hb
   have un':Un (gA X.stack) [] H H hh s'.heap:=⟨fun b o e n hb hx=>un.keep b o (kC _ _ _ _ _ e) (by rw [up b (lt b o e).1];exact n) hb hx,
    fun b o e n hb hx=>un.slot b o (kC _ _ _ _ _ e) (by rw [up b (lt b o e).1];exact n) hb hx,fun _ _ _ n _=>n,fun b o e hx=>un.there b o (kC _ _ _ _ _ e) hx,fun _ _ q=>q,fun _ _ _ q=>q,fun _ ps q=>⟨#[],by rw [q];simp⟩⟩
   have hok':dX X.prog X.w H s'.heap:=hok.forget (fun b o e=>by rw [bC (sz b o e).2,bC (sz b o e).1,up b (sz b o e).1];exact e) fun b o e=>by
    by_cases hb:b=d'
    ·subst hb;rw [bQ] at e;cases e;exact .inr ⟨fun _ z=>(nomatch z),fun _ z=>(nomatch z)⟩
    ·rw [bC hb] at e
     by_cases hb:b=A0
     ·subst hb;rw [bQ] at e;cases e;exact .inr ⟨fun _ z=>(nomatch z),fun _ z=>(nomatch z)⟩
     ·rw [bC hb,up b hb] at e;exact .inl e
   have I3:Inv X pins σ H s':=I.call' (s:=⟨hh,g,d,t,os⟩) eo un' hok' bare (fun b z=>absurd z (by simp))
   have oa:=hok A0 (.ext (eW A0 C (some d'))) (by rw [bC (Ne.symm h2),bQ])
   obtain ⟨⟨t0,e1⟩,_,_⟩:=oa
   obtain ⟨mA,n1,n2⟩:=hok d' (.xd [(attr,y)]) bQ
   refine ⟨t0,d',rfl,e1,I3,Nat.le_trans I.sz (Nat.le_succ _),pL.of I hex (Heap.get?_none_of_le (Nat.le_succ _)) hn0,pL.of I hex hgd0 hd0,Ne.symm h2,⟨_,_,none,e1,rfl,rfl,rfl,rfl,fun T' z=>by cases z⟩,⟨mA,n1,n2⟩,fun _ oe2 vs2 q1 q2=>by rw [e1] at q1;cases q1;cases q2;rfl⟩
theorem Kf {k:Nat} {C R fI:Addr} {fd:FuncData} {par attr x:Str} {cond:V->Prop} {e:Expr} {te:TE} {np cpos pos:Pos} (hx:sO X) (hex:X.ex=[]) (hcalm:X.calm=true) (c:lN X.K C R fI)
  (F:lP X.prog X.w X.K X.mg X.base iU k fI fd ["self",par] (kW C attr cond)) (hr:kZ (k + 1) X.A) (hb:Binds X.K fd ["self",par] []) (hg:Gl X x) (hm:X.mg x=some (.ref C)) (he:PE X e te) (hdb:(x == ("__debug__":Str))=false:=by decide)
  (hs:starEach [e] X.env=[(false,eval e X.env)]:=by rfl):uV X (.Raise (some (.Call (.Name x np) [e] [] cpos)) none pos) (LR X.K C attr cond te):=by
 intro pins s σ H D E I h
 obtain ⟨nm,qq,N,bs,sn,sub,ab,col,dd,k0,k1,k2,k3,k5,hC⟩:=c.obj
 rw [arm_exec_Raise]
 have ev:wpAny (model X.prog X.w) X.A (eval (.Call (.Name x np) [e] [] cpos) X.env) (fun v s'=>∃ a t d,v=.ref a/\s'.heap.get? C=some (excClassObj nm qq C N bs (oB R) true sn sub ab col dd k0 k1 k2 k3 k5 "ValueError.__new__")/\s'.heap.get? a=some (m9 C t (some d))/\XP X pins E (.ref a) s') (XP X pins E) s:=by
  refine wpAny_Call_Name_kw (kH I hg hm ?_ hdb)
  have pa:PA X [e] (fun σ H Q=>te σ H fun y H1=>Q [y] H1):=uW he Bj (by rw [hs];rfl)
  let Q1:List V->Hp->Prop:=fun vs H1=>match vs with | [y]=>(cond y/\∀ d,H1 d=none->E (.ref C) (some d) σ (upd H1 d (.xd [(attr,y)]))) | _=>False
  refine PySem.W.callWith_K (h₀:=X.base) I.ok.mod.kin c.kp (wpAny_mono (pa cpos pins s σ H Q1 I h) (fun us s1 ⟨vs,H1,I1,r,q⟩=>⟨I1.kIn,?_⟩) fun _ _ z=>by rw [hx] at z;exact z.elim) (by rw [hs];rfl) rfl
  match vs,r,q with
  | [y],.cons r .nil,⟨q1,q2⟩ =>
   refine aZ (Hn hex c F hr hb I1 r q1) fun v s' ⟨a,t,d,z1,z2,I2,z3⟩=>?_
   exact ⟨a,t,d,z1,I2.kIn _ _ hC,z2,a,C,d,_,σ,H1,rfl,I2,z3,q2 d z3.nd.2.1⟩
 have hh:X.A.handled=none:=I.ok.hd hcalm
 first
  | exact wpAny_bind (wpAny_standAt (Hl hh (wpAny_bind (wpAny_mono ev (fun v s₁ h₁=>wpAny_bind (wpAny_standAt (wpAny_pure h₁))) fun _ _ x=>x))))
  | (simp only [evalOpt,Option.map];exact wpAny_bind (wpAny_standAt (Hl hh (wpAny_bind (wpAny_mono ev (fun v s₁ h₁=>wpAny_bind (wpAny_standAt (wpAny_pure h₁))) fun _ _ x=>x)))))
end
end L2
namespace L2
open PySem PySem.Spec PyProof.Rows
theorem SD {P:Program} {w:World} {K:PySem.W.Frag} {mg:Str->Option Value} {base:Heap} {k:Nat} {f:Addr} {name qual:Str} {params:Arguments} {body:List Stmt} {scope:Scope} {dV kV doc pm cdv ct oc:Value} {an od:Option Addr}
  {osl:Array (Option Value)} {N ps:List Str} {sp:Sp} (lk:K.lookup f=some ⟨oc,od,.func (PySem.W.fnOf name qual params body scope dV kV doc pm an cdv ct),osl⟩) (hcd:PySem.W.codeIn K cdv qual=true) (S:aU N ps scope)
  (len:∀ vs H Q E,sp vs H Q E->vs.length=ps.length)
  (hbody:∀ (A:Around) (outer:List Env) (s:Shared) (H:Hp) (vs:List V) (Q:VK) (E:XK),cW k (A.deeper (envOfC qual scope s.heap.objs.size f cdv))->sp vs H Q E ->
   ∃ t,kL (j0 (sF P w) P w K mg base N qual scope f cdv A outer s H E).nox body t/\t { nx:=fun _ H'=>Q .non H',rt:=Q } (fun c d _ H'=>E c d H') (start N vs) H) :
  fD P w K mg base (sF P w) (k + 1) f (PySem.W.fnOf name qual params body scope dV kV doc pm an cdv ct) ps sp:=by
 refine ⟨len,fun A outer s H args us vs Q E hr e0 hb r hsp=>?_⟩
 have hl:=len _ _ _ _ hsp
 have KX:K.In s.heap:=e0.mod.kin.keeps fun b o e=>(e0.bs b o e).1
 have lim:s.heap.NoLimit:=e0.mod.nolimit.keeps fun b o e=>(e0.bs b o e).1
 have hkind:∀ y∈ps.zip us,scope.names.lookup y.1=some .local\/(scope.names.lookup y.1=some .cell/\((cellsFrom (s.heap.objs.size + 1) scope.names []).lookup y.1).isSome=true):=fun ⟨n,v⟩ hy=>by
  rcases S.par n (List.of_mem_zip hy).1 with q | q
  ·exact .inl q
  ·exact .inr ⟨q,PySem.W.cellsFrom_some _ _ _ (.inl q)⟩
 refine codeAny_call_function hr.depth (KX _ _ lk) rfl S.co S.gen rfl (PySem.W.codeRec_of KX hcd) (hb _ _ _ _ ?_)
 refine wpAny_newFunctionEnv_cells S.kind hkind fun env he s1 x=>?_
 subst he
 refine ⟨lim.keeps x.toInCall.keep,codeAny_func ?_⟩
 obtain ⟨t,ht,hq⟩:=hbody A outer s H vs Q E (hr.deeper _) hsp
 have I:Inv (j0 (sF P w) P w K mg base N qual scope f cdv A outer s H E) [] (start N vs) H s1:=xS S hr.hd e0 hl r x
 refine wpAny_mono (ht [] s1 (start N vs) H _ _ (I.wish _) hq) (fun fl s' hs=>?_) fun e s' hs=>?_
 ·have fin:∀ {σ':St} {H':Hp} {v:V} {u:Value},Inv (j0 (sF P w) P w K mg base N qual scope f cdv A outer s H E).nox [] σ' H' s'->RelV v u->Q v H'->CE outer P w H s Q u s' :=
   fun {σ' H' v u} J rv q=>⟨v,H',J.os,J.bare,J.base,J.hok,rv,q⟩
  cases fl with
  | ret u =>
   obtain ⟨v,σ',H',J,rv,q⟩:=hs
   exact fin J rv q
  | next =>
   obtain ⟨σ',H',J,q⟩:=hs
   exact fin (v:=V.non) (u:=Value.none) J rfl q
  | brk =>
   obtain ⟨_,_,_,q⟩:=hs
   exact False.elim q
  | cont =>
   obtain ⟨_,_,_,q⟩:=hs
   exact False.elim q
 ·obtain ⟨a,C,d,fs,σ',H',rfl,J,r,q⟩:=hs
  show wpAny _ _ (leaving _ _) _ _ _
  unfold leaving
  refine wpAny_bind (JR (X:=(j0 (sF P w) P w K mg base N qual scope f cdv A outer s H E).nox) J rfl rfl rfl r fun s'' J' r'=>?_)
  exact ⟨a,C,d,fs,H',rfl,J'.os,J'.bare,J'.base,J'.hok,r'.imp (fun _ e=>e) (Nat.le_refl _) fun b z=>⟨z.1,z.2.1⟩,q⟩
theorem b8.okX {P:Program} {w:World} {K:PySem.W.Frag} {mg:Str->Option Value} {base:Heap} {x qual:Str} {st:Stmt} {f:Addr} {fd:FuncData} {N ps:List Str} {k:Nat} {sp:Sp} (F:b8 K x qual st f fd) (S:aU N ps (aH st)) (len:∀ vs H Q E,sp vs H Q E->vs.length=ps.length)
  (hbody:∀ (cdv:Value) (A:Around) (outer:List Env) (s:Shared) (H:Hp) (vs:List V) (Q:VK) (E:XK),cW k (A.deeper (envOfC qual (aH st) s.heap.objs.size f cdv))->sp vs H Q E ->
   ∃ t,kL (j0 (sF P w) P w K mg base N qual (aH st) f cdv A outer s H E).nox (cH st) t/\t { nx:=fun _ H'=>Q .non H',rt:=Q } (fun c d _ H'=>E c d H') (start N vs) H):fD P w K mg base (sF P w) (k + 1) f fd ps sp:=by
 obtain ⟨oc,od,kV,doc,pm,an,cdv,ct,osl,rfl,lk,hcd⟩:=F.ex
 exact SD lk hcd S len fun A outer s H vs Q E hr hsp=>hbody cdv A outer s H vs Q E hr hsp
section
variable {X:Cx} {pins:List (Addr × Obj)} {σ:St} {H:Hp} {s:Shared}
theorem name_goes {M:Model} {A:Around} {E:Value->Shared->Prop} {i:Nat} {n:Str} {pos:Pos} {Q:Unit->Shared->Prop} (I:Inv X pins σ H s) (hN:X.N.Nodup) (hi:X.N[i]?=some n) (hk:X.env.scope.names.lookup n=some .local)
  (h:∀ s',Inv X pins (σ.set i none) H s'->Q () s'):wpAny M A (do bindName X.env n .none;unbindBehindTheSuite X.env n pos) Q E s:=by
 obtain ⟨m,hn,hl⟩:=id I.loc
 have hcls:(X.env.scope.kind == .class || (X.env.scope.kind == .module && X.env.locals != X.env.globals))=false:=by rw [I.ok.kind];rfl
 have hiσ:i < σ.length:=by rw [I.len];exact (List.getElem?_eq_some_iff.mp hi).1
 have cne:=I.cne
 refine wpAny_nameGoes_keeps hk hn hcls fun h' v hn' hs=>?_
 obtain ⟨oL,_,_,hoL,_⟩:=id hn
 have tracked:dX X.prog X.w H h':=fun b ob e=>by
  refine (I.hok b ob e).stay (fun c w' hc q=>(hs.2 c ?_).trans q) (fun _ q=>q) fun _ _ q=>q
  rintro rfl
  rcases hc with rfl | hc
  ·rw [I.free] at e;cases e
  ·rw [I.free] at hc;cases hc
 refine h _ ⟨I.ok,I.os,I.bare,⟨fun b o e n hb hx=>?_,fun b o e n hb hx=>?_,I.base.free,fun b o e hx=>?_,I.base.tups,I.base.frzs,I.base.tbls⟩,⟨_,hn',fun j y v' e1 e2 e3=>?_⟩,fun y c e=>?_,I.free,I.freeC,fun p hp=>?_,tracked,by simpa using I.len⟩
 ·exact (hs.2 b (Nat.ne_of_lt (Nat.lt_of_lt_of_le (Heap.lt_size e) I.ok.above))).trans (I.base.keep b o e n hb hx)
 ·obtain ⟨sl,e1⟩:=I.base.slot b o e n hb hx
  exact ⟨sl,(hs.2 b (Nat.ne_of_lt (Nat.lt_of_lt_of_le (Heap.lt_size e) I.ok.above))).trans e1⟩
 ·obtain ⟨o',e1⟩:=I.base.there b o e hx
  exact ⟨o',(hs.2 b (Nat.ne_of_lt (Nat.lt_of_lt_of_le (Heap.lt_size e) I.ok.above))).trans e1⟩
 ·by_cases hj:j=i
  ·subst hj
   rw [List.getElem?_set_self hiσ] at e2
   cases e2
  ·rw [List.getElem?_set_ne (Ne.symm hj)] at e2
   obtain ⟨u',r',q⟩:=hl j y v' e1 e2 e3
   refine ⟨u',r',?_⟩
   rcases q with ⟨k,e⟩ | ⟨k,c,e,z⟩
   ·refine .inl ⟨k,?_⟩
    have:y≠n:=fun e=>hj (AV hN e1 (e ▸ hi))
    simp [this,e]
   ·exact .inr ⟨k,c,e,z.sameBut hs (cne y c e)⟩
 ·obtain ⟨w',z⟩:=I.cell y c e
  exact ⟨w',z.sameBut hs (cne y c e)⟩
 ·obtain ⟨e,n,ne,nf,d⟩:=I.pin p hp
  exact ⟨(hs.2 p.1 ne).trans e,n,ne,nf,d⟩
end
end L2
namespace L2
open PySem PySem.Spec PyProof.Rows
structure AU (K:PySem.W.Frag) (C:Addr):Prop where
 ty:PySem.W.typeIn K (.ref C)=some (.type "type")
 cls:(PySem.W.clsIn K C).isSome=true
 ex:PySem.W.subIn K (.ref C) (.type "BaseException")=some true
theorem AJ {K:PySem.W.Frag} {M:Model} {A:Around} {E:Value->Shared->Prop} {s:Shared} {a C Cn:Addr} {oe:Obj} {b:Bool} {Q:Bool->Shared->Prop} (KX:K.In s.heap) (c:AU K Cn) (he:s.heap.get? a=some oe) (hc:oe.cls=.ref C) (hs:PySem.W.subIn K (.ref C) (.ref Cn)=some b)
  (hq:Q b s):wpAny M A (excMatches (.ref a) (.ref Cn)) Q E s:=by
 have L1:PySem.W.Looks M s.heap (typeOf (.ref Cn)) (.type "type"):=PySem.W.looks_typeIn KX c.ty
 have L2':PySem.W.Looks M s.heap (isSubtype (.ref Cn) (.type "BaseException")) true:=PySem.W.looks_subIn KX c.ex
 have L3:PySem.W.Looks M s.heap (isSubtype (.ref C) (.ref Cn)) b:=PySem.W.looks_subIn KX hs
 have L4:PySem.W.Looks M s.heap (isType (.ref Cn)) true:=by
  have z:=c.cls
  unfold PySem.W.clsIn at z
  split at z
  ·rename_i c' d' cd' sl' ho
   intro A' Q' E' s' k q
   unfold isType loadHead
   exact wpAny_bind (wpAny_loadPart (k _ _ (KX _ _ ho)) (wpAny_pure q))
  ·cases z
 have f:=tc_notTuple
 unfold excMatches isInstance isExcClass
 refine wpAny_bind (wpAny_bind (L1.here ?_))
 rw [f]
 refine wpAny_pure ?_
 simp only [Bool.false_eq_true,if_false]
 refine wpAny_bind (wpAny_pure ?_)
 obtain ⟨hp,g,d,tk,os⟩:=s
 have L4':∀ {Q':Bool->Shared->Prop} {E':Value->Shared->Prop},Q' true ⟨hp,g,d,tk,os⟩->wpAny M A (isType (.ref Cn)) Q' E' ⟨hp,g,d,tk,os⟩:=fun q=>L4.here q
 have L2'':∀ {Q':Bool->Shared->Prop} {E':Value->Shared->Prop},Q' true ⟨hp,g,d,tk,os⟩->wpAny M A (isSubtype (.ref Cn) (.type "BaseException")) Q' E' ⟨hp,g,d,tk,os⟩:=fun q=>L2'.here q
 have L3':∀ {Q':Bool->Shared->Prop} {E':Value->Shared->Prop},Q' b ⟨hp,g,d,tk,os⟩->wpAny M A (isSubtype (.ref C) (.ref Cn)) Q' E' ⟨hp,g,d,tk,os⟩:=fun q=>L3.here q
 repeat (first | with_reducible refine L4' ?_ | with_reducible refine L2'' ?_ | with_reducible refine L3' ?_ | (with_reducible refine wpAny_loadPart_at he ?_;rw [hc]) | wp_step)
 cases b <;> (wp_walk;exact hq)
def Cx.inX (X:Cx) (a:Addr) (pl:List (Addr × Obj)):Cx:={ X with A:=X.A.mark (some (.ref a)),calm:=false,pn:=X.pn++pl }
section
variable {X:Cx} {pins pl:List (Addr × Obj)} {σ:St} {H:Hp} {s:Shared} {a C d:Addr} {fs:List (Str × V)}
theorem Inv.inX (I:Inv X pins σ H s) (hp:∀ p∈pl,s.heap.get? p.1=some p.2/\H p.1=none/\p.1≠X.env.locals/\p.1 ∉ X.fs/\∀ v,p.2.data≠.cell v):Inv (X.inX a pl) pins σ H s :=
 ⟨⟨I.ok.mod,I.ok.kind,I.ok.glob,I.ok.blt,I.ok.above,I.ok.inj,I.ok.has,I.ok.cab,(fun z=>nomatch z),I.ok.frames,I.ok.stk,I.ok.exf,I.ok.bs,I.ok.bsz,I.ok.noex,I.ok.exfs,I.ok.funs,I.ok.frf⟩,I.os,I.bare,I.base,I.loc,I.cell,I.free,I.freeC,fun p h=>by
  rcases List.mem_append.mp h with h | h
  ·rcases List.mem_append.mp h with h | h
   ·exact I.pin p (List.mem_append_left _ h)
   ·exact hp p h
  ·exact I.pin p (List.mem_append_right _ h),I.hok,I.len⟩
theorem Inv.outX (ok:X.Ok) (I:Inv (X.inX a pl) pins σ H s):Inv X pins σ H s :=
 ⟨ok,I.os,I.bare,I.base,I.loc,I.cell,I.free,I.freeC,fun p h=>by
  rcases List.mem_append.mp h with h | h
  ·exact I.pin p (List.mem_append_left _ (List.mem_append_left _ h))
  ·exact I.pin p (List.mem_append_right _ h),I.hok,I.len⟩
def DG (od:Obj) (fs:List (Str × V)):Prop:=∃ es ep,∃ mA:Str->Option Value,od.data=.dict es ep/\StrKeys es/\UniqKeys es/\(∀ name,nsFind es name=mA name)/\∀ f,Fy (fs.lookup f) (mA f)
theorem BM (I:Inv X pins σ H s) (r:nZ X pins H s.heap a C d fs):∃ oe od,oe.cls=.ref C/\oe.dict=some d/\(∃ vs,oe.data=.fields vs)/\DG od fs/\∀ p∈[(a,oe),(d,od)],s.heap.get? p.1=some p.2/\H p.1=none/\p.1≠X.env.locals/\p.1 ∉ X.fs/\∀ v,p.2.data≠.cell v:=by
 obtain ⟨oe,vs,T,e1,e2,e3,e4,e5,e6⟩:=r.obj
 obtain ⟨mA,⟨od,esd,epd,f1,f2,f3,f4,f5⟩,n2⟩:=r.att
 have nofs:∀ b,pL X pins H b->b ∉ X.fs:=fun b n hb=>by
  obtain ⟨_,o,ho,_⟩:=I.ok.funs.mem hb
  rw [n.1] at ho;cases ho
 refine ⟨oe,od,e2,e3,⟨vs,e4⟩,⟨esd,epd,mA,f2,f3,f4,f5,n2⟩,fun p hp=>?_⟩
 rcases List.mem_cons.mp hp with rfl | hp
 ·exact ⟨e1,r.na.2.1,r.na.2.2.1,nofs _ r.na,fun v z=>by rw [e4] at z;cases z⟩
 ·obtain rfl:p=(d,od):=by simpa using hp
  exact ⟨f1,r.nd.2.1,r.nd.2.2.1,nofs _ r.nd,fun v z=>by rw [f2] at z;cases z⟩
def R7 (i:Nat) (Cn:Addr) (K:PySem.W.Frag) (tb:jI) (th:Addr->Addr->Addr->List (Str × V)->TS):TS:=fun D σ H=>tb D (fun c dx σ' H'=>∀ C d H1 fs,c=.ref C->dx=some d->H'=upd H1 d (.xd fs)->H1 d=none ->
 PySem.W.subIn K (.ref C) (.ref Cn)=some true/\∀ a,th a C d fs { nx:=fun σ H=>D.nx (σ.set i none) H,rt:=D.rt,bk:=fun σ H=>D.bk (σ.set i none) H,ct:=fun σ H=>D.ct (σ.set i none) H } (σ'.set i (some (.ref a))) H1) σ H
theorem Sg {i:Nat} {n cn:Str} {Cn:Addr} {body suite:List Stmt} {b₀:Stmt} {tb:jI} {th:Addr->Addr->Addr->List (Str × V)->TS} {cp hp pos:Pos} (hx:sO X) (hex:X.ex=[]) (hst:X.stack=X.env :: X.outer) (hf:X.env.frame=some X.env.locals) (hN:X.N.Nodup) (hi:X.N[i]?=some n) (hk:X.env.scope.names.lookup n=some .local)
  (hbody:kL X body tb) (hg:Gl X cn) (hm:X.mg cn=some (.ref Cn)) (hc:AU X.K Cn) (hh:∀ a C d fs oe od,oe.cls=.ref C->oe.dict=some d->(∃ vs,oe.data=.fields vs)->DG od fs->lH (X.inX a [(a,oe),(d,od)]) (b₀ :: suite) (th a C d fs)) (hdb:(cn == ("__debug__":Str))=false:=by decide) :
  PS X (.Try body [.ExceptHandler (some (.Name cn cp)) (some n) (b₀ :: suite) hp] [] [] pos) (R7 i Cn X.K tb th):=by
 intro pins s σ H D I h
 refine wpAny_Try_except (wpAny_mono (hbody pins s σ H D _ I h) (fun f s1 q=>?_) fun e s1 q=>?_)
 ·cases f with
  | next=>exact wpAny_execs_nil q
  | ret v=>exact q
  | brk=>exact q
  | cont=>exact q
 ·obtain ⟨a,C,d,fs,σ',H',rfl,I1,r,q⟩:=q
  obtain ⟨hsub,q⟩:=q C d H' fs rfl rfl rfl r.nd.2.1
  refine JR I1 hst hf hex r fun s2 I2 r2=>?_
  refine wpAny_handleBy_cons (codeAny_handlers_test ?_) (by intro q;cases q)
  obtain ⟨oe,vs,T,e1,e2,e3,e4,e5,e6⟩:=r2.obj
  have I3:Inv (X.inX a []) pins σ' H' s2:=I2.inX fun p hp=>by cases hp
  refine kH (X:=X.inX a []) I3 hg hm ?_ hdb
  refine AJ (K:=X.K) I2.kIn hc e1 e2 hsub ?_
  refine codeAny_handlers_suite_as (yP none I2 hex r2.any fun s3 I4 r4=>?_)
  obtain ⟨oe,od,o1,o2,o3,o4,o5⟩:=BM I4 (xO.any r4)
  have I5:Inv (X.inX a [(a,oe),(d,od)]) pins σ' H' s3:=I4.inX o5
  refine wN (X:=X.inX a [(a,oe),(d,od)]) I5 hN hi (.inl hk) (v:=.ref a) rfl (fun s5 I6=>?_) (.inr hk)
  refine wpAny_mono (hh a C d fs oe od o1 o2 o3 o4 pins s5 _ H' _ I6 (q a)) (fun f s6 q6=>?_) fun _ _ z=>by
   have z':X.xe _ _:=z
   rw [hx] at z';exact z'.elim
  cases f with
  | next =>
   obtain ⟨σ7,H7,I7,q7⟩:=q6
   exact name_goes (I7.outX I.ok) hN hi hk fun s8 I8=>⟨_,H7,I8,q7⟩
  | ret u =>
   obtain ⟨v,σ7,H7,I7,rv,q7⟩:=q6
   exact name_goes (I7.outX I.ok) hN hi hk fun s8 I8=>⟨v,_,H7,I8,rv,q7⟩
  | brk =>
   obtain ⟨σ7,H7,I7,q7⟩:=q6
   exact name_goes (I7.outX I.ok) hN hi hk fun s8 I8=>⟨_,H7,I8,q7⟩
  | cont =>
   obtain ⟨σ7,H7,I7,q7⟩:=q6
   exact name_goes (I7.outX I.ok) hN hi hk fun s8 I8=>⟨_,H7,I8,q7⟩
end
end L2
namespace L2
open PySem PySem.Spec
structure oP (K:PySem.W.Frag) (C R fI:Addr):Prop where
 cl:lN K C R fI
 ga:PySem.W.findIn K (.ref C) "__getattribute__"=some (some (.builtin "BaseException.__getattribute__"))
 gh:PySem.W.findIn K (.ref C) "__getattr__"=some none
 kl:PySem.W.findIn K (.ref C) "__class__"=some (some (.builtin "object.__class__"))
section
variable {prog:Program} {w:World} {A:Around} {E:Value->Shared->Prop} {h:Heap} {g:Array GenState} {d:Drawn} {t:Nat} {os:OsState} {K:PySem.W.Frag} {a C R fI:Addr} {o:Obj}
theorem vA:ExcAttrFacts "ValueError":=PySem.F.excAttr_ValueError
theorem HE {M:Model} {A':Around} {E':Value->Shared->Prop} {Q':Option Value->Shared->Prop} {t':Nat} {n:Str} {r:Option Value} (KX:K.In h) (e:PySem.W.findIn K (.ref C) n=some r) (q:Q' r ⟨h,g,d,t',os⟩):wpAny M A' (typeLookup (.ref C) n) Q' E' ⟨h,g,d,t',os⟩:=(PySem.W.looks_findIn KX e).here q
theorem LM {M:Model} {nameV:Value} {Q:Unit->Shared->Prop} (KX:K.In h) (c:oP K C R fI) (hx:h.get? a=some o) (hc:o.cls=.ref C) (hq:Q () ⟨h,g,d,t,os⟩):wpAny M A (checkBuiltinCall "BaseException.__getattribute__" ⟨[.ref a,nameV],[]⟩) Q E ⟨h,g,d,t,os⟩:=by
 obtain ⟨nm,qq,N,bs,sn,sub,ab,col,dd,k0,k1,k2,k3,k5,hC⟩:=c.cl.obj
 have hC:=KX _ _ hC
 have hk:builtinKind "BaseException.__getattribute__"=some .slot:=by decide +kernel
 have hsplit:splitId "BaseException.__getattribute__"=some ("BaseException","__getattribute__"):=by decide +kernel
 have hcB:(Value.ref C :: oB R).contains (.type "BaseException")=true:=by rw [List.contains_cons];rfl
 have ha:=F.args_bexc_ga (.ref a) nameV
 simp only [checkBuiltinCall,hk,hsplit]
 refine wpAny_bind ?_
 ·unfold isInstance
  repeat (first | (with_reducible refine wpAny_loadPart_at hx ?_;rw [hc]) | (with_reducible refine wpAny_isSubtype_exc hC ?_;rw [hcB]) | wp_step)
  exact hq
theorem W5 {tk:Tok} {fill expr:Bool} {n:Str} {v:Value} {Q:Value->Shared->Prop} (KX:K.In h) (c:oP K C R fI) (hx:h.get? a=some o) (hc:o.cls=.ref C) (hh:∀ id,v≠.builtin id)
  (hg:∀ {A':Around} {E':Value->Shared->Prop} {Q':Fin->Shared->Prop},Q' (.done (.ret v)) ⟨h,g,d,t,os⟩->wpAny (model prog w) A' (Builtin.«object.__getattribute__» ⟨[.ref a,.str n tk],[]⟩) Q' E' ⟨h,g,d,t,os⟩)
  (hq:Q v ⟨h,g,d,t,os⟩):wpAny (model prog w) A (getAttrBy (.ref a) (.str n tk) fill expr) Q E ⟨h,g,d,t,os⟩:=by
 have f3:=vA.ga.bind (.ref a)
 have hx0:(expr && onTheHeap (Value.builtin "BaseException.__getattribute__"))=false:=by cases expr <;> rfl
 have hx2:(Value.builtin "BaseException.__getattribute__" == Value.builtin "object.__getattribute__")=false:=by decide +kernel
 have hx1:(onTheHeap (Value.ref C) && Value.builtin "BaseException.__getattribute__" == Value.builtin "object.__getattribute__")=false:=by rw [hx2];rfl
 repeat (any_goals (first | assumption | (with_reducible refine wpAny_loadPart_at hx ?_;rw [hc]) | with_reducible refine HE KX c.ga ?_ | with_reducible refine HE KX c.gh ?_ | wp_step))
 refine codeAny_call_builtin vA.ga.plain F.entry_bexc_ga (LM KX c hx hc (hg ?_))
 repeat (any_goals (first | assumption | wp_step))
 cases v <;> first | exact wpAny_pure hq | exact absurd rfl (hh _)
theorem Mm {Q:Fin->Shared->Prop} {tk:Tok} {n:Str} {dx:Addr} {m:Str->Option Value} {v:Value} (KX:K.In h) (c:oP K C R fI) (hn:PySem.W.findIn K (.ref C) n=some none) (hx:h.get? a=some o) (hc:o.cls=.ref C) (hd:o.dict=some dx) {vs:Array Value} (hdt:o.data=.fields vs) (hm:h.Ns dx m) (hv:m n=some v)
  (hq:Q (.done (.ret v)) ⟨h,g,d,t,os⟩):wpAny (model prog w) A (Builtin.«object.__getattribute__» ⟨[.ref a,.str n tk],[]⟩) Q E ⟨h,g,d,t,os⟩:=by
 unfold Builtin.«object.__getattribute__»
 repeat (any_goals (first | assumption | (with_reducible refine wpAny_loadPart_at hx ?_;first | rw [hc] | rw [hd]) | with_reducible refine HE KX hn ?_ | (with_reducible refine wpAny_nsGet hm ?_;rw [hv]) | wp_step))
 rw [hdt]
 show wpAny _ _ (instanceDict a false) _ _ _
 unfold instanceDict
 repeat (any_goals (first | assumption | (with_reducible refine wpAny_loadPart_at hx ?_;first | rw [hc] | rw [hd]) | (with_reducible refine wpAny_load hx ?_;first | rw [hc] | rw [hd]) | (with_reducible refine wpAny_nsGet hm ?_;rw [hv]) | wp_step))
 obtain ⟨nm,qq,N,bs,sn,sub,ab,col,dd,k0,k1,k2,k3,k5,hC⟩:=c.cl.obj
 have hC:=KX _ _ hC
 refine wpAny_load hC (wpAny_pure ?_)
 show wpAny _ _ (match o.dict with | some d=>pure (some d) | none=>_) _ _ _
 rw [hd]
 refine wpAny_pure ?_
 show wpAny _ _ (Builtin.ObjectAttr.inDict n (some dx)) _ _ _
 unfold Builtin.ObjectAttr.inDict
 repeat (any_goals (first | assumption | (with_reducible refine wpAny_nsGet hm ?_;rw [hv]) | wp_step))
theorem Vt {n:Str} {dx:Addr} {m:Str->Option Value} {v:Value} {expr:Bool} {Q:Value->Shared->Prop} (KX:K.In h) (c:oP K C R fI) (hn:PySem.W.findIn K (.ref C) n=some none) (hx:h.get? a=some o) (hc:o.cls=.ref C) (hd:o.dict=some dx) {vs:Array Value} (hdt:o.data=.fields vs) (hm:h.Ns dx m) (hv:m n=some v)
  (hh:∀ id,v≠.builtin id) (hq:Q v ⟨h,g,d,t + 1,os⟩):wpAny (model prog w) A (getAttr (.ref a) n expr) Q E ⟨h,g,d,t,os⟩:=by
 unfold getAttr
 repeat (any_goals (first | assumption | with_reducible apply W5 (t:=t + 1) KX c hx hc hh (fun q=>Mm KX c hn hx hc hd hdt hm hv q) | wp_step))
end
end L2
namespace U2
open PySem PySem.Spec L2
abbrev AE:=Addr->List (Str × U)->SU->aE->Prop
abbrev Wy:=Addr->List (Str × U)->aE->Prop
abbrev fX:=kY->AE->SU->aE->Prop
abbrev rD:=SU->aE->UK->AE->Prop
abbrev i3:=List U->aE->UK->Wy->Prop
def jV:U->Option V
 | .non=>some .non
 | .bl b=>some (.bl b)
 | .int i=>some (.int i)
 | .str x=>some (.str x)
 | _=>none
def Jl (fs':List (Str × U)) (fs:List (Str × V)):Prop:=Paired (fun (p:Str × U) (q:Str × V)=>p.1=q.1/\jV p.2=some q.2) fs' fs
def Aw (K:PySem.W.Frag) (H:Hp) (M:aE) (E':AE) (E:XS):Prop:=∀ C fs' fs σ τ H1 M1 d,aW H M H1 M1->RelM K H1 M1->cJ K H1 M1 σ τ->Jl fs' fs->H1 d=none->E' C fs' τ M1->E (.ref C) (some d) σ (upd H1 d (.xd fs))
def Vs (K:PySem.W.Frag) (H:Hp) (M:aE) (E':Wy) (E:XK):Prop:=∀ C fs' fs H1 M1 d,aW H M H1 M1->RelM K H1 M1->Jl fs' fs->H1 d=none->E' C fs' M1->E (.ref C) (some d) (upd H1 d (.xd fs))
theorem Aw.stp {K:PySem.W.Frag} {H H1:Hp} {M M1:aE} {E':AE} {E:XS} (c:Aw K H M E' E) (st:aW H M H1 M1):Aw K H1 M1 E' E:=fun C fs' fs σ τ H2 M2 d s=>c C fs' fs σ τ H2 M2 d (st.trans s)
def vV (K:PySem.W.Frag) (t:jI) (t':fX):Prop:=∀ (σ:St) (τ:SU) (H:Hp) (M:aE) (D':kY) (E':AE),cJ K H M σ τ->RelM K H M->t' D' E' τ M->∀ (D:Ends) (E:XS),FA K H M D D'->Aw K H M E' E->t D E σ H
def VD (K:PySem.W.Frag) (t:LS) (t':rD):Prop:=∀ (σ:St) (τ:SU) (H:Hp) (M:aE) (Q':UK) (E':AE),cJ K H M σ τ->RelM K H M->t' τ M Q' E'->∀ (Q:VK) (E:XS),cK K H M Q' Q->Aw K H M E' E->t σ H Q E
def rM (D:Dat) (e:Expr) (t':rD):Prop:=∃ t,(∀ X,jU D X->xK X e t)/\VD D.K t t'
def rF (D:Dat) (s:Stmt) (t':fX):Prop:=∃ t,(∀ X,jU D X->uV X s t)/\vV D.K t t'
def l9 (D:Dat) (s:List Stmt) (t':fX):Prop:=∃ t,(∀ X,jU D X->kL X s t)/\vV D.K t t'
def qA (K:PySem.W.Frag) (sp:i3):Sp:=fun vs H Q E=>∃ us M Q' E',RelM K H M/\aI K H M us vs/\sp us M Q' E'/\cK K H M Q' Q/\Vs K H M E' E
section
variable {D:Dat} {e:Expr} {te:UE} {tx:rD} {st:Stmt} {rest a b:List Stmt} {t u:US} {t' u':fX} {pos:Pos}
def AG (t:US):fX:=fun De _ τ M=>t De τ M
theorem cE (h:rW D st t):rF D st (AG t):=let ⟨_,p,s⟩:=h;⟨_,fun X h=>Si h.xe (p X h),fun σ τ H M D' E' rs rm q D E d _=>s σ τ H M D' rs rm q D d⟩
theorem j6 (h:m7 D rest t):l9 D rest (AG t):=let ⟨_,p,s⟩:=h;⟨_,fun X h=>Qg h.xe (p X h),fun σ τ H M D' E' rs rm q D E d _=>s σ τ H M D' rs rm q D d⟩
def DK (t u:fX):fX:=fun De E τ M=>t { De with nx:=u De E } E τ M
theorem aX (h1:rF D st t') (h2:l9 D rest u'):l9 D (st :: rest) (DK t' u'):=let ⟨_,p,s⟩:=h1;let ⟨_,q,r⟩:=h2;⟨_,fun X h=>KH (p X h) (q X h),fun σ τ H M D' E' rs rm z D E d c =>
 s σ τ H M _ E' rs rm z _ E ⟨fun σ1 τ1 H1 M1 s1 rm1 rs1 q1=>r σ1 τ1 H1 M1 D' E' rs1 rm1 q1 D E (d.stp s1) (c.stp s1),d.rt,d.bk,d.ct⟩ c⟩
theorem cD (h1:rF D st t'):l9 D [st] t':=let ⟨_,p,s⟩:=h1;⟨_,fun X h=>Ek (p X h),s⟩
def Sn (c:UT) (t u:fX):fX:=fun De E τ M=>c τ M fun b M1=>if b=true then t De E τ M1 else u De E τ M1
theorem k9 {c:Expr} {tc:UT} (hc:oA D c tc) (ha:l9 D a t') (hb:l9 D b u'):rF D (.If c a b pos) (Sn tc t' u'):=by
 obtain ⟨_,p,s⟩:=ha;obtain ⟨_,q,r⟩:=hb;obtain ⟨_,x,y⟩:=hc
 refine ⟨_,fun X h=>SM h.xe (x X h) (p X h) (q X h),fun σ τ H M D' E' rs rm z D E d c=>y σ τ H M _ rs rm z _ fun b M1 H1 s1 rm1 q1=>?_⟩
 cases b with
 | true=>exact s σ τ H1 M1 D' E' (rs.stp s1) rm1 q1 D E (d.stp s1) (c.stp s1)
 | false=>exact r σ τ H1 M1 D' E' (rs.stp s1) rm1 q1 D E (d.stp s1) (c.stp s1)
def qH (tx:rD):fX:=fun De E τ M=>tx τ M (fun _ M1=>De.nx τ M1) E
theorem uB (he:rM D e tx) (hs:∀ env,swapsWith e none pos.line env=pure false:=by intro _;rfl):rF D (.Expr e pos) (qH tx):=let ⟨_,p,s⟩:=he;⟨_,fun X h=>N8 (p X h) (hs _),fun σ τ H M D' E' rs rm z D E d c =>
 s σ τ H M _ E' rs rm z _ E (fun u v M1 H1 s1 rm1 ru q=>d.nx σ τ H1 M1 s1 rm1 (rs.stp s1) q) c⟩
def OS (tx:rD):fX:=fun De E τ M=>tx τ M De.rt E
theorem Uh (he:rM D e tx):rF D (.Return (some e) pos) (OS tx):=let ⟨_,p,s⟩:=he;⟨_,fun X h=>QE (p X h),fun σ τ H M D' E' rs rm z D E d c =>
 s σ τ H M _ E' rs rm z _ E (fun u v M1 H1 s1 rm1 ru q=>d.rt u v H1 M1 s1 rm1 ru q) c⟩
def mE (tx:rD) (i:Nat):fX:=fun De E τ M=>tx τ M (fun u M1=>De.nx (τ.set i (some u)) M1) E
theorem kR (i:Nat) {x:Str} {pos':Pos} (hN:D.N.Nodup) (he:rM D e tx) (hi:D.N[i]?=some x:=by rfl) (hx:Loc D.sc x:=by first | exact Or.inl rfl | exact Or.inr rfl) (hs:∀ env,swapsWith e (some (.Name x pos')) pos.line env=pure false:=by intro _;rfl)
  (hf:D.fn=true\/D.sc.names.lookup x=some .local:=by first | exact .inl rfl | exact .inr rfl):rF D (.Assign [.Name x pos'] e pos) (mE tx i):=by
 obtain ⟨_,p,s⟩:=he
 exact ⟨_,fun X h=>Rb (i:=i) (by rw [h.N];exact hN) (by rw [h.N];exact hi) (by rw [h.sc];exact hx) (p X h) (hs _) (by rcases hf with z | z;exact .inl (h.fn z x);exact .inr (by rw [h.sc];exact z)),fun σ τ H M D' E' rs rm z D E d c =>
  s σ τ H M _ E' rs rm z _ E (fun u v M1 H1 s1 rm1 ru q=>d.nx _ _ H1 M1 s1 rm1 ((rs.stp s1).set ru) q) c⟩
structure bV (P:Program) (w:World) (K:PySem.W.Frag) (mg:Str->Option Value) (base:Heap) (j:Nat) (x:Str) (sp:i3) (dus:List U):Prop where
 ex:∃ f fd ps dvs ds,fD P w K mg base (sF P w) j f fd ps (qA K sp)/\mg x=some (.ref f)/\PySem.W.keepIn K (.ref f)=true/\Binds K fd ps ds/\Vals dvs ds/\∀ H M,aI K H M dus dvs
abbrev WL (D:Dat):=bV D.prog D.w D.K D.mg D.base
def Bs (sp:i3) (dus:List U) (t:UA):rD:=fun τ M Q E=>t τ M fun us M1=>sp (us++dus) M1 Q fun C fs M2=>E C fs τ M2
theorem eS {sp:i3} {dus:List U} {j:Nat} {x:Str} {p:Pos} {es:List Expr} {tas:UA} (F:WL D j x sp dus) (ha:jZ D (e :: es) tas) (hfn:D.fn=true:=by rfl) (hj:j<=D.k:=by first | exact Nat.le_refl _ | (dsimp only;omega) | omega) (hg:D.sc.names.lookup x=some .globalImplicit:=by rfl) (hdb:(x == ("__debug__":Str))=false:=by decide)
  (he:∀ env,starEach (e :: es) env=(false,eval e env) :: starEach es env:=by intro _;rfl) (hpl:∀ env,(backTo pos (starEach es env)).any (·.1)=false:=by intro _;rfl):rM D (.Call (.Name x p) (e :: es) [] pos) (Bs sp dus tas):=by
 obtain ⟨f,fd,ps,dvs,ds,F,hm,kp,hb,hd,hr⟩:=F.ex
 obtain ⟨_,q,s⟩:=ha
 refine ⟨O9 (qA D.K sp) dvs _,fun X h=>?_,fun σ τ H M Q' E' rs rm z Q E c cx=>s σ τ H M _ rs rm z _ fun us vs M1 H1 s1 rm1 ru h1 =>
  ⟨us++dus,M1,Q',_,rm1,ru.append (hr _ _),h1,cK.stp c s1,fun C fs' fs H2 M2 d s2 rm2 ra hd q=>cx C fs' fs σ τ H2 M2 d (s1.trans s2) rm2 (rs.stp (s1.trans s2)) ra hd q⟩⟩
 have F':fD X.prog X.w X.K X.mg X.base (sF X.prog X.w) j f fd ps (qA D.K sp):=by rw [h.prog,h.w,h.K,h.mg,h.base];exact F
 exact OF h.xe (h.dl hfn).1 F' (h.room.mono hj) (by show X.env.scope.names.lookup x=_;rw [h.sc];exact hg) (by rw [h.mg];exact hm) (by rw [h.K];exact kp) (by rw [h.K];exact hb) hd (q X h) hdb (he _) (hpl _)
theorem C3 {K:PySem.W.Frag} {H:Hp} {M:aE} {u:U} {v v':V} (e:jV u=some v') (r:aP K H M u v):v=v'/\∀ H M,aP K H M u v':=by
 cases u with
 | non=>cases e;exact ⟨r.non,fun _ _=>jD⟩
 | bl b=>cases e;exact ⟨r.bl,fun _ _=>cX⟩
 | int i=>cases e;exact ⟨r.int,fun _ _=>dM⟩
 | str x=>cases e;exact ⟨r.str,fun _ _=>fJ⟩
 | _=>cases e
structure pA (P:Program) (w:World) (K:PySem.W.Frag) (mg:Str->Option Value) (base:Heap) (j:Nat) (cn:Str) (C:Addr) (attr:Str) (cond:V->Prop):Prop where
 ex:∃ R fI fd par,oP K C R fI/\mg cn=some (.ref C)/\lP P w K mg base iU j fI fd ["self",par] (kW C attr cond)/\Binds K fd ["self",par] []
def j7 (C:Addr) (attr:Str) (cond:V->Prop) (te:UE):fX:=fun _ E τ M=>te τ M fun u M1=>(∃ v,jV u=some v/\cond v)/\E C [(attr,u)] τ M1
theorem iP {j:Nat} {cn attr:Str} {C:Addr} {cond:V->Prop} {np cpos:Pos} (c:pA D.prog D.w D.K D.mg D.base j cn C attr cond) (he:bA D e te) (hfn:D.fn=true:=by rfl) (hj:j + 1<=D.k:=by first | exact Nat.le_refl _ | (dsimp only;omega) | omega) (hg:D.sc.names.lookup cn=some .globalImplicit:=by rfl) (hdb:(cn == ("__debug__":Str))=false:=by decide)
  (hs:∀ env,starEach [e] env=[(false,eval e env)]:=by intro _;rfl):rF D (.Raise (some (.Call (.Name cn np) [e] [] cpos)) none pos) (j7 C attr cond te):=by
 obtain ⟨R,fI,fd,par,cc,hm,F,hb⟩:=c.ex
 obtain ⟨_,p,s⟩:=he
 refine ⟨LR D.K C attr cond _,fun X h=>?_,fun σ τ H M D' E' rs rm z Q E d cx=>s σ τ H M _ rs rm z _ fun u v M1 H1 s1 rm1 ru ⟨⟨v',e1,e2⟩,q⟩=>?_⟩
 ·have cc':lN X.K C R fI:=by rw [h.K];exact cc.cl
  have F':lP X.prog X.w X.K X.mg X.base iU j fI fd ["self",par] (kW C attr cond):=by rw [h.prog,h.w,h.K,h.mg,h.base];exact F
  have:=Kf (pos:=pos) (np:=np) (cpos:=cpos) h.xe (h.dl hfn).1 h.calm cc' F' (h.room.h.mono hj) (by rw [h.K];exact hb) (by show X.env.scope.names.lookup cn=_;rw [h.sc];exact hg) (by rw [h.mg];exact hm) (p X h) hdb (hs _)
  exact this
 ·obtain ⟨rfl,r⟩:=C3 e1 ru
  exact ⟨e2,fun d hd=>cx C [(attr,u)] [(attr,v)] σ τ H1 M1 d s1 rm1 (rs.stp s1) (.cons ⟨rfl,e1⟩ .nil) hd q⟩
end
section
variable {P:Program} {w:World} {K:PySem.W.Frag} {mg:Str->Option Value} {base:Heap}
theorem eF {x:Str} {st:Stmt} {f:Addr} {fd:FuncData} {N ps:List Str} {k:Nat} {sp:i3} {t:fX} (F:b8 K x x st f fd) (hm:mg x=some (.ref f)) (S:aU N ps (aH st))
  (bind:∀ (kV doc pm:Value) (an:Option Addr) (cdv ct:Value) (us:List Value),us.length=ps.length->bindArgs (PySem.W.fnOf x x (eM st) (cH st) (aH st) .none kV doc pm an cdv ct) ⟨us,[]⟩=pure (ps.zip us))
  (len:∀ us M Q E,sp us M Q E->us.length=ps.length)
  (h:l9 ⟨P,w,K,mg,base,N,aH st,k,true,.none,""⟩ (cH st) t)
  (q:∀ us M Q E,sp us M Q E->t { nx:=fun _ M'=>hZ Q .non M',rt:=hZ Q } (fun C fs _ M1=>∃ M',Sub M' M1/\E C fs M') (c9 N us) M):bV P w K mg base (k + 1) x sp []:=by
 obtain ⟨t0,h1,h2⟩:=h
 refine ⟨f,fd,ps,[],[],F.okX S (fun vs H Q E ⟨us,M,Q',E',_,r,hs,_⟩=>by rw [<- r.length];exact len us M Q' E' hs) (fun cdv A outer s H vs Q E hr ⟨us,M,Q',E',rm,r,hs,c,cx⟩=>?_),hm,F.kp,F.binds bind,.nil,fun H M=>.nil⟩
 refine ⟨t0,h1 _ ⟨rfl,rfl,rfl,rfl,rfl,rfl,rfl,hr,rfl,rfl,fun _ _=>rfl,fun h=>absurd rfl h,fun _=>⟨rfl,rfl,rfl⟩⟩,?_⟩
 refine h2 _ (c9 N us) H M _ _ (rR r) rm (q us M Q' E' hs) _ _ ⟨fun σ τ H1 M1 s1 rm1 rs1 q1=>?_,fun u v H1 M1 s1 rm1 ru q1=>hZ.ok c s1 rm1 ru q1,fun _ _ _ _ _ _ _ z=>z.elim,fun _ _ _ _ _ _ _ z=>z.elim⟩ fun C fs' fs σ τ H1 M1 d s1 rm1 rs1 ra hd ⟨M',sb,q1⟩=>?_
 ·exact hZ.ok c s1 rm1 jD q1
 ·exact cx C fs' fs H1 M' d (s1.trans sb.less) (rm1.sub sb) ra hd q1
end
end U2
namespace U2
open PySem PySem.Spec L2
structure Il (D:Dat) (a C d:Addr) (fs:List (Str × V)) (X:Cx):Prop where
 prog:X.prog=D.prog
 w:X.w=D.w
 K:X.K=D.K
 mg:X.mg=D.mg
 N:X.N=D.N
 sc:X.env.scope=D.sc
 fn:D.fn=true->∀ x,X.fn x=true
 exc:∃ oe od,(a,oe)∈X.pn/\(d,od)∈X.pn/\oe.cls=.ref C/\oe.dict=some d/\(∃ vs,oe.data=.fields vs)/\DG od fs
def Vj:V->U
 | .non=>.non
 | .bl b=>.bl b
 | .int i=>.int i
 | .str x=>.str x
 | .ref a=>.ref a
 | .ty n=>.ty n
 | _=>.lst []
def mH (fs:List (Str × V)):List (Str × U):=fs.map fun p=>(p.1,Vj p.2)
theorem HG {u:U} {v:V} (e:jV u=some v):u=Vj v:=by
 cases u <;> first | (cases e;rfl) | cases e
theorem Jl.eq {fs':List (Str × U)} {fs:List (Str × V)} (r:Jl fs' fs):fs'=mH fs:=by
 induction r with
 | nil=>rfl
 | cons h _ ih =>
  rename_i p q _ _ _
  obtain ⟨p1,p2⟩:=p
  obtain ⟨q1,q2⟩:=q
  obtain ⟨h1,h2⟩:=h
  dsimp only at h1 h2
  rw [ih,h1,HG h2]
  rfl
def Kv (D:Dat) (a C:Addr) (fs':List (Str × U)) (e:Expr) (t':UE):Prop:=∃ t,(∀ X d fs,mH fs=fs'->Il D a C d fs X->PE X e t)/\bT D.K t t'
def Wk (D:Dat) (a C:Addr) (fs':List (Str × U)) (s:Stmt) (t':US):Prop:=∃ t,(∀ X d fs,mH fs=fs'->Il D a C d fs X->PS X s t)/\jG D.K t t'
def Th (D:Dat) (a C:Addr) (fs':List (Str × U)) (s:List Stmt) (t':US):Prop:=∃ t,(∀ X d fs,mH fs=fs'->Il D a C d fs X->lH X s t)/\jG D.K t t'
section
variable {D:Dat} {a0 C:Addr} {F:List (Str × U)} {e:Expr} {te:UE} {es:List Expr} {tas:UA} {pos:Pos} {st:Stmt} {sts:List Stmt} {t u:US}
theorem Pb (i:Nat) {x:Str} (hN:D.N[i]?=some x:=by rfl) (hv:BR D.sc x:=by first | exact Or.inl rfl | exact Or.inr (Or.inl rfl) | exact Or.inr (Or.inr rfl)) (hd:(x == ("__debug__":Str))=false:=by decide)
  (hcd:(x == ("__classdict__":Str))=false:=by decide):Kv D a0 C F (.Name x pos) (i5 i) :=
 ⟨_,fun X _ _ _ h=>lV (by rw [h.N];exact hN) (by rw [h.sc];exact hv) hd hcd,Ah i⟩
theorem VN (i:Nat) {x:Str} {pos':Pos} (hN:D.N.Nodup) (he:Kv D a0 C F e te) (hi:D.N[i]?=some x:=by rfl) (hx:Loc D.sc x:=by first | exact Or.inl rfl | exact Or.inr rfl) (hs:∀ env,swapsWith e (some (.Name x pos')) pos.line env=pure false:=by intro _;rfl)
  (hf:D.fn=true\/D.sc.names.lookup x=some .local:=by first | exact .inl rfl | exact .inr rfl):Wk D a0 C F (.Assign [.Name x pos'] e pos) (bH te (hName i)):=by
 obtain ⟨_,p,s⟩:=he
 exact ⟨_,fun X d fs r h=>Lk (i:=i) (by rw [h.N];exact hN) (by rw [h.N];exact hi) (by rw [h.sc];exact hx) (p X d fs r h) (hs _) (by rcases hf with z | z;exact .inl (h.fn z x);exact .inr (by rw [h.sc];exact z)),Aa s (sL i)⟩
theorem Up (h1:Wk D a0 C F st t):Th D a0 C F [st] t:=let ⟨_,p,s⟩:=h1;⟨_,fun X d fs r h=>Cm (p X d fs r h),s⟩
def JG:V->Value
 | .ref a=>.ref a
 | .ty n=>.type n
 | _=>.none
theorem Mz {v:V} {u:Value} (r:RelV v u) (n:JG v≠.none):u=JG v:=by
 cases v <;> first | exact r | exact absurd rfl n
theorem Me:∀ {vs:List V} {us:List Value},Vals vs us->(∀ v∈vs,JG v≠.none)->us=vs.map JG
 | _,_,.nil,_=>rfl
 | _,_,.cons r t,n=>by rw [Mz r (n _ List.mem_cons_self),Me t fun v hv=>n v (List.mem_cons_of_mem _ hv)];rfl
def R4 (i:Nat) (Cn:Addr) (K:PySem.W.Frag) (tb:fX) (th:Addr->Addr->List (Str × U)->US):US:=fun De τ M=>tb De (fun C fs τ' M'=>PySem.W.subIn K (.ref C) (.ref Cn)=some true /\
 ∀ a,th a C fs { nx:=fun τ M=>De.nx (τ.set i none) M,rt:=De.rt,bk:=fun τ M=>De.bk (τ.set i none) M,ct:=fun τ M=>De.ct (τ.set i none) M } (τ'.set i (some (.ref a))) M') τ M
theorem cJ.setNone {K:PySem.W.Frag} {H:Hp} {M:aE} {σ:St} {τ:SU} {i:Nat} (r:cJ K H M σ τ):cJ K H M (σ.set i none) (τ.set i none):=by
 refine ⟨by simp [r.1],fun j w e=>?_⟩
 rw [List.getElem?_set] at e ⊢
 split at e
 ·split at e <;> cases e
 ·rename_i hj
  rw [if_neg hj]
  exact r.2 j w e
theorem Ts (i:Nat) {n cn:Str} {Cn:Addr} {body suite:List Stmt} {b₀:Stmt} {tb:fX} {th:Addr->Addr->List (Str × U)->US} {cp hp:Pos} (hN:D.N.Nodup) (hm:D.mg cn=some (.ref Cn)) (hc:AU D.K Cn) (hbody:l9 D body tb) (hh:∀ a C fs,Th D a C fs (b₀ :: suite) (th a C fs))
  (hi:D.N[i]?=some n:=by rfl) (hk:D.sc.names.lookup n=some .local:=by rfl) (hg:D.sc.names.lookup cn=some .globalImplicit:=by rfl) (hfn:D.fn=true:=by rfl) (hdb:(cn == ("__debug__":Str))=false:=by decide) :
  rW D (.Try body [.ExceptHandler (some (.Name cn cp)) (some n) (b₀ :: suite) hp] [] [] pos) (R4 i Cn D.K tb th):=by
 obtain ⟨t0,p,s⟩:=hbody
 refine ⟨R7 i Cn D.K t0 (fun a C d fs=>(hh a C (mH fs)).choose),fun X h=>?_,fun σ τ H M D' rs rm z De d=>s σ τ H M D' _ rs rm z De _ d ?_⟩
 ·have hd:=h.dl hfn
  have:=Sg (i:=i) (b₀:=b₀) (suite:=suite) (pos:=pos) (hp:=hp) (cp:=cp) (th:=fun a C d fs=>(hh a C (mH fs)).choose) h.xe hd.1 hd.2.1 hd.2.2 (by rw [h.N];exact hN) (by rw [h.N];exact hi) (by rw [h.sc];exact hk) (p X h) (by show X.env.scope.names.lookup cn=_;rw [h.sc];exact hg) (by rw [h.mg];exact hm) (by rw [h.K];exact hc) (fun a C d fs oe od o1 o2 o3 o4=>?_) hdb
  ·rw [h.K] at this
   exact this
  ·refine (hh a C (mH fs)).choose_spec.1 _ d fs rfl ⟨h.prog,h.w,h.K,h.mg,h.N,h.sc,h.fn,oe,od,?_,?_,o1,o2,o3,o4⟩
   ·exact List.mem_append_right _ List.mem_cons_self
   ·exact List.mem_append_right _ (List.mem_cons_of_mem _ List.mem_cons_self)
 ·intro C fs' fs σ1 τ1 H1 M1 d1 s1 rm1 rs1 ra G9 ⟨q1,q2⟩ C' d' H' fsx e1 e2 e3 e4
  cases e1;cases e2
  have e5:fsx=fs:=by
   have:=congrFun e3 d1
   rw [bQ,bQ] at this
   cases this;rfl
  have e6:H'=H1:=by
   funext b
   by_cases hb:b=d1
   ·rw [hb,G9,e4]
   ·have:=congrFun e3 b
    rw [bC hb,bC hb] at this
    exact this.symm
  subst e5;subst e6
  refine ⟨q1,fun a=>?_⟩
  have q3:=q2 a
  rw [ra.eq] at q3
  refine (hh a C (mH fsx)).choose_spec.2 _ _ H' M1 _ (rs1.set rL) rm1 q3 _ ⟨fun σ2 τ2 H2 M2 s2 rm2 rs2 q=>?_,fun u v H2 M2 s2 rm2 ru q=>?_,fun σ2 τ2 H2 M2 s2 rm2 rs2 q=>?_,fun σ2 τ2 H2 M2 s2 rm2 rs2 q=>?_⟩
  ·exact d.nx _ _ H2 M2 (s1.trans s2) rm2 rs2.setNone q
  ·exact d.rt u v H2 M2 (s1.trans s2) rm2 ru q
  ·exact d.bk _ _ H2 M2 (s1.trans s2) rm2 rs2.setNone q
  ·exact d.ct _ _ H2 M2 (s1.trans s2) rm2 rs2.setNone q
end
end U2
namespace L2
open PySem PySem.Spec
section
variable {X:Cx}
theorem O5 {pins:List (Addr × Obj)} {E:XS} (hex:X.ex=[]) (hst:X.stack=X.env :: X.outer) (hf:X.env.frame=some X.env.locals):PassesOwn (model X.prog X.w) X.A X.env (XP X pins E):=by
 rintro e s' ⟨a,C,d,fs,σ',H',rfl,I,r,q⟩
 refine HS I hst hf hex r fun s1 eo I1 r1 ⟨oe,vs,T,g1,g2,g3⟩=>?_
 refine wpAny_bind (wpAny_field g1 g2 g3 ?_)
 rw [if_neg (show ¬ ((Value.ref T == Value.none)=true) from by simp),hf]
 exact yP (some X.env.locals) I1 hex r1 fun s2 I2 r2=>⟨a,C,d,fs,σ',H',rfl,I2,r2.imp (fun v e=>.inr e) (Nat.le_refl _) fun _ z=>z,q⟩
theorem XP.unpin {pins pl:List (Addr × Obj)} {E:XS} {e:Value} {s:Shared} (x:XP X (pins++pl) E e s):XP X pins E e s:=by
 obtain ⟨a,C,d,fs,σ',H',rfl,I,r,q⟩:=x
 refine ⟨a,C,d,fs,σ',H',rfl,I.unpinned,r.imp (fun _ z=>z) (Nat.le_refl _) fun b ⟨n1,n2,n3,n4⟩=>⟨n1,n2,n3,fun p hp=>n4 p ?_⟩,q⟩
 rcases List.mem_append.mp hp with h | h
 ·exact List.mem_append_left _ h
 ·exact List.mem_append_right _ (List.mem_append_left _ h)
def Ug (wi:TI) (g:TG) (tb:jI):jI:=fun D E σ H=>MC wi g (fun D' σ H=>tb D' E σ H) D σ H
theorem RD {tg iter:Expr} {body:List Stmt} {wi:TI} {g:TG} {tb:jI} {pos:Pos} (hx:sO X) (hex:X.ex=[]) (hst:X.stack=X.env :: X.outer) (hf:X.env.frame=some X.env.locals) (hc:X.calm=true) (hi:PI X tg iter wi) (hg:PG X tg g) (hb:kL X body tb)
  (hs:∀ x,foldedSetIterable iter X.env x=pure x:=by intro _;rfl):uV X (.For tg iter body [] pos) (Ug wi g tb):=by
 intro pins s σ H D E I h
 have no:∀ {α:Type} {t:Sem α} {Q:α->Shared->Prop} {s:Shared},wpAny (model X.prog X.w) X.A t Q X.xe s->wpAny (model X.prog X.w) X.A t Q (XP X pins E) s:=fun z=>wpAny_mono z (fun _ _ y=>y) fun _ _ y=>by rw [hx] at y;exact y.elim
 have hp:PassesOwn (model X.prog X.w) X.A X.env (XP X pins E):=O5 hex hst hf
 refine wpAny_For (aZ (no (hi pins s σ H _ I h)) fun v s1 h1=>aZ (no h1) fun itv s2 h2=>?_) hs
 obtain ⟨it,fp,tn,J,H2,e,I2,T,st2,f2,W,⟨m0,w0⟩,turn⟩:=h2
 subst e
 have stat:∀ {H':Hp},(∀ b∈fp,H' b=none)->∀ b∈fp,tV X pins H' b:=fun hn b hb=>⟨hn b hb,(f2 b hb).2⟩
 refine codeAny_forLoop_any (fun n s'=>∃ i σ' H',Inv X pins σ' H' s'/\tn i s'.heap/\(∀ b∈fp,H' b=none)/\W i n σ' H') ?_ m0 ⟨0,σ,H2,I2,st2,fun b hb=>(f2 b hb).1,w0⟩
 rintro n s3 ⟨i,σ3,H3,I3,st3,fr3,w3⟩
 rcases turn i n σ3 H3 w3 with ⟨stop,qn⟩ | ⟨go,N,hN,step⟩
 ·refine wpAny_passesOwn hp (aZ (no (T.done X rfl rfl rfl hc i pins s3 σ3 H3 X.xe I3 (stat fr3) st3 stop)) fun r s4 ⟨hr,I4⟩=>?_)
  subst hr
  exact wpAny_execs_nil ⟨σ3,H3,I4,qn⟩
 ·refine wpAny_passesOwn hp (aZ (no (T.item X rfl rfl rfl hc i pins s3 σ3 H3 X.xe I3 (stat fr3) st3 go)) fun r s4 ⟨u,hr,h4⟩=>?_)
  subst hr
  refine wpAny_passesOwn hp (aZ (no h4) fun _ s5 ⟨x,H5,I5,r5,y5,st5,fr5⟩=>?_)
  have I5':=I5.pinned (stat fr5) (T.obj _ _ st5)
  refine wpAny_passesOwn hp (aZ (no (hg _ s5 σ3 H5 x u _ I5' r5 (step x H5 y5))) fun _ s6 ⟨σ6,H6,I6,q6⟩=>?_)
  refine wpAny_passesOwn hp (wpAny_mono (hb _ s6 σ6 H6 _ E I6 q6) (fun f s7 q7=>?_) fun _ _ z=>z.unpin)
  have again:∀ {σ7:St} {H7:Hp},Inv X (pins++uN fp s5.heap) σ7 H7 s7->N σ7 H7->∃ m,m < n/\∃ i σ' H',Inv X pins σ' H' s7/\tn i s7.heap/\(∀ b∈fp,H' b=none)/\W i m σ' H':=fun {σ7 H7} I7 n7=>by
   obtain ⟨m',hm,w7⟩:=hN σ7 H7 n7
   refine ⟨m',hm,i + 1,σ7,H7,I7.unpinned,T.keep _ _ _ st5 fun b hb o e=>(I7.pin (b,o) (List.mem_append_right _ (List.mem_append_right _ (kG hb e)))).1,fun b hb=>?_,w7⟩
   obtain ⟨o,e,d⟩:=T.obj _ _ st5 b hb
   exact (I7.pin (b,o) (List.mem_append_right _ (List.mem_append_right _ (kG hb e)))).2.1
  cases f with
  | next=>obtain ⟨σ7,H7,I7,n7⟩:=q7;exact again I7 n7
  | cont=>obtain ⟨σ7,H7,I7,n7⟩:=q7;exact again I7 n7
  | brk=>obtain ⟨σ7,H7,I7,q7⟩:=q7;exact ⟨σ7,H7,I7.unpinned,q7⟩
  | ret v=>obtain ⟨x7,σ7,H7,I7,r7,q7⟩:=q7;exact ⟨x7,σ7,H7,I7.unpinned,r7,q7⟩
end
end L2
namespace U2
open PySem PySem.Spec L2
section
variable {D:Dat} {pos:Pos}
def OW (wi:UI) (g:UG) (tb:fX):fX:=fun De E τ M=>HU wi g (fun D' τ M=>tb D' E τ M) De τ M
theorem MU {K:PySem.W.Frag} {t:jI} {t':fX} {wi:TI} {wi':UI} {g:TG} {g':UG} (hi:vY K wi wi') (hg:zK K g g') (h1:vV K t t'):vV K (Ug wi g t) (OW wi' g' t'):=fun σ τ H M D' E' rs rm h D E d cx=>by
 refine hi σ τ H M _ rs rm h _ fun J S M0 H0 s0 rm0 w h=>?_
 obtain ⟨P,p0,hok,turn,fin⟩:=h
 refine ⟨fun i m σ1 H1=>∃ τ1 M1,aW H0 M0 H1 M1/\RelM K H1 M1/\cJ K H1 M1 σ1 τ1/\P i τ1 M1/\i<=S.xs.length/\m=S.xs.length - i,⟨_,τ,M0,aW.refl _ _,rm0,rs.stp s0,p0,Nat.zero_le _,rfl⟩,?_⟩
 rintro i m σ1 H1 ⟨τ1,M1,s1,rm1,rs1,p1,hle,rfl⟩
 have ok1:=hok i τ1 M1 p1
 by_cases hlt:i < S.xs.length
 ·obtain ⟨go,yl⟩:=w.step H1 M1 s1 rm1 ok1 i S.xs[i] (by simp [hlt])
  refine .inr ⟨go,fun σ3 H3=>∃ τ3 M3,aW H0 M0 H3 M3/\RelM K H3 M3/\cJ K H3 M3 σ3 τ3/\P (i + 1) τ3 M3,?_,fun x H2 y=>?_⟩
  ·rintro σ3 H3 ⟨τ3,M3,s3,rm3,rs3,p3⟩
   exact ⟨S.xs.length - (i + 1),by omega,τ3,M3,s3,rm3,rs3,p3,hlt,rfl⟩
  ·obtain ⟨s2,rm2,ru⟩:=yl x H2 y
   refine hg _ x σ1 τ1 H2 M1 _ ru (rs1.stp s2) rm2 (turn i S.xs[i] τ1 M1 (by simp [hlt]) p1) _ fun σ3 τ3 H3 M3 s3 rm3 rs3 q3=>?_
   have st:=((s0.trans s1).trans s2).trans s3
   have d3:=d.stp st
   exact h1 σ3 τ3 H3 M3 _ E' rs3 rm3 q3 _ E ⟨fun σ4 τ4 H4 M4 s4 rm4 rs4 q4=>⟨τ4,M4,((s1.trans s2).trans s3).trans s4,rm4,rs4,q4⟩,d3.rt,d3.nx,fun σ4 τ4 H4 M4 s4 rm4 rs4 q4=>⟨τ4,M4,((s1.trans s2).trans s3).trans s4,rm4,rs4,q4⟩⟩ (cx.stp st)
 ·have e:i=S.xs.length:=by omega
  subst e
  exact .inl ⟨w.stop H1 M1 s1 rm1 ok1,d.nx σ1 τ1 H1 M1 (s0.trans s1) rm1 rs1 (fin τ1 M1 p1)⟩
theorem Sh {k:Nat} {tg iter:Expr} {body:List Stmt} {wi:UI} {g:UG} {t:fX} (hi:BD D tg iter wi) (hg:Dh D k tg g) (hb:l9 D body t) (hfn:D.fn=true:=by rfl) (hs:∀ env x,foldedSetIterable iter env x=pure x:=by intro _ _;rfl):rF D (.For tg iter body [] pos) (OW wi g t):=by
 obtain ⟨_,p,s⟩:=hi;obtain ⟨_,q,r,_⟩:=hg;obtain ⟨_,x,y⟩:=hb
 exact ⟨_,fun X h=>RD h.xe (h.dl hfn).1 (h.dl hfn).2.1 (h.dl hfn).2.2 h.calm (p X h) (q X h) (x X h) (hs _),MU s r y⟩
end
end U2
namespace L2
open PySem PySem.Spec
section
variable {X:Cx} {e:Expr} {te:TE} {p1 p2 p3 p4:Pos} {a b:Str}
def JP:V->Option Str
 | .str z=>some z
 | .int n=>if n.natAbs.log2 < 1920 then some (toString n) else none
 | _=>none
def Us (a:Str) (te:TE):TE:=fun σ H Q=>te σ H fun v H1=>∃ z,JP v=some z/\z.length<=100000/\(a++z).length<=100000/\Q (.str (a++z)) H1
theorem xG {n:Nat} (h:n<=100000):n<=sizeLine:=Nat.le_trans h (by decide)
theorem len_app (a b:Str):(a++b).length=a.length + b.length:=strLen_append a b
theorem Vc {pos:Pos} (he:PE X e te):PE X (.FormattedValue e (-1) none pos) (fun σ H Q=>te σ H fun v H1=>∃ z,JP v=some z/\z.length<=100000/\Q (.str z) H1):=by
 intro pins s σ H Q I h
 refine PyProof.Rows.FormattedValue_plain (aZ (he pins s σ H _ I h) fun u s1 ⟨v,H1,I1,r,z,e1,e2,q⟩=>?_)
 cases v with
 | str y =>
  obtain rfl:y=z:=Option.some.inj e1
  obtain ⟨t,rfl⟩:=(show ∃ t,u=Value.str y t from r)
  exact PyProof.Rows.formatField_str (fun t' tk=>⟨.str y,H1,I1.tok tk,⟨t',rfl⟩,q⟩) (xG e2)
 | int n =>
  by_cases hn:n.natAbs.log2 < 1920
  ·have e1':JP (.int n)=some (Str.ofString (toString n)):=if_pos hn
   rw [e1'] at e1
   obtain rfl:=Option.some.inj e1
   obtain ⟨t,rfl⟩:=(show ∃ t,u=Value.int n t from r)
   exact PyProof.Rows.formatField_int_small hn ⟨.str (toString n),H1,I1.tok _,⟨_,rfl⟩,q⟩
  ·have e1':JP (.int n)=none:=if_neg hn
   rw [e1'] at e1;cases e1
 | _=>cases e1
theorem OV {j} (he:PE X e te) (ha:a.length<=100000:=by decide) (hev:evalEach [.Constant (.str a) j p1,.FormattedValue e (-1) none p2] X.env=[eval (.Constant (.str a) j p1) X.env,eval (.FormattedValue e (-1) none p2) X.env]:=by rfl):PE X (.JoinedStr [.Constant (.str a) j p1,.FormattedValue e (-1) none p2] p3) (Us a te):=by
 intro pins s σ H Q I h
 refine wpAny_JoinedStr ?_
 rw [hev]
 refine aZ (LH pins s σ H (fun v H1=>v=.str a/\H1=H) I ⟨rfl,rfl⟩) fun u1 s1 ⟨v1,H1,I1,r1,e1,e2⟩=>?_
 subst e1;subst e2
 obtain ⟨t1,rfl⟩:=(show ∃ t,u1=Value.str a t from r1)
 have hl:=PySem.Str.empty_append a
 refine ⟨a,t1,rfl,by rw [hl];exact xG ha,?_⟩
 rw [hl]
 let Q':VK:=fun w H1=>match w with | .str z=>(a++z).length<=100000/\Q (.str (a++z)) H1 | _=>False
 refine aZ (Vc (pos:=p2) he pins s1 σ H1 Q' I1 h) fun u2 s2 ⟨v2,H2,I2,r2,q2⟩=>?_
 cases v2 with
 | str z =>
  obtain ⟨t2,rfl⟩:=(show ∃ t,u2=Value.str z t from r2)
  exact ⟨z,t2,rfl,xG q2.1,xG q2.1,⟨.str (a++z),H2,I2.tok _,⟨_,rfl⟩,q2.2⟩⟩
 | _=>exact q2.elim
end
end L2
namespace U2
open PySem PySem.Spec L2
section
variable {P:Program} {w:World} {K:PySem.W.Frag} {mg:Str->Option Value} {base:Heap}
end
section
variable {D:Dat} {a0 C:Addr} {F:List (Str × U)} {e:Expr} {te ta tb:UE} {a b:Expr} {pos:Pos}
theorem EO:∀ {fs:List (Str × V)} {x:Str} {u:U} {v:V},(mH fs).lookup x=some u->jV u=some v->fs.lookup x=some v
 | [],_,_,_,h,_=>nomatch h
 | (y,w) :: fs,x,u,v,h,e=>by
  unfold mH at h
  simp only [List.map_cons,List.lookup] at h ⊢
  cases hx:(x == y) with
  | true =>
   rw [hx] at h
   cases h
   cases w <;> first | (cases e;rfl) | cases e
  | false =>
   rw [hx] at h
   exact EO (fs:=fs) h e
theorem KO {K:PySem.W.Frag} {H:Hp} {M:aE} {u:U} {v:V} (e:jV u=some v):aP K H M u v:=by
 cases u <;> first | (cases e;first | exact jD | exact cX | exact dM | exact fJ) | cases e
def IA (K:PySem.W.Frag) (a C:Addr) (F:List (Str × U)) (x:Str) (te:UE):UE:=fun τ M Q=>te τ M fun y M1=>y=.ref a/\(∃ R fI,oP K C R fI/\PySem.W.findIn K (.ref C) x=some none)/\∃ u v,F.lookup x=some u/\jV u=some v/\Q u M1
theorem S7 {x:Str} (he:Kv D a0 C F e te) (hb:∀ env,attributeBase e x env (eval e env)=eval e env:=by intro _;rfl):Kv D a0 C F (.Attribute e x pos) (IA D.K a0 C F x te):=by
 obtain ⟨t0,p,s⟩:=he
 refine ⟨fun σ H Q=>t0 σ H fun y H1=>y=.ref a0/\(∃ R fI,oP D.K C R fI/\PySem.W.findIn D.K (.ref C) x=some none)/\∃ u v,F.lookup x=some u/\jV u=some v/\Q v H1,fun X d fs ef h=>?_,fun σ τ H M Q' rs rm z Q c=>s σ τ H M _ rs rm z _ fun u v M1 H1 s1 rm1 ru ⟨e1,e2,u',v',e3,e4,q⟩=>?_⟩
 ·intro pins s σ H Q I hq
  refine P4 (hb _) (aZ (p X d fs ef h pins s σ H _ I hq) fun u s1 ⟨y,H1,I1,r1,e1,⟨R,fI,cg,nf⟩,u',v',e3,e4,q⟩=>?_)
  subst e1
  obtain rfl:u=Value.ref a0:=r1
  obtain ⟨oe,od,m1,m2,o1,o2,⟨vs,o3⟩,es,ep,mA,g1,g2,g3,g4,g5⟩:=h.exc
  have k1:=(I1.pin (a0,oe) (List.mem_append_left _ m1)).1
  have k2:=(I1.pin (d,od) (List.mem_append_left _ m2)).1
  subst ef
  have hl:=EO e3 e4
  have hm:=g5 x
  rw [hl] at hm
  cases hu:mA x with
  | none=>rw [hu] at hm;exact hm.elim
  | some w' =>
   rw [hu] at hm
   have hv:RelV v' w':=hm
   have KX:D.K.In s1.heap:=by have:=I1.kIn;rw [h.K] at this;exact this
   obtain ⟨hh,g,dd,t,os⟩:=s1
   refine Vt KX cg nf k1 o1 o2 o3 (m:=mA) ⟨od,es,ep,k2,g1,g2,g4⟩ hu (fun id z=>?_) ⟨v',H1,I1.tok _,hv,q⟩
   subst z
   cases u' <;> first | (cases e4;first | (obtain ⟨_,z⟩:=hv;cases z) | cases hv) | cases e4
 ·subst e1
  exact ⟨ru.ref,e2,u',v',e3,e4,c u' v' M1 H1 s1 rm1 (KO e4) q⟩
end
end U2
namespace L2
open PySem PySem.Spec PyProof.Rows
theorem Dq:entryFor table "proto.unchain"=some Builtin.«proto.unchain»:=entryFor_of_fast (by kernel_rfl)
def JT (e a0:Addr) (h:Heap):Heap:=((h.update e (Obj.mapFields (·.setIfInBounds 3 .none))).update e (Obj.mapFields (·.setIfInBounds 4 (.bool true)))).update e (Obj.mapFields (·.setIfInBounds 2 (.ref a0)))
theorem Gx {prog:Program} {w:World} {nm q:Str} {C N R:Addr} {bs:List Value} {sn:List Str} {sub:List Value} {ab:Bool} {col:Option Bool} {dd:Option Addr} {k0 k1 k2 k3 k5:Option Value} {A:Around} {s:Shared} {E:Value->Shared->Prop} {env:Env} {x c:Sem Value} {Q:Flow->Shared->Prop} {a0:Addr} (hh:A.handled=some (.ref a0))
  (hc:∀ {Q:Value->Shared->Prop} {E:Value->Shared->Prop} {s:Shared},Q .none s->wpAny (model prog w) A c Q E s)
  (h:wpAny (model prog w) A x (fun v s₁=>∃ e t d oh vh,v=.ref e/\s₁.heap.get? C=some (excClassObj nm q C N bs (oB R) true sn sub ab col dd k0 k1 k2 k3 k5 "ValueError.__new__")/\s₁.heap.get? e=some (m9 C t (some d))/\e≠a0/\e≠C/\s₁.heap.get? a0=some oh/\oh.data=.fields vh/\vh[2]?=some .none/\E (.ref e) { s₁ with heap:=JT e a0 s₁.heap }) E s) :
  wpAny (model prog w) A (raiseStmt env (some x) (some c)) Q E s:=by
 have hcB:(Value.ref C :: oB R).contains (.type "BaseException")=true:=by rw [List.contains_cons];rfl
 unfold raiseStmt
 refine wpAny_bind (wpAny_mono h (fun v s₁ h₁=>?_) fun _ _ x=>x)
 obtain ⟨e,t,d,oh,vh,rfl,hC,he,hne,hnC,h0,hd0,hv0,hE⟩:=h₁
 refine wpAny_bind (wpAny_holding (hc (wpAny_bind (wpAny_pure ?_))))
 unfold m9 at he
 obtain ⟨hp,g,dr,tk,os⟩:=s₁
 repeat (first | with_reducible refine wpAny_loadPart_at he ?_ | with_reducible refine wpAny_loadPart_at hC ?_ | (with_reducible refine wpAny_isSubtype_exc hC ?_;rw [hcB]) | wp_step)
 have other:∀ b,b≠e->(((hp.update e (Obj.mapFields (·.setIfInBounds 3 .none))).update e (Obj.mapFields (·.setIfInBounds 4 (.bool true)))).get? b=hp.get? b):=fun b hb=>by
  rw [Heap.get?_update_other _ _ (Ne.symm hb),Heap.get?_update_other _ _ (Ne.symm hb)]
 have g1:=Heap.get?_update_self (Obj.mapFields (·.setIfInBounds 3 Value.none)) he (Obj.isFreed_of_fields (Obj.data_mapFields rfl _))
 have g2:=Heap.get?_update_self (Obj.mapFields (·.setIfInBounds 4 (Value.bool true))) g1 (Obj.isFreed_of_fields (Obj.data_mapFields rfl _))
 unfold raiseNew
 refine wpAny_bind (wpAny_handled ?_)
 rw [hh]
 have hne':(Value.ref a0 != Value.ref e)=true:=by
  simp only [bne_iff_ne,ne_eq,Value.ref.injEq]
  exact fun z=>hne z.symm
 simp only [hne',if_true]
 have hf2:(((hp.update e (Obj.mapFields (·.setIfInBounds 3 .none))).update e (Obj.mapFields (·.setIfInBounds 4 (.bool true)))).get? a0=some oh):=(other a0 (Ne.symm hne)).trans h0
 refine wpAny_bind (wpAny_holding (runValue_entry Dq ?_))
 show wpAny _ _ (field (.ref a0) 2 >>= _) _ _ _
 refine wpAny_bind (wpAny_field hf2 hd0 hv0 ?_)
 rw [if_pos (by rfl)]
 refine wpAny_bind (wpAny_pure (wpAny_pure ⟨.none,rfl,?_⟩))
 unfold updateField
 refine wpAny_bind (wpAny_bind (wpAny_load g2 ?_))
 rw [Obj.data_mapFields (Obj.data_mapFields rfl _) _]
 show wpAny _ _ (update e (Obj.mapFields fun x=>x.setIfInBounds 2 (Value.ref a0))) _ _ _
 refine wpAny_update g2 (wpAny_throw hE)
section
variable {X:Cx} {pins pl:List (Addr × Obj)} {σ:St} {H:Hp} {s:Shared} {a C d:Addr} {fs:List (Str × V)}
theorem Inv.updF {b:Addr} {o:Obj} {vs:Array Value} (g:Array Value->Array Value) (I:Inv X pins σ H s) (hb:s.heap.get? b=some o) (hd:o.data=.fields vs) (hs:X.s₀.heap.objs.size<=b) (n:pL X pins H b):Inv X pins σ H { s with heap:=s.heap.update b (Obj.mapFields g) }:=by
 have oth:∀ c,c≠b->(s.heap.update b (Obj.mapFields g)).get? c=s.heap.get? c:=fun c hc=>Heap.get?_update_other _ _ (Ne.symm hc)
 have un:Un (gA X.stack) [b] H H s.heap (s.heap.update b (Obj.mapFields g)):=by
  have ne:∀ c,c ∉ [b]->c≠b:=fun c hc z=>hc (by rw [z];exact List.mem_cons_self)
  exact ⟨fun c o e _ _ hc=>(oth c (ne c hc)).trans e,fun c o e _ _ hc=>⟨o.slots,(oth c (ne c hc)).trans e⟩,fun _ _ _ n _=>n,fun c o e hc=>⟨o,(oth c (ne c hc)).trans e⟩,fun _ _ q=>q,fun _ _ _ q=>q,fun _ ps q=>⟨#[],by rw [q];simp⟩⟩
 have hok:dX X.prog X.w H (s.heap.update b (Obj.mapFields g)):=fun c o e=>(I.hok c o e).stay (fun c' u hc q=>(oth c' (by
  rintro rfl
  rcases hc with rfl | hc
  ·rw [n.2.1] at e;cases e
  ·rw [n.2.1] at hc;cases hc)).trans q) (fun _ q=>q) fun _ _ q=>q
 refine I.call (g':=s.gens) (t':=s.toks) (d':=s.drawn) un hok I.bare fun c hc=>?_
 obtain rfl:c=b:=by simpa using hc
 have nc:∀ x c',X.env.cells.lookup x=some c'->c'≠c:=fun x c' e z=>by
  obtain ⟨v,oc,g1,g2⟩:=I.cell x c' e
  rw [z,hb] at g1;cases g1;rw [hd] at g2;cases g2
 exact ⟨.inr hs,n.2.2.1,nc,n.2.2.2⟩
theorem Io {k:Nat} {R fI:Addr} {fd:FuncData} {par attr x:Str} {cond:V->Prop} {e:Expr} {te:TE} {np cpos pos kp:Pos} {kj:Nat} {a0:Addr} {oh:Obj} {vh:Array Value} (hx:sO X) (hex:X.ex=[]) (hh:X.A.handled=some (.ref a0)) (h0:(a0,oh)∈X.pn) (hd0:oh.data=.fields vh) (hv0:vh[2]?=some .none) (c:lN X.K C R fI)
  (F:lP X.prog X.w X.K X.mg X.base iU k fI fd ["self",par] (kW C attr cond)) (hr:kZ (k + 1) X.A) (hb:Binds X.K fd ["self",par] []) (hg:Gl X x) (hm:X.mg x=some (.ref C)) (he:PE X e te) (hdb:(x == ("__debug__":Str))=false:=by decide)
  (hs:starEach [e] X.env=[(false,eval e X.env)]:=by rfl):uV X (.Raise (some (.Call (.Name x np) [e] [] cpos)) (some (.Constant .none kj kp)) pos) (fun _ E σ H=>te σ H fun y H1=>cond y/\∀ d,H1 d=none->E (.ref C) (some d) σ (upd H1 d (.xd [(attr,y),(attr,y)]))):=by
 intro pins s σ H D E I h
 obtain ⟨nm,qq,N,bs,sn,sub,ab,col,dd,k0,k1,k2,k3,k5,hC⟩:=c.obj
 rw [arm_exec_Raise]
 have ev:wpAny (model X.prog X.w) X.A (eval (.Call (.Name x np) [e] [] cpos) X.env) (fun v s'=>∃ a t d oh vh,v=.ref a/\s'.heap.get? C=some (excClassObj nm qq C N bs (oB R) true sn sub ab col dd k0 k1 k2 k3 k5 "ValueError.__new__")/\s'.heap.get? a=some (m9 C t (some d))/\a≠a0/\a≠C/\s'.heap.get? a0=some oh/\oh.data=.fields vh/\vh[2]?=some .none/\XP X pins E (.ref a) { s' with heap:=JT a a0 s'.heap }) (XP X pins E) s:=by
  refine wpAny_Call_Name_kw (kH I hg hm ?_ hdb)
  have pa:PA X [e] (fun σ H Q=>te σ H fun y H1=>Q [y] H1):=uW he Bj (by rw [hs];rfl)
  let Q1:List V->Hp->Prop:=fun vs H1=>match vs with | [y]=>(cond y/\∀ d,H1 d=none->E (.ref C) (some d) σ (upd H1 d (.xd [(attr,y),(attr,y)]))) | _=>False
  refine PySem.W.callWith_K (h₀:=X.base) I.ok.mod.kin c.kp (wpAny_mono (pa cpos pins s σ H Q1 I h) (fun us s1 ⟨vs,H1,I1,r,q⟩=>⟨I1.kIn,?_⟩) fun _ _ z=>by rw [hx] at z;exact z.elim) (by rw [hs];rfl) rfl
  match vs,r,q with
  | [y],.cons r .nil,⟨q1,q2⟩ =>
   refine aZ (Hn hex c F hr hb I1 r q1) fun v s' ⟨a,t,d,z1,z2,I2,z3⟩=>?_
   have p0:s'.heap.get? a0=some oh:=(I2.pin (a0,oh) (List.mem_append_left _ h0)).1
   have hne:a≠a0:=fun z=>z3.na.2.2.2 (a0,oh) (List.mem_append_left _ h0) z.symm
   have hC':=I2.kIn _ _ hC
   have hnC:a≠C:=fun z=>by
    rw [z] at z2;rw [hC'] at z2
    have:=congrArg (fun o:Option Obj=>o.map (·.data)) z2
    simp only [Option.map_some,m9] at this
    injection this with this
    cases this
   have g1:=Heap.get?_update_self (Obj.mapFields (·.setIfInBounds 3 Value.none)) z2 (Obj.isFreed_of_fields (Obj.data_mapFields rfl _))
   have g2:=Heap.get?_update_self (Obj.mapFields (·.setIfInBounds 4 (Value.bool true))) g1 (Obj.isFreed_of_fields (Obj.data_mapFields rfl _))
   have g3:=Heap.get?_update_self (Obj.mapFields (·.setIfInBounds 2 (Value.ref a0))) g2 (Obj.isFreed_of_fields (Obj.data_mapFields rfl _))
   have J1:=I2.updF (·.setIfInBounds 3 Value.none) z2 rfl z3.sa z3.na
   have J2:=J1.updF (·.setIfInBounds 4 (Value.bool true)) g1 (Obj.data_mapFields rfl _) z3.sa z3.na
   have J3:=J2.updF (·.setIfInBounds 2 (Value.ref a0)) g2 (Obj.data_mapFields rfl _) z3.sa z3.na
   have oth:∀ b,b≠a->(JT a a0 s'.heap).get? b=s'.heap.get? b:=fun b hb=>by
    unfold JT
    rw [Heap.get?_update_other _ _ (Ne.symm hb),Heap.get?_update_other _ _ (Ne.symm hb),Heap.get?_update_other _ _ (Ne.symm hb)]
   obtain ⟨mA,⟨od,esd,epd,f1,f2,f3⟩,n2⟩:=z3.att
   have rs:nZ X pins H1 (JT a a0 s'.heap) a C d [(attr,y),(attr,y)]:=⟨z3.sa,z3.na,z3.nd,z3.ad,⟨_,_,none,g3,rfl,rfl,rfl,rfl,fun T' z=>by cases z⟩,⟨mA,⟨od,esd,epd,(oth d (Ne.symm z3.ad)).trans f1,f2,f3⟩,fun f=>by
    have:=n2 f
    simp only [List.lookup] at this ⊢
    split <;> rename_i hf <;> simp only [hf] at this ⊢ <;> exact this⟩,fun hl=>by simp at hl⟩
   exact ⟨a,t,d,oh,vh,z1,hC',z2,hne,hnC,p0,hd0,hv0,a,C,d,_,σ,H1,rfl,J3,rs,q2 d z3.nd.2.1⟩
 have hcn:∀ {Q:Value->Shared->Prop} {E:Value->Shared->Prop} {s:Shared},Q .none s->wpAny (model X.prog X.w) X.A (do let v <- eval (.Constant .none kj kp) X.env;standAt pos;pure v) Q E s:=fun hq=>wpAny_bind (wpAny_Constant_none (wpAny_bind (wpAny_standAt (wpAny_pure hq))))
 first
  | exact wpAny_bind (wpAny_standAt (Gx hh hcn (wpAny_bind (wpAny_mono ev (fun v s₁ h₁=>wpAny_bind (wpAny_standAt (wpAny_pure h₁))) fun _ _ x=>x))))
  | (simp only [evalOpt,Option.map];exact wpAny_bind (wpAny_standAt (Gx hh hcn (wpAny_bind (wpAny_mono ev (fun v s₁ h₁=>wpAny_bind (wpAny_standAt (wpAny_pure h₁))) fun _ _ x=>x)))))
def TB (Cn:Addr) (K:PySem.W.Frag) (tb:jI) (th:Addr->Addr->Addr->List (Str × V)->jI):jI:=fun D E σ H=>tb D (fun c dx σ' H'=>∀ C d H1 fs,c=.ref C->dx=some d->H'=upd H1 d (.xd fs)->H1 d=none ->
 PySem.W.subIn K (.ref C) (.ref Cn)=some true/\∀ a,th a C d fs D E σ' H1) σ H
theorem XP.outX {E:XS} {e:Value} {b:Addr} (ok:X.Ok) (z:XP (X.inX b pl) pins E e s):XP X pins E e s:=by
 obtain ⟨a,C,d,fs,σ',H',rfl,I,r,q⟩:=z
 have nw:∀ b',pL (X.inX b pl) pins H' b'->pL X pins H' b':=fun b' n=>⟨n.1,n.2.1,n.2.2.1,fun p hp=>n.2.2.2 p (by
  rcases List.mem_append.mp hp with hp | hp
  ·exact List.mem_append_left _ (List.mem_append_left _ hp)
  ·exact List.mem_append_right _ hp)⟩
 exact ⟨a,C,d,fs,σ',H',rfl,I.outX ok,r.imp (fun _ z=>z) (Nat.le_refl _) nw,q⟩
theorem Ri {cn:Str} {Cn:Addr} {body suite:List Stmt} {b₀:Stmt} {tb:jI} {th:Addr->Addr->Addr->List (Str × V)->jI} {cp hp pos:Pos} (hx:sO X) (hex:X.ex=[]) (hst:X.stack=X.env :: X.outer) (hf:X.env.frame=some X.env.locals)
  (hbody:kL X body tb) (hg:Gl X cn) (hm:X.mg cn=some (.ref Cn)) (hc:AU X.K Cn) (hh:∀ a C d fs oe od,oe.cls=.ref C->oe.dict=some d->(∃ vs,oe.data=.fields vs/\(fs.length=1->vs[2]?=some .none))->DG od fs->kL (X.inX a [(a,oe),(d,od)]) (b₀ :: suite) (th a C d fs)) (hdb:(cn == ("__debug__":Str))=false:=by decide) :
  uV X (.Try body [.ExceptHandler (some (.Name cn cp)) none (b₀ :: suite) hp] [] [] pos) (TB Cn X.K tb th):=by
 intro pins s σ H D E I h
 refine wpAny_Try_except (wpAny_mono (hbody pins s σ H D _ I h) (fun f s1 q=>?_) fun e s1 q=>?_)
 ·cases f with
  | next=>exact wpAny_execs_nil q
  | ret v=>exact q
  | brk=>exact q
  | cont=>exact q
 ·obtain ⟨a,C,d,fs,σ',H',rfl,I1,r,q⟩:=q
  obtain ⟨hsub,q⟩:=q C d H' fs rfl rfl rfl r.nd.2.1
  refine JR I1 hst hf hex r fun s2 I2 r2=>?_
  refine wpAny_handleBy_cons (codeAny_handlers_test ?_) (by intro q;cases q)
  obtain ⟨oe,vs,T,e1,e2,e3,e4,e5,e6⟩:=r2.obj
  have I3:Inv (X.inX a []) pins σ' H' s2:=I2.inX fun p hp=>by cases hp
  refine kH (X:=X.inX a []) I3 hg hm ?_ hdb
  refine AJ (K:=X.K) I2.kIn hc e1 e2 hsub ?_
  refine codeAny_handlers_suite (yP none I2 hex r2.any fun s3 I4 r4=>?_)
  obtain ⟨oe,od,o1,o2,⟨vs',o3⟩,o4,o5⟩:=BM I4 (xO.any r4)
  have I5:Inv (X.inX a [(a,oe),(d,od)]) pins σ' H' s3:=I4.inX o5
  have hcx:fs.length=1->vs'[2]?=some .none:=fun hl=>r4.cx hl oe vs' (o5 (a,oe) List.mem_cons_self).1 o3
  refine wpAny_mono (hh a C d fs oe od o1 o2 ⟨vs',o3,hcx⟩ o4 pins s3 _ H' D E I5 (q a)) (fun f s6 q6=>?_) fun x s6 z=>?_
  ·cases f with
   | next =>
    obtain ⟨σ7,H7,I7,q7⟩:=q6
    exact ⟨_,H7,I7.outX I.ok,q7⟩
   | ret u =>
    obtain ⟨v,σ7,H7,I7,rv,q7⟩:=q6
    exact ⟨v,_,H7,I7.outX I.ok,rv,q7⟩
   | brk =>
    obtain ⟨σ7,H7,I7,q7⟩:=q6
    exact ⟨_,H7,I7.outX I.ok,q7⟩
   | cont =>
    obtain ⟨σ7,H7,I7,q7⟩:=q6
    exact ⟨_,H7,I7.outX I.ok,q7⟩
  ·obtain ⟨a2,C2,d2,fs2,σ2,H2,rfl,J,r9,q9⟩:=z
   refine HS (X:=X.inX a [(a,oe),(d,od)]) J hst hf hex r9 fun s' _ J' r' ⟨oe',vs9,T',t1,t2,t3⟩=>?_
   show cameBackBy _ _ _ _ _ _
   unfold cameBackBy
   refine wpAny_bind (wpAny_field t1 t2 t3 ?_)
   rw [if_neg (by simp)]
   refine yP (X:=X.inX a [(a,oe),(d,od)]) X.env.frame J' hex r' fun s'' J'' r''=>?_
   refine XP.outX I.ok ⟨a2,C2,d2,fs2,σ2,H2,rfl,J'',r''.imp (fun v z=>.inr ?_) (Nat.le_refl _) fun _ z=>z,q9⟩
   rw [z,hf];rfl
end
end L2
namespace U2
open PySem PySem.Spec L2
structure Wc (D:Dat) (a C d:Addr) (fs:List (Str × V)) (X:Cx):Prop where
 h:Il D a C d fs X
 xe:X.xe=fun _ _=>False
 ex:X.ex=[]
 hd:X.A.handled=some (.ref a)
 room:kZ D.k X.A
 base:X.base=D.base
 cx:fs.length=1->∃ oe vh,(a,oe)∈X.pn/\oe.data=.fields vh/\vh[2]?=some .none
def Pf (D:Dat) (a C:Addr) (fs':List (Str × U)) (s:List Stmt) (t':fX):Prop:=∃ t,(∀ X d fs,mH fs=fs'->Wc D a C d fs X->kL X s t)/\vV D.K t t'
section
variable {D:Dat} {a0 C:Addr} {F:List (Str × U)} {e:Expr} {te:UE} {pos:Pos} {sts:List Stmt} {t:US}
def Eg (C:Addr) (attr:Str) (cond:V->Prop) (te:UE):fX:=fun _ E τ M=>te τ M fun u M1=>(∃ v,jV u=some v/\cond v)/\E C [(attr,u),(attr,u)] τ M1
theorem NU {j kj:Nat} {cn attr:Str} {C2:Addr} {cond:V->Prop} {np cpos kp:Pos} (hF:F.length=1) (c:pA D.prog D.w D.K D.mg D.base j cn C2 attr cond) (he:Kv D a0 C F e te) (hj:j + 1<=D.k:=by first | exact Nat.le_refl _ | (dsimp only;omega) | omega) (hg:D.sc.names.lookup cn=some .globalImplicit:=by rfl) (hdb:(cn == ("__debug__":Str))=false:=by decide)
  (hs:∀ env,starEach [e] env=[(false,eval e env)]:=by intro _;rfl):Pf D a0 C F [.Raise (some (.Call (.Name cn np) [e] [] cpos)) (some (.Constant .none kj kp)) pos] (Eg C2 attr cond te):=by
 obtain ⟨R,fI,fd,par,cc,hm,F0,hb⟩:=c.ex
 obtain ⟨t0,p,s⟩:=he
 refine ⟨fun _ E σ H=>t0 σ H fun y H1=>cond y/\∀ d,H1 d=none->E (.ref C2) (some d) σ (upd H1 d (.xd [(attr,y),(attr,y)])),fun X d fs r h=>Ek ?_,fun σ τ H M D' E' rs rm z Q E d cx=>s σ τ H M _ rs rm z _ fun u v M1 H1 s1 rm1 ru ⟨⟨v',e1,e2⟩,q⟩=>?_⟩
 ·have hk:=h.h.K
  have cc':lN X.K C2 R fI:=by rw [hk];exact cc.cl
  have F':lP X.prog X.w X.K X.mg X.base iU j fI fd ["self",par] (kW C2 attr cond):=by rw [h.h.prog,h.h.w,hk,h.h.mg,h.base];exact F0
  have hl:fs.length=1:=by rw [<- r] at hF;simpa [mH] using hF
  obtain ⟨oe,vh,m1,m2,m3⟩:=h.cx hl
  exact Io (pos:=pos) (np:=np) (cpos:=cpos) h.xe h.ex h.hd m1 m2 m3 cc' F' (h.room.mono hj) (by rw [hk];exact hb) (by show X.env.scope.names.lookup cn=_;rw [h.h.sc];exact hg) (by rw [h.h.mg];exact hm) (p X d fs r h.h) hdb (hs _)
 ·obtain ⟨rfl,r⟩:=C3 e1 ru
  exact ⟨e2,fun d hd=>cx C2 [(attr,u),(attr,u)] [(attr,v),(attr,v)] σ τ H1 M1 d s1 rm1 (rs.stp s1) (.cons ⟨rfl,e1⟩ (.cons ⟨rfl,e1⟩ .nil)) hd q⟩
def ON (Cn:Addr) (K:PySem.W.Frag) (tb:fX) (th:Addr->Addr->List (Str × U)->fX):fX:=fun De E τ M=>tb De (fun C fs τ' M'=>fs.length=1/\PySem.W.subIn K (.ref C) (.ref Cn)=some true/\∀ a,th a C fs De E τ' M') τ M
theorem So {cn:Str} {Cn:Addr} {body suite:List Stmt} {b₀:Stmt} {tb:fX} {th:Addr->Addr->List (Str × U)->fX} {cp hp:Pos} (hm:D.mg cn=some (.ref Cn)) (hc:AU D.K Cn) (hbody:l9 D body tb) (hh:∀ a C fs,fs.length=1->Pf D a C fs (b₀ :: suite) (th a C fs))
  (hg:D.sc.names.lookup cn=some .globalImplicit:=by rfl) (hfn:D.fn=true:=by rfl) (hdb:(cn == ("__debug__":Str))=false:=by decide) :
  rF D (.Try body [.ExceptHandler (some (.Name cn cp)) none (b₀ :: suite) hp] [] [] pos) (ON Cn D.K tb th):=by
 obtain ⟨t0,p,s⟩:=hbody
 classical
 let th0:Addr->Addr->Addr->List (Str × V)->jI:=fun a C d fs=>if hl:(mH fs).length=1 then (hh a C (mH fs) hl).choose else fun _ _ _ _=>False
 refine ⟨TB Cn D.K t0 th0,fun X h=>?_,fun σ τ H M D' E' rs rm z De E d cx=>s σ τ H M D' _ rs rm z De _ d ?_⟩
 ·have hd:=h.dl hfn
  have:=Ri (b₀:=b₀) (suite:=suite) (pos:=pos) (hp:=hp) (cp:=cp) (th:=th0) h.xe hd.1 hd.2.1 hd.2.2 (p X h) (by show X.env.scope.names.lookup cn=_;rw [h.sc];exact hg) (by rw [h.mg];exact hm) (by rw [h.K];exact hc) (fun a C d fs oe od o1 o2 o3 o4=>?_) hdb
  ·rw [h.K] at this
   exact this
  ·show kL _ _ (th0 a C d fs)
   by_cases hl:(mH fs).length=1
   ·have e0:th0 a C d fs=(hh a C (mH fs) hl).choose:=dif_pos hl
    rw [e0]
    obtain ⟨vs,o3,o5⟩:=o3
    refine (hh a C (mH fs) hl).choose_spec.1 _ d fs rfl ⟨⟨h.prog,h.w,h.K,h.mg,h.N,h.sc,h.fn,oe,od,?_,?_,o1,o2,⟨vs,o3⟩,o4⟩,h.xe,hd.1,rfl,⟨h.room.dp,h.room.un⟩,h.base,fun hl=>⟨oe,vs,?_,o3,o5 hl⟩⟩
    ·exact List.mem_append_right _ List.mem_cons_self
    ·exact List.mem_append_right _ (List.mem_cons_of_mem _ List.mem_cons_self)
    ·exact List.mem_append_right _ List.mem_cons_self
   ·have e0:th0 a C d fs=fun _ _ _ _=>False:=dif_neg hl
    rw [e0]
    intro pins s σ H D E I h
    exact h.elim
 ·intro C fs' fs σ1 τ1 H1 M1 d1 s1 rm1 rs1 ra G9 ⟨q0,q1,q2⟩ C' d' H' fsx e1 e2 e3 e4
  cases e1;cases e2
  have e5:fsx=fs:=by
   have:=congrFun e3 d1
   rw [bQ,bQ] at this
   cases this;rfl
  have e6:H'=H1:=by
   funext b
   by_cases hb:b=d1
   ·rw [hb,G9,e4]
   ·have:=congrFun e3 b
    rw [bC hb,bC hb] at this
    exact this.symm
  subst e5;subst e6
  refine ⟨q1,fun a=>?_⟩
  have q3:=q2 a
  rw [ra.eq] at q3 q0
  have e0:th0 a C d1 fsx=(hh a C (mH fsx) q0).choose:=dif_pos q0
  rw [e0]
  exact (hh a C (mH fsx) q0).choose_spec.2 σ1 τ1 H' M1 D' E' rs1 rm1 q3 De E (d.stp s1) (cx.stp s1)
end
end U2
namespace L2
open PySem PySem.Spec PyProof.Rows
section
variable {X:Cx} {pos:Pos}
def J0 (c:TT) (tb:jI):jI:=fun D E σ H=>Fg c (fun D' σ H=>tb D' E σ H) D σ H
theorem Lo {c:Expr} {body:List Stmt} {tc:TT} {tb:jI} (hx:sO X) (hex:X.ex=[]) (hst:X.stack=X.env :: X.outer) (hf:X.env.frame=some X.env.locals) (hc:PT X c tc) (hb:kL X body tb):uV X (.While c body [] pos) (J0 tc tb):=by
 intro pins s σ H D E I h
 have no:∀ {α:Type} {t:Sem α} {Q:α->Shared->Prop} {s:Shared},wpAny (model X.prog X.w) X.A t Q X.xe s->wpAny (model X.prog X.w) X.A t Q (XP X pins E) s:=fun z=>wpAny_mono z (fun _ _ y=>y) fun _ _ y=>by rw [hx] at y;exact y.elim
 have hp:PassesOwn (model X.prog X.w) X.A X.env (XP X pins E):=O5 hex hst hf
 obtain ⟨W,⟨m0,w0⟩,turn⟩:=h
 refine wpAny_While (codeAny_whileLoop (fun n s'=>∃ σ' H',Inv X pins σ' H' s'/\W n σ' H') ?_ m0 ⟨σ,H,I,w0⟩)
 rintro n s1 ⟨σ1,H1,I1,w1⟩
 refine wpAny_passesOwn hp (aZ (no (hc pins s1 σ1 H1 _ I1 (turn n σ1 H1 w1))) fun b s2 ⟨H2,I2,q2⟩=>?_)
 cases b with
 | true =>
  obtain ⟨N,hN,q2⟩:=q2
  rw [if_pos rfl]
  refine wpAny_passesOwn hp (wpAny_mono (hb pins s2 σ1 H2 _ E I2 q2) (fun f s3 q3=>?_) fun _ _ z=>z)
  cases f with
  | next =>
   obtain ⟨σ3,H3,I3,n3⟩:=q3
   obtain ⟨m',hm,w3⟩:=hN σ3 H3 n3
   exact ⟨m',hm,σ3,H3,I3,w3⟩
  | cont =>
   obtain ⟨σ3,H3,I3,n3⟩:=q3
   obtain ⟨m',hm,w3⟩:=hN σ3 H3 n3
   exact ⟨m',hm,σ3,H3,I3,w3⟩
  | brk=>exact q3
  | ret v=>exact q3
 | false =>
  rw [if_neg Bool.false_ne_true]
  exact wpAny_execs_nil ⟨σ1,H2,I2,q2⟩
end
end L2
namespace U2
open PySem PySem.Spec L2
section
variable {D:Dat} {pos:Pos}
def GS (c:UT) (tb:fX):fX:=fun De E τ M=>By c (fun D' τ M=>tb D' E τ M) De τ M
theorem IY {K:PySem.W.Frag} {t:jI} {t':fX} {c:TT} {c':UT} (hc:jQ K c c') (h1:vV K t t'):vV K (J0 c t) (GS c' t'):=fun σ τ H M D' E' rs rm h D E d cx=>by
 obtain ⟨P,μ,p0,turn⟩:=h
 refine ⟨fun m σ1 H1=>∃ τ1 M1,aW H M H1 M1/\RelM K H1 M1/\cJ K H1 M1 σ1 τ1/\P τ1 M1/\m=μ τ1 M1,⟨_,τ,M,aW.refl _ _,rm,rs,p0,rfl⟩,?_⟩
 rintro m σ1 H1 ⟨τ1,M1,s1,rm1,rs1,p1,rfl⟩
 refine hc σ1 τ1 H1 M1 _ rs1 rm1 (turn τ1 M1 p1) _ fun b M2 H2 s2 rm2 q2=>?_
 cases b with
 | true =>
  rw [if_pos rfl] at q2 ⊢
  refine ⟨fun σ3 H3=>∃ τ3 M3,aW H M H3 M3/\RelM K H3 M3/\cJ K H3 M3 σ3 τ3/\P τ3 M3/\μ τ3 M3 < μ τ1 M1,?_,?_⟩
  ·rintro σ3 H3 ⟨τ3,M3,s3,rm3,rs3,p3,hm⟩
   exact ⟨μ τ3 M3,hm,τ3,M3,s3,rm3,rs3,p3,rfl⟩
  ·have st:=s1.trans s2
   have d2:=d.stp st
   exact h1 σ1 τ1 H2 M2 _ E' (rs1.stp s2) rm2 q2 _ E ⟨fun σ4 τ4 H4 M4 s4 rm4 rs4 q4=>⟨τ4,M4,st.trans s4,rm4,rs4,q4⟩,d2.rt,d2.nx,fun σ4 τ4 H4 M4 s4 rm4 rs4 q4=>⟨τ4,M4,st.trans s4,rm4,rs4,q4⟩⟩ (cx.stp st)
 | false =>
  rw [if_neg Bool.false_ne_true] at q2 ⊢
  exact d.nx σ1 τ1 H2 M2 (s1.trans s2) rm2 (rs1.stp s2) q2
theorem A4 {c:Expr} {body:List Stmt} {tc:UT} {t:fX} (hc:oA D c tc) (hb:l9 D body t) (hfn:D.fn=true:=by rfl):rF D (.While c body [] pos) (GS tc t):=by
 obtain ⟨_,p,s⟩:=hc;obtain ⟨_,x,y⟩:=hb
 exact ⟨_,fun X h=>Lo h.xe (h.dl hfn).1 (h.dl hfn).2.1 (h.dl hfn).2.2 (p X h) (x X h),IY s y⟩
end
end U2
namespace L2
open PySem PySem.Spec PyProof.Rows
abbrev TL:=St->Hp->(List V->Hp->Prop)->XS->Prop
def Fi (X:Cx) (es:List Expr) (t:TL):Prop:=∀ (pos:Pos) (pins:List (Addr × Obj)) (s:Shared) (σ:St) (H:Hp) (Q:List V->Hp->Prop) (E:XS),Inv X pins σ H s->t σ H Q E ->
 wpAny (model X.prog X.w) X.A (spliced (backTo pos (starEach es X.env))) (AP X pins σ Q) (XP X pins E) s
section
variable {X:Cx} {e a b o:Expr} {es:List Expr} {te tb:LS} {ta to:TE} {t:TL} {t0:TA} {pos:Pos}
theorem U9 (hx:sO X) (h:PA X es t0):Fi X es (fun σ H Q _=>t0 σ H Q):=fun pos pins s σ H Q E I q=>wpAny_mono (h pos pins s σ H Q I q) (fun _ _ z=>z) fun _ _ z=>by rw [hx] at z;exact z.elim
theorem NC (ha:xK X e te) (hr:Fi X es t) (hs:starEach (e :: es) X.env=(false,eval e X.env) :: starEach es X.env:=by rfl):Fi X (e :: es) (fun σ H Q E=>te σ H (fun x H1=>t σ H1 (fun xs H2=>Q (x :: xs) H2) E) E):=by
 intro pos pins s σ H Q E I h
 rw [hs]
 show wpAny _ _ (spliced ((false,eval e X.env) :: backTo pos (starEach es X.env))) _ _ s
 refine Calls.spliced_cons (aZ (ha pins s σ H _ E I h) fun u s1 ⟨x,H1,I1,r1,q1⟩=>?_)
 exact aZ (hr pos pins s1 σ H1 _ E I1 q1) fun us s2 ⟨xs,H2,I2,r2,q2⟩=>⟨x :: xs,H2,I2,.cons r1 r2,q2⟩
theorem QY {x1} (h:Fi X es t):xK X (.Tuple es x1 pos) (fun σ H Q E=>t σ H (fun xs H1=>xs.length<=sizeLine/\∀ p,H1 p=none->Q (.ref p) (upd H1 p (.tup xs))) E):=by
 intro pins s σ H Q E I hq
 refine wpAny_Tuple_spliced (aZ (h pos pins s σ H _ E I hq) fun us s1 ⟨xs,H1,I1,r,z,q⟩=>⟨by rw [<- r.length];exact z,?_⟩)
 have hf:H1 s1.heap.objs.size=none:=I1.hok.fresh (Nat.le_refl _)
 refine ⟨.ref s1.heap.objs.size,upd H1 s1.heap.objs.size (.tup xs),I1.laid (t':=s1.toks) (fun b u e=>Heap.get?_push_of_some _ e) (Nat.le_refl _) ?_,rfl,q _ hf⟩
 exact ⟨z,us,r,⟨_,Heap.get?_push_size _ rfl,rfl,rfl,_,rfl⟩⟩
theorem RF (h:Fi X es t):xK X (.List es pos) (fun σ H Q E=>t σ H (fun xs H1=>xs.length<=sizeLine/\∀ p,H1 p=none->Q (.ref p) (upd H1 p (.lst xs))) E):=by
 intro pins s σ H Q E I hq
 refine wpAny_List_spliced (aZ (h pos pins s σ H _ E I hq) fun us s1 ⟨xs,H1,I1,r,z,q⟩=>⟨by rw [<- r.length];exact z,?_⟩)
 have hf:H1 s1.heap.objs.size=none:=I1.hok.fresh (Nat.le_refl _)
 refine ⟨.ref s1.heap.objs.size,upd H1 s1.heap.objs.size (.lst xs),I1.laid (t':=s1.toks) (fun b u e=>Heap.get?_push_of_some _ e) (Nat.le_refl _) ?_,rfl,q _ hf⟩
 exact ⟨z,us,0,r,Heap.get?_push_size _ rfl⟩
theorem Uu {op:Operator} {r:R2} (hx:sO X) (ho:cZ X (binaryOp op) r) (ha:PE X a ta) (hb:xK X b tb):xK X (.BinOp a op b pos) (fun σ H Q E=>ta σ H fun x H1=>tb σ H1 (fun y H2=>r x y H2 Q) E):=by
 intro pins s σ H Q E I h
 have no:∀ {α:Type} {t:Sem α} {Q:α->Shared->Prop} {s:Shared},wpAny (model X.prog X.w) X.A t Q X.xe s->wpAny (model X.prog X.w) X.A t Q (XP X pins E) s:=fun z=>wpAny_mono z (fun _ _ y=>y) fun _ _ y=>by rw [hx] at y;exact y.elim
 refine wpAny_BinOp (aZ (no (ha pins s σ H _ I h)) fun v s1 ⟨x,H1,I1,r1,q1⟩=>?_)
 exact aZ (hb pins s1 σ H1 _ E I1 q1) fun u s2 ⟨y,H2,I2,r2,q2⟩=>no (ho pins s2 σ H2 x y v u Q I2 r1 r2 q2)
theorem S3 {name:Str} {apos cpos:Pos} {T id:String} {r:V->List V->Hp->VK->Prop} (hx:sO X) (pa:PlainAttrs T) (slot:Slot T name id) (hty:typeOf (.builtin id)=pure (.type "method_descriptor")) (hm:SK X id r) (ho:PE X o to) (ha:Fi X (e :: es) t)
  (hbase:attributeBase o name X.env (eval o X.env)=eval o X.env:=by rfl)
  (hfew:((backTo cpos (starEach (e :: es) X.env)).all (fun x=>!x.1) && (backToKw cpos (keywordEach [] X.env)).all (fun x=>x.1.isSome)
   && decide ((e :: es).length + ([]:List Keyword).length + (if ([]:List Keyword).isEmpty then 0 else 1) < 30))=true:=by rfl)
  (hline:(apos.endLine == cpos.line)=true:=by rfl) (hs:starEach (e :: es) X.env=(false,eval e X.env) :: starEach es X.env:=by rfl) (hplain:(backTo cpos (starEach es X.env)).any (·.1)=false:=by rfl) :
  xK X (.Call (.Attribute o name apos) (e :: es) [] cpos) (fun σ H Q E=>to σ H fun x H1=>Gz X.K T x H1/\t σ H1 (fun xs H2=>r x xs H2 Q) E):=by
 intro pins s σ H Q E I h
 have no:∀ {α:Type} {t:Sem α} {Q:α->Shared->Prop} {s:Shared},wpAny (model X.prog X.w) X.A t Q X.xe s->wpAny (model X.prog X.w) X.A t Q (XP X pins E) s:=fun z=>wpAny_mono z (fun _ _ y=>y) fun _ _ y=>by rw [hx] at y;exact y.elim
 refine wpAny_Call_method_late hbase hfew hline rfl (aZ (no (ho pins s σ H _ I h)) fun v s1 ⟨x,H1,I1,r1,ty,q1⟩=>?_)
 obtain ⟨h1,h2⟩:=Ez I1 r1 ty
 refine ⟨T,id,pa,slot,hty,h1,h2,?_⟩
 have hA:=ha cpos pins s1 σ H1 _ E I1 q1
 rw [hs] at hA ⊢
 refine Calls.callWith_builtin (by show (false || (backTo cpos (starEach es X.env)).any (·.1))=false;rw [hplain] <;> rfl) (Calls.evalArgs_plain ?_)
 exact aZ hA fun us s2 ⟨vs,H2,I2,r2,q2⟩=>no (hm pins s2 σ H2 x vs v us Q I2 r1 r2 q2)
theorem JS {x:Str} {p:Pos} {i k:Nat} {f:Addr} {fd:FuncData} {ps:List Str} {sp:Sp} (hx:sO X) (hex:X.ex=[]) (hN:X.N[i]?=some x) (hv:BR X.env.scope x) (F:fD X.prog X.w X.K X.mg X.base (sF X.prog X.w) k f fd ps sp) (hr:cW k X.A) (hk:PySem.W.keepIn X.K (.ref f)=true) (hb:Binds X.K fd ps [])
  (ha:PA X (e :: es) t0) (hd:(x == ("__debug__":Str))=false) (hcd:(x == ("__classdict__":Str))=false) (he:starEach (e :: es) X.env=(false,eval e X.env) :: starEach es X.env) (hpl:(backTo pos (starEach es X.env)).any (·.1)=false) :
  xK X (.Call (.Name x p) (e :: es) [] pos) (fun σ H Q E=>sY i σ H fun v H1=>v=.ref f/\t0 σ H1 fun vs H2=>sp vs H2 Q fun c d H3=>E c d σ H3):=by
 intro pins s σ H Q E I h
 have no:∀ {α:Type} {t:Sem α} {Q:α->Shared->Prop} {s:Shared},wpAny (model X.prog X.w) X.A t Q X.xe s->wpAny (model X.prog X.w) X.A t Q (XP X pins E) s:=fun z=>wpAny_mono z (fun _ _ y=>y) fun _ _ y=>by rw [hx] at y;exact y.elim
 refine wpAny_Call_Name_kw (aZ (no (lV (i:=i) hN hv hd hcd pins s σ H _ I h)) fun v s1 ⟨x',H1,I1,r1,e1,q1⟩=>?_)
 subst e1
 cases r1
 refine PySem.W.callWith_K (h₀:=X.base) I1.ok.mod.kin hk (aZ (no (ha pos pins s1 σ H1 _ I1 q1)) fun us s2 ⟨vs,H2,I2,r,q⟩=>⟨I2.kIn,?_⟩) he hpl
 exact Hc (dvs:=[]) hex F hr hb .nil I2 r (by rw [List.append_nil];exact q)
end
end L2
namespace U2
open PySem PySem.Spec L2
abbrev CQ:=SU->aE->(List U->aE->Prop)->AE->Prop
def Vu (K:PySem.W.Frag) (t:TL) (t':CQ):Prop:=∀ (σ:St) (τ:SU) (H:Hp) (M:aE) (Q':List U->aE->Prop) (E':AE),cJ K H M σ τ->RelM K H M->t' τ M Q' E' ->
 ∀ (Q:List V->Hp->Prop) (E:XS),(∀ us vs M1 H1,aW H M H1 M1->RelM K H1 M1->aI K H1 M1 us vs->Q' us M1->Q vs H1)->Aw K H M E' E->t σ H Q E
def Cg (D:Dat) (es:List Expr) (t':CQ):Prop:=∃ t,(∀ X,jU D X->Fi X es t)/\Vu D.K t t'
section
variable {D:Dat} {e a b o:Expr} {es:List Expr} {te tb:rD} {ta to:UE} {t:CQ} {t0:UA} {pos:Pos}
theorem HB (h:jZ D es t0):Cg D es (fun τ M Q _=>t0 τ M Q):=let ⟨_,p,s⟩:=h;⟨_,fun X h=>U9 h.xe (p X h),fun σ τ H M Q' E' rs rm q Q E c _=>s σ τ H M Q' rs rm q Q c⟩
def Eb (te:rD) (t:CQ):CQ:=fun τ M Q E=>te τ M (fun u M1=>t τ M1 (fun us M2=>Q (u :: us) M2) E) E
theorem Cy (ha:rM D e te) (hr:Cg D es t) (hs:∀ env,starEach (e :: es) env=(false,eval e env) :: starEach es env:=by intro _;rfl):Cg D (e :: es) (Eb te t) :=
 let ⟨_,p,s⟩:=ha;let ⟨_,q,r⟩:=hr;⟨_,fun X h=>NC (p X h) (q X h) (hs _),fun σ τ H M Q' E' rs rm h Q E c cx =>
  s σ τ H M _ E' rs rm h _ E (fun u v M1 H1 s1 rm1 ru h1=>r σ τ H1 M1 _ E' (rs.stp s1) rm1 h1 _ E (fun us vs M2 H2 s2 rm2 rus h2=>c (u :: us) (v :: vs) M2 H2 (s1.trans s2) rm2 (.cons (ru.stp s2) rus) h2) (cx.stp s1)) cx⟩
def Pw (t:CQ):rD:=fun τ M Q E=>t τ M (fun us M1=>us.length<=sizeLine/\Q (.tup us) M1) E
theorem U3 {x1} (h:Cg D es t):rM D (.Tuple es x1 pos) (Pw t):=let ⟨_,p,s⟩:=h;⟨_,fun X h=>QY (p X h),fun σ τ H M Q' E' rs rm q Q E c cx =>
 s σ τ H M _ E' rs rm q _ E (fun us vs M1 H1 s1 rm1 r h1=>⟨by rw [<- r.length];exact h1.1,fun p hp=>(cK.stp c s1).tup rm1 r hp h1.2⟩) cx⟩
def Pz (o:Bool) (t:CQ):rD:=fun τ M Q E=>t τ M (fun us M1=>us.length<=sizeLine/\jX o us M1 Q) E
theorem Tq (own:Bool:=false) (h:Cg D es t):rM D (.List es pos) (Pz own t):=let ⟨_,p,s⟩:=h;⟨_,fun X h=>RF (p X h),fun σ τ H M Q' E' rs rm q Q E c cx =>
 s σ τ H M _ E' rs rm q _ E (fun us vs M1 H1 s1 rm1 r h1=>⟨by rw [<- r.length];exact h1.1,fun p hp=>(cK.stp c s1).lst rm1 r hp h1.2⟩) cx⟩
def UL (r:dW) (ta:UE) (tb:rD):rD:=fun τ M Q E=>ta τ M fun x M1=>tb τ M1 (fun y M2=>r x y M2 Q) E
theorem S0 (own:Bool:=false) (ha:bA D a ta) (hb:rM D b tb):rM D (.BinOp a .Add b pos) (UL (mU own) ta tb):=by
 obtain ⟨_,p,s⟩:=ha;obtain ⟨_,q,r⟩:=hb
 refine ⟨_,fun X h=>Uu (r:=JC D.K) h.xe (by have:=Ki.or (BC.or ((D5 (X:=X)).or (GB (X:=X))));rw [h.K] at this;exact this) (p X h) (q X h),fun σ τ H M Q' E' rs rm h Q E c cx=>?_⟩
 exact s σ τ H M _ rs rm h _ fun u v M1 H1 s1 rm1 ru h1=>r σ τ H1 M1 _ E' (rs.stp s1) rm1 h1 _ E (fun w x M2 H2 s2 rm2 rw h2=>GF v x u w H2 M2 Q' rm2 (ru.stp s2) rw h2 Q (cK.stp c (s1.trans s2))) (cx.stp s1)
def SA (r:U->List U->aE->UK->Prop) (to:UE) (t:CQ):rD:=fun τ M Q E=>to τ M fun x M1=>He M1 x/\t τ M1 (fun xs M2=>r x xs M2 Q) E
theorem KG {apos:Pos} (ho:bA D o to) (ha:Cg D [e] t) (hbase:∀ env,attributeBase o "append" env (eval o env)=eval o env:=by intro _;rfl)
  (hfew:∀ env,((backTo pos (starEach [e] env)).all (fun x=>!x.1) && (backToKw pos (keywordEach [] env)).all (fun x=>x.1.isSome) && decide ([e].length + ([]:List Keyword).length + (if ([]:List Keyword).isEmpty then 0 else 1) < 30))=true:=by intro _;rfl)
  (hline:(apos.endLine == pos.line)=true:=by rfl) (hs:∀ env,starEach [e] env=[(false,eval e env)]:=by intro _;rfl):rM D (.Call (.Attribute o "append" apos) [e] [] pos) (SA iY to t):=by
 obtain ⟨w1,p,s⟩:=ho;obtain ⟨w2,q,r⟩:=ha
 refine ⟨fun σ H Q E=>w1 σ H fun x H1=>Gz D.K "list" x H1/\w2 σ H1 (fun xs H2=>B5 x xs H2 Q) E,fun X h=>?_,fun σ τ H M Q' E' rs rm h Q E c cx=>s σ τ H M _ rs rm h _ fun u v M1 H1 s1 rm1 ru h1=>⟨h1.1.ty rm1 ru,r σ τ H1 M1 _ E' (rs.stp s1) rm1 h1.2 _ E (fun us vs M2 H2 s2 rm2 rus h2=>BB v vs u us H2 M2 Q' rm2 (ru.stp s2) rus h2 Q (cK.stp c (s1.trans s2))) (cx.stp s1)⟩⟩
 have:=S3 (cpos:=pos) (apos:=apos) h.xe PySem.F.plainAttrs_list PySem.F.slot_list_append PySem.F.type_list_append zI (p X h) (q X h) (hbase _) (hfew _) hline (hs _) (by rfl)
 rw [h.K] at this
 exact this
structure yU (P:Program) (w:World) (K:PySem.W.Frag) (mg:Str->Option Value) (base:Heap) (j:Nat) (f:Addr) (sp:i3):Prop where
 ex:∃ fd ps,fD P w K mg base (sF P w) j f fd ps (qA K sp)/\PySem.W.keepIn K (.ref f)=true/\Binds K fd ps []
def zU (i:Nat) (f:Addr) (sp:i3) (t:UA):rD:=fun τ M Q E=>i5 i τ M fun v M1=>v=.ref f/\t τ M1 fun us M2=>sp us M2 Q fun C fs M3=>E C fs τ M3
theorem Nn (i:Nat) {x:Str} {p:Pos} {j:Nat} {f:Addr} {sp:i3} (F:yU D.prog D.w D.K D.mg D.base j f sp) (ha:jZ D (e :: es) t0) (hfn:D.fn=true:=by rfl) (hN:D.N[i]?=some x:=by rfl) (hv:BR D.sc x:=by first | exact Or.inl rfl | exact Or.inr (Or.inl rfl) | exact Or.inr (Or.inr rfl))
  (hj:j<=D.k:=by first | exact Nat.le_refl _ | (dsimp only;omega) | omega) (hd:(x == ("__debug__":Str))=false:=by decide) (hcd:(x == ("__classdict__":Str))=false:=by decide)
  (he:∀ env,starEach (e :: es) env=(false,eval e env) :: starEach es env:=by intro _;rfl) (hpl:∀ env,(backTo pos (starEach es env)).any (·.1)=false:=by intro _;rfl):rM D (.Call (.Name x p) (e :: es) [] pos) (zU i f sp t0):=by
 obtain ⟨fd,ps,F,kp,hb⟩:=F.ex
 obtain ⟨t1,q,s⟩:=ha
 refine ⟨fun σ H Q E=>sY i σ H fun v H1=>v=.ref f/\t1 σ H1 fun vs H2=>qA D.K sp vs H2 Q fun c d H3=>E c d σ H3,fun X h=>?_,fun σ τ H M Q' E' rs rm h Q E c cx=>?_⟩
 ·have F':fD X.prog X.w X.K X.mg X.base (sF X.prog X.w) j f fd ps (qA D.K sp):=by rw [h.prog,h.w,h.K,h.mg,h.base];exact F
  exact JS h.xe (h.dl hfn).1 (by rw [h.N];exact hN) (by rw [h.sc];exact hv) F' (h.room.mono hj) (by rw [h.K];exact kp) (by rw [h.K];exact hb) (q X h) hd hcd (he _) (hpl _)
 ·refine Ah i σ τ H M _ rs rm h _ fun u v M1 H1 s1 rm1 ru h1=>?_
  obtain ⟨rfl,h1⟩:=h1
  refine ⟨ru.ref,s σ τ H1 M1 _ (rs.stp s1) rm1 h1 _ fun us vs M2 H2 s2 rm2 rus h2=>?_⟩
  exact ⟨us,M2,Q',fun C fs M3=>E' C fs τ M3,rm2,rus,h2,cK.stp c (s1.trans s2),fun C fs' fs H3 M3 d s3 rm3 ra hd q3=>cx C fs' fs σ τ H3 M3 d ((s1.trans s2).trans s3) rm3 (rs.stp ((s1.trans s2).trans s3)) ra hd q3⟩
end
end U2
namespace U2
open PySem PySem.Spec L2
theorem bV.at {P:Program} {w:World} {K:PySem.W.Frag} {mg:Str->Option Value} {base:Heap} {j:Nat} {x:Str} {f:Addr} {sp:i3} (c:bV P w K mg base j x sp []) (hm:mg x=some (.ref f)):yU P w K mg base j f sp:=by
 obtain ⟨f',fd,ps,dvs,ds,F,hm',kp,hb,hv,hr⟩:=c.ex
 rw [hm] at hm';cases hm'
 have h0:dvs=[]:=(hr (fun _=>none) (fun _=>none)).inv_nil
 subst h0
 cases hv
 exact ⟨fd,ps,F,kp,hb⟩
end U2
namespace L2
open PySem PySem.Spec PyProof.Rows
section
variable {κ:Type} [DecidableEq κ]
def wG (kvs:List (κ × V)) (k:κ):Option V:=(kvs.find? fun kv=>decide (kv.1=k)).map (·.2)
def putK (kvs:List (κ × V)) (k:κ) (v:V):List (κ × V) :=
 if (kvs.any fun kv=>decide (kv.1=k))=true then kvs.map (fun kv=>if kv.1=k then (kv.1,v) else kv) else kvs++[(k,v)]
def vR (kvs:List (κ × V)) (k:κ):List (κ × V):=kvs.filter fun kv=>decide (kv.1≠k)
theorem qW {p:κ × V} {r:List (κ × V)} {k:κ} (e:p.1=k):wG (p :: r) k=some p.2:=by simp [wG,List.find?_cons,e]
theorem rN {p:κ × V} {r:List (κ × V)} {k:κ} (e:¬ p.1=k):wG (p :: r) k=wG r k:=by simp [wG,List.find?_cons,e]
theorem E3 (k:κ):∀ kvs:List (κ × V),(kvs.any fun kv=>decide (kv.1=k))=(wG kvs k).isSome
 | []=>rfl
 | p :: r=>by
  rw [List.any_cons]
  by_cases e:p.1=k
  ·simp only [qW e,decide_eq_true e,Bool.true_or,Option.isSome_some]
  ·rw [rN e,decide_eq_false e,Bool.false_or];exact E3 k r
theorem MP (k j:κ) (y:V):∀ kvs:List (κ × V),wG (kvs.map fun kv=>if kv.1=k then (kv.1,y) else kv) j=(wG kvs j).map fun x=>if j=k then y else x
 | []=>rfl
 | p :: r=>by
  have ih:=MP k j y r
  rw [List.map_cons]
  by_cases h:p.1=k
  ·rw [if_pos h]
   by_cases e:p.1=j
   ·rw [qW (p:=(p.1,y)) e,qW e,Option.map_some,if_pos (e.symm.trans h)]
   ·rw [rN (p:=(p.1,y)) e,rN e,ih]
  ·rw [if_neg h]
   by_cases e:p.1=j
   ·rw [qW (p:=p) e,qW e,Option.map_some,if_neg (fun z=>h (e.trans z))]
   ·rw [rN (p:=p) e,rN e,ih]
theorem WO {kvs:List (κ × V)} {k:κ} (v:V) (h:wG kvs k=none):putK kvs k v=kvs++[(k,v)]:=by
 unfold putK
 rw [E3,h]
 exact if_neg (by decide)
end
theorem U1 {a b:Key} (e:kV a=kV b):a=b:=by
 cases a with
 | inl i=>cases b with
  | inl j=>have e':V.int i=V.int j:=e;injection e' with e';rw [e']
  | inr y=>exact nomatch (show V.int i=V.str y from e)
 | inr x=>cases b with
  | inl j=>exact nomatch (show V.str x=V.int j from e)
  | inr y=>have e':V.str x=V.str y:=e;injection e' with e';rw [e']
theorem Rv:∀ {a b:List Key},a.map kV=b.map kV->a=b
 | [],[],_=>rfl
 | [],_ :: _,e=>by simp at e
 | _ :: _,[],e=>by simp at e
 | x :: xs,y :: ys,e=>by
  rw [List.map_cons,List.map_cons] at e
  injection e with e1 e2
  rw [U1 e1,Rv e2]
abbrev Xr (H:Hp):List (List Key × V)->List (List Key × Addr × Value)->Prop:=Paired fun p q=>p.1=q.1/\H q.2.1=some (.tup (p.1.map kV))/\RelV p.2 q.2.2
section
variable {P:Program} {w:World} {H:Hp} {h:Heap} {a:Addr}
end
section
variable {X:Cx} {pins:List (Addr × Obj)} {σ:St} {H:Hp} {s:Shared} {a:Addr} {y v:V} {u r:Value} {o:Option V} {A:Around} {E:Value->Shared->Prop}
end
section
variable {X:Cx} {pins:List (Addr × Obj)} {σ:St} {H:Hp} {s:Shared} {a:Addr} {kvs:List (Key × V)} {k:Key} {u:Value} {A:Around} {E:Value->Shared->Prop}
end
section
variable {X:Cx} {o i e value:Expr} {pos pos' tpos:Pos} {td ty tv:TE}
end
section
variable {X:Cx} {pos:Pos}
end
abbrev VV:List (V × V)->List (Value × Value)->Prop:=Paired fun p q=>RelV p.1 q.1/\RelV p.2 q.2
section
variable {X:Cx} {pins:List (Addr × Obj)} {σ:St} {H:Hp} {s:Shared} {a:Addr} {y d:V} {u r:Value} {o:Option V} {A:Around} {E:Value->Shared->Prop}
end
section
variable {X:Cx} {o e f:Expr} {apos cpos:Pos} {td ty tx:TE}
end
section
variable {X:Cx} {pins:List (Addr × Obj)} {σ:St} {H:Hp} {s:Shared} {a:Addr} {kvs:List (Key × V)} {A:Around} {E:Value->Shared->Prop}
end
section
variable {X:Cx} {pins:List (Addr × Obj)} {σ:St} {H:Hp} {s:Shared} {a:Addr} {y:V} {u:Value} {A:Around} {E:Value->Shared->Prop}
end
section
variable {X:Cx}
end
section
variable {κ:Type} [DecidableEq κ]
theorem Ww {p:κ × V} {r:List (κ × V)} {k:κ} (e:p.1=k):vR (p :: r) k=vR r k:=by
 unfold vR
 rw [List.filter_cons,if_neg (by simp [e])]
theorem Le {p:κ × V} {r:List (κ × V)} {k:κ} (e:¬ p.1=k):vR (p :: r) k=p :: vR r k:=by
 unfold vR
 rw [List.filter_cons,if_pos (by simp [e])]
theorem MN:∀ {kvs:List (κ × V)} {k:κ},¬ k∈kvs.map (·.1)->vR kvs k=kvs
 | [],_,_=>rfl
 | p :: r,k,h=>by
  have h':¬ k∈r.map (·.1):=fun m=>by
   obtain ⟨q,hq,e⟩:=List.mem_map.mp m
   exact h (List.mem_map.mpr ⟨q,List.mem_cons.mpr (Or.inr hq),e⟩)
  rw [Le fun e=>h (List.mem_map.mpr ⟨p,List.mem_cons.mpr (Or.inl rfl),e⟩),MN h']
end
end L2
namespace L2
open PySem PySem.Spec PyProof.Rows PySem.F
section
variable {prog:Program} {w:World} {A:Around} {E:Value->Shared->Prop} {s:Shared} {d it vw:Addr} {es:Array DictEntry} {ep i:Nat} {e:DictEntry}
end
end L2
namespace U2
open PySem PySem.Spec PyProof.Rows L2
end U2
namespace U2
open PySem PySem.Spec PyProof.Rows L2
def Fw:U->Option Key
 | .int i=>some (.inl i)
 | .str x=>some (.inr x)
 | _=>none
def wO:List U->Option (List Key)
 | []=>some []
 | u :: us=>match Fw u,wO us with
  | some k,some ks=>some (k :: ks)
  | _,_=>none
def kU:Key->U
 | .inl i=>.int i
 | .inr x=>.str x
theorem PY (k:Key):Fw (kU k)=some k:=by cases k <;> rfl
theorem Oh:∀ ks:List Key,wO (ks.map kU)=some ks
 | []=>rfl
 | k :: ks=>by simp only [List.map_cons,wO,PY,Oh ks]
theorem OD {K:PySem.W.Frag} {H:Hp} {M:aE} {u:U} {v:V} {k:Key} (r:aP K H M u v) (e:Fw u=some k):v=kV k:=by
 cases u with
 | int i=>cases e;exact r.int
 | str x=>cases e;exact r.str
 | _=>cases e
theorem JX {K:PySem.W.Frag} {H:Hp} {M:aE}:∀ {us:List U} {vs:List V} {ks:List Key},aI K H M us vs->wO us=some ks->vs=ks.map kV
 | [],_,_,r,e=>by cases e;exact r.inv_nil
 | u :: us,_,ks,r,e=>by
  obtain ⟨v,vs',rfl,a,b⟩:=r.inv_cons
  simp only [wO] at e
  cases e1:Fw u with
  | none=>rw [e1] at e;cases e
  | some k =>
   cases e2:wO us with
   | none=>rw [e1,e2] at e;cases e
   | some ks' =>
    rw [e1,e2] at e;cases e
    rw [OD a e1,JX b e2];rfl
section
variable {κ:Type} [DecidableEq κ]
def yY (kvs:List (κ × U)) (k:κ):Option U:=(kvs.find? fun kv=>decide (kv.1=k)).map (·.2)
theorem Oo {p:κ × U} {r:List (κ × U)} {k:κ} (e:p.1=k):yY (p :: r) k=some p.2:=by simp [yY,List.find?_cons,e]
theorem Nt {p:κ × U} {r:List (κ × U)} {k:κ} (e:¬ p.1=k):yY (p :: r) k=yY r k:=by simp [yY,List.find?_cons,e]
theorem MX (k:κ):∀ kvs:List (κ × U),(kvs.any fun kv=>decide (kv.1=k))=(yY kvs k).isSome
 | []=>rfl
 | p :: r=>by
  rw [List.any_cons]
  by_cases e:p.1=k
  ·simp only [Oo e,decide_eq_true e,Bool.true_or,Option.isSome_some]
  ·rw [Nt e,decide_eq_false e,Bool.false_or];exact MX k r
variable {K:PySem.W.Frag} {H:Hp} {M:aE}
end
def G9:List Key->Key
 | [k]=>k
 | _=>.inl 0
def Wn (M:aE):U->Option MO
 | .ref a=>M a
 | .dic ks true us=>some (.dT (ks.zip us))
 | .dic ks false us=>some (.dK ((ks.map G9).zip us))
 | _=>none
section
variable {K:PySem.W.Frag} {H:Hp} {M:aE} {x y:U} {v u:V}
def Xc (tk:Bool) (M:aE) (x y:U):Option (Option U):=match tk with
 | false=>match Wn M x,Fw y with
  | some (.dK kvs),some k=>some (yY kvs k)
  | _,_=>none
 | true=>match Wn M x,y with
  | some (.dT kvs),.tup ys=>(wO ys).map (yY kvs)
  | _,_=>none
end
section
variable {D:Dat} {a b c e o i:Expr} {ta tb tc te to ti:UE} {pos p:Pos} {es:List Expr} {tas:UA} {x:Str}
end
end U2
namespace U2
open PySem PySem.Spec PyProof.Rows L2
end U2
namespace L2
open PySem PySem.Spec PyProof.Rows
def Xh:HO->Nat
 | .dK kvs=>kvs.length
 | .dT kvs=>kvs.length
 | _=>0
section
variable {X:Cx} {tg:Expr}
end
end L2
namespace U2
open PySem PySem.Spec PyProof.Rows L2
def keyOf (tk:Bool) (k:List Key):U:=if tk then .tup (k.map kU) else kU (G9 k)
def Px (tk:Bool) (ks:List (List Key)):List U:=ks.map (keyOf tk)
def WY (tk:Bool) (ks:List (List Key)) (us:List U):List U:=(ks.zip us).map fun p=>.tup [keyOf tk p.1,p.2]
theorem Wo (tk:Bool) (ks:List (List Key)):(Px tk ks).length=ks.length:=by simp [Px]
section
variable {K:PySem.W.Frag} {H:Hp} {M:aE}
end
section
variable {D:Dat} {tg e:Expr} {te:UE} {pos p:Pos}
end
end U2
namespace U2
open PySem PySem.Spec PyProof.Rows L2
section
variable {K:PySem.W.Frag} {H:Hp} {M1 M':aE}
def Xm (kvs:List (Key × U)):U:=.dic (kvs.map fun e=>[e.1]) false (kvs.map (·.2))
def Xl (kvs:List (List Key × U)):U:=.dic (kvs.map (·.1)) true (kvs.map (·.2))
end
end U2
namespace L2
open PySem PySem.Spec PyProof.Rows
section
variable {X:Cx} {o e f:Expr} {apos cpos:Pos} {td ty tx:TE}
end
end L2
namespace U2
open PySem PySem.Spec PyProof.Rows L2
end U2
namespace U2
open PySem L2
end U2
namespace U2
open PySem PySem.Spec PyProof.Rows L2
section
variable {prog:Program} {w:World} {κ:Type} [DecidableEq κ] {knd:KeyKind prog w κ} {A:Around} {E:Value->Shared->Prop} {s:Shared}
end
end U2
namespace U2
open PySem PySem.Spec PyProof.Rows L2
section
variable {prog:Program} {w:World} {A:Around} {E:Value->Shared->Prop} {s:Shared} {r:Addr} {a b:Int} {t u v:Tok}
end
section
variable {X:Cx} {tg a b e:Expr} {ta:TA} {te:TE} {p pos:Pos}
end
section
variable {D:Dat} {tg a b:Expr} {p p2 pos pos2:Pos} {ta:UA}
end
end U2
namespace U2
open PySem PySem.Spec PyProof.Rows L2
section
variable {X:Cx}
end
end U2
namespace L2
open PySem PySem.Spec PyProof.Rows
def Ci (σ:List Str) (v:Str):List Str:=if σ.any (· == v) then σ else σ++[v]
def eU (l:List Str):List Str:=l.foldl Ci []
theorem qE (l:List Str) (v:Str):eU (l++[v])=Ci (eU l) v:=by simp [eU,List.foldl_append]
theorem AN (σ:List Str) (v:Str):(Ci σ v).length=if σ.any (· == v) then σ.length else σ.length + 1:=by
 unfold Ci;split <;> simp
theorem Ed (σ:List Str) (v k:Str):(Ci σ v).any (· == k)=(σ.any (· == k) || decide (k=v)):=by
 unfold Ci
 by_cases h:σ.any (· == v)=true
 ·rw [if_pos h]
  by_cases e:k=v
  ·subst e;simp [h]
  ·simp [e]
 ·rw [if_neg h,List.any_append]
  by_cases e:k=v
  ·subst e;simp
  ·have:(v == k)=false:=by simpa using fun z:v=k=>e z.symm
   simp [this,e]
theorem snoc_ind {P:List Str->Prop} (h0:P []) (h1:∀ l v,P l->P (l++[v])) (l:List Str):P l:=by
 have:∀ r:List Str,P r.reverse:=by
  intro r
  induction r with
  | nil=>exact h0
  | cons a r ih=>rw [List.reverse_cons];exact h1 _ _ ih
 have:=this l.reverse
 rwa [List.reverse_reverse] at this
theorem QX (l:List Str) (k:Str):(eU l).any (· == k)=decide (k∈l):=by
 refine snoc_ind (P:=fun l=>(eU l).any (· == k)=decide (k∈l)) (by simp [eU]) (fun l v ih=>?_) l
 rw [qE,Ed,ih];by_cases h:k∈l <;> by_cases e:k=v <;> simp [h,e]
theorem Kp (l:List Str):(eU l).length<=l.length:=by
 refine snoc_ind (P:=fun l=>(eU l).length<=l.length) (by simp [eU]) (fun l v ih=>?_) l
 rw [qE,AN,List.length_append,List.length_singleton];split <;> omega
theorem LY (l:List Str):((eU l).length=l.length) ↔ l.Nodup:=by
 refine snoc_ind (P:=fun l=>((eU l).length=l.length) ↔ l.Nodup) (by simp [eU]) (fun l v ih=>?_) l
 rw [qE,AN,QX,List.length_append,List.length_singleton]
 have hle:=Kp l
 have hn:(l++[v]).Nodup ↔ l.Nodup/\v ∉ l:=by
  rw [List.nodup_append]
  constructor
  ·rintro ⟨a,_,b⟩;exact ⟨a,fun h=>b v h v (by simp) rfl⟩
  ·rintro ⟨a,b⟩;exact ⟨a,by simp,fun x hx y hy e=>b (by simp at hy;subst hy;subst e;exact hx)⟩
 rw [hn,<- ih]
 by_cases h:v∈l
 ·simp [h];omega
 ·simp [h]
section
variable {prog:Program} {w:World} {A:Around} {I:Addr} {fp wr:List Addr} {G:Array GenState->Array GenState->Prop} {n:Nat} {P:Nat->Value->Prop} {St:Nat->Shared->Prop} {R:Result->Shared->Prop}
theorem CF (W:WalksS prog w A.in1 I fp wr G n P St) (S:Addr) (hSf:S ∉ fp) (l:List Str) (hl:l.length=n) (hval:∀ i v,P i v->∃ x t,l[i]?=some x/\v=.str x t) (hb:n + 1 < scanBound) :
  ∀ (k i:Nat) (s:Shared),n - i=k->i<=n->St i s->s.heap.SetOf (strKind prog w) S (fun y=>(eU (l.take i)).any (· == y)) (eU (l.take i)).length ->
   (∀ s',Moved (S :: wr) G s s'->s'.heap.SetOf (strKind prog w) S (fun y=>(eU l).any (· == y)) (eU l).length->R (.ok (.ret .none)) s') ->
   codeAny (model prog w) A (.builtin "set.update.loop" ⟨[.ref S,.ref I],[]⟩) R s:=by
 have hSw:S ∉ wr:=fun h=>hSf (W.sub _ h)
 have up:∀ b∈wr,b∈S :: wr:=fun b hb=>List.mem_cons_of_mem _ hb
 have keep:∀ {s s':Shared} {T:Str->Bool} {m:Nat},Moved wr G s s'->s.heap.SetOf (strKind prog w) S T m->s'.heap.SetOf (strKind prog w) S T m:=by
  intro s s' T m hm h
  obtain ⟨o,es,ep,t,ho,rest⟩:=h
  exact ⟨o,es,ep,t,hm.heap S _ hSw ho,rest⟩
 intro k
 induction k with
 | zero =>
  intro i s hk hi hst hS hR
  obtain rfl:i=n:=by omega
  refine codeAny_builtin F.entry_set_update_loop ?_
  rw [Around.under_plainId F.plain_set_update_loop _]
  show wpAny _ A.in1 (pyNext (.ref I) >>= _) _ _ s
  refine wpAny_bind (W.done s _ _ hst fun s' hm=>?_)
  show wpAny _ A.in1 (ret Value.none) _ _ s'
  refine wpAny_pure (hR s' (hm.mono up) (keep hm ?_))
  rw [List.take_of_length_le (by omega)] at hS
  exact hS
 | succ k ih =>
  intro i s hk hi hst hS hR
  have hlt:i < n:=by omega
  refine codeAny_builtin F.entry_set_update_loop ?_
  rw [Around.under_plainId F.plain_set_update_loop _]
  show wpAny _ A.in1 (pyNext (.ref I) >>= _) _ _ s
  refine wpAny_bind (W.item i s _ _ hlt hst fun v s' hP hst' hm=>?_)
  obtain ⟨x,t,hx,rfl⟩:=hval i v hP
  have hS':=keep hm hS
  show wpAny _ A.in1 (holding [Value.str x t] (setAdd S (.str x t)) >>= _) _ _ s'
  refine wpAny_bind (wpAny_holding ?_)
  unfold setAdd
  refine wpAny_holding ?_
  refine wpAny_bind ((strKind prog w).pyHash (k:=x) (strKind_is _ _ _ _) ?_)
  have hroom:(eU (l.take i)).length + 1 < scanBound:=by have:=Kp (l.take i);rw [List.length_take] at this;omega
  refine wpAny_setAddHashed_of (knd:=strKind prog w) (s:={ s' with toks:=s'.toks + 1 }) (strKind_is _ _ _ _) rfl hS' hroom fun h' hsb hS2=>?_
  have e1:l.take (i + 1)=l.take i++[x]:=by rw [List.take_succ,hx];rfl
  have hSi:h'.SetOf (strKind prog w) S (fun y=>(eU (l.take (i + 1))).any (· == y)) (eU (l.take (i + 1))).length :=
   SetOf_congr hS2 (fun y=>by rw [e1,qE,Ed]) (by rw [e1,qE,AN])
  refine wpAny_pure ⟨plainId_quiet F.plain_set_update_loop _,ih (i + 1) _ (by omega) hlt (W.frame _ s' _ _ hst' (Nat.le_succ _) fun b hb o e=>?_) hSi fun s2 hm2 hS3=>?_⟩
  ·rw [hsb.2 b (fun h:b=S=>hSf (by rw [<- h];exact hb))];exact e
  ·refine hR s2 (Moved.trans W.gtrans ((hm.mono up).then_heap (Nat.le_succ _) fun b o hb e=>?_) hm2) hS3
   rw [hsb.2 b (fun h:b=S=>hb (by rw [h];exact List.mem_cons_self))];exact e
end
section
variable {prog:Program} {w:World} {A:Around} {E:Value->Shared->Prop} {s:Shared}
def iK (led:Bool):Obj:={ cls:=.type "set",dict:=none,data:=.set #[] 0 (.fresh 0 0 led) }
theorem J5 {a:Addr} {items:Array Value} {l:List Str} {Q:Value->Shared->Prop} (hh:A.handled=none) (ha:s.heap.IsList a items) (hs:items.size=l.length) (hi:∀ (i:Nat) v,items[i]?=some v->∃ x t,l[i]?=some x/\v=.str x t) (hb:l.length + 1 < scanBound)
  (h:∀ (h':Heap) (tk:Nat),h'.SetOf (strKind prog w) s.heap.objs.size (fun y=>(eU l).any (· == y)) (eU l).length->(∀ b o,b < s.heap.objs.size->s.heap.get? b=some o->h'.get? b=some o)->Q (.ref s.heap.objs.size) { s with heap:=h',toks:=tk }) :
  wpAny (model prog w) A (call (.type "set") [.ref a]) Q E s:=by
 obtain ⟨c,tl,hmro⟩:=F.called_set.mro
 have hmade:=F.called_set.made
 have hsub:=F.called_set.sub
 refine wpAny_call (codeAny_of_tree ?_)
 show wpAny _ _ (callAny (.type "set") _) _ _ _
 refine wpAny_pure ⟨Code.quiet_builtin _ (by decide +kernel),codeAny_builtin F.entry_type_call ?_⟩
 rw [Around.under_plain (weight_type_call_type "set" [.ref a] []) rfl]
 have h1:=F.called_set.notType
 have h2:=F.called_set.canCreate
 have hct:=F.typeCall_set_1 (.ref a)
 repeat (any_goals (first | assumption | wp_step))
 refine codeAny_mono (code_set_new_1 (.ref a) (E:=E) (Q₁:=fun obj s1=>∃ led:Bool,obj=.ref s.heap.objs.size/\s1={ s with heap:=s.heap.push (iK led) }) fun led=>⟨led,rfl,rfl⟩) fun r s1 hr=>?_
 cases r with
 | error e=>exact hr
 | ok fl =>
  cases fl with
  | ret obj =>
   obtain ⟨led,rfl,rfl⟩:=hr
   have hS:(s.heap.push (iK led)).get? s.heap.objs.size=some (iK led):=Heap.get?_push_size _ rfl
   have hT:Shared.TypeIs { s with heap:=s.heap.push (iK led) } (.ref s.heap.objs.size) "set":=⟨_,hS,rfl⟩
   have hli:=F.called_set.init.lookup
   have hbi:=F.called_set.init.bind (.ref s.heap.objs.size)
   repeat (any_goals (first | assumption | wp_step))
   have hlt:a < s.heap.objs.size:=by obtain ⟨o,ho,_⟩:=ha;exact Heap.lt_size ho
   refine codeAny_mono (codeAny_call_builtin (R:=wants (fun r s2=>r=.none/\∃ h' tk,s2={ s with heap:=h',toks:=tk } /\
     h'.SetOf (strKind prog w) s.heap.objs.size (fun y=>(eU l).any (· == y)) (eU l).length/\(∀ b o,b < s.heap.objs.size->s.heap.get? b=some o->h'.get? b=some o)) E) F.called_set.init.plain F.entry_set_init (check_set_init_1 hT ?_)) fun r2 s2 hr2=>?_
   ·obtain ⟨ol,hol,hcl,nl,hdl⟩:=ha
    obtain ⟨ocls,odict,odata,oslots⟩:=ol
    simp only at hcl hdl
    subst hcl;subst hdl
    have hol':(s.heap.push (iK led)).get? a=some { cls:=.type "list",dict:=odict,data:=.seq items nl,slots:=oslots }:=Heap.get?_push_of_some _ hol
    have g1:=F.sub_list_set
    have g2:=F.sub_list_frozenset
    have hne:(Value.type "list" == Value.type "dict")=false:=by decide
    have hl1:(s.heap.push (iK led)).IsList a items:=⟨_,hol',rfl,nl,rfl⟩
    unfold Builtin.«set.__init__» noKeywords Builtin.Frozenset.updateFrom
    generalize hPI:pyIter=PI
    wp_walk
    subst hPI
    refine wpAny_pyIter_list hl1 ?_
    refine wpAny_bind (wpAny_runValue ?_)
    have hh3:A.in1.in1.in1.handled=none:=by simp [hh]
    have hsz:(s.heap.push (iK led)).objs.size=s.heap.objs.size + 1:=Heap.size_push _ _
    refine CF ((Walks.list hh3 _ a (by rw [hsz];exact Nat.ne_of_lt (Nat.lt_succ_of_lt hlt)) items).toS) s.heap.objs.size (by rw [hsz];simp only [List.mem_cons,List.not_mem_nil,or_false,not_or];exact ⟨Nat.ne_of_lt (Nat.lt_succ_self _),Nat.ne_of_gt hlt⟩) l hs.symm hi (by omega) (items.size - 0) 0 _ (by omega) (Nat.zero_le _) ⟨⟨_,Heap.get?_push_size _ rfl,rfl,rfl⟩,(hl1.push _)⟩ ?_ ?_
    ·exact SetOf_congr ((setObjOf_fresh (knd:=strKind prog w) led).setOf (Heap.get?_push_of_some _ hS) (by unfold scanBound;omega)) (fun _=>by simp [eU]) (by simp [eU])
    ·intro s' hm hS'
     obtain ⟨h',g',d',tk',os'⟩:=s'
     have eg:g'=s.gens:=hm.gens
     have ed:d'=s.drawn:=hm.drawn
     have eo:os'=s.os:=hm.os
     subst eg;subst ed;subst eo
     show wpAny _ _ _ _ _ _
     refine wpAny_pure ?_
     show wpAny _ _ (ret Value.none) _ _ _
     refine wpAny_pure ⟨rfl,h',tk',rfl,hS',fun b o hb e=>?_⟩
     exact hm.heap b o (by rw [hsz];simp only [List.mem_cons,List.not_mem_nil,or_false,not_or];exact ⟨Nat.ne_of_lt hb,Nat.ne_of_lt (Nat.lt_succ_of_lt hb)⟩) (Heap.get?_push_of_some _ (Heap.get?_push_of_some _ e))
   ·cases r2 with
    | error e=>exact hr2
    | ok fl2 =>
     cases fl2 with
     | ret r =>
      obtain ⟨rfl,h',tk,rfl,hS',hk'⟩:=hr2
      repeat (any_goals (first | assumption | wp_step))
      exact h _ _ hS' hk'
     | _=>exact hr2.elim
  | _=>exact hr.elim
end
end L2
namespace L2
open PySem PySem.Spec PyProof.Rows
theorem GC {ns:List Str}:∀ {us:List Value},Vals (ns.map V.str) us->us.length=ns.length/\∀ (i:Nat) v,us[i]?=some v->∃ x t,ns[i]?=some x/\v=.str x t:=by
 induction ns with
 | nil=>intro us r;cases r;exact ⟨rfl,fun i v h=>by simp at h⟩
 | cons n ns ih =>
  intro us r
  rw [List.map_cons] at r
  cases r with
  | cons r1 r2 =>
   obtain ⟨t,rfl⟩:=r1
   obtain ⟨h1,h2⟩:=ih r2
   refine ⟨by simp [h1],fun i v h=>?_⟩
   cases i with
   | zero=>simp at h;exact ⟨n,t,rfl,h.symm⟩
   | succ i=>simp at h;exact h2 i v h
theorem boot_set:bootBuiltins "set"=some (.type "set"):=by kernel_rfl
theorem Kt:bootBuiltins "len"=some (.builtin "len"):=by kernel_rfl
section
variable {X:Cx} {a:Expr} {ta:TA} {p p2 pos pos2:Pos}
end
end L2
namespace U2
open PySem PySem.Spec PyProof.Rows L2
theorem AK {K:PySem.W.Frag} {H:Hp} {M:aE}:∀ {ss:List Str} {vs:List V},aI K H M (ss.map U.str) vs->vs=ss.map V.str
 | [],vs,r=>r.inv_nil
 | s :: ss,vs,r=>by
  obtain ⟨v,vs',rfl,a,b⟩:=aI.inv_cons r
  rw [a.str,AK b];rfl
section
variable {D:Dat} {a:Expr} {ta:UA} {pos p p2 pos2:Pos}
end
end U2
namespace U2
open PySem PySem.Spec PyProof.Rows L2
open AutoSeq1 (wpAny_loadPart')
open MeetsSeq MeetsSeq2 MeetsSeq3 SeqRoads2
def WV:U->List U->aE->UK->Prop:=fun x ws M Q=>match x,ws with
 | .tup us,[.str w]=>∃ (ss:List Str) (j:Nat),rY us=some ss/\ss[j]?=some w/\(∀ m z,m < j->ss[m]?=some z->z≠w)/\Q (.int (j:Nat)) M
 | _,_=>False
theorem tN:∀ {ys:List Str} {its:List Value},Vals (ys.map V.str) its->StrsAre its ys
 | [],its,r=>by cases r;exact .nil
 | y :: ys,its,r=>by
  cases r with
  | cons r rr =>
   obtain ⟨t,rfl⟩:=r
   exact .cons _ _ (tN rr)
def rJoin (K:PySem.W.Frag):V->List V->Hp->VK->Prop:=fun x vs H Q=>∃ z p ys,x=.str z/\vs=[.ref p]/\(eV K H p (ys.map V.str)\/fW K H p (ys.map V.str))/\(ys.map (·.length)).sum + ys.length * z.length<=16777216/\Q (.str (Txt.join z ys)) H
theorem RL {X:Cx}:Gr X "str.join" (rJoin X.K):=by
 intro pins s σ H x vs v us Q I rx rv h
 obtain ⟨z,p,ys,rfl,rfl,hq,hsz,q⟩:=h
 obtain ⟨t,rfl⟩:=rx
 obtain ⟨u,rfl,ru⟩:=rv.one
 cases ru
 rcases hq with hq | hq
 ·obtain ⟨its,r,pl,hz⟩:=I.list hq
  exact join_list pl.isList (by simpa using tN r) hsz fun t' k=>⟨.str _,H,I.tok k,⟨t',rfl⟩,q⟩
 ·obtain ⟨its,r,pl,hz⟩:=I.tuple hq
  exact join_tuple pl (by simpa using tN r) hsz fun t' k=>⟨.str _,H,I.tok k,⟨t',rfl⟩,q⟩
def q8 (x:U):Prop:=∃ z,x=.str z
def Cu (r:U->List U->aE->UK->Prop) (to:UE) (t:UA):UE:=fun τ M Q=>to τ M fun x M1=>q8 x/\t τ M1 fun xs M2=>r x xs M2 Q
theorem Qd {K:PySem.W.Frag} {r:V->List V->Hp->VK->Prop} {r':U->List U->aE->UK->Prop} {to:TE} {to':UE} {t:TA} {t':UA} (hr:nV K r r') (ho:bT K to to') (h:lE K t t') :
  bT K (PD K "str" r to t) (Cu r' to' t'):=fun σ τ H M Q' rs rm q Q c =>
 ho σ τ H M _ rs rm q _ fun u v M1 H1 s1 rm1 ru h1=>by
  obtain ⟨⟨z,rfl⟩,h1⟩:=h1
  cases ru.str
  exact ⟨rfl,h σ τ H1 M1 _ (rs.stp s1) rm1 h1 _ fun us' vs' M2 H2 s2 rm2 rus h2=>hr _ vs' _ us' H2 M2 Q' rm2 (ru.stp s2) rus h2 Q (cK.stp c (s1.trans s2))⟩
def xA:U->List U->aE->UK->Prop:=fun x ws M Q=>match x,ws with
 | .str z,[y]=>match items M y with
  | some us=>∃ ss:List Str,rY us=some ss/\(ss.map (·.length)).sum + ss.length * z.length<=16777216/\Q (.str (Txt.join z ss)) M
  | none=>False
 | _,_=>False
theorem NJ {K:PySem.W.Frag}:nV K (rJoin K) xA:=fun x xs u us H M Q' rm ru rus h Q c=>by
 unfold xA at h
 split at h
 ·rename_i z y
  split at h
  ·rename_i us e
   obtain ⟨ss,h1,h2,q⟩:=h
   cases ru.str
   obtain ⟨v,rfl,a1⟩:=rus.one
   obtain ⟨p,vs,rfl,sq,rs⟩:=yF rm a1 e
   rw [CH rs h1] at sq
   exact ⟨z,p,ss,rfl,rfl,sq,h2,c.here rm fJ q⟩
  ·exact h.elim
 ·exact h.elim
theorem Ae {D:Dat} {o e:Expr} {ta:UE} {tas:UA} {pos apos:Pos} (ho:bA D o ta) (ha:jZ D [e] tas) (hbase:∀ env,attributeBase o "join" env (eval o env)=eval o env:=by intro _;rfl)
  (hfew:∀ env,((backTo pos (starEach [e] env)).all (fun x=>!x.1) && (backToKw pos (keywordEach [] env)).all (fun x=>x.1.isSome) && decide ([e].length + ([]:List Keyword).length + (if ([]:List Keyword).isEmpty then 0 else 1) < 30))=true:=by intro _;rfl)
  (hline:(apos.endLine == pos.line)=true:=by rfl) (hs:∀ env,starEach [e] env=[(false,eval e env)]:=by intro _;rfl):bA D (.Call (.Attribute o "join" apos) [e] [] pos) (Cu xA ta tas):=by
 obtain ⟨_,p,s⟩:=ho;obtain ⟨_,q,r⟩:=ha
 refine ⟨_,fun X h=>?_,Qd NJ s r⟩
 have:=zP (cpos:=pos) (apos:=apos) PySem.F.plainAttrs_str PySem.F.slot_str_join PySem.F.type_str_join RL (p X h) (q X h) (hbase _) (hfew _) hline (hs _) (by rfl)
 rw [h.K] at this
 exact this
end U2
namespace U2
open PySem PySem.Spec PyProof.Rows L2
def mT (ts:List (Addr × Str)):aE:=fun b=>(ts.lookup b).map MO.tbl
theorem n9 {b:Addr} {q:Str}:∀ {ts:List (Addr × Str)},ts.lookup b=some q->(b,q)∈ts
 | [],h=>by cases h
 | (c,r) :: ts,h=>by
  rw [List.lookup_cons] at h
  by_cases e:b=c
  ·subst e
   rw [beq_self_eq_true] at h
   cases h
   exact List.mem_cons_self
  ·rw [show (b == c)=false from beq_eq_false_iff_ne.mpr e] at h
   exact List.mem_cons_of_mem _ (n9 h)
theorem Qu {K:PySem.W.Frag} {H:Hp} {ts:List (Addr × Str)} (hu:∀ p∈ts,∀ p'∈ts,p.2=p'.2->p.1=p'.1) (hT:∀ b∈ts.map Prod.fst,H b=some (.tbl #[])):RelM K H (mT ts):=by
 intro b mo h
 unfold mT at h
 cases e:ts.lookup b with
 | none=>rw [e] at h;cases h
 | some q =>
  rw [e] at h
  cases h
  refine ⟨fun b' h'=>?_,#[],hT b (List.mem_map.mpr ⟨_,n9 e,rfl⟩),trivial,fun pos c hc=>by cases hc⟩
  unfold mT at h'
  cases e':ts.lookup b' with
  | none=>rw [e'] at h';cases h'
  | some q' =>
   rw [e'] at h'
   cases h'
   exact hu _ (n9 e') _ (n9 e) rfl
theorem Dc {K:PySem.W.Frag} {H:Hp} {M:aE}:∀ ns:List Int,aI K H M (ns.map U.int) (ns.map V.int)
 | []=>.nil
 | _ :: r=>.cons dM (Dc r)
theorem Gk {K:PySem.W.Frag} {H:Hp} {ts:List (Addr × Str)} {a:Addr} {ns:List Int} (hT:∀ b∈ts.map Prod.fst,H b=some (.tbl #[])) (hS:eV K H a (ns.map V.int)):aI K H (mT ts) [.lst (ns.map .int)] [.ref a]:=by
 refine .cons ?_ .nil
 simp only [aP]
 refine ⟨a,_,rfl,?_,Dc ns⟩
 rcases hS with h | h
 ·refine .inl ⟨?_,h⟩
  unfold mT
  cases e:ts.lookup a with
  | none=>rfl
  | some q =>
   have:=hT a (List.mem_map.mpr ⟨_,n9 e,rfl⟩)
   rcases h with h | ⟨o,h⟩ <;> rw [this] at h <;> cases h
 ·exact .inr h
theorem U6 {K:PySem.W.Frag} {H:Hp} {a:Addr} {ns:List Int} {E:XK} {ts:List (Addr × Str)} {sp:cF} (hS:eV K H a (ns.map V.int)) (hT:∀ b∈ts.map Prod.fst,H b=some (.tbl #[])) (hu:∀ p∈ts,∀ p'∈ts,p.2=p'.2->p.1=p'.1)
  (h:sp [.lst (ns.map .int)] (mT ts) fun u _=>u=.bl true):fZ K sp [.ref a] H (fun v _=>v=.bl true) E :=
 ⟨[.lst (ns.map .int)],mT ts,fun u _=>u=.bl true,Qu hu hT,Gk hT hS,h,fun u v M1 H1 _ _ ru q=>by subst q;exact ru.bl⟩
end U2
namespace U2
open PySem PySem.Spec PyProof.Rows L2
theorem L7 {l:PySem.W.OpenLaw} {n k:Nat} {q:Program} {loose:List Str} {XP:(Str->Option Value)->Heap->Prop} {YP:World->Heap->Prop} {d:DefRec} {K:Params->PySem.W.Frag} {sp:World->Sp} {x:Str} {ts:List Addr}
  (hn:l.most=some n) (hn2:n<=sizeLine) (hdf:d.params.defaults=[]) (hr:cW k callerA)
  (hY:∀ (w:World) (h:Heap),YP w h->(K w.params).In h/\∀ P∈ts,h.get? P=some (PySem.W.tabObj #[]))
  (hTK:∀ (w:World),∀ P∈ts,(K w.params).lookup P=none/\∃ c,PySem.W.codeHdIn (K w.params) c P=true)
  (F:∀ (w:World) (mg:Str->Option Value) (fa:Addr) (h:Heap),(K w.params).In h->h.Ns mainGlobals mg->mg d.name=some (.ref fa) ->
   ∃ fd:FuncData,(∀ (s:Shared) (u:Value),BindsTo s fd ⟨[u],[]⟩ [(x,u)]) /\
    ∀ base:Heap,(K w.params).In base->base.Ns mainGlobals mg->jO base mg->fD l.prog w (K w.params) mg base iU k fa fd [x] (sp w))
  (hsp:∀ (w:World) (H:Hp) (a:Addr) (ns:List Int),ns.length<=n->(∀ m∈ns,Builtin.Int.intBits m<=2 ^ 20)->IC ts H->eV (K w.params) H a (ns.map V.int)->(∀ p∈ts,H p=some (.tbl #[]))->sp w [.ref a] H (fun v _=>v=.bl true) fun _ _ _=>False) :
  PySem.W.WalkO q loose XP YP l.row.toRowW d [] (fun f vs=>PySem.call f vs):=by
 refine Att.attach_callB hn hdf fun w s₀ s₁ mg mb fa o pm cd doc a vs ns G Y ho hd hcd hmg hobj hints hlen hg hbits=>?_
 obtain ⟨KX,TX⟩:=hY w _ Y
 obtain ⟨fd,hb,hF⟩:=F w mg fa _ KX G.T.g hmg
 have hB:jO s₁.heap mg:=by
  obtain ⟨bm,ob,b1,b2,b3,b4,b5,b6⟩:=G.T.bmain
  refine ⟨bm,ob,b1,b2,fun z=>?_,b3,b4,b5,b6⟩
  obtain ⟨o,es,ep,e,hd,_⟩:=G.T.g
  rw [z,e] at b3;cases b3;rw [hd] at b6;cases b6
 exact Kq KX G.T.g G.T.b G.T.builtins G.T.nolimit hg hB (fun p hp=>⟨TX p hp,(hTK w p hp).1,let ⟨c,hc⟩:=(hTK w p hp).2;((PySem.W.codeHd_of_K KX hc).tab (TX p hp)).isCodeTable⟩) hobj hints (Nat.le_trans hlen hn2) hr hF hb (fun H hO hS hT=>hsp w H a ns hlen hbits hO hS hT)
end U2
namespace L2
open PySem PySem.Spec PyProof.Rows
section
variable {prog:Program} {w:World} {A:Around} {E:Value->Shared->Prop} {s:Shared}
theorem Lw {a:Addr} {items:Array Value} {l:List Str} {Q:Value->Shared->Prop} (hh:A.handled=none) (ha:s.heap.IsTuple a items) (hs:items.size=l.length) (hi:∀ (i:Nat) v,items[i]?=some v->∃ x t,l[i]?=some x/\v=.str x t) (hb:l.length + 1 < scanBound)
  (h:∀ (h':Heap) (tk:Nat),h'.SetOf (strKind prog w) s.heap.objs.size (fun y=>(eU l).any (· == y)) (eU l).length->(∀ b o,b < s.heap.objs.size->s.heap.get? b=some o->h'.get? b=some o)->Q (.ref s.heap.objs.size) { s with heap:=h',toks:=tk }) :
  wpAny (model prog w) A (call (.type "set") [.ref a]) Q E s:=by
 obtain ⟨c,tl,hmro⟩:=F.called_set.mro
 have hmade:=F.called_set.made
 have hsub:=F.called_set.sub
 refine wpAny_call (codeAny_of_tree ?_)
 show wpAny _ _ (callAny (.type "set") _) _ _ _
 refine wpAny_pure ⟨Code.quiet_builtin _ (by decide +kernel),codeAny_builtin F.entry_type_call ?_⟩
 rw [Around.under_plain (weight_type_call_type "set" [.ref a] []) rfl]
 have h1:=F.called_set.notType
 have h2:=F.called_set.canCreate
 have hct:=F.typeCall_set_1 (.ref a)
 repeat (any_goals (first | assumption | wp_step))
 refine codeAny_mono (code_set_new_1 (.ref a) (E:=E) (Q₁:=fun obj s1=>∃ led:Bool,obj=.ref s.heap.objs.size/\s1={ s with heap:=s.heap.push (iK led) }) fun led=>⟨led,rfl,rfl⟩) fun r s1 hr=>?_
 cases r with
 | error e=>exact hr
 | ok fl =>
  cases fl with
  | ret obj =>
   obtain ⟨led,rfl,rfl⟩:=hr
   have hS:(s.heap.push (iK led)).get? s.heap.objs.size=some (iK led):=Heap.get?_push_size _ rfl
   have hT:Shared.TypeIs { s with heap:=s.heap.push (iK led) } (.ref s.heap.objs.size) "set":=⟨_,hS,rfl⟩
   have hli:=F.called_set.init.lookup
   have hbi:=F.called_set.init.bind (.ref s.heap.objs.size)
   repeat (any_goals (first | assumption | wp_step))
   have hlt:a < s.heap.objs.size:=by obtain ⟨o,ho,_⟩:=ha;exact Heap.lt_size ho
   refine codeAny_mono (codeAny_call_builtin (R:=wants (fun r s2=>r=.none/\∃ h' tk,s2={ s with heap:=h',toks:=tk } /\
     h'.SetOf (strKind prog w) s.heap.objs.size (fun y=>(eU l).any (· == y)) (eU l).length/\(∀ b o,b < s.heap.objs.size->s.heap.get? b=some o->h'.get? b=some o)) E) F.called_set.init.plain F.entry_set_init (check_set_init_1 hT ?_)) fun r2 s2 hr2=>?_
   ·obtain ⟨ol,hol,hcl,nl,hdl⟩:=ha
    obtain ⟨ocls,odict,odata,oslots⟩:=ol
    simp only at hcl hdl
    subst hcl;subst hdl
    have hol':(s.heap.push (iK led)).get? a=some { cls:=.type "tuple",dict:=odict,data:=.seq items nl,slots:=oslots }:=Heap.get?_push_of_some _ hol
    have g1:=F.sub_tuple_set
    have g2:=F.sub_tuple_frozenset
    have hne:(Value.type "tuple" == Value.type "dict")=false:=by decide
    have hl1:(s.heap.push (iK led)).IsTuple a items:=⟨_,hol',rfl,nl,rfl⟩
    unfold Builtin.«set.__init__» noKeywords Builtin.Frozenset.updateFrom
    generalize hPI:pyIter=PI
    wp_walk
    subst hPI
    refine wpAny_pyIter_tuple hl1 ?_
    refine wpAny_bind (wpAny_runValue ?_)
    have hh3:A.in1.in1.in1.handled=none:=by simp [hh]
    have hsz:(s.heap.push (iK led)).objs.size=s.heap.objs.size + 1:=Heap.size_push _ _
    refine CF ((Walks.tuple hh3 _ a (by rw [hsz];exact Nat.ne_of_lt (Nat.lt_succ_of_lt hlt)) items).toS) s.heap.objs.size (by rw [hsz];simp only [List.mem_cons,List.not_mem_nil,or_false,not_or];exact ⟨Nat.ne_of_lt (Nat.lt_succ_self _),Nat.ne_of_gt hlt⟩) l hs.symm hi (by omega) (items.size - 0) 0 _ (by omega) (Nat.zero_le _) ⟨⟨_,Heap.get?_push_size _ rfl,rfl,rfl⟩,(hl1.push _)⟩ ?_ ?_
    ·exact SetOf_congr ((setObjOf_fresh (knd:=strKind prog w) led).setOf (Heap.get?_push_of_some _ hS) (by unfold scanBound;omega)) (fun _=>by simp [eU]) (by simp [eU])
    ·intro s' hm hS'
     obtain ⟨h',g',d',tk',os'⟩:=s'
     have eg:g'=s.gens:=hm.gens
     have ed:d'=s.drawn:=hm.drawn
     have eo:os'=s.os:=hm.os
     subst eg;subst ed;subst eo
     show wpAny _ _ _ _ _ _
     refine wpAny_pure ?_
     show wpAny _ _ (ret Value.none) _ _ _
     refine wpAny_pure ⟨rfl,h',tk',rfl,hS',fun b o hb e=>?_⟩
     exact hm.heap b o (by rw [hsz];simp only [List.mem_cons,List.not_mem_nil,or_false,not_or];exact ⟨Nat.ne_of_lt hb,Nat.ne_of_lt (Nat.lt_succ_of_lt hb)⟩) (Heap.get?_push_of_some _ (Heap.get?_push_of_some _ e))
   ·cases r2 with
    | error e=>exact hr2
    | ok fl2 =>
     cases fl2 with
     | ret r =>
      obtain ⟨rfl,h',tk,rfl,hS',hk'⟩:=hr2
      repeat (any_goals (first | assumption | wp_step))
      exact h _ _ hS' hk'
     | _=>exact hr2.elim
  | _=>exact hr.elim
end
def El (K:PySem.W.Frag) (ta:TA):TE:=fun σ H Q=>ta σ H fun vs H1=>∃ a ss,vs=[.ref a]/\(eV K H1 a (ss.map V.str)\/fW K H1 a (ss.map V.str))/\ss.length < 1000/\Q (.int (eU ss).length) H1
section
variable {X:Cx} {a:Expr} {ta:TA} {p p2 pos pos2:Pos}
theorem Jb (hc:X.calm=true) (hg:Gl X "len") (hm:X.mg "len"=none) (hg2:Gl X "set") (hm2:X.mg "set"=none) (ha:PA X [a] ta) (hs:starEach [a] X.env=[(false,eval a X.env)]) (hs2:starEach [.Call (.Name "set" p2) [a] [] pos2] X.env=[(false,eval (.Call (.Name "set" p2) [a] [] pos2) X.env)]) :
  PE X (.Call (.Name "len" p) [.Call (.Name "set" p2) [a] [] pos2] [] pos) (El X.K ta):=by
 intro pins s σ H Q I h
 refine wpAny_Call_Name_kw (l4 I hg hm Kt ?_)
 refine PyProof.Rows.callWith_builtin1 ?_ hs2 rfl
 rw [hs2]
 show wpAny _ _ (spliced ((false,eval (.Call (.Name "set" p2) [a] [] pos2) X.env) :: backTo pos [])) _ _ s
 refine Calls.spliced_cons (wpAny_Call_Name_kw (l4 I hg2 hm2 boot_set (PyProof.Rows.callWith_type1 (aZ (ha pos2 pins s σ H _ I h) fun us s1 ⟨vs,H1,I1,r1,q1⟩=>?_) hs rfl)))
 obtain ⟨b,ss,rfl,hq,hlt,q⟩:=q1
 obtain ⟨u,rfl,rx⟩:=vals1 r1
 cases rx
 rcases hq with hq | hq
 ·obtain ⟨its,r',pl,hz⟩:=I1.list hq
  obtain ⟨e1,e2⟩:=GC r'
  refine J5 (I1.ok.hd hc) pl.isList (l:=ss) (by simpa using e1) (fun i v hv=>e2 i v (by simpa using hv)) (by unfold scanBound;omega) fun h' tk hS hk=>?_
  refine Calls.spliced_nil ?_
  obtain ⟨o,es,ep,t,ho,hex,hd,_,_,hb,hf,hn⟩:=hS
  refine call_len_set (s:={ s1 with heap:=h',toks:=tk }) ho hex hd hf (by have:=hb;unfold scanBound at this;omega) ?_
  refine ⟨.int (eU ss).length,H1,?_,⟨_,by rw [hn]⟩,q⟩
  exact I1.kept fun b o e=>hk b o (Heap.lt_size e) e
 ·obtain ⟨its,r',pl,hz⟩:=I1.tuple hq
  obtain ⟨e1,e2⟩:=GC r'
  refine Lw (items:=its.toArray) (I1.ok.hd hc) pl (l:=ss) (by simpa using e1) (fun i v hv=>e2 i v (by simpa using hv)) (by unfold scanBound;omega) fun h' tk hS hk=>?_
  refine Calls.spliced_nil ?_
  obtain ⟨o,es,ep,t,ho,hex,hd,_,_,hb,hf,hn⟩:=hS
  refine call_len_set (s:={ s1 with heap:=h',toks:=tk }) ho hex hd hf (by have:=hb;unfold scanBound at this;omega) ?_
  refine ⟨.int (eU ss).length,H1,?_,⟨_,by rw [hn]⟩,q⟩
  exact I1.kept fun b o e=>hk b o (Heap.lt_size e) e
end
end L2
namespace U2
open PySem PySem.Spec PyProof.Rows L2
def Em (ta:UA):UE:=fun τ M Q=>ta τ M fun us M1=>match us with
 | [x]=>match items M1 x with
  | some ws=>∃ ss:List Str,ws=ss.map U.str/\ss.length < 1000/\Q (.int (eU ss).length) M1
  | _=>False
 | _=>False
section
variable {D:Dat} {a:Expr} {ta:UA} {pos p p2 pos2:Pos}
theorem JB (hm:D.mg "len"=none) (hm2:D.mg "set"=none) (ha:jZ D [a] ta) (hg:D.sc.names.lookup ("len":Str)=some .globalImplicit:=by rfl) (hg2:D.sc.names.lookup ("set":Str)=some .globalImplicit:=by rfl) (hs:∀ env,starEach [a] env=[(false,eval a env)]:=by intro _;rfl)
  (hs2:∀ env,starEach [.Call (.Name "set" p2) [a] [] pos2] env=[(false,eval (.Call (.Name "set" p2) [a] [] pos2) env)]:=by intro _;rfl):bA D (.Call (.Name "len" p) [.Call (.Name "set" p2) [a] [] pos2] [] pos) (Em ta):=by
 obtain ⟨t,q,s⟩:=ha
 refine ⟨El D.K t,fun X h=>by have:=Jb (p:=p) (p2:=p2) (pos:=pos) (pos2:=pos2) h.calm (by show X.env.scope.names.lookup _=_;rw [h.sc];exact hg) (by rw [h.mg];exact hm) (by show X.env.scope.names.lookup _=_;rw [h.sc];exact hg2) (by rw [h.mg];exact hm2) (q X h) (hs _) (hs2 _);rw [h.K] at this;exact this,fun σ τ H M Q' rs rm h Q c=>?_⟩
 refine s σ τ H M _ rs rm h _ fun us vs M1 H1 s1 rm1 ru h1=>?_
 split at h1
 ·obtain ⟨v,rfl,a1⟩:=ru.one
  split at h1
  ·rename_i ws e
   obtain ⟨ss,rfl,hl,q⟩:=h1
   obtain ⟨b,zvs,rfl,s2,r2⟩:=yF rm1 a1 e
   rw [AK r2] at s2
   exact ⟨b,ss,rfl,s2,hl,c _ _ M1 H1 s1 rm1 dM q⟩
  ·exact h1.elim
 ·exact h1.elim
end
end U2
namespace U2
open PySem PySem.Spec PyProof.Rows L2
section
variable {prog:Program} {w:World} {A:Around} {E:Value->Shared->Prop} {s:Shared}
end
section
variable {prog:Program} {w:World} {A:Around} {E:Value->Shared->Prop} {s:Shared}
end
theorem HA {α β:Type} (f:α->Bool) (g:β->Bool):∀ (l:List α) (m:List β),l.length=m.length->(∀ (i:Nat) a b,l[i]?=some a->m[i]?=some b->f a=g b)->l.countP f=m.countP g
 | [],[],_,_=>rfl
 | [],_ :: _,h,_=>by cases h
 | _ :: _,[],h,_=>by cases h
 | a :: l,b :: m,h,k=>by
  rw [List.countP_cons,List.countP_cons,k 0 a b rfl rfl,HA f g l m (by simpa using h) fun i a b h1 h2=>k (i + 1) a b h1 h2]
def zV:List U->Option (List Int)
 | []=>some []
 | .int b :: r=>(zV r).map (b :: ·)
 | _=>none
theorem LZ {K:PySem.W.Frag} {H:Hp} {M:aE}:∀ {us:List U} {vs:List V} {bs:List Int},aI K H M us vs->zV us=some bs->vs=bs.map V.int
 | [],_,_,r,h=>by cases h;exact r.inv_nil
 | u :: us,_,bs,r,h=>by
  obtain ⟨v,vs',rfl,a,b⟩:=r.inv_cons
  cases u with
  | int y =>
   simp only [zV] at h
   cases e:zV us with
   | none=>rw [e] at h;cases h
   | some cs =>
    rw [e] at h
    cases h
    rw [LZ b e,a.int];rfl
  | _=>cases h
theorem LW:∀ l:List Int,zV (l.map U.int)=some l
 | []=>rfl
 | a :: l=>by simp only [List.map_cons,zV,LW l,Option.map_some]
end U2
namespace U2
open PySem PySem.Spec PyProof.Rows L2
def findF (z y:Str):Int:=match Builtin.Str.occurrences z y 0 z.length 1 with | i :: _=>(i:Int) | []=>-1
def OU:V->List V->Hp->VK->Prop:=fun x vs H Q=>∃ z y,x=.str z/\vs=[.str y]/\Q (.int (findF z y)) H
theorem PR {X:Cx}:Gr X "str.find" OU:=by
 intro pins s σ H x vs v us Q I rx rv h
 obtain ⟨z,y,rfl,rfl,q⟩:=h
 obtain ⟨t,rfl⟩:=rx
 obtain ⟨u,rfl,ru⟩:=rv.one
 obtain ⟨t2,rfl⟩:=ru
 refine call_gives PySem.F.slot_str_find (typeIs_str _ _ _) PySem.F.entry_str_find (PySem.F.args_str_find_2 _ _) (PySem.gives_str_find z y t t2) ?_
 exact ⟨.int (findF z y),H,I.tok _,⟨_,rfl⟩,q⟩
def DO:U->List U->aE->UK->Prop:=fun x ws M Q=>match x,ws with
 | .str z,[.str y]=>Q (.int (findF z y)) M
 | _,_=>False
theorem Oy {K:PySem.W.Frag}:nV K OU DO:=fun x xs u us H M Q' rm ru rus h Q c=>by
 unfold DO at h
 split at h
 ·obtain ⟨v,rfl,a1⟩:=rus.one
  cases a1.str
  cases ru.str
  exact ⟨_,_,rfl,rfl,c.here rm dM h⟩
 ·exact h.elim
def EN (x:U):Prop:=∃ z,x=.str z
def zA (r:U->List U->aE->UK->Prop) (to:UE) (t:UA):UE:=fun τ M Q=>to τ M fun x M1=>EN x/\t τ M1 fun xs M2=>r x xs M2 Q
theorem Cb {K:PySem.W.Frag} {r:V->List V->Hp->VK->Prop} {r':U->List U->aE->UK->Prop} {to:TE} {to':UE} {t:TA} {t':UA} (hr:nV K r r') (ho:bT K to to') (h:lE K t t') :
  bT K (PD K "str" r to t) (zA r' to' t'):=fun σ τ H M Q' rs rm q Q c =>
 ho σ τ H M _ rs rm q _ fun u v M1 H1 s1 rm1 ru h1=>by
  obtain ⟨⟨z,rfl⟩,h1⟩:=h1
  cases ru.str
  exact ⟨rfl,h σ τ H1 M1 _ (rs.stp s1) rm1 h1 _ fun us' vs' M2 H2 s2 rm2 rus h2=>hr _ vs' _ us' H2 M2 Q' rm2 (ru.stp s2) rus h2 Q (cK.stp c (s1.trans s2))⟩
theorem RE {D:Dat} {o e:Expr} {ta:UE} {tas:UA} {pos apos:Pos} (ho:bA D o ta) (ha:jZ D [e] tas) (hbase:∀ env,attributeBase o "find" env (eval o env)=eval o env:=by intro _;rfl)
  (hfew:∀ env,((backTo pos (starEach [e] env)).all (fun x=>!x.1) && (backToKw pos (keywordEach [] env)).all (fun x=>x.1.isSome) && decide ([e].length + ([]:List Keyword).length + (if ([]:List Keyword).isEmpty then 0 else 1) < 30))=true:=by intro _;rfl)
  (hline:(apos.endLine == pos.line)=true:=by rfl) (hs:∀ env,starEach [e] env=[(false,eval e env)]:=by intro _;rfl):bA D (.Call (.Attribute o "find" apos) [e] [] pos) (zA DO ta tas):=by
 obtain ⟨_,p,s⟩:=ho;obtain ⟨_,q,r⟩:=ha
 refine ⟨_,fun X h=>?_,Cb Oy s r⟩
 have:=zP (cpos:=pos) (apos:=apos) PySem.F.plainAttrs_str PySem.F.slot_str_find PySem.F.type_str_find PR (p X h) (q X h) (hbase _) (hfew _) hline (hs _) (by rfl)
 rw [h.K] at this
 exact this
end U2
namespace U2
open PySem PySem.Spec PyProof.Rows L2
open Builtin Builtin.Str
theorem Hw:∀ (n:Nat) (ss:List Str),Vals (ss.map V.str) (strsFrom n ss)
 | _,[]=>.nil
 | n,s :: ss=>.cons ⟨n,rfl⟩ (Hw (n + 1) ss)
def Ut (f:Str->Str->List V->Option (List Str)):V->List V->Hp->VK->Prop:=fun x vs H Q=>∃ z y r ps,x=.str z/\vs=.str y :: r/\f z y r=some ps/\(y.length == 0)=false/\z.length<=100000/\∀ q,H q=none->Q (.ref q) (upd H q (.lst (ps.map V.str)))
def MK (z y:Str):List V->Option (List Str)
 | []=>some (Txt.split z y)
 | [.int k]=>if (decide (k < -(2 ^ 63:Int)) || decide (k ≥ 2 ^ 63))=false then some (Txt.splitMax z y k) else none
 | _=>none
theorem D7 {X:Cx}:Gr X "str.split" (Ut MK):=by
 intro pins s σ H x vs v us Q I rx rv h
 obtain ⟨z,y,r,ps,rfl,rfl,hf,hy,hz,q⟩:=h
 obtain ⟨t,rfl⟩:=rx
 obtain ⟨u,us',rfl,ru,rv2⟩:∃ u us',us=u :: us'/\RelV (.str y) u/\Vals r us':=by
  cases rv with
  | cons a b=>exact ⟨_,_,rfl,a,b⟩
 obtain ⟨t2,rfl⟩:=ru
 have hn:∀ lim,(partsBetween z (occurrences z y 0 z.length lim) y.length).length<=sizeLine:=fun lim=>by
  have e1:=StrLaws.occ_length_le_len z y 0 z.length lim
  rw [length_partsBetween]
  have:(100010:Nat)<=sizeLine:=by decide
  omega
 have hzz:z.length<=sizeLine:=Nat.le_trans hz (by decide)
 have fin:∀ (n:Nat) (its:List Value),Vals (ps.map V.str) its->its.length<=sizeLine->∃ x H',L2.Inv X pins σ H' { s with toks:=n,heap:=s.heap.push { cls:=.type "list",data:=.seq its.toArray } }/\RelV x (.ref s.heap.objs.size)/\Q x H':=fun n its rr hl=>by
  have hD:H s.heap.objs.size=none:=I.hok.fresh (Nat.le_refl _)
  refine ⟨.ref s.heap.objs.size,_,I.laid (h':=s.heap.push { cls:=.type "list",data:=.seq its.toArray }) (t':=n) (o:=.lst (ps.map V.str)) (fun c o e=>Heap.get?_push_of_some _ e) (Nat.le_refl _) ⟨?_,its,0,rr,?_⟩,rfl,q _ hD⟩
  ·rw [rr.length];exact hl
  ·exact Heap.get?_push_size _ rfl
 clear rv
 match r,us',hf,rv2 with
 | [],[],hf,_ =>
  cases hf
  cases h1:(decide (z.length < y.length) || decide (strKind z < strKind y))
  ·cases h2:(occurrences z y 0 z.length (z.length + 1)).isEmpty
   ·have e:Txt.split z y=partsBetween z (occurrences z y 0 z.length (z.length + 1)) y.length:=by unfold Txt.split;rw [h1,h2];rfl
    rw [e] at fin
    exact call_meets PySem.F.slot_str_split (typeIs_str _ _ _) PySem.F.entry_str_split (PySem.F.args_str_split_2 _ _) (meets_str_split_sep z y t t2 h1 hy h2 hzz (hn _)) (fin _ _ (Hw _ _) (by rw [strsFrom_length];exact hn _))
   ·have e:Txt.split z y=[z]:=by unfold Txt.split;rw [h1,h2];rfl
    rw [e] at fin
    exact call_meets PySem.F.slot_str_split (typeIs_str _ _ _) PySem.F.entry_str_split (PySem.F.args_str_split_2 _ _) (meets_str_split_not_found z y t t2 h1 hy h2) (fin s.toks [.str z t] (.cons ⟨t,rfl⟩ .nil) (show 1<=sizeLine by decide))
  ·have e:Txt.split z y=[z]:=by unfold Txt.split;rw [h1];rfl
   rw [e] at fin
   exact call_meets PySem.F.slot_str_split (typeIs_str _ _ _) PySem.F.entry_str_split (PySem.F.args_str_split_2 _ _) (meets_str_split_cannot_occur z y t t2 h1) (fin s.toks [.str z t] (.cons ⟨t,rfl⟩ .nil) (show 1<=sizeLine by decide))
 | [.int k],us3,hf,rv =>
  obtain ⟨u3,rfl,⟨t3,rfl⟩⟩:=vals1 rv
  simp only [MK] at hf
  split at hf
  ·rename_i hk
   cases hf
   cases h1:(decide (z.length < y.length) || decide (strKind z < strKind y))
   ·cases h2:(occurrences z y 0 z.length (limitOf z k)).isEmpty
    ·have e:Txt.splitMax z y k=partsBetween z (occurrences z y 0 z.length (limitOf z k)) y.length:=by unfold Txt.splitMax;rw [h1,h2];rfl
     rw [e] at fin
     exact call_meets PySem.F.slot_str_split (typeIs_str _ _ _) PySem.F.entry_str_split (PySem.F.args_str_split_3 _ _ _) (meets_str_split_sep_max z y k t t2 t3 hk h1 hy h2 hzz (hn _)) (fin _ _ (Hw _ _) (by rw [strsFrom_length];exact hn _))
    ·have e:Txt.splitMax z y k=[z]:=by unfold Txt.splitMax;rw [h1,h2];rfl
     rw [e] at fin
     exact call_meets PySem.F.slot_str_split (typeIs_str _ _ _) PySem.F.entry_str_split (PySem.F.args_str_split_3 _ _ _) (meets_str_split_max_not_found z y k t t2 t3 hk h1 hy h2) (fin s.toks [.str z t] (.cons ⟨t,rfl⟩ .nil) (show 1<=sizeLine by decide))
   ·have e:Txt.splitMax z y k=[z]:=by unfold Txt.splitMax;rw [h1];rfl
    rw [e] at fin
    exact call_meets PySem.F.slot_str_split (typeIs_str _ _ _) PySem.F.entry_str_split (PySem.F.args_str_split_3 _ _ _) (meets_str_split_max_cannot_occur z y k t t2 t3 hk h1) (fin s.toks [.str z t] (.cons ⟨t,rfl⟩ .nil) (show 1<=sizeLine by decide))
  ·cases hf
def rH (own:Bool):U->List U->aE->UK->Prop:=fun x ws M Q=>match x,ws with
 | .str z,[.str y]=>(y.length == 0)=false/\z.length<=100000/\jX own ((Txt.split z y).map U.str) M Q
 | .str z,[.str y,.int k]=>(y.length == 0)=false/\z.length<=100000/\(decide (k < -(2 ^ 63:Int)) || decide (k ≥ 2 ^ 63))=false/\jX own ((Txt.splitMax z y k).map U.str) M Q
 | _,_=>False
theorem CP {own:Bool} {K:PySem.W.Frag}:nV K (Ut MK) (rH own):=fun x xs u us H M Q' rm ru rus h Q c=>by
 unfold rH at h
 split at h
 ·obtain ⟨v,rfl,a1⟩:=rus.one
  cases a1.str
  cases ru.str
  exact ⟨_,_,[],_,rfl,rfl,rfl,h.1,h.2.1,fun q hq=>c.lst rm (vK _) hq h.2.2⟩
 ·obtain ⟨v,r,rfl,a1,a2⟩:=rus.inv_cons
  obtain ⟨v2,rfl,a3⟩:=a2.one
  cases a1.str
  cases a3.int
  cases ru.str
  exact ⟨_,_,[.int _],_,rfl,rfl,if_pos h.2.2.1,h.1,h.2.1,fun q hq=>c.lst rm (vK _) hq h.2.2.2⟩
 ·exact h.elim
theorem CW {D:Dat} {own:Bool} {o e:Expr} {ta:UE} {tas:UA} {pos apos:Pos} (ho:bA D o ta) (ha:jZ D [e] tas) (hbase:∀ env,attributeBase o "split" env (eval o env)=eval o env:=by intro _;rfl)
  (hfew:∀ env,((backTo pos (starEach [e] env)).all (fun x=>!x.1) && (backToKw pos (keywordEach [] env)).all (fun x=>x.1.isSome) && decide ([e].length + ([]:List Keyword).length + (if ([]:List Keyword).isEmpty then 0 else 1) < 30))=true:=by intro _;rfl)
  (hline:(apos.endLine == pos.line)=true:=by rfl) (hs:∀ env,starEach [e] env=[(false,eval e env)]:=by intro _;rfl):bA D (.Call (.Attribute o "split" apos) [e] [] pos) (zA (rH own) ta tas):=by
 obtain ⟨_,p,s⟩:=ho;obtain ⟨_,q,r⟩:=ha
 refine ⟨_,fun X h=>?_,Cb CP s r⟩
 have:=zP (cpos:=pos) (apos:=apos) PySem.F.plainAttrs_str PySem.F.slot_str_split PySem.F.type_str_split D7 (p X h) (q X h) (hbase _) (hfew _) hline (hs _) (by rfl)
 rw [h.K] at this
 exact this
theorem KC {D:Dat} {own:Bool} {o e e2:Expr} {ta:UE} {tas:UA} {pos apos:Pos} (ho:bA D o ta) (ha:jZ D [e,e2] tas) (hbase:∀ env,attributeBase o "split" env (eval o env)=eval o env:=by intro _;rfl)
  (hfew:∀ env,((backTo pos (starEach [e,e2] env)).all (fun x=>!x.1) && (backToKw pos (keywordEach [] env)).all (fun x=>x.1.isSome) && decide ([e,e2].length + ([]:List Keyword).length + (if ([]:List Keyword).isEmpty then 0 else 1) < 30))=true:=by intro _;rfl)
  (hline:(apos.endLine == pos.line)=true:=by rfl) (hs:∀ env,starEach [e,e2] env=[(false,eval e env),(false,eval e2 env)]:=by intro _;rfl) (hs2:∀ env,starEach [e2] env=[(false,eval e2 env)]:=by intro _;rfl):bA D (.Call (.Attribute o "split" apos) [e,e2] [] pos) (zA (rH own) ta tas):=by
 obtain ⟨_,p,s⟩:=ho;obtain ⟨_,q,r⟩:=ha
 refine ⟨_,fun X h=>?_,Cb CP s r⟩
 have:=zP (cpos:=pos) (apos:=apos) PySem.F.plainAttrs_str PySem.F.slot_str_split PySem.F.type_str_split D7 (p X h) (q X h) (hbase _) (hfew _) hline (by rw [hs,hs2]) (by rw [hs2];rfl)
 rw [h.K] at this
 exact this
theorem Mt {c:Nat}:∀ {ps qs:List Str},ps≠[]->qs≠[]->(∀ p∈ps,c ∉ p.cps.toList)->(∀ p∈qs,c ∉ p.cps.toList)->Str.join ⟨#[c]⟩ ps=Str.join ⟨#[c]⟩ qs->ps=qs:=by
 have key:∀ (a b x y:List Nat),c ∉ a->c ∉ b->a++c :: x=b++c :: y->a=b/\x=y:=by
  intro a
  induction a with
  | nil =>
   intro b x y _ hb e
   cases b with
   | nil=>simp at e;exact ⟨rfl,e⟩
   | cons k b=>simp at e;exact (hb (by rw [<- e.1];exact List.mem_cons_self)).elim
  | cons k a ih =>
   intro b x y ha hb e
   cases b with
   | nil=>simp at e;exact (ha (by rw [e.1];exact List.mem_cons_self)).elim
   | cons j b =>
    simp only [List.cons_append,List.cons.injEq] at e
    obtain ⟨r1,r2⟩:=ih b x y (fun h=>ha (List.mem_cons_of_mem _ h)) (fun h=>hb (List.mem_cons_of_mem _ h)) e.2
    exact ⟨by rw [e.1,r1],r2⟩
 have ext:∀ {a b:Str},a.cps.toList=b.cps.toList->a=b:=fun {a b} h=>by cases a;cases b;simp only at h;congr 1;exact Array.toList_inj.mp h
 intro ps
 induction ps with
 | nil=>intro qs h;exact (h rfl).elim
 | cons p ps ih =>
  intro qs _ hq hp hqs e
  cases qs with
  | nil=>exact (hq rfl).elim
  | cons q qs =>
   have e':=congrArg (fun z:Str=>z.cps.toList) e
   have hp1:=hp p List.mem_cons_self
   have hq1:=hqs q List.mem_cons_self
   cases ps with
   | nil =>
    cases qs with
    | nil=>exact congrArg (fun x=>[x]) (show p=q from e)
    | cons q2 qs =>
     have e2:p.cps.toList=q.cps.toList++c :: (Str.join ⟨#[c]⟩ (q2 :: qs)).cps.toList:=by
      have:(Str.join ⟨#[c]⟩ (q :: q2 :: qs))=q++⟨#[c]⟩++Str.join ⟨#[c]⟩ (q2 :: qs):=rfl
      have e3:p.cps.toList=(Str.join ⟨#[c]⟩ (q :: q2 :: qs)).cps.toList:=e'
      rw [this] at e3
      simpa [Str.cps_append] using e3
     exact (hp1 (by rw [e2];simp)).elim
   | cons p2 ps =>
    have a1:(Str.join ⟨#[c]⟩ (p :: p2 :: ps)).cps.toList=p.cps.toList++c :: (Str.join ⟨#[c]⟩ (p2 :: ps)).cps.toList:=by
     have:(Str.join ⟨#[c]⟩ (p :: p2 :: ps))=p++⟨#[c]⟩++Str.join ⟨#[c]⟩ (p2 :: ps):=rfl
     rw [this];simp [Str.cps_append]
    cases qs with
    | nil =>
     have e2:(Str.join ⟨#[c]⟩ (p :: p2 :: ps)).cps.toList=q.cps.toList:=e'
     exact (hq1 (by rw [<- e2,a1];simp)).elim
    | cons q2 qs =>
     have a2:(Str.join ⟨#[c]⟩ (q :: q2 :: qs)).cps.toList=q.cps.toList++c :: (Str.join ⟨#[c]⟩ (q2 :: qs)).cps.toList:=by
      have:(Str.join ⟨#[c]⟩ (q :: q2 :: qs))=q++⟨#[c]⟩++Str.join ⟨#[c]⟩ (q2 :: qs):=rfl
      rw [this];simp [Str.cps_append]
     have e2:(Str.join ⟨#[c]⟩ (p :: p2 :: ps)).cps.toList=(Str.join ⟨#[c]⟩ (q :: q2 :: qs)).cps.toList:=e'
     rw [a1,a2] at e2
     obtain ⟨r1,r2⟩:=key _ _ _ _ hp1 hq1 e2
     rw [ext r1,ih (qs:=q2 :: qs) (by simp) (by simp) (fun x h=>hp x (List.mem_cons_of_mem _ h)) (fun x h=>hqs x (List.mem_cons_of_mem _ h)) (ext r2)]
theorem Ey (x y:Str):Txt.split x y≠[]:=by
 unfold Txt.split
 split
 ·simp
 ·split
  ·simp
  ·rw [StrLaws.partsBetween_eq]
   obtain ⟨p,r,e⟩:=StrLaws.partsFrom_ne x y.length 0 (occurrences x y 0 x.length (x.length + 1))
   rw [e];simp
theorem wK {c:Nat} {ps:List Str} (h:ps≠[]) (hp:∀ p∈ps,c ∉ p.cps.toList):Txt.split (Str.join ⟨#[c]⟩ ps) ⟨#[c]⟩=ps :=
 Mt (Ey _ _) h (StrLaws.split_free _ _) hp (StrLaws.join_split _ _)
theorem uX (s sub:Str) (hi L N:Nat):∀ (l:List Nat) (a b:Array Nat × Nat),(b.1.size < L->a=b)->a.1.toList=b.1.toList.take L->b.1.size + l.length<=N->(forIn l a (StrLaws.occBody s sub hi L)).run.fst.toList=((forIn l b (StrLaws.occBody s sub hi N)).run.fst.toList).take L
 | [],a,b,h1,h2,_=>h2
 | i :: l,a,b,h1,h2,h3=>by
  rw [List.forIn_cons,List.forIn_cons]
  have hlen:a.1.size=min L b.1.size:=by
   have:=congrArg List.length h2
   simpa using this
  simp only [List.length_cons] at h3
  by_cases hb:b.1.size < L
  ·have e:=h1 hb
   subst e
   unfold StrLaws.occBody
   by_cases hc:(a.2<=i/\i + sub.length<=hi)/\subAt s sub i=true
   ·rw [if_pos ⟨⟨⟨hb,hc.1.1⟩,hc.1.2⟩,hc.2⟩,if_pos ⟨⟨⟨by omega,hc.1.1⟩,hc.1.2⟩,hc.2⟩]
    refine uX s sub hi L N l _ _ (fun _=>rfl) ?_ (by show (a.1.push i).size + l.length<=N;rw [Array.size_push];omega)
    show (a.1.push i).toList=_
    rw [List.take_of_length_le]
    show (a.1.push i).toList.length<=L
    simp;omega
   ·rw [if_neg (fun z=>hc ⟨⟨z.1.1.2,z.1.2⟩,z.2⟩),if_neg (fun z=>hc ⟨⟨z.1.1.2,z.1.2⟩,z.2⟩)]
    exact uX s sub hi L N l _ _ (fun _=>rfl) h2 (by show a.1.size + l.length<=N;omega)
  ·have e1:StrLaws.occBody s sub hi L i a=pure (ForInStep.yield (a.1,a.2)):=by
    unfold StrLaws.occBody
    rw [if_neg (fun z=>by have:=z.1.1.1;omega)]
   rw [e1]
   unfold StrLaws.occBody
   split
   ·refine uX s sub hi L N l _ _ (fun z=>?_) ?_ (by show (b.1.push i).size + l.length<=N;rw [Array.size_push];omega)
    ·have z':(b.1.push i).size < L:=z
     rw [Array.size_push] at z';omega
    ·show a.1.toList=(b.1.push i).toList.take L
     rw [Array.toList_push,List.take_append_of_le_length (by simpa using Nat.le_of_not_lt hb)]
     exact h2
   ·exact uX s sub hi L N l _ _ (fun z=>absurd z hb) h2 (by show b.1.size + l.length<=N;omega)
theorem NX (x y:Str) (L:Nat):occurrences x y 0 x.length L=(occurrences x y 0 x.length (x.length + 1)).take L:=by
 rw [StrLaws.occ_eq,StrLaws.occ_eq]
 exact uX x y x.length L (x.length + 1) _ _ _ (fun _=>rfl) (by simp) (by simp)
theorem C7 (x:Str) (w:Nat):∀ (cuts:List Nat) (a:Nat),(StrLaws.partsFrom x w a cuts).length=cuts.length + 1
 | [],_=>rfl
 | c :: r,a=>by simp only [StrLaws.partsFrom,List.length_cons,C7 x w r]
theorem Bu (x y:Str):∀ (k:Nat) (cuts:List Nat) (a f:Nat),StrLaws.ChainTo x y x.length a cuts f->k<=cuts.length->StrLaws.partsFrom x y.length a (cuts.take k)=(StrLaws.partsFrom x y.length a cuts).take k++[Str.join y ((StrLaws.partsFrom x y.length a cuts).drop k)]
 | 0,cuts,a,f,h,_=>by
  rw [List.take_zero,List.take_zero,List.drop_zero,StrLaws.join_partsFrom x y cuts a f h]
  rfl
 | k + 1,[],a,f,h,hk=>by simp at hk
 | k + 1,c :: r,a,f,h,hk=>by
  simp only [List.take_succ_cons,StrLaws.partsFrom,List.drop_succ_cons,List.cons_append]
  rw [Bu x y k r (c + y.length) f h.2.2 (by simpa using hk)]
theorem F5 (x y:Str) (k:Nat) (hk:1<=k):Txt.splitMax x y (k:Int)=if (Txt.split x y).length<=k + 1 then Txt.split x y else (Txt.split x y).take k++[Str.join y ((Txt.split x y).drop k)]:=by
 have hl:limitOf x (k:Int)=k:=by unfold limitOf;rw [if_neg (by omega)];simp
 unfold Txt.splitMax
 rw [hl]
 cases h1:(decide (x.length < y.length) || decide (strKind x < strKind y)) with
 | true =>
  have e:Txt.split x y=[x]:=by unfold Txt.split;rw [h1];rfl
  rw [e,if_pos rfl,if_pos (by simp)]
 | false =>
  rw [if_neg (by simp),NX x y k]
  cases h2:occurrences x y 0 x.length (x.length + 1) with
  | nil =>
   have e:Txt.split x y=[x]:=by unfold Txt.split;rw [h1,h2];rfl
   rw [e,if_pos (by simp),if_pos (by simp)]
  | cons a r =>
   have e:Txt.split x y=partsBetween x (a :: r) y.length:=by unfold Txt.split;rw [h1,h2];rfl
   obtain ⟨f,hc⟩:=StrLaws.occ_chain x y (x.length + 1)
   rw [h2] at hc
   rw [e,StrLaws.partsBetween_eq,StrLaws.partsBetween_eq,if_neg (by cases k with
    | zero=>omega
    | succ k=>simp),C7]
   split
   ·rw [List.take_of_length_le (by omega)]
   ·exact Bu x y k (a :: r) 0 f hc (by omega)
end U2
namespace U2
open PySem PySem.Spec PyProof.Rows L2
section
variable {prog:Program} {w:World} {A:Around} {E:Value->Shared->Prop} {s:Shared}
theorem N4 (a v:Value):checkTypeCall "enumerate" ⟨[a],[("start",v)]⟩=pure ():=by kernel_rfl
theorem NS (a v:Value):checkBuiltinCall "enumerate.__new__" ⟨[.type "enumerate",a],[("start",v)]⟩=pure ():=by kernel_rfl
theorem Rr (o a v:Value):argsOk "object.__init__" ⟨[o,a],[("start",v)]⟩:=by
 unfold argsOk
 kernel_rfl
theorem Qc (o a v:Value) (hm:Bind.madeBy (.type "enumerate")=pure (some "enumerate.__new__")) (hl:typeLookup (.type "enumerate") "__init__"=pure (some (.builtin "object.__init__"))):Meets (Builtin.«object.__init__» ⟨[o,a],[("start",v)]⟩) (fun _ R s=>s.TypeIs o "enumerate"/\R (.ok (.ret .none)) s):=by
 refine Meets.of_wp fun prog w A R s hs=>?_
 obtain ⟨hT,hq⟩:=hs
 have hne:(some "enumerate.__new__" != some "object.__new__")=true:=by decide
 repeat (any_goals (first | assumption | wp_step))
 exact ⟨_,rfl,hq⟩
theorem Sv (l:Addr) (items:Array Value) (n:Nat) (t:Tok) (dd:Option Addr) (sl:Array (Option Value)) :
  Meets (Builtin.«enumerate.__new__» ⟨[.type "enumerate",.ref l],[("start",.int 1 t)]⟩) (fun _ R s=>s.heap.get? l=some { cls:=.type "list",dict:=dd,data:=.seq items n,slots:=sl } /\
   R (.ok (.ret (.ref (s.heap.push { cls:=.type "list_iterator",data:=.fields #[.ref l,.int 0 0] }).objs.size)))
    { s with heap:=(s.heap.push { cls:=.type "list_iterator",data:=.fields #[.ref l,.int 0 0] }).push { cls:=.type "enumerate",data:=.fields #[.none,.bool false,.ref s.heap.objs.size,rawInt 1,.none,.none] } }) :=
 .of_wp fun prog w A R s h=>by
  obtain ⟨hp,g,d,tk,os⟩:=s;obtain ⟨hl,h⟩:=h
  have hsub:=PySem.sub_enumerate
  have hL:Heap.IsList (Shared.heap ⟨hp,g,d,tk,os⟩) l items:=⟨_,hl,rfl,n,rfl⟩
  wp_walk using wpAny_loadPart' hl
  refine wpAny_stack_any fun st=>wpAny_pure ?_
  split
  ·rename_i c _ _ _ _ _
   cases (c == Value.type "enumerate")
   ·wp_walk using wpAny_loadPart' hl,wpAny_pyIter_list hL
    exact ⟨_,rfl,h⟩
   ·wp_walk using wpAny_loadPart' hl,wpAny_pyIter_list hL
    exact ⟨_,rfl,h⟩
  ·wp_walk using wpAny_loadPart' hl,wpAny_pyIter_list hL
   exact ⟨_,rfl,h⟩
theorem ML {T newId:String} {Bn:Builtin} {a v:Value} {S:PySem.Spec} {Q:Value->Shared->Prop} (ft:TypeCalled T newId "object.__init__")
  (hct:checkTypeCall T ⟨[a],[("start",v)]⟩=pure ()) (hcn:checkBuiltinCall newId ⟨[.type T,a],[("start",v)]⟩=pure ())
  (en:entryFor table newId=some Bn) (g:Meets (Bn ⟨[.type T,a],[("start",v)]⟩) S)
  (hok:∀ obj,argsOk "object.__init__" ⟨[obj,a],[("start",v)]⟩)
  (hin:∀ obj,Meets (Builtin.«object.__init__» ⟨[obj,a],[("start",v)]⟩) (fun _ R s=>s.TypeIs obj T/\R (.ok (.ret .none)) s))
  (h:S A.in1 (wants (fun obj s1=>s1.TypeIs obj T/\Q obj s1) E) s) :
  wpAny (model prog w) A (call (.type T) [a] [("start",v)]) Q E s:=by
 obtain ⟨c,tl,hmro⟩:=ft.mro
 have hmade:=ft.made
 have hsub:=ft.sub
 refine wpAny_call (codeAny_of_tree ?_)
 show wpAny _ _ (callAny (.type T) _) _ _ _
 refine wpAny_pure ⟨Code.quiet_builtin _ (by decide +kernel),codeAny_builtin PySem.F.entry_type_call ?_⟩
 rw [Around.under_plain (weight_type_call_type T _ _) (units_type_call_type T _ _)]
 have h1:=ft.notType
 have h2:=ft.canCreate
 repeat (any_goals (first | assumption | wp_step))
 refine codeAny_mono (codeAny_call_builtin ft.plain en (wpAny_of_eq hcn (g prog w A.in1 _ s h))) fun r s1 hr=>?_
 cases r with
 | error e=>exact hr
 | ok fl =>
  cases fl with
  | ret obj =>
   obtain ⟨hT,hq⟩:=hr
   have hli:=ft.init.lookup
   have hbi:=ft.init.bind obj
   repeat (any_goals (first | assumption | wp_step))
   refine codeAny_mono (codeAny_call_builtin ft.init.plain PySem.F.entry_object_init (ft.init.check _ _ _ _ _ _ _ _ hT (hok obj) (hin obj prog w A.in1 (wants (fun r s2=>r=.none/\Q obj s2) E) s1 ⟨hT,rfl,hq⟩))) fun r2 s2 hr2=>?_
   cases r2 with
   | error e=>exact hr2
   | ok fl2 =>
    cases fl2 with
    | ret r =>
     obtain ⟨rfl,hq⟩:=hr2
     repeat (any_goals (first | assumption | wp_step))
    | _=>exact hr2.elim
  | _=>exact hr.elim
end
theorem B9 {prog:Program} {w:World} {A:Around} {it:Addr} {fp:List Addr} {n:Nat} {P:Nat->Value->Prop} {St:Nat->Heap->Prop} (D:Draws prog w A it fp n P St) :
  Draws prog w A it fp (n + 1) (fun i v=>∃ j,i=j + 1/\P j v) (fun i h=>∃ j,i=j + 1/\St j h) where
 live:=fun i h ⟨j,_,st⟩=>D.live j h st
 frame:=fun i h h' ⟨j,e,st⟩ k=>⟨j,e,D.frame j h h' st k⟩
 item:=fun i s Q E hi ⟨j,e,st⟩ hQ=>by
  subst e
  exact D.item j s Q E (Nat.lt_of_succ_lt_succ hi) st fun v h' tk pv st' sb=>hQ v h' tk ⟨j,rfl,pv⟩ ⟨j + 1,rfl,st'⟩ sb
 done:=fun s Q E ⟨j,e,st⟩ hE=>by
  have e':n=j:=by omega
  subst e'
  exact D.done s Q E st hE
def Oj (f:Bool) (K:PySem.W.Frag) (a:Addr):It :=
 ⟨fun i H=>∃ xs x,lL f K H a xs/\xs[i]?=some x,fun i H x H'=>∃ p v,(∀ xs,lL f K H a xs->xs[i]?=some v)/\H p=none/\x=.ref p/\H'=upd H p (.tup [.int ((i + 1:Nat):Int),v]),fun i H=>∃ xs,lL f K H a xs/\xs.length=i⟩
theorem Im {P:Program} {w:World} {K:PySem.W.Frag} {elts:List Expr} {kk:Nat} {pos:Pos} (f:Bool) (a it e:Addr):Turn P w K (.Tuple elts kk pos) (Oj f K a) [e,it] e (fun i h=>(∃ old,IsEnum h e it ((i + 1:Nat):Int) old)/\kJ f h it a i) where
 mem:=by simp
 obj:=fun i h st b hb=>by
  obtain ⟨⟨old,he⟩,hi⟩:=st
  obtain ⟨o,ho,hc,hd⟩:=hi.obj
  have:b=e\/b=it:=by simpa using hb
  rcases this with rfl | rfl
  ·exact ⟨_,he,fun v z=>by
    have z':Data.fields _=Data.cell v:=z
    cases z'⟩
  ·exact ⟨o,ho,fun v z=>by rw [hd] at z;cases z⟩
 keep:=fun i h h' st k=>let ⟨⟨old,he⟩,hi⟩:=st;⟨⟨old,k e (by simp) _ he⟩,hi.at fun o q=>k it (by simp) o q⟩
 item:=by
  intro X hP hw hK hc i pins s σ H E I hf st hg
  subst hP hw hK
  obtain ⟨⟨old,he⟩,hit⟩:=st
  obtain ⟨xs,x,hq,hx⟩:=hg
  obtain ⟨its,rv,p,hz⟩:=xM I hq
  obtain ⟨u,hu,ru⟩:=rv.get hx
  have p':jH f s.heap a its.toArray:=p
  obtain ⟨oi,hoi,hci,hdi⟩:=hit.obj
  obtain ⟨oa,na,hoa,hca,hda⟩:=p'.obj
  have n1:a≠it:=p'.ne hit
  have n2:e≠it:=iD he hoi rfl hci (by cases f <;> decide)
  have n3:e≠a:=iD he hoa rfl hca (by cases f <;> decide)
  have W:=WalksT.enumerateD (prog:=X.prog) (w:=X.w) (A:=X.A) (B9 (jJ f (prog:=X.prog) (w:=X.w) (A:=X.A.in1) (show X.A.in1.handled=none from I.ok.hd hc) it a n1 its.toArray)) e n2 (by simp [n2,n3]) (by simp)
  have hlt:i < its.toArray.size:=by
   have:=(List.getElem?_eq_some_iff.mp hu).1
   simpa using this
  have hD:=B9 (jJ f (prog:=X.prog) (w:=X.w) (A:=X.A.in1) (show X.A.in1.handled=none from I.ok.hd hc) it a n1 its.toArray)
  refine wpAny_pyNext_enum_itemD hD he ⟨i,rfl,hit,p'⟩ (show i + 1 < its.toArray.size + 1 from Nat.succ_lt_succ hlt) n2 (by simp [n2,n3]) fun y h' tk hy ho0 hs0 hT0 hsz0 hk0=>?_
  have helt:e < s.heap.objs.size:=Heap.lt_size he
  have hilt:it < s.heap.objs.size:=Heap.lt_size hoi
  have jY:gW h' s.heap.objs.size #[Value.int ((i + 1:Nat):Int) tk,y]:=⟨_,hT0,rfl,rfl,_,rfl⟩
  have hk:∀ b o,b ∉ [e,it]->s.heap.get? b=some o->h'.get? b=some o:=fun b o hb z=>hk0 b o (fun e'=>hb (by simp [e'])) (fun e'=>hb (by simp [e'])) z
  have hMid:=(⟨⟨_,ho0⟩,hs0,Nat.ne_of_gt helt,Nat.ne_of_gt hilt⟩:(∃ x,IsEnumOut h' e it (((i + 1:Nat):Int) + 1) x s.heap.objs.size)/\_/\s.heap.objs.size≠e/\s.heap.objs.size≠it)
  obtain ⟨T,hTe⟩:∃ T,T=s.heap.objs.size:=⟨_,rfl⟩
  rw [<- hTe] at jY hMid ⊢
  have hT:s.heap.objs.size<=T:=Nat.le_of_eq hTe.symm
  refine ⟨.ref T,rfl,W.go elts kk pos (i + 1) T _ _ E hMid fun h'' hSt hk2=>?_⟩
  have hy':y=u:=by
   have h3:its[i]?=some y:=by obtain ⟨j,e1,e2⟩:=hy;cases e1;simpa using e2
   rw [hu] at h3;exact (Option.some.inj h3).symm
  subst hy'
  have hTT:gW h'' T #[.int ((i + 1:Nat):Int) tk,y]:=let ⟨o,ho,r⟩:=jY;⟨o,hk2 T o (W.apart (i + 1) T _ hMid) ho,r⟩
  refine ⟨.ref T,upd H T (.tup [.int ((i + 1:Nat):Int),x]),mV (s:=s) (h':=h'') (tk:=tk + 1) (ch:=[e,it]) I hf (fun b o hb q=>hk2 b o (by simpa using hb) (hk b o (by simpa using hb) q)) hT ⟨by show 2<=sizeLine;decide,[.int ((i + 1:Nat):Int) tk,y],.cons ⟨tk,rfl⟩ (.cons ru .nil),hTT⟩,rfl,⟨T,x,fun ys hy=>by rw [<- Pa I hq hy];exact hx,I.hok.fresh hT,rfl,rfl⟩,⟨hSt.1,let ⟨j,e1,e2,_⟩:=hSt.2;(Nat.succ.inj e1) ▸ e2⟩,fun b hb=>?_⟩
  have hn:=(hf b hb).1
  rw [bC (Nat.ne_of_lt (Nat.lt_of_lt_of_le ?_ hT))]
  ·exact hn
  ·have:b=e\/b=it:=by simpa using hb
   rcases this with rfl | rfl
   ·exact Heap.lt_size he
   ·exact Heap.lt_size hoi
 done:=by
  intro X hP hw hK hc i pins s σ H E I hf st hg
  subst hP hw hK
  obtain ⟨⟨old,he⟩,hit⟩:=st
  obtain ⟨xs,hq,hx⟩:=hg
  obtain ⟨its,rv,p,hz⟩:=xM I hq
  have p':jH f s.heap a its.toArray:=p
  obtain ⟨oi,hoi,hci,hdi⟩:=hit.obj
  obtain ⟨oa,na,hoa,hca,hda⟩:=p'.obj
  have n1:a≠it:=p'.ne hit
  have n2:e≠it:=iD he hoi rfl hci (by cases f <;> decide)
  have n3:e≠a:=iD he hoa rfl hca (by cases f <;> decide)
  have W:=WalksT.enumerateD (prog:=X.prog) (w:=X.w) (A:=X.A) (B9 (jJ f (prog:=X.prog) (w:=X.w) (A:=X.A.in1) (show X.A.in1.handled=none from I.ok.hd hc) it a n1 its.toArray)) e n2 (by simp [n2,n3]) (by simp)
  have hi:i=its.toArray.size:=by rw [List.size_toArray,<- rv.length];exact hx.symm
  subst hi
  refine W.done s _ E ⟨⟨old,he⟩,_,rfl,hit,p'⟩ fun h' tk hk=>⟨rfl,?_⟩
  have:=I.call' (ch:=[e,it]) (H':=H) (s':={ s with heap:=h',toks:=tk }) rfl ⟨fun b u q n hb hx=>hk b u (by simpa using hx) q,fun b u q n hb hx=>⟨u.slots,hk b u (by simpa using hx) q⟩,fun b u q n hx=>n,fun b u q hx=>⟨u,hk b u (by simpa using hx) q⟩,fun b xs q=>q,fun b u xs q=>q,fun b ps q=>⟨#[],by rw [q];simp⟩⟩
   (fun a u e'=>?_) I.bare fun b hb=>⟨(hf b hb).2.2.2.1,(hf b hb).2.1,(hf b hb).2.2.2.2.1,(hf b hb).2.2.2.2.2⟩
  ·exact this
  ·refine (I.hok a u e').stay (fun b z hb q=>hk b z (fun hc=>?_) q) (fun _ q=>q) fun _ _ q=>q
   have hnone:=(hf b (by simpa using hc)).1
   rcases hb with rfl | hb
   ·rw [hnone] at e';cases e'
   ·rw [hnone] at hb;cases hb
 self:=fun _ _ _ _ _ st h=>let ⟨⟨old,he⟩,_⟩:=st;wpAny_pyIter_enum he h
theorem IZ {prog:Program} {w:World} {A:Around} {E:Value->Shared->Prop} {s:Shared} {l:Addr} {items:Array Value} {t:Tok} {Q:Value->Shared->Prop}
  (hl:jH true s.heap l items)
  (h:∀ h',IsEnum h' (s.heap.objs.size + 1) s.heap.objs.size 1 .none->kJ true h' s.heap.objs.size l 0->h'.objs.size=s.heap.objs.size + 2 ->
   (∀ b o,s.heap.get? b=some o->h'.get? b=some o)->Q (.ref (s.heap.objs.size + 1)) { s with heap:=h' }) :
  wpAny (model prog w) A (call (.type "enumerate") [.ref l] [("start",.int 1 t)]) Q E s:=by
 have hz:(s.heap.push { cls:=.type "list_iterator",data:=.fields #[.ref l,.int 0 0] }).objs.size=s.heap.objs.size + 1:=Heap.size_push ..
 have he:=Heap.get?_push_size (s.heap.push { cls:=.type "list_iterator",data:=.fields #[.ref l,.int 0 0] })
  (o:={ cls:=.type "enumerate",data:=.fields #[.none,.bool false,.ref s.heap.objs.size,rawInt 1,.none,.none] }) rfl
 have he2:=he
 rw [hz] at he2
 have fin:=h _ he2 (kJ.of (b:=true) (Heap.get?_push_of_some _ (Heap.get?_push_size _ rfl)) rfl rfl) (by rw [Heap.size_push,hz]) fun b o x=>Heap.get?_push_of_some _ (Heap.get?_push_of_some _ x)
 rw [<- hz] at fin
 obtain ⟨⟨oc,od,odt,osl⟩,n,ho,hc,hd⟩:=hl.obj
 have hc':oc=.type "list":=hc
 have hd':odt=.seq items n:=hd
 subst hc' hd'
 exact ML PySem.F.called_enumerate (N4 _ _) (NS _ _) PySem.F.entry_enumerate_new (Sv l items n t od osl) (fun o=>Rr o _ _) (fun o=>Qc o _ _ PySem.F.called_enumerate.made PySem.F.called_enumerate.init.lookup) ⟨ho,⟨_,he,rfl⟩,fin⟩
section
variable {M:Model} {A:Around} {E:Value->Shared->Prop} {s:Shared} {env:Env}
theorem Ur {pos:Pos} {T:String} {args:List (Bool × Sem Value)} {kws:List (Option Str × Sem Value)} {Q:Value->Shared->Prop} (hplain:args.any (·.1)=false) (hkw:kws.any (·.1.isNone)=false)
  (h:wpAny M A (evalArgs (.type T) true args kws) (fun a s1=>wpAny M A (call (.type T) a.pos a.kw) Q E s1) E s) :
  wpAny M A (callWith pos (.type T) [] args kws) Q E s:=by
 unfold callWith
 refine wpAny_bind (wpAny_holding (wpAny_mono h (fun a s1 h1=>wpAny_bind (wpAny_standAt ?_)) fun _ _ x=>x))
 simp only [hplain,hkw,Bool.or_false]
 refine wpAny_bind (wpAny_pure ?_)
 exact wpAny_bind (wpAny_mono h1 (fun r s2 hr=>wpAny_bind (wpAny_holding (wpAny_point (wpAny_pure hr)))) fun _ _ x=>x)
end
def Mb (K:PySem.W.Frag) (ta:TA):TI:=fun σ H R=>ta σ H fun vs H1=>∃ a,vs=[.ref a]/\(∃ xs,lL true K H1 a xs)/\R (Oj true K a) H1
theorem NA {X:Cx} {elts:List Expr} {kk kj:Nat} {tpos:Pos} {a:Expr} {ta:TA} {p pos kp cp:Pos} (hg:Gl X "enumerate") (hm:X.mg "enumerate"=none) (ha:PA X [a] ta) (hs:starEach [a] X.env=[(false,eval a X.env)]) :
  PI X (.Tuple elts kk tpos) (.Call (.Name "enumerate" p) [a] [⟨some "start",.Constant (.int 1) kj cp,kp⟩] pos) (Mb X.K ta):=by
 intro pins s σ H R I h
 have hsp:=ha pos pins s σ H _ I h
 have hb:backTo pos (starEach [a] X.env)=[(false,eval a X.env)]:=by rw [hs];rfl
 refine wpAny_Call_Name_kw (l4 I hg hm boot_enumerate ?_)
 rw [hb] at hsp ⊢
 refine Ur (by rfl) (by rfl) (evalArgs_kwB (by rfl) (aZ hsp fun us s1 ⟨vs,H1,I1,r1,q1⟩=>?_))
 refine kws_cons (wpAny_Constant_int (kws_nil ?_))
 obtain ⟨a,e,⟨xs,hq⟩,q⟩:=q1
 subst e
 cases r1 with
 | cons r rr =>
  cases rr
  cases r
  have I1':L2.Inv X pins σ H1 { s1 with toks:=s1.toks + 1 }:=I1.tok _
  obtain ⟨its,rv,p,hz⟩:=xM I1' hq
  refine IZ (s:={ s1 with toks:=s1.toks + 1 }) p fun h' he hit hsz hk=>?_
  refine wpAny_pyIter_enum (s:={ s1 with heap:=h',toks:=s1.toks + 1 }) he ?_
  have I2:L2.Inv X pins σ H1 { s1 with heap:=h',toks:=s1.toks + 1 }:=I1'.kept hk
  refine ⟨s1.heap.objs.size + 1,[s1.heap.objs.size + 1,s1.heap.objs.size],_,_,H1,rfl,I2,Im true a s1.heap.objs.size (s1.heap.objs.size + 1),⟨⟨_,he⟩,hit⟩,fun b hb=>?_,q⟩
  have e:b=s1.heap.objs.size + 1\/b=s1.heap.objs.size:=by simpa using hb
  rcases e with rfl | rfl
  ·exact I1'.fpOk (Nat.le_succ _) (I1'.hok.fresh (Nat.le_succ _))
  ·exact I1'.fpOk (Nat.le_refl _) (I1'.hok.fresh (Nat.le_refl _))
def nU (us:List U):List U:=us.zipIdx.map fun p=>.tup [.int ((p.2 + 1:Nat):Int),p.1]
theorem KI (us:List U):(nU us).length=us.length:=by simp [nU]
theorem Dd {us:List U} {i:Nat} {x:U} (h:(nU us)[i]?=some x):∃ u,us[i]?=some u/\x=.tup [.int ((i + 1:Nat):Int),u]:=by
 simp only [nU,List.getElem?_map,List.getElem?_zipIdx] at h
 cases e:us[i]? with
 | none=>rw [e] at h;simp at h
 | some u=>rw [e] at h;simp at h;exact ⟨u,rfl,h.symm⟩
theorem Ih {f:Bool} {K:PySem.W.Frag} {a:Addr} {us:List U} {vs:List V} {H:Hp} {M:aE} (sq:G0 f K H M a vs) (r:aI K H M us vs):Walk K (Oj f K a) ⟨none,nU us⟩ H M:=by
 refine ⟨fun H1 M1 s rm _ i u e=>?_,fun H1 M1 s rm _=>⟨vs,sq H1 M1 s,by show vs.length=(nU us).length;rw [KI,r.length]⟩⟩
 obtain ⟨w,e1,rfl⟩:=Dd e
 obtain ⟨v,e2,ru⟩:=r.get e1
 refine ⟨⟨vs,v,sq H1 M1 s,e2⟩,fun x H2 y=>?_⟩
 obtain ⟨p,v',y,hp,rfl,rfl⟩:=y
 have:=y vs (sq _ M1 s)
 rw [e2] at this;cases this
 have st:=aW.laid (o:=.tup [.int ((i + 1:Nat):Int),v]) rm hp
 have rr:aI K H1 M1 [.int ((i + 1:Nat):Int),w] [.int ((i + 1:Nat):Int),v]:=.cons dM (.cons (ru.stp s) .nil)
 exact ⟨st,rm.laid hp,vE (rm.no hp) bQ (rr.stp st)⟩
def Ea (ta:UA):UI:=fun τ M R=>ta τ M fun us M1=>match us with
 | [.lst us]=>R ⟨none,nU us⟩ M1
 | _=>False
theorem LA {K:PySem.W.Frag} {ta:TA} {ta':UA} (h:lE K ta ta'):vY K (Mb K ta) (Ea ta'):=fun σ τ H M R' rs rm q R c=>h σ τ H M _ rs rm q _ fun us vs M1 H1 s1 rm1 ru h1=>by
 split at h1
 ·rename_i xs
  obtain ⟨v,rfl,a⟩:=ru.one
  simp only [aP] at a
  obtain ⟨a,vs,rfl,m,r⟩:=a
  refine ⟨a,rfl,⟨vs,?_⟩,c _ _ M1 H1 s1 rm1 (Ih (WX m) r) h1⟩
  rcases m with ⟨_,m⟩ | k
  ·exact .inl m
  ·exact .inr k
 ·exact h1.elim
theorem Oc {D:Dat} {elts:List Expr} {kk kj:Nat} {tpos:Pos} {a:Expr} {p pos kp cp:Pos} {ta:UA} (hm:D.mg "enumerate"=none) (ha:jZ D [a] ta) (hg:D.sc.names.lookup ("enumerate":Str)=some .globalImplicit:=by rfl) (hs:∀ env,starEach [a] env=[(false,eval a env)]:=by intro _;rfl):BD D (.Tuple elts kk tpos) (.Call (.Name "enumerate" p) [a] [⟨some "start",.Constant (.int 1) kj cp,kp⟩] pos) (Ea ta):=by
 obtain ⟨_,q,s⟩:=ha
 exact ⟨_,fun X h=>h.K ▸ NA (by show X.env.scope.names.lookup _=_;rw [h.sc];exact hg) (by rw [h.mg];exact hm) (q X h) (hs _),LA s⟩
end U2
namespace L2
open PySem
theorem Hi {q:List Value->Prop} (h:q []) (us:List Value) (e:us.length=0):q us:=by rw [List.length_eq_zero_iff.mp e];exact h
theorem kP {n:Nat} {q:List Value->Prop} (h:∀ x us,us.length=n->q (x :: us)) (us:List Value) (e:us.length=n + 1):q us:=by
 cases us with
 | nil=>cases e
 | cons x r=>exact h x r (Nat.succ.inj e)
abbrev Ar:=Value->Value->Value->Option Addr->Value->Value->List Value->Prop
theorem mK {p:Ar} (h:∀ a b c d e g x0,p a b c d e g [x0]) (a b c d e g):∀ us,us.length=1->p a b c d e g us:=kP fun x0=>Hi (h a b c d e g x0)
theorem mJ {p:Ar} (h:∀ a b c d e g x0 x1,p a b c d e g [x0,x1]) (a b c d e g):∀ us,us.length=2->p a b c d e g us:=kP fun x0=>kP fun x1=>Hi (h a b c d e g x0 x1)
theorem Tp {p:Ar} (h:∀ a b c d e g x0 x1 x2,p a b c d e g [x0,x1,x2]) (a b c d e g):∀ us,us.length=3->p a b c d e g us:=kP fun x0=>kP fun x1=>kP fun x2=>Hi (h a b c d e g x0 x1 x2)
theorem TN {p:Ar} (h:∀ a b c d e g x0 x1 x2 x3,p a b c d e g [x0,x1,x2,x3]) (a b c d e g):∀ us,us.length=4->p a b c d e g us:=kP fun x0=>kP fun x1=>kP fun x2=>kP fun x3=>Hi (h a b c d e g x0 x1 x2 x3)
theorem Xw {p:Ar} (h:∀ a b c d e g x0 x1 x2 x3 x4,p a b c d e g [x0,x1,x2,x3,x4]) (a b c d e g):∀ us,us.length=5->p a b c d e g us:=kP fun x0=>kP fun x1=>kP fun x2=>kP fun x3=>kP fun x4=>Hi (h a b c d e g x0 x1 x2 x3 x4)
theorem Xq {p:Ar} (h:∀ a b c d e g x0 x1 x2 x3 x4 x5,p a b c d e g [x0,x1,x2,x3,x4,x5]) (a b c d e g):∀ us,us.length=6->p a b c d e g us:=kP fun x0=>kP fun x1=>kP fun x2=>kP fun x3=>kP fun x4=>kP fun x5=>Hi (h a b c d e g x0 x1 x2 x3 x4 x5)
end L2
namespace U2
open PySem PySem.Spec PyProof.Rows L2
theorem dP {N P:List Str} {sc:Scope} (a:sc.kind=.function:=by rfl) (b:sc.isCoroutine=false:=by rfl) (c:sc.isGenerator=false:=by rfl) (d:N.Nodup:=by decide +kernel) (e:N.take P.length=P:=by rfl) (f:∀ x∈P,sc.names.lookup x=some .local\/sc.names.lookup x=some .cell:=by decide +kernel) (g:∀ y∈sc.names,y.2≠.free:=by decide +kernel):aU N P sc:=⟨a,b,c,d,e,f,g⟩
theorem nk {xs:List U} {I:Nat->SU->aE->Prop}:∀ i τ M,I i τ M->(Src.mk none xs).ok M:=fun _ _ _ _ _ e=>nomatch e
theorem cB {P:Program} {w:World} {K:PySem.W.Frag} {mg:Str->Option Value} {base:Heap} {x:Str} {st:Stmt} {f:Addr} {fd:FuncData} {N ps:List Str} {k:Nat} {sp:cF} {t:US} (F:b8 K x x st f fd) (hm:mg x=some (.ref f)) (S:aU N ps (aH st))
  (bind:∀ (kV doc pm:Value) (an:Option Addr) (cdv ct:Value) (us:List Value),us.length=ps.length->bindArgs (PySem.W.fnOf x x (eM st) (cH st) (aH st) .none kV doc pm an cdv ct) ⟨us,[]⟩=pure (ps.zip us))
  (h:m7 ⟨P,w,K,mg,base,N,aH st,k,true,.none,""⟩ (cH st) t)
  (q:∀ us M Q,sp us M Q->us.length=ps.length/\t { nx:=fun _ M'=>hZ Q .non M',rt:=hZ Q } (c9 N us) M):Callee P w K mg base (k + 1) x sp [] :=
 Lc F hm S bind (fun us M Q hs=>(q us M Q hs).1) h (fun us M Q hs=>(q us M Q hs).2)
end U2
namespace K15
open PySem L2 U2
def top (i:Nat):Stmt:=PySem.Challenge.pw_rowsmith_k15_bounds_of_tables.main.body.getD i (.Pass ⟨0,0,0,0⟩)
abbrev xF:Stmt:=top 11
theorem FN:aU ["thing"] ["thing"] (aH xF):=dP
abbrev tW:Stmt:=top 12
theorem Ee:aU ["thing"] ["thing"] (aH tW):=dP
abbrev yR:Stmt:=top 13
theorem HQ:aU ["thing"] ["thing"] (aH yR):=dP
abbrev v8:Stmt:=top 14
theorem iO:aU ["thing","is_leaf","most_pieces","most_within","count","waiting","entry","piece","depth"] ["thing","is_leaf","most_pieces","most_within"] (aH v8):=dP
abbrev v3:Stmt:=top 15
theorem F7:aU ["shape"] ["shape"] (aH v3):=dP
abbrev nO:Stmt:=top 16
theorem l8:aU ["shape","found","number","part"] ["shape"] (aH nO):=dP
abbrev xD:Stmt:=top 17
theorem nN:aU ["shape","place","here","number"] ["shape","place"] (aH xD):=dP
abbrev yG:Stmt:=top 18
theorem IP:aU ["tile"] ["tile"] (aH yG):=dP
abbrev pB:Stmt:=top 19
theorem mX:aU ["text","at","end"] ["text","at"] (aH pB):=dP
abbrev oH:Stmt:=top 20
theorem gH:aU ["text","at","number","end","longer"] ["text","at"] (aH oH):=dP
abbrev jP:Stmt:=top 21
theorem lO:aU ["text","found"] ["text"] (aH jP):=dP
abbrev qU:Stmt:=top 22
theorem dE:aU ["text","read_leaf","brackets","shape","at","found"] ["text","read_leaf"] (aH qU):=dP
abbrev lS:Stmt:=top 23
theorem jC:aU ["text","at","brackets","here"] ["text","at","brackets"] (aH lS):=dP
abbrev pG:Stmt:=top 24
theorem gG:aU ["text","shape","at","brackets","whole","here","bracket"] ["text","shape","at","brackets"] (aH pG):=dP
abbrev oZ:Stmt:=top 25
theorem t9:aU ["text","at","sign"] ["text","at"] (aH oZ):=dP
abbrev tR:Stmt:=top 26
theorem DW:aU ["text","at","sign"] ["text","at","sign"] (aH tR):=dP
abbrev y7:Stmt:=top 28
theorem HJ:aU ["thing"] ["thing"] (aH y7):=dP
abbrev rE:Stmt:=top 36
theorem Dn:aU ["names"] ["names"] (aH rE):=dP
abbrev oF:Stmt:=top 37
theorem Cr:aU ["thing"] ["thing"] (aH oF):=dP
abbrev kM:Stmt:=top 38
theorem zM:aU ["thing","classes"] ["thing","classes"] (aH kM):=dP
abbrev eD:Stmt:=top 39
theorem Dr:aU ["thing","classes"] ["thing","classes"] (aH eD):=dP
abbrev yM:Stmt:=top 40
theorem Ir:aU ["thing","classes"] ["thing","classes"] (aH yM):=dP
abbrev sW:Stmt:=top 41
theorem Fj:aU ["thing","classes"] ["thing","classes"] (aH sW):=dP
abbrev wL:Stmt:=top 42
theorem F8:aU ["thing"] ["thing"] (aH wL):=dP
abbrev Co:Stmt:=top 43
theorem Es:aU ["pattern","found"] ["pattern"] (aH Co):=dP
abbrev mM:Stmt:=top 45
theorem l7:aU ["text","at","low","high"] ["text","at"] (aH mM):=dP
abbrev tT:Stmt:=top 46
theorem rP:aU ["text","at","sign","end"] ["text","at"] (aH tT):=dP
abbrev tB:Stmt:=top 47
theorem lR:aU ["text","row","fields","price","pattern"] ["text","row"] (aH tB):=dP
abbrev qK:Stmt:=top 48
theorem fQ:aU ["text","rows","classes","tiles","row","line"] ["text"] (aH qK):=dP
abbrev tO:Stmt:=top 50
theorem DY:aU ["found"] ["found"] (aH tO):=dP
abbrev oQ:Stmt:=top 51
theorem Cj:aU ["script","k"] ["script","k"] (aH oQ):=dP
abbrev nR:Stmt:=top 52
theorem rC:aU ["found","due","one","other"] ["found","due"] (aH nR):=dP
abbrev o9:Stmt:=top 53
theorem i4:aU ["number","name"] ["number"] (aH o9):=dP
abbrev nJ:Stmt:=top 54
theorem qM:aU ["size","one","other"] ["size"] (aH nJ):=dP
abbrev sR:Stmt:=top 55
theorem lY:aU ["deep","cls","item","k"] ["deep","cls"] (aH sR):=dP
abbrev pZ:Stmt:=top 56
theorem tU:aU ["many","cls","one","other"] ["many","cls"] (aH pZ):=dP
abbrev yQ:Stmt:=top 57
theorem lT:aU ["way","draw","cls","low","high"] ["way","draw","cls"] (aH yQ):=dP
abbrev pF:Stmt:=top 58
abbrev pM:Stmt:=top 59
theorem dY:aU ["script","draw","cell","way","most","many","base","classes","tiles","rows","k","one","at","cls","item","cost","due"] ["script"] (aH pM):=dP
section
variable {P:Program} {w:World} {K:PySem.W.Frag} {mg:Str->Option Value} {base:Heap} {f d d2 fl:Addr} {fd:FuncData}
def cO:List (Str × Fl):=[("turn",.int 1),("sum",.int 2),("less",.int 2),("by",.int 2)]
theorem uQ {neg:Bool} {i j:Int} {M:aE} {Q:UK}:jR neg (.int i) (.int j) M Q=Q (.bl (if neg then !decide (i=j) else decide (i=j))) M:=rfl
theorem tX {neg:Bool} {i j:Str} {M:aE} {Q:UK}:jR neg (.str i) (.str j) M Q=Q (.bl (if neg then !decide (i=j) else decide (i=j))) M:=rfl
theorem small {n:Nat} (h:n<=100000):n<=sizeLine:=Nat.le_trans h (by decide)
theorem big {k:Nat} (h:k < 100000):k < sizeLine:=Nat.lt_of_lt_of_le h (by decide)
theorem KJ {n:Nat} (h:n<=100000):(n<=sizeLine)=True:=eq_true (small h)
theorem aO {u v:US} {D:kY} {τ:SU} {M:aE} (h:∀ V:SU->aE->Prop,V=v D->u { D with nx:=V } τ M):sX u v D τ M:=h _ rfl
theorem bR {c:UT} {t u:US} {D:kY} {τ:SU} {M:aE} (h:∀ A B:aE->Prop,A=t D τ->B=u D τ->c τ M fun b M1=>if b=true then A M1 else B M1):wJ c t u D τ M:=h _ _ rfl rfl
def x9:Str:="abcdefghijklmnopqrstuvwxyz"
def isLetter (c:Nat):Bool:=!(Builtin.Str.occurrences x9 ⟨#[c]⟩ 0 x9.length 1).isEmpty
def isName:U->Bool
 | .str z=>decide (1<=z.length) && decide (z.length<=8) && z.cps.toList.all isLetter
 | _=>false
def Wm:U->Prop
 | .str z=>z.length<=sizeLine
 | .ref _=>False
 | .ty _=>False
 | _=>True
def D3:cF:=fun us M Q=>∃ x,us=[x]/\Wm x/\Q (.bl (isName x)) M
theorem Ke {z:Str} {x:U} (h:x∈chars z):∃ c,x=.str ⟨#[c]⟩:=by
 obtain ⟨c,_,e⟩:=List.mem_map.mp h
 exact ⟨c,e.symm⟩
theorem Lp (z:Str):(chars z).length=z.length:=by simp [chars,Str.length]
def IE:U->Option U
 | .str y=>some (.bl (!(Builtin.Str.occurrences x9 y 0 x9.length 1).isEmpty))
 | _=>none
theorem Ve:∀ l:List Nat,oM ((l.map fun c=>U.str ⟨#[c]⟩).filterMap IE)=some (l.map isLetter)
 | []=>rfl
 | c :: r=>by
  have:=Ve r
  simp only [List.map_cons,List.filterMap_cons,IE] at this ⊢
  simp only [oM,this,Option.map_some]
  rfl
local macro_rules | `(tactic| simp_all! only [$xs,*]) => `(tactic| simp only [$xs,*, Bool.false_eq_true, Bool.not_false, Bool.not_true, List.append_nil, List.cons_append, List.getElem?_cons_succ, List.getElem?_cons_zero, List.length_cons, List.length_nil, List.map_cons, List.map_nil, List.nil_append, List.replicate, List.set_cons_succ, List.set_cons_zero, Nat.add_sub_cancel, Nat.reduceAdd, Nat.reduceSub, Nat.sub_self, Option.some.injEq, and_true, yC, CL, at2, ED, wZ, nG, w9, nK, o6, wW, AZ, A6, kX, DT, CV, Di, Eu, eG, decide_false, decide_true, exists_eq_left', if_false, if_true, xW, c6, c7, dH, c8, dJ, cV, fE, fF, gN, fK, hW, eO, fS, fG, gL, fH, gT, eT, gU, gO, iM, gM, iT, fN, fR, fL, gS, fO, gR, eP, gK, gQ, iR, gZ, iN, fT, eQ, eJ, fM, eK, fP, dZ, items, iY, rO, jL, tH, jX, reduceCtorEq, c9, true_and, wV, mU, nM, u5, kE, AL, wR, uC, rS, pW, nY, kS, kA, aF, AR, uI, qV, BI, tS, pV, sP, wF, vB, A1, mN, kD, vD, u7, pU, gB, Bv, v9, pX, pQ, v5, lX, vG, vQ, Fc, i5, aK])
theorem Jr {t1 t2:Tok} (F:b8 K "is_name" "is_name" y7 f fd) (hm:mg "is_name"=some (.ref f)) (bF:mg "len"=none) (aN:mg "isinstance"=none) (eA:mg "str"=none) (pY:mg "all"=none)
  (lK:mg "LETTERS"=some (.str x9 t1)) (gJ:mg "LONGEST_NAME"=some (.int 8 t2)):Callee P w K mg base 1 "is_name" D3 []:=by
 refine cB F hm HJ (mK fun _ _ _ _ _ _ _=>rfl) (aG (bY (i9.pt (iW (c5 (cN (cI iL aN (aA (uv 0) (aA (iE (n:="str") eA) aB))))) (iB (c5 (DD i6 i6 aJ (cI eI bF (aA (uv 0) aB)) (kN gJ))))))
 (aM (aR n5))
 aY)
 (aM (aR (cI HX pY (aA (lG false ["sign"] 1 [] (lZ (uv 0)) (cM (k:=1) 0 (by dsimp only [cP];decide +kernel)) lJ (gE Ji (uv 0) (BA lK))) aB))))) ?_
 rintro us M Q ⟨x,rfl,ok,q⟩
 refine ⟨rfl,?_⟩
 cases x with
 | str z =>
  simp_all! only [jY,lW,qQ,jR,A5,GZ,l3,nI,sX,wJ,bJ,bG,Af,bH,hName,k8,view,yW,eH,qY,mD,zQ]
  refine ⟨ok,?_⟩
  simp only [isName] at q
  by_cases h1:1<=(z.length:Int)
  ·rw [if_pos (by simpa using h1)]
   by_cases h8:(z.length:Int)<=8
   ·rw [if_neg (by simp [h8])]
    refine BK (S:=⟨none,chars z⟩) (M1:=M) (hw:=fun R r=>r) IE (by rw [show (Src.mk none (chars z)).xs.length=z.length from Lp z];exact ok) (fun a e=>by cases e) (fun x hx M' _ R r=>?_) ?_
    ·obtain ⟨c,rfl⟩:=Ke hx
     exact r
    ·show (match oM ((chars z).filterMap IE) with | some bs=>hZ Q (U.bl (bs.all fun b=>b)) M | none=>False)
     unfold chars
     rw [Ve]
     refine aL ?_
     have e:((z.cps.toList.map isLetter).all fun b=>b)=(decide (1<=z.length) && decide (z.length<=8) && z.cps.toList.all isLetter):=by
      rw [decide_eq_true (show 1<=z.length by omega),decide_eq_true (show z.length<=8 by omega),List.all_map]
      rfl
     rw [e];exact q
   ·rw [if_pos (by simp [h8])]
    rw [decide_eq_false (show ¬ z.length<=8 by omega)] at q
    simp at q
    exact aL q
  ·rw [if_neg (by simpa using h1)]
   rw [decide_eq_false (show ¬ 1<=z.length by omega)] at q
   simp at q
   exact aL q
 | ref a=>exact ok.elim
 | ty a=>exact ok.elim
 | _=>simp_all! only [jY,lW,qQ,jR,A5,GZ,l3,nI,sX,wJ,bJ,bG,Af,bH,hName,k8,view,yW,eH,qY,mD,zQ];exact aL q
mutual
def pl:U->Prop
 | .non=>True
 | .bl _=>True
 | .int _=>True
 | .str z=>PyData.strOk z=true/\z.length<=1000
 | .tup us=>us.length<=1000/\Er us
 | .lst us=>us.length<=1000/\Er us
 | .ty _=>False
 | .ref _=>False
 | .dic _ _ _=>False
def Er:List U->Prop
 | []=>True
 | u :: us=>pl u/\Er us
end
theorem G1:∀ {us:List U} {u:U},Er us->u∈us->pl u
 | [],_,_,h=>by cases h
 | a :: us,u,h,m=>by
  simp only [Er] at h
  rcases List.mem_cons.mp m with rfl | m
  ·exact h.1
  ·exact G1 h.2 m
def lay (u:U) (n:Nat):Prop:=∃ d,toD u=some d/\d.canLay0=true/\d.depth<=n
def Oe (us:List U) (n:Nat):Prop:=∃ ds,dI us=some ds/\PyData.canLayAll0 ds=true/\PyData.depthAll ds<=n
theorem Fv:∀ {us:List U} {u:U} {n:Nat},Oe us n->u∈us->lay u n
 | [],_,_,_,h=>by cases h
 | a :: us,u,n,⟨ds,h1,h2,h3⟩,m=>by
  simp only [dI] at h1
  cases ha:toD a with
  | none=>rw [ha] at h1;cases h1
  | some d =>
   cases hs:dI us with
   | none=>rw [ha,hs] at h1;cases h1
   | some es =>
    rw [ha,hs] at h1
    cases h1
    simp only [PyData.canLayAll0,Bool.and_eq_true,PyData.depthAll] at h2 h3
    rcases List.mem_cons.mp m with rfl | m
    ·exact ⟨d,ha,h2.1,by omega⟩
    ·exact Fv ⟨es,hs,h2.2,by omega⟩ m
theorem Qf {us:List U} {n:Nat} (h:lay (.tup us) n):Oe us n:=by
 obtain ⟨d,h1,h2,h3⟩:=h
 simp only [toD,Option.map_eq_some_iff] at h1
 obtain ⟨ds,e,rfl⟩:=h1
 simp only [PyData.canLay0,PyData.depth] at h2 h3
 exact ⟨ds,e,h2,by omega⟩
def plain (u:U):Prop:=pl u/\lay u 60
theorem jA {us:List U} {u:U} (h:plain (.tup us)) (m:u∈us):plain u:=by
 have h1:=h.1
 simp only [pl] at h1
 exact ⟨G1 h1.2 m,Fv (Qf h.2) m⟩
theorem plain_len {us:List U} (h:plain (.tup us)):us.length<=1000:=by
 have h1:=h.1
 simp only [pl] at h1
 exact h1.1
theorem RA (a b:Str):(a == b)=decide (a=b):=by
 by_cases h:a=b
 ·subst h;simp
 ·rw [decide_eq_false h];exact beq_eq_false_iff_ne.mpr h
def q8 (z:Str):U->Bool
 | .str y=>decide (y=z)
 | _=>false
theorem eq_str {u:U} {z:Str} {M:aE} {Q:UK} (h:plain u) (hz:PyData.strOk z=true) (q:Q (.bl (q8 z u)) M):jR false u (.str z) M Q:=by
 obtain ⟨h1,d,e,h2,h3⟩:=h
 have hs:(PyData.str z).canLay0=true:=by simp only [PyData.canLay0];exact hz
 cases u with
 | tup us =>
  simp only [toD,Option.map_eq_some_iff] at e
  obtain ⟨ds,e,rfl⟩:=e
  exact ⟨_,_,by simp only [vC,toD,e,Option.map_some],rfl,h2,hs,by simp only [PyData.depth];omega,q⟩
 | lst us =>
  simp only [toD,Option.map_eq_some_iff] at e
  obtain ⟨ds,e,rfl⟩:=e
  exact ⟨_,_,by simp only [vC,toD,e,Option.map_some],rfl,h2,hs,by simp only [PyData.depth];omega,q⟩
 | ty _=>exact h1.elim
 | ref _=>exact h1.elim
 | dic _ _ _=>exact h1.elim
 | _=>exact q
def xZ (cs:List Str):U->Bool
 | .str y=>cs.contains y
 | _=>false
theorem Hk {neg:Bool} {u:U} {cs:List Str} {M:aE} {Q:UK} (h:plain u) (hc:∀ c∈cs,PyData.strOk c=true) (q:Q (.bl (if neg then !xZ cs u else xZ cs u)) M):Jo neg u (.tup (cs.map U.str)) M Q:=by
 obtain ⟨h1,d,e,h2,h3⟩:=h
 have e1:∀ cs:List Str,dI (cs.map U.str)=some (cs.map PyData.str):=fun cs=>by
  induction cs with
  | nil=>rfl
  | cons c cs ih=>simp only [List.map_cons,dI,toD,ih]
 have e2:PyData.canLayAll0 (cs.map PyData.str)=true:=by
  clear q
  induction cs with
  | nil=>rfl
  | cons c cs ih =>
   simp only [List.map_cons,PyData.canLayAll0,PyData.canLay0,Bool.and_eq_true]
   exact ⟨hc c List.mem_cons_self,ih fun x hx=>hc x (List.mem_cons_of_mem _ hx)⟩
 have e3:vC M u=some d:=by
  cases u <;> first | exact e | exact h1.elim
 have e4:((cs.map PyData.str).any fun x=>PyData.eqv x d)=xZ cs u:=by
  clear q hc e2
  induction cs with
  | nil=>cases u <;> rfl
  | cons c cs ih =>
   simp only [List.map_cons,List.any_cons,ih]
   cases u with
   | str y =>
    cases e
    simp only [xZ,List.contains_cons]
    congr 1
    simp only [PyData.eqv]
    exact BEq.comm
   | tup us =>
    simp only [toD,Option.map_eq_some_iff] at e
    obtain ⟨ds,e,rfl⟩:=e
    rfl
   | lst us =>
    simp only [toD,Option.map_eq_some_iff] at e
    obtain ⟨ds,e,rfl⟩:=e
    rfl
   | ty _=>exact h1.elim
   | ref _=>exact h1.elim
   | dic _ _ _=>exact h1.elim
   | _=>cases e;rfl
 exact ⟨_,_,d,rfl,e1 cs,e3,e2,h2,h3,by rw [e4];exact q⟩
def Eo:U->Bool
 | .int _=>true
 | _=>false
def tG:U->Bool
 | .int i=>decide (0<=i) && decide (i<=1000000000000000000)
 | _=>false
def wX:cF:=fun us M Q=>∃ u,us=[u]/\plain u/\Q (.bl (Eo u)) M
local macro_rules | `(tactic| dsimp! only [$xs,*] $[$l]?) => `(tactic| simp only [$xs,*, Bool.false_eq_true, Bool.not_false, Bool.not_true, List.append_nil, List.cons_append, List.getElem?_cons_succ, List.getElem?_cons_zero, List.length_cons, List.length_nil, List.map_cons, List.map_nil, List.nil_append, List.replicate, List.set_cons_succ, List.set_cons_zero, Nat.add_sub_cancel, Nat.reduceAdd, Nat.reduceLeDiff, Nat.reduceSub, Nat.sub_self, Option.getD_some, Option.some.injEq, and_true, yC, CL, at2, ED, wZ, Fo, nG, w9, nK, o6, wW, AZ, A6, kX, DT, CV, Di, Eu, eG, decide_false, decide_true, uQ, tX, exists_eq_left', if_false, if_true, xW, eH, c6, c7, dH, c8, dJ, cV, fE, fF, gN, fK, hW, eO, fS, fG, gL, fH, gT, eT, gU, gO, iM, gM, iT, fN, fR, fL, gS, fO, gR, eP, gK, gQ, iR, gZ, iN, fT, eQ, eJ, fM, eK, fP, dZ, items, iY, rO, jL, tH, zE, jX, gI, bM, reduceCtorEq, c9, KJ, true_and, wV, mU, nM, u5, kE, AL, wR, uC, rS, pW, nY, kS, kA, AR, uI, qV, BI, tS, pV, sP, wF, vB, yH, A1, mN, kD, vD, u7, pU, gB, Bv, v9, pX, pQ, v5, qY, lX, vG, vQ, Fc, i5, B0, yJ, yA, zC, uD, yN, zJ] $[$l]?)
theorem FW (F:b8 K "is_whole" "is_whole" xF f fd) (hm:mg "is_whole"=some (.ref f)) (aN:mg "isinstance"=none) (zS:mg "int"=none) (l5:mg "bool"=none):Callee P w K mg base 1 "is_whole" wX []:=by
 refine cB F hm FN (mK fun _ _ _ _ _ _ _=>rfl) (aM (aR (gX (cI iL aN (aA (uv 0) (aA (iE (n:="int") zS) aB))) (iJ (EC (cI iL aN (aA (uv 0) (aA (iE (n:="bool") l5) aB)))))))) ?_
 rintro us M Q ⟨u,rfl,ho,q⟩
 refine ⟨rfl,?_⟩
 cases u with
 | ref a=>exact ho.1.elim
 | ty a=>exact ho.1.elim
 | dic a b c=>exact ho.1.elim
 | _=>dsimp! only [bG,aF,aK,aD];exact aL q
def AX:cF:=fun us M Q=>∃ u,us=[u]/\plain u/\Q (.bl (tG u)) M
theorem En {t1:Tok} (F:b8 K "is_number" "is_number" tW f fd) (hm:mg "is_number"=some (.ref f)) (j8:mg "GREATEST"=some (.int 1000000000000000000 t1)) (wM:Callee P w K mg base 1 "is_whole" wX []):Callee P w K mg base 2 "is_number" AX []:=by
 refine cB F hm Ee (mK fun _ _ _ _ _ _ _=>rfl) (aM (aR (gX (bD wM (aA (uv 0) aB)) (iJ (Wg i6 i6 aJ (uv 0) (kN j8)))))) ?_
 rintro us M Q ⟨u,rfl,ho,q⟩
 refine ⟨rfl,?_⟩
 dsimp! only [bG,aF,aK,aD]
 refine ⟨u,rfl,ho,?_⟩
 cases u with
 | ref a=>exact ho.1.elim
 | ty a=>exact ho.1.elim
 | dic a b c=>exact ho.1.elim
 | int i =>
  dsimp! only [Eo,aF,aK,aD]
  simp only [tG] at q
  by_cases h:0<=i
  ·simp only [h,decide_true,Bool.true_and,if_true] at q ⊢
   exact aL q
  ·simp only [h,decide_false,Bool.false_and,Bool.false_eq_true,if_false] at q ⊢
   exact aL q
 | _=>dsimp! only [Eo,aF,aK,aD];exact aL q
def BZ:U->Bool
 | .tup (.str z :: r)=>match bU cO z with
  | some (.int k)=>decide ((r.length:Int)=k)
  | _=>false
 | _=>false
def LF (u:U) (_:Bool):Prop:=plain u/\BZ u=false
def EX:cF:=fun us M Q=>∃ u,us=[u]/\((∃ b,LF u b/\Q (.bl false) M)\/(∃ (z:Str) (r:List U),u=.tup (.str z :: r)/\bU cO z=some (.int (r.length:Nat))/\Q (.bl true) M))
theorem KQ (z:Str):bU cO z=none\/∃ k:Nat,bU cO z=some (.int k):=by
 simp only [cO,bU]
 split
 ·exact .inr ⟨1,rfl⟩
 split
 ·exact .inr ⟨2,rfl⟩
 split
 ·exact .inr ⟨2,rfl⟩
 split
 ·exact .inr ⟨2,rfl⟩
 exact .inl rfl
local macro_rules | `(tactic| simp_all! only [$xs,*]) => `(tactic| simp only [$xs,*, Bool.false_eq_true, Bool.not_false, Bool.not_true, List.append_nil, List.cons_append, List.getElem?_cons_succ, List.getElem?_cons_zero, List.length_cons, List.length_nil, List.map_cons, List.map_nil, List.nil_append, List.replicate, List.set_cons_succ, List.set_cons_zero, Nat.add_sub_cancel, Nat.reduceAdd, Nat.reduceSub, Nat.sub_self, Option.some.injEq, and_true, yC, CL, at2, ED, wZ, nG, w9, nK, o6, wW, AZ, A6, kX, DT, CV, Di, Eu, eG, decide_false, decide_true, exists_eq_left', if_false, if_true, xW, c6, c7, dH, c8, dJ, cV, fE, fF, gN, fK, hW, eO, fS, fG, gL, fH, gT, eT, gU, gO, iM, gM, iT, fN, fR, fL, gS, fO, gR, eP, gK, gQ, iR, gZ, iN, fT, eQ, eJ, fM, eK, fP, dZ, items, iY, rO, jL, tH, jX, reduceCtorEq, c9, true_and, wV, mU, nM, u5, kE, AL, wR, uC, rS, pW, nY, kS, kA, aF, AR, uI, qV, BI, tS, pV, sP, wF, vB, A1, mN, kD, vD, u7, pU, gB, Bv, v9, pX, pQ, v5, lX, vG, vQ, Fc, i5, aK])
theorem Ij (F:b8 K "is_sign" "is_sign" yR f fd) (hm:mg "is_sign"=some (.ref f)) (aN:mg "isinstance"=none) (bK:mg "tuple"=none) (bF:mg "len"=none) (eA:mg "str"=none) (mP:nF P w K d cO) (mQ:mg "SIGNS"=some (.ref d)):Callee P w K mg base 1 "is_sign" EX []:=by
 refine cB F hm HQ (mK fun _ _ _ _ _ _ _=>rfl) (aG (bY (i9.pt (iW (c5 (cN (cI iL aN (aA (uv 0) (aA (iE (n:="tuple") bK) aB))))) (iW (bS cG (cI eI bF (aA (uv 0) aB)) aJ) (iB (c5 (cN (cI iL aN (aA (aV (uv 0) aJ) (aA (iE (n:="str") eA) aB)))))))))
 (aM (aR n5))
 aY)
 (aM (aR (gX (gE (G2 mP) (aV (uv 0) aJ) (uK mQ)) (iJ (gE cG (cI eI bF (aA (uv 0) aB)) (aQ (own:=false) aJ (KY mP (uK mQ) (aV (uv 0) aJ))))))))) ?_
 rintro us M Q ⟨u,rfl,h⟩
 refine ⟨rfl,?_⟩
 have hne:∀ n:Nat,decide (((n + 1:Nat):Int)=0)=false:=fun n=>decide_eq_false (by omega)
 have no:∀ (z:Str) (r:List U),bU cO z=none->Q (.bl false) M->kE (gB (l3 d cO false) (gB sP (i5 0) (uC (U.int 0))) (uC (U.ref d))) (gB (jR false) (rS o6 (kA (i5 0) mN)) (gB (mU false) (uC (U.int 1)) (gB (nI d cO) (uC (U.ref d)) (gB sP (i5 0) (uC (U.int 0)))))) [some (.tup (.str z :: r))] M (hZ Q):=fun z r h q=>by
  simp_all! only [h,Option.isSome_none,jY,lW,qQ,jR,A5,GZ,l3,nI,sX,wJ,bJ,bG,Af,bH,hName,k8,view,yW,eH,qY,mD,zQ]
  exact aL q
 have yes:∀ (z:Str) (r:List U) (k:Nat),bU cO z=some (.int k)->Q (.bl (decide (r.length=k))) M->kE (gB (l3 d cO false) (gB sP (i5 0) (uC (U.int 0))) (uC (U.ref d))) (gB (jR false) (rS o6 (kA (i5 0) mN)) (gB (mU false) (uC (U.int 1)) (gB (nI d cO) (uC (U.ref d)) (gB sP (i5 0) (uC (U.int 0)))))) [some (.tup (.str z :: r))] M (hZ Q):=fun z r k h q=>by
  simp_all! only [h,Option.isSome_some,Fl.u,yW,jY,lW,qQ,jR,A5,GZ,l3,nI,sX,wJ,bJ,bG,Af,bH,hName,k8,view,yW,eH,qY,mD,zQ]
  refine aL ?_
  have e:decide (((r.length + 1:Nat):Int)=1 + (k:Int))=decide (r.length=k):=by
   by_cases e:r.length=k
   ·rw [decide_eq_true e];exact decide_eq_true (by omega)
   ·rw [decide_eq_false e];exact decide_eq_false (by omega)
  rw [e]
  exact q
 refine aO fun V1 hV1=>?_
 refine bR fun A B hA hB=>?_
 rcases h with ⟨b,⟨hp,hs⟩,q⟩ | ⟨z,r,rfl,hz,q⟩
 ·have fls:A M:=by
   subst hA
   dsimp! only [bG,aF,aK,aD]
   exact aL q
  cases u with
  | tup us =>
   cases us with
   | nil=>dsimp! only [show decide (((0:Nat):Int)=0)=true from rfl,aF,aK,aD];exact fls
   | cons x r =>
    have hx:=jA hp List.mem_cons_self
    cases x with
    | str z =>
     dsimp! only [hne,aF,aK,aD]
     subst hB
     simp only [bJ]
     subst hV1
     simp only [bG,c9,List.length_nil,List.length_cons,List.map_cons,List.map_nil,Nat.sub_self,List.replicate,List.append_nil,Nat.reduceAdd]
     simp only [BZ] at hs
     rcases KQ z with h | ⟨k,h⟩
     ·exact no z r h q
     ·rw [h] at hs
      simp only [decide_eq_false_iff_not,Int.natCast_inj] at hs
      exact yes z r k h (by rw [decide_eq_false hs];exact q)
    | ref a=>exact hx.1.elim
    | ty a=>exact hx.1.elim
    | dic a b c=>exact hx.1.elim
    | _=>dsimp! only [hne,aF,aK,aD];exact fls
  | ref a=>exact hp.1.elim
  | ty a=>exact hp.1.elim
  | dic a b c=>exact hp.1.elim
  | _=>dsimp! only [aF,aK,aD];exact fls
 ·dsimp! only [hne,aF,aK,aD]
  subst hB
  simp only [bJ]
  subst hV1
  simp only [bG,c9,List.length_nil,List.length_cons,List.map_cons,List.map_nil,Nat.sub_self,List.replicate,List.append_nil,Nat.reduceAdd]
  exact yes z r r.length hz (by rw [decide_eq_true rfl];exact q)
def iV (cs:List Str):U->Bool
 | .tup (.str z :: r)=>if z=Str.ofString "at" then (match r with | [x]=>xZ cs x | _=>false) else if z=Str.ofString "from" then (match r with | [a,b]=>tG a && (tG b && (match a,b with | .int i,.int j=>decide (i<=j) | _,_=>false)) | _=>false) else decide (z=Str.ofString "any") && r.isEmpty
 | _=>false
def Ck:cF:=fun us M Q=>∃ (u:U) (cs:List Str),us=[u,.tup (cs.map U.str)]/\plain u/\(∀ c∈cs,PyData.strOk c=true)/\Q (.bl (iV cs u)) M
theorem Ub {x:U} {r:List U} {M:aE} {Q:UK} (h:plain (.tup (x :: r))) (q:Q (.bl (q8 (Str.ofString "any") x && r.isEmpty)) M):jR false (.tup (x :: r)) (.tup [.str (Str.ofString "any")]) M Q:=by
 obtain ⟨h1,d,e,h2,h3⟩:=h
 have e':=e
 simp only [toD,Option.map_eq_some_iff] at e'
 obtain ⟨ds,e1,rfl⟩:=e'
 refine ⟨_,_,e,rfl,h2,by decide +kernel,by simp only [PyData.depth,PyData.depthAll];omega,?_⟩
 simp only [dI] at e1
 cases hx:toD x with
 | none=>rw [hx] at e1;cases e1
 | some dx =>
  cases hr:dI r with
  | none=>rw [hx,hr] at e1;cases e1
  | some dr =>
   rw [hx,hr] at e1
   cases e1
   have a1:PyData.eqv (.tuple (dx :: dr)) (.tuple [.str (Str.ofString "any")])=(q8 (Str.ofString "any") x && r.isEmpty):=by
    have b1:PyData.eqv dx (.str (Str.ofString "any"))=q8 (Str.ofString "any") x:=by
     simp only [pl,Er] at h1
     cases x with
     | str y=>cases hx;simp only [q8,PyData.eqv];exact RA _ _
     | tup us=>simp only [toD,Option.map_eq_some_iff] at hx;obtain ⟨ds,e,rfl⟩:=hx;rfl
     | lst us=>simp only [toD,Option.map_eq_some_iff] at hx;obtain ⟨ds,e,rfl⟩:=hx;rfl
     | ty _=>exact h1.2.1.elim
     | ref _=>exact h1.2.1.elim
     | dic _ _ _=>exact h1.2.1.elim
     | _=>cases hx;rfl
    have b2:PyData.eqvAll dr []=r.isEmpty:=by
     cases r with
     | nil=>cases hr;rfl
     | cons y r =>
      simp only [dI] at hr
      cases hy:toD y with
      | none=>rw [hy] at hr;cases hr
      | some dy =>
       cases hz:dI r with
       | none=>rw [hy,hz] at hr;cases hr
       | some dz=>rw [hy,hz] at hr;cases hr;rfl
    simp only [PyData.eqv,PyData.eqvAll] at b1 b2 ⊢
    rw [b1,b2]
   simp only [Bool.false_eq_true,if_false]
   rw [a1];exact q
theorem Ou (F:b8 K "is_pattern_leaf" "is_pattern_leaf" kM f fd) (hm:mg "is_pattern_leaf"=some (.ref f)) (aN:mg "isinstance"=none) (bK:mg "tuple"=none) (bF:mg "len"=none) (AH:Callee P w K mg base 2 "is_number" AX []):Callee P w K mg base 3 "is_pattern_leaf" Ck []:=by
 refine cB F hm zM (mJ fun _ _ _ _ _ _ _ _=>rfl) (aG (bY (i9.pt (iW (c5 (cN (cI iL aN (aA (uv 0) (aA (iE (n:="tuple") bK) aB))))) (iB (bS cG (cI eI bF (aA (uv 0) aB)) aJ))))
 (aM (aR n5))
 aY)
 (aG (bY (bS cG (aV (uv 0) aJ) bZ)
 (aM (aR (gX (gE cG (cI eI bF (aA (uv 0) aB)) aJ) (iJ (gE VC (aV (uv 0) aJ) (uv 1))))))
 aY)
 (aG (bY (bS cG (aV (uv 0) aJ) bZ)
 (aM (aR (gX (gE cG (cI eI bF (aA (uv 0) aB)) aJ) (gX (bD AH (aA (aV (uv 0) aJ) aB)) (gX (bD AH (aA (aV (uv 0) aJ) aB)) (iJ (gE i6 (aV (uv 0) aJ) (aV (uv 0) aJ))))))))
 aY)
 (aM (aR (gE cG (uv 0) (bB (aA bZ aB)))))))) ?_
 rintro us M Q ⟨u,cs,rfl,hp,hc,q⟩
 refine ⟨rfl,?_⟩
 have hne:∀ n:Nat,decide (((n + 1:Nat):Int)=0)=false:=fun n=>decide_eq_false (by omega)
 have sat:PyData.strOk (Str.ofString "at")=true:=by decide +kernel
 have sfr:PyData.strOk (Str.ofString "from")=true:=by decide +kernel
 refine aO fun V1 hV1=>?_
 refine bR fun A B hA hB=>?_
 cases u with
 | tup us =>
  cases us with
  | nil =>
   dsimp! only [show decide (((0:Nat):Int)=0)=true from rfl,aF,aK,aD]
   subst hA
   dsimp! only [bG,aF,aK,aD]
   exact aL q
  | cons x r =>
   have hx:=jA hp List.mem_cons_self
   have hl:=plain_len hp
   dsimp! only [hne,aF,aK,aD]
   subst hB
   simp only [bJ]
   subst hV1
   refine aO fun V2 hV2=>?_
   refine bR fun A B hA hB=>?_
   dsimp! only [aF,aK,aD]
   refine eq_str hx sat ?_
   have n2:∀ n:Nat,decide (((n + 1 + 1 + 1 + 1:Nat):Int)=2)=false:=fun n=>decide_eq_false (by omega)
   have n3:∀ n:Nat,decide (((n + 1 + 1 + 1 + 1:Nat):Int)=3)=false:=fun n=>decide_eq_false (by omega)
   have d1:decide (((0 + 1:Nat):Int)=2)=false:=rfl
   have d2:decide (((0 + 1 + 1:Nat):Int)=2)=true:=rfl
   have d3:decide (((0 + 1 + 1 + 1:Nat):Int)=2)=false:=rfl
   have c1:decide (((0 + 1:Nat):Int)=3)=false:=rfl
   have c2:decide (((0 + 1 + 1:Nat):Int)=3)=false:=rfl
   have c3:decide (((0 + 1 + 1 + 1:Nat):Int)=3)=true:=rfl
   have hra:∀ y∈r,plain y:=fun y hy=>jA hp (List.mem_cons_of_mem _ hy)
   have three:q8 (Str.ofString "at") x=false->q8 (Str.ofString "from") x=false->Q (.bl (q8 (Str.ofString "any") x && r.isEmpty)) M->B M:=fun h1 h2 q=>by
    subst hB
    simp only [bJ]
    subst hV2
    refine aO fun V3 hV3=>?_
    refine bR fun A B hA hB=>?_
    dsimp! only [aF,aK,aD]
    refine eq_str hx sfr ?_
    dsimp! only [h2,aF,aK,aD]
    subst hB
    simp only [bJ]
    subst hV3
    dsimp! only [bG,aF,aK,aD]
    exact Ub hp (aL q)
   cases x with
   | str z =>
    by_cases hz:z=Str.ofString "at"
    ·subst hz
     simp only [q8,iV,decide_true,if_true] at q ⊢
     subst hA
     rcases r with _ | ⟨a,_ | ⟨b,_ | ⟨c,r⟩⟩⟩
     ·dsimp! only [bG,d1,aF,aK,aD];exact aL q
     ·dsimp! only [bG,d2,aF,aK,aD]
      exact Hk (neg:=false) (hra a (by simp)) hc (aL q)
     ·dsimp! only [bG,d3,aF,aK,aD];exact aL q
     ·dsimp! only [bG,n2,aF,aK,aD];exact aL q
    ·by_cases hz2:z=Str.ofString "from"
     ·subst hz2
      simp only [q8,iV,hz,decide_true,decide_false,if_true,if_false,Bool.false_eq_true] at q ⊢
      subst hB
      simp only [bJ]
      subst hV2
      refine aO fun V3 hV3=>?_
      refine bR fun A B hA hB=>?_
      dsimp! only [aF,aK,aD]
      subst hA
      rcases r with _ | ⟨a,_ | ⟨b,_ | ⟨c,r⟩⟩⟩
      ·dsimp! only [bG,c1,aF,aK,aD];exact aL q
      ·dsimp! only [bG,c2,aF,aK,aD];exact aL q
      ·dsimp! only [bG,c3,aF,aK,aD]
       dsimp only at q
       refine ⟨a,rfl,hra a (by simp),?_⟩
       cases ha:tG a with
       | false =>
        rw [ha] at q
        dsimp! only [aF,aK,aD]
        exact aL q
       | true =>
        rw [ha] at q
        dsimp! only [aF,aK,aD]
        refine ⟨b,rfl,hra b (by simp),?_⟩
        cases hb:tG b with
        | false =>
         rw [hb] at q
         dsimp! only [aF,aK,aD]
         exact aL q
        | true =>
         rw [hb] at q
         cases a <;> first | cases ha | skip
         cases b <;> first | cases hb | skip
         dsimp! only [aF,aK,aD]
         exact aL q
      ·dsimp! only [bG,n3,aF,aK,aD];exact aL q
     ·simp only [q8,iV,hz,hz2,decide_false,if_false,Bool.false_eq_true] at q ⊢
      exact three (by simp [q8,hz]) (by simp [q8,hz2]) q
   | ref a=>exact hx.1.elim
   | ty a=>exact hx.1.elim
   | dic a b c=>exact hx.1.elim
   | _=>exact three rfl rfl q
 | ref a=>exact hp.1.elim
 | ty a=>exact hp.1.elim
 | dic a b c=>exact hp.1.elim
 | _ =>
  dsimp! only [aF,aK,aD]
  subst hA
  dsimp! only [bG,aF,aK,aD]
  exact aL q
inductive Op where
 | sum | less | by_
def Op.word:Op->Str
 | .sum=>"sum" | .less=>"less" | .by_=>"by"
inductive Tr where
 | num (n:Int) | name (x:Str) | turn (a:Tr) | two (o:Op) (a b:Tr)
def Tr.toU:Tr->U
 | .num n=>.tup [.str "num",.int n]
 | .name x=>.tup [.str "name",.str x]
 | .turn a=>.tup [.str "turn",a.toU]
 | .two o a b=>.tup [.str o.word,a.toU,b.toU]
def Tr.ok:Tr->Prop
 | .num _=>True
 | .name x=>PyData.strOk x=true/\x.length<=100
 | .turn a=>a.ok
 | .two _ a b=>a.ok/\b.ok
def Tr.dep:Tr->Nat
 | .num _=>1
 | .name _=>1
 | .turn a=>a.dep + 1
 | .two _ a b=>max a.dep b.dep + 1
inductive Pt where
 | hole (c:Str) | any | fr (l h:Int) | turn (a:Pt) | two (o:Op) (a b:Pt)
def Pt.toU:Pt->U
 | .hole c=>.tup [.str "at",.str c]
 | .any=>.tup [.str "any"]
 | .fr l h=>.tup [.str "from",.int l,.int h]
 | .turn a=>.tup [.str "turn",a.toU]
 | .two o a b=>.tup [.str o.word,a.toU,b.toU]
def Pt.ok:Pt->Prop
 | .hole c=>PyData.strOk c=true
 | .any=>True
 | .fr l h=>0<=l/\l<=h
 | .turn a=>a.ok
 | .two _ a b=>a.ok/\b.ok
def Pt.dep:Pt->Nat
 | .hole _=>1
 | .any=>1
 | .fr _ _=>1
 | .turn a=>a.dep + 1
 | .two _ a b=>max a.dep b.dep + 1
def Pt.holes:Pt->Nat
 | .hole _=>1
 | .any=>0
 | .fr _ _=>0
 | .turn a=>a.holes
 | .two _ a b=>a.holes + b.holes
def Pt.leafy:Pt->Bool
 | .turn _=>false
 | .two _ _ _=>false
 | _=>true
def Pt.ends:Pt->List Pt
 | .turn a=>a.ends
 | .two _ a b=>a.ends++b.ends
 | p=>[p]
instance:DecidableEq Op:=fun a b=>by cases a <;> cases b <;> first | exact isTrue rfl | exact isFalse (fun h=>nomatch h)
def MR:Pt->Tr->Bool
 | .hole _,_=>true
 | .any,.name _=>true
 | .any,_=>false
 | .fr l h,.num n=>decide (l<=n) && decide (n<=h)
 | .fr _ _,_=>false
 | .turn p,.turn a=>MR p a
 | .turn _,_=>false
 | .two o p q,.two o' a b=>decide (o=o') && (MR p a && MR q b)
 | .two _ _ _,_=>false
theorem HH (x y:Str):(x++y).cps.toList=x.cps.toList++y.cps.toList:=by
 show (x.cps++y.cps).toList=_
 simp
theorem NF:(Str.ofString "at"=Str.ofString "any")=False:=eq_false (by decide +kernel)
theorem J9:(Str.ofString "at"=Str.ofString "from")=False:=eq_false (by decide +kernel)
theorem Kg:(Str.ofString "at"=Str.ofString "turn")=False:=eq_false (by decide +kernel)
theorem Nk:(Str.ofString "at"=Str.ofString "num")=False:=eq_false (by decide +kernel)
theorem Mf:(Str.ofString "at"=Str.ofString "name")=False:=eq_false (by decide +kernel)
theorem Fn:(Str.ofString "any"=Str.ofString "at")=False:=eq_false (by decide +kernel)
theorem Jd:(Str.ofString "any"=Str.ofString "from")=False:=eq_false (by decide +kernel)
theorem Ic:(Str.ofString "any"=Str.ofString "turn")=False:=eq_false (by decide +kernel)
theorem Ka:(Str.ofString "any"=Str.ofString "num")=False:=eq_false (by decide +kernel)
theorem IB:(Str.ofString "any"=Str.ofString "name")=False:=eq_false (by decide +kernel)
theorem C8:(Str.ofString "from"=Str.ofString "at")=False:=eq_false (by decide +kernel)
theorem HM:(Str.ofString "from"=Str.ofString "any")=False:=eq_false (by decide +kernel)
theorem F3:(Str.ofString "from"=Str.ofString "turn")=False:=eq_false (by decide +kernel)
theorem Hy:(Str.ofString "from"=Str.ofString "num")=False:=eq_false (by decide +kernel)
theorem FX:(Str.ofString "from"=Str.ofString "name")=False:=eq_false (by decide +kernel)
theorem CB:(Str.ofString "turn"=Str.ofString "at")=False:=eq_false (by decide +kernel)
theorem Jp:(Str.ofString "turn"=Str.ofString "any")=False:=eq_false (by decide +kernel)
theorem Ga:(Str.ofString "turn"=Str.ofString "from")=False:=eq_false (by decide +kernel)
theorem IS:(Str.ofString "turn"=Str.ofString "num")=False:=eq_false (by decide +kernel)
theorem FV:(Str.ofString "turn"=Str.ofString "name")=False:=eq_false (by decide +kernel)
theorem MJ:(Str.ofString "num"=Str.ofString "at")=False:=eq_false (by decide +kernel)
theorem Ko:(Str.ofString "num"=Str.ofString "any")=False:=eq_false (by decide +kernel)
theorem Hv:(Str.ofString "num"=Str.ofString "from")=False:=eq_false (by decide +kernel)
theorem IG:(Str.ofString "num"=Str.ofString "turn")=False:=eq_false (by decide +kernel)
theorem Ik:(Str.ofString "num"=Str.ofString "name")=False:=eq_false (by decide +kernel)
theorem Kl:(Str.ofString "name"=Str.ofString "at")=False:=eq_false (by decide +kernel)
theorem Jw:(Str.ofString "name"=Str.ofString "any")=False:=eq_false (by decide +kernel)
theorem Gg:(Str.ofString "name"=Str.ofString "from")=False:=eq_false (by decide +kernel)
theorem Gd:(Str.ofString "name"=Str.ofString "turn")=False:=eq_false (by decide +kernel)
theorem HD:(Str.ofString "name"=Str.ofString "num")=False:=eq_false (by decide +kernel)
theorem La (o:Op):(o.word=Str.ofString "at")=False:=eq_false (by cases o <;> decide +kernel)
theorem Q4 (o:Op):(o.word=Str.ofString "any")=False:=eq_false (by cases o <;> decide +kernel)
theorem MT (o:Op):(o.word=Str.ofString "from")=False:=eq_false (by cases o <;> decide +kernel)
theorem Nb (o:Op):(o.word=Str.ofString "turn")=False:=eq_false (by cases o <;> decide +kernel)
theorem PL (o:Op):(o.word=Str.ofString "num")=False:=eq_false (by cases o <;> decide +kernel)
theorem Nv (o:Op):(o.word=Str.ofString "name")=False:=eq_false (by cases o <;> decide +kernel)
theorem Vh (o:Op):(Str.ofString "at"=o.word)=False:=eq_false (by cases o <;> decide +kernel)
theorem Rg (o:Op):(Str.ofString "any"=o.word)=False:=eq_false (by cases o <;> decide +kernel)
theorem Ms (o:Op):(Str.ofString "from"=o.word)=False:=eq_false (by cases o <;> decide +kernel)
theorem OJ (o:Op):(Str.ofString "turn"=o.word)=False:=eq_false (by cases o <;> decide +kernel)
theorem RG (o:Op):(Str.ofString "num"=o.word)=False:=eq_false (by cases o <;> decide +kernel)
theorem NK (o:Op):(Str.ofString "name"=o.word)=False:=eq_false (by cases o <;> decide +kernel)
theorem uJ:(Str.ofString "at"=Str.ofString "any")=False/\(Str.ofString "at"=Str.ofString "from")=False/\(Str.ofString "at"=Str.ofString "turn")=False/\(Str.ofString "at"=Str.ofString "num")=False/\(Str.ofString "at"=Str.ofString "name")=False/\(Str.ofString "any"=Str.ofString "at")=False:=⟨NF,J9,Kg,Nk,Mf,Fn⟩
theorem uS:(Str.ofString "any"=Str.ofString "from")=False/\(Str.ofString "any"=Str.ofString "turn")=False/\(Str.ofString "any"=Str.ofString "num")=False/\(Str.ofString "any"=Str.ofString "name")=False/\(Str.ofString "from"=Str.ofString "at")=False/\(Str.ofString "from"=Str.ofString "any")=False:=⟨Jd,Ic,Ka,IB,C8,HM⟩
theorem uE:(Str.ofString "from"=Str.ofString "turn")=False/\(Str.ofString "from"=Str.ofString "num")=False/\(Str.ofString "from"=Str.ofString "name")=False/\(Str.ofString "turn"=Str.ofString "at")=False/\(Str.ofString "turn"=Str.ofString "any")=False/\(Str.ofString "turn"=Str.ofString "from")=False:=⟨F3,Hy,FX,CB,Jp,Ga⟩
theorem tZ:(Str.ofString "turn"=Str.ofString "num")=False/\(Str.ofString "turn"=Str.ofString "name")=False/\(Str.ofString "num"=Str.ofString "at")=False/\(Str.ofString "num"=Str.ofString "any")=False/\(Str.ofString "num"=Str.ofString "from")=False/\(Str.ofString "num"=Str.ofString "turn")=False:=⟨IS,FV,MJ,Ko,Hv,IG⟩
theorem uA:(Str.ofString "num"=Str.ofString "name")=False/\(Str.ofString "name"=Str.ofString "at")=False/\(Str.ofString "name"=Str.ofString "any")=False/\(Str.ofString "name"=Str.ofString "from")=False/\(Str.ofString "name"=Str.ofString "turn")=False/\(Str.ofString "name"=Str.ofString "num")=False:=⟨Ik,Kl,Jw,Gg,Gd,HD⟩
theorem tY:(∀ o:Op,(o.word=Str.ofString "at")=False)/\(∀ o:Op,(o.word=Str.ofString "any")=False)/\(∀ o:Op,(o.word=Str.ofString "from")=False)/\(∀ o:Op,(o.word=Str.ofString "turn")=False)/\(∀ o:Op,(o.word=Str.ofString "num")=False)/\(∀ o:Op,(o.word=Str.ofString "name")=False):=⟨La,Q4,MT,Nb,PL,Nv⟩
theorem t8:(∀ o:Op,(Str.ofString "at"=o.word)=False)/\(∀ o:Op,(Str.ofString "any"=o.word)=False)/\(∀ o:Op,(Str.ofString "from"=o.word)=False)/\(∀ o:Op,(Str.ofString "turn"=o.word)=False)/\(∀ o:Op,(Str.ofString "num"=o.word)=False)/\(∀ o:Op,(Str.ofString "name"=o.word)=False):=⟨Vh,Rg,Ms,OJ,RG,NK⟩
def Pq:Str:=Str.ofString "abcdefghijklmnopqrstuvwxyz"
theorem len_app (x y:Str):(x++y).length=x.length + y.length:=by
 show (x.cps++y.cps).size=x.cps.size + y.cps.size
 simp
def vZ:cF:=fun us M Q=>∃ (z:Str) (r:List U) (b:Bool),us=[.tup (.str z :: r)]/\(bU cO z).isSome=b/\r.length<=1000/\Q (.tup (if b then r else [])) M
local macro_rules | `(tactic| dsimp? only [$xs,*] $[$l]?) => `(tactic| dsimp! only [$xs,*, lW, hName, qQ, jY, l3, nI, bH, mD, zQ, k8, wJ, GZ, bJ, bG, Af, sX, DF] $[$l]?)
theorem Ge (F:b8 K "parts_of" "parts_of" v3 f fd) (hm:mg "parts_of"=some (.ref f)) (mP:nF P w K d cO) (mQ:mg "SIGNS"=some (.ref d)):Callee P w K mg base 1 "parts_of" vZ []:=by
 refine cB F hm F7 (mK fun _ _ _ _ _ _ _=>rfl) (aM (aR (Vz (bS (G2 mP) (aV (uv 0) aJ) (uK mQ)) (kQ (own:=false) (uv 0) (dO aJ) Cv) (bB aB)))) ?_
 rintro us M Q ⟨z,r,b,rfl,hb,hl,q⟩
 refine ⟨rfl,?_⟩
 dsimp? only [hb]
 cases b with
 | true =>
  dsimp? only [OC]
  exact aL q
 | false =>
  dsimp? only [true_and]
  exact aL q
theorem CA:(bU cO (Str.ofString "turn")).isSome=true:=by decide +kernel
theorem BQ (o:Op):(bU cO o.word).isSome=true:=by cases o <;> decide +kernel
theorem MQ:∀ p:Pt,1<=p.dep
 | .hole _=>Nat.le_refl _
 | .any=>Nat.le_refl _
 | .fr _ _=>Nat.le_refl _
 | .turn a=>by simp only [Pt.dep];omega
 | .two o a b=>by simp only [Pt.dep];omega
def mC:Pt->PyData
 | .hole c=>.tuple [.str "at",.str c]
 | .any=>.tuple [.str "any"]
 | .fr l h=>.tuple [.str "from",.int l,.int h]
 | .turn a=>.tuple [.str "turn",mC a]
 | .two o a b=>.tuple [.str o.word,mC a,mC b]
theorem Ja:∀ p:Pt,toD p.toU=some (mC p)
 | .hole c=>by simp [Pt.toU,toD,dI,mC]
 | .any=>by simp [Pt.toU,toD,dI,mC]
 | .fr l h=>by simp [Pt.toU,toD,dI,mC]
 | .turn a=>by simp [Pt.toU,toD,dI,mC,Ja a]
 | .two o a b=>by simp [Pt.toU,toD,dI,mC,Ja a,Ja b]
theorem Oa:∀ p:Pt,p.ok->(mC p).canLay0=true
 | .hole c,h=>by
  have h':PyData.strOk c=true:=h
  simp only [mC,PyData.canLay0,PyData.canLayAll0,h'];decide +kernel
 | .any,_=>by decide +kernel
 | .fr l h,_=>by simp only [mC,PyData.canLay0,PyData.canLayAll0];decide +kernel
 | .turn a,h=>by simp only [mC,PyData.canLay0,PyData.canLayAll0,Oa a h];decide +kernel
 | .two o a b,h=>by
  have:PyData.strOk o.word=true:=by cases o <;> decide +kernel
  simp only [mC,PyData.canLay0,PyData.canLayAll0,Oa a h.1,Oa b h.2,this];decide +kernel
def nA:Tr->PyData
 | .num n=>.tuple [.str "num",.int n]
 | .name x=>.tuple [.str "name",.str x]
 | .turn a=>.tuple [.str "turn",nA a]
 | .two o a b=>.tuple [.str o.word,nA a,nA b]
theorem IU:∀ p:Tr,toD p.toU=some (nA p)
 | .num c=>by simp [Tr.toU,toD,dI,nA]
 | .name c=>by simp [Tr.toU,toD,dI,nA]
 | .turn a=>by simp [Tr.toU,toD,dI,nA,IU a]
 | .two o a b=>by simp [Tr.toU,toD,dI,nA,IU a,IU b]
theorem Np:∀ p:Tr,p.ok->(nA p).canLay0=true
 | .num c,h=>by simp only [nA,PyData.canLay0,PyData.canLayAll0];decide +kernel
 | .name c,h=>by
  have h':PyData.strOk c=true:=h.1
  simp only [nA,PyData.canLay0,PyData.canLayAll0,h'];decide +kernel
 | .turn a,h=>by simp only [nA,PyData.canLay0,PyData.canLayAll0,Np a h];decide +kernel
 | .two o a b,h=>by
  have:PyData.strOk o.word=true:=by cases o <;> decide +kernel
  simp only [nA,PyData.canLay0,PyData.canLayAll0,Np a h.1,Np b h.2,this];decide +kernel
def Xn (p:Pt):U:=.tup [p.toU,.int (p.dep:Nat)]
def B3:List Pt->Nat
 | []=>0
 | p :: r=>p.holes + B3 r
theorem Mp:∀ l r:List Pt,B3 (l++r)=B3 l + B3 r
 | [],_=>by simp [B3]
 | t :: l,r=>by simp [B3,Mp l r];omega
def Xv (n:Int):Op:=if n % 3=0 then .sum else if n % 3=1 then .less else .by_
def fC (p:List Nat):U:=.tup (p.map fun (n:Nat)=>.int (n:Int))
def gF (x:List Nat × Pt):U:=.tup [fC x.1,x.2.toU]
def wD:Pt->List Nat->List (List Nat × Pt)
 | .turn a,pl=>wD a (pl++[0])
 | .two _ a b,pl=>wD a (pl++[0])++wD b (pl++[1])
 | p,pl=>[(pl,p)]
theorem wB:∀ (p:Pt) (pl:List Nat),(wD p pl).map (·.2)=p.ends
 | .turn a,pl=>by simp only [wD,Pt.ends,wB a]
 | .two _ a b,pl=>by simp only [wD,Pt.ends,List.map_append,wB a,wB b]
 | .hole _,pl=>rfl
 | .any,pl=>rfl
 | .fr _ _,pl=>rfl
def Jy:Pt->Tr->List U
 | .any,.name x=>[.str x]
 | .fr _ _,.num n=>[.int n]
 | .turn p,.turn a=>Jy p a
 | .two _ p q,.two _ a b=>Jy p a++Jy q b
 | _,_=>[]
theorem Vb {neg:Bool} {i j:Bool} {M:aE} {Q:UK}:jR neg (.bl i) (.bl j) M Q=Q (.bl (if neg then !decide (i=j) else decide (i=j))) M:=rfl
def h7:dW:=fun x y M Q=>match x,y with
 | .bl i,.bl j=>Q (.bl (decide (i=j))) M
 | _,_=>False
def Pt.parts:Pt->List Pt
 | .turn a=>[a]
 | .two _ a b=>[a,b]
 | _=>[]
def cQ:Pt->List Nat->List (List Nat × Pt)
 | .turn a,pl=>(pl,.turn a) :: cQ a (pl++[0])
 | .two o a b,pl=>(pl,.two o a b) :: (cQ a (pl++[0])++cQ b (pl++[1]))
 | p,pl=>[(pl,p)]
def Pt.places:Pt->List (List Nat)
 | .turn a=>[] :: a.places.map (0 :: ·)
 | .two _ a b=>[] :: (a.places.map (0 :: ·)++b.places.map (1 :: ·))
 | _=>[[]]
theorem kT:∀ (p:Pt) (pl:List Nat),(cQ p pl).map (·.1)=p.places.map (pl++·)
 | .turn a,pl=>by simp [cQ,Pt.places,kT a]
 | .two o a b,pl=>by
  simp only [cQ,Pt.places,List.map_cons,List.map_append,kT a,kT b,List.map_map,List.append_nil]
  simp [Function.comp_def]
 | .hole _,pl=>by simp [cQ,Pt.places]
 | .any,pl=>by simp [cQ,Pt.places]
 | .fr _ _,pl=>by simp [cQ,Pt.places]
theorem zD:∀ (p:Pt) (pl:List Nat),(cQ p pl).filter (fun e=>e.2.leafy)=wD p pl
 | .turn a,pl=>by rw [cQ,List.filter_cons_of_neg (by simp [Pt.leafy]),zD a];rfl
 | .two o a b,pl=>by rw [cQ,List.filter_cons_of_neg (by simp [Pt.leafy]),List.filter_append,zD a,zD b];rfl
 | .hole _,pl=>rfl
 | .any,pl=>rfl
 | .fr _ _,pl=>rfl
theorem places_len:∀ p:Pt,p.places.length < 2 ^ p.dep
 | .turn a=>by have:=places_len a;simp only [Pt.places,Pt.dep,List.length_cons,List.length_map,Nat.pow_succ];omega
 | .two _ a b=>by
  have h1:=places_len a
  have h2:=places_len b
  have h3:2 ^ a.dep<=2 ^ max a.dep b.dep:=Nat.pow_le_pow_right (by decide) (Nat.le_max_left _ _)
  have h4:2 ^ b.dep<=2 ^ max a.dep b.dep:=Nat.pow_le_pow_right (by decide) (Nat.le_max_right _ _)
  simp only [Pt.places,Pt.dep,Nat.pow_succ,List.length_cons,List.length_append,List.length_map];omega
 | .hole _=>by simp [Pt.places,Pt.dep]
 | .any=>by simp [Pt.places,Pt.dep]
 | .fr _ _=>by simp [Pt.places,Pt.dep]
theorem nS:∀ (p:Pt) (pl:List Nat),pl∈p.places->pl.length < p.dep
 | .turn a,pl,h=>by
  simp only [Pt.places,List.mem_cons,List.mem_map] at h
  rcases h with rfl | ⟨q,hq,rfl⟩
  ·simp [Pt.dep]
  ·have:=nS a q hq;simp only [Pt.dep,List.length_cons];omega
 | .two o a b,pl,h=>by
  simp only [Pt.places,List.mem_cons,List.mem_append,List.mem_map] at h
  rcases h with rfl | ⟨q,hq,rfl⟩ | ⟨q,hq,rfl⟩
  ·simp [Pt.dep]
  ·have:=nS a q hq;simp only [Pt.dep,List.length_cons];omega
  ·have:=nS b q hq;simp only [Pt.dep,List.length_cons];omega
 | .hole _,pl,h=>by simp [Pt.places] at h;subst h;simp [Pt.dep]
 | .any,pl,h=>by simp [Pt.places] at h;subst h;simp [Pt.dep]
 | .fr _ _,pl,h=>by simp [Pt.places] at h;subst h;simp [Pt.dep]
def rB (n:Nat):cF:=fun us M Q=>∃ p:Pt,us=[p.toU]/\p.dep<=n/\n<=10/\Q (.lst (p.places.map fC)) M
theorem WQ:(bU cO (Str.ofString "at")).isSome=false:=by decide +kernel
theorem Py:(bU cO (Str.ofString "any")).isSome=false:=by decide +kernel
theorem JY:(bU cO (Str.ofString "from")).isSome=false:=by decide +kernel
theorem L0 (p:Pt):∃ z r,p.toU=.tup (.str z :: r)/\(bU cO z).isSome=!p.leafy/\(p.leafy=false->r=p.parts.map Pt.toU)/\r.length<=3:=by
 cases p with
 | hole c=>exact ⟨_,_,rfl,WQ,(fun h=>by cases h),by simp⟩
 | any=>exact ⟨_,_,rfl,Py,(fun h=>by cases h),by simp⟩
 | fr l h=>exact ⟨_,_,rfl,JY,(fun h=>by cases h),by simp⟩
 | turn a=>exact ⟨_,_,rfl,CA,fun _=>rfl,by simp⟩
 | two o a b=>exact ⟨_,_,rfl,BQ o,fun _=>rfl,by simp⟩
theorem JI {p:Pt} (h:p.leafy=true):p.parts=[]:=by cases p <;> first | rfl | cases h
def fA:Nat->List Pt->List (List Nat)
 | _,[]=>[]
 | k,a :: r=>a.places.map (k :: ·)++fA (k + 1) r
theorem places_eq (p:Pt):p.places=[] :: fA 0 p.parts:=by cases p <;> simp [Pt.places,Pt.parts,fA]
theorem Jm (l:List Pt) (a:Pt):∀ k,fA k (l++[a])=fA k l++a.places.map ((k + l.length) :: ·):=by
 induction l with
 | nil=>intro k;simp [fA]
 | cons b l ih=>intro k;simp only [List.cons_append,fA,ih,List.length_cons,List.append_assoc];rw [show k + 1 + l.length=k + (l.length + 1) by omega]
theorem Oz (p:Pt) (i:Nat):(fA 0 (p.parts.take i)).length + 1<=p.places.length:=by
 have:∀ (l:List Pt) (k j:Nat),(fA k (l.take j)).length<=(fA k l).length:=by
  intro l
  induction l with
  | nil=>intro k j;simp [fA]
  | cons a l ih =>
   intro k j
   cases j with
   | zero=>simp [fA]
   | succ j=>simp only [List.take_succ_cons,fA,List.length_append];have:=ih (k + 1) j;omega
 have h1:=this p.parts 0 i
 rw [places_eq p,List.length_cons]
 omega
theorem Nw {p a:Pt} {i:Nat} (h:p.parts[i]?=some a):a.dep < p.dep:=by
 have hm:=List.mem_of_getElem? h
 cases p with
 | turn b =>
  have:a=b:=by simpa [Pt.parts] using hm
  subst this;simp only [Pt.dep];omega
 | two o b c =>
  have:a=b\/a=c:=by simpa [Pt.parts] using hm
  simp only [Pt.dep]
  rcases this with rfl | rfl <;> omega
 | _=>cases hm
def jB:U->Nat->Option U
 | .tup (.str z :: r),k=>if (bU cO z).isSome then (if r.length<=1000 then r[k]? else none) else none
 | _,_=>none
def pJ:U->List Nat->Option U
 | u,[]=>some u
 | u,k :: pl=>(jB u k).bind fun v=>pJ v pl
theorem MF {h w:U} {k:Nat} (e:jB h k=some w):∃ z r,h=.tup (.str z :: r)/\(bU cO z).isSome=true/\r.length<=1000/\r[k]?=some w:=by
 match h,e with
 | .tup (.str z :: r),e =>
  simp only [jB] at e
  split at e
  ·rename_i h1
   split at e
   ·rename_i h2
    exact ⟨z,r,rfl,h1,h2,e⟩
   ·cases e
  ·cases e
 | .tup [],e=>cases e
 | .tup (.non :: _),e=>cases e
 | .tup (.bl _ :: _),e=>cases e
 | .tup (.int _ :: _),e=>cases e
 | .tup (.ty _ :: _),e=>cases e
 | .tup (.ref _ :: _),e=>cases e
 | .tup (.tup _ :: _),e=>cases e
 | .tup (.lst _ :: _),e=>cases e
 | .non,e=>cases e
 | .bl _,e=>cases e
 | .int _,e=>cases e
 | .str _,e=>cases e
 | .ty _,e=>cases e
 | .ref _,e=>cases e
 | .lst _,e=>cases e
theorem DX:∀ (l:List Nat) (u:U) (k:Nat),pJ u (l++[k])=(pJ u l).bind fun v=>jB v k
 | [],u,k=>by simp only [List.nil_append,pJ,Option.bind_some];cases jB u k <;> rfl
 | j :: l,u,k=>by
  simp only [List.cons_append,pJ]
  cases jB u j with
  | none=>rfl
  | some v=>exact DX l v k
theorem E7:∀ (l r:List Nat) (u:U),pJ u l=none->pJ u (l++r)=none
 | [],r,u,z=>by cases z
 | j :: l,r,u,z=>by
  simp only [List.cons_append,pJ] at z ⊢
  cases hj:jB u j with
  | none=>rfl
  | some v=>rw [hj] at z;exact E7 l r v z
def PJ:cF:=fun us M Q=>∃ (u v:U) (pl:List Nat),us=[u,fC pl]/\pJ u pl=some v/\Q v M
theorem PM (a:U):jB (.tup [.str (Str.ofString "turn"),a]) 0=some a:=by
 simp only [jB];rw [if_pos CA,if_pos (by simp)];rfl
theorem QJ (o:Op) (a b:U):jB (.tup [.str o.word,a,b]) 0=some a:=by
 simp only [jB];rw [if_pos (BQ o),if_pos (by simp)];rfl
theorem PU (o:Op) (a b:U):jB (.tup [.str o.word,a,b]) 1=some b:=by
 simp only [jB];rw [if_pos (BQ o),if_pos (by simp)];rfl
theorem zT:∀ (p:Pt) (pre:List Nat) (e:List Nat × Pt),e∈cQ p pre->∃ s,e.1=pre++s/\pJ p.toU s=some e.2.toU
 | .turn a,pre,e,h=>by
  simp only [cQ] at h
  rcases List.mem_cons.mp h with rfl | h
  ·exact ⟨[],by simp,rfl⟩
  ·obtain ⟨s,h1,h2⟩:=zT a _ e h
   refine ⟨0 :: s,by rw [h1];simp,?_⟩
   simp only [pJ,Pt.toU,PM,Option.bind_some,h2]
 | .two o a b,pre,e,h=>by
  simp only [cQ] at h
  rcases List.mem_cons.mp h with rfl | h
  ·exact ⟨[],by simp,rfl⟩
  ·rcases List.mem_append.mp h with h | h
   ·obtain ⟨s,h1,h2⟩:=zT a _ e h
    refine ⟨0 :: s,by rw [h1];simp,?_⟩
    simp only [pJ,Pt.toU,QJ,Option.bind_some,h2]
   ·obtain ⟨s,h1,h2⟩:=zT b _ e h
    refine ⟨1 :: s,by rw [h1];simp,?_⟩
    simp only [pJ,Pt.toU,PU,Option.bind_some,h2]
 | .hole _,pre,e,h=>by cases List.mem_singleton.mp h;exact ⟨[],by simp,rfl⟩
 | .any,pre,e,h=>by cases List.mem_singleton.mp h;exact ⟨[],by simp,rfl⟩
 | .fr _ _,pre,e,h=>by cases List.mem_singleton.mp h;exact ⟨[],by simp,rfl⟩
def Bw (e:List Nat × Pt):Bool:=decide (e.2.holes=0)
def fU:U->Option U
 | .tup [a,.tup (.str z :: r)]=>if (!decide (z=Str.ofString "at")) && !(bU cO z).isSome then some (.tup [a,.tup (.str z :: r)]) else none
 | _=>none
theorem W4 (e:List Nat × Pt):fU (gF e)=if e.2.leafy && Bw e then some (gF e) else none:=by
 obtain ⟨pl,q⟩:=e
 have e1:decide (Str.ofString "at"=Str.ofString "at")=true:=by simp
 cases q with
 | hole c=>simp only [gF,Pt.toU,fU,e1,Pt.leafy,Bw,Pt.holes];rfl
 | any=>simp only [gF,Pt.toU,fU,uJ,uS,uE,tZ,uA,tY,t8,Py,Pt.leafy,Bw,Pt.holes];rfl
 | fr l h=>simp only [gF,Pt.toU,fU,uJ,uS,uE,tZ,uA,tY,t8,JY,Pt.leafy,Bw,Pt.holes];rfl
 | turn a=>simp only [gF,Pt.toU,fU,uJ,uS,uE,tZ,uA,tY,t8,CA,Pt.leafy];rfl
 | two o a b=>simp only [gF,Pt.toU,fU,uJ,uS,uE,tZ,uA,tY,t8,BQ,Pt.leafy];rfl
def qJ (l:List Nat):Str:=⟨l.toArray⟩
theorem Aj (a b:List Nat):qJ a++qJ b=qJ (a++b):=by
 show (⟨a.toArray++b.toArray⟩:Str)=⟨(a++b).toArray⟩
 simp
theorem Aq (c:Nat):(⟨#[c]⟩:Str)=qJ [c]:=rfl
theorem uP (l:List Nat):(qJ l).length=l.length:=by show l.toArray.size=_;simp
theorem Gp {a b:List Nat} (h:qJ a=qJ b):a=b:=by
 have h1:a.toArray=b.toArray:=congrArg Str.cps h
 simpa using h1
theorem CD:Str.ofString ""=qJ []:=by decide +kernel
theorem Uc (a:List Nat):decide (qJ a=Str.ofString "")=a.isEmpty:=by
 rw [CD]
 cases a with
 | nil=>simp
 | cons c r=>exact decide_eq_false fun h=>by cases Gp h
def lC (m:Int):Nat:=97 + (m % 26).toNat
theorem Hg (m:Int):iI Pq.cps.toList (m % 26)=some (lC m):=by
 have e:Pq.cps.toList=(List.range 26).map (97 + ·):=by decide +kernel
 have h0:=Int.emod_nonneg m (show (26:Int)≠0 by decide)
 have h1:=Int.emod_lt_of_pos m (show (0:Int) < 26 by decide)
 have q:=iX (xs:=Pq.cps.toList) (j:=(m % 26).toNat) (v:=lC m) (by
  rw [e,List.getElem?_map,List.getElem?_range (by omega)];rfl)
 rw [Int.toNat_of_nonneg h0] at q
 exact q
def jT:Nat->Int->List Nat
 | 0,_=>[]
 | k + 1,n=>if 0 < n then lC (n - 1) :: jT k ((n - 1) / 26) else []
def sN (n:Int):List Nat:=lC n :: jT 7 (n / 26)
def jE (n:Int):Str:=qJ (sN n)
theorem CG:∀ (k:Nat) (n:Int),(jT k n).length<=k
 | 0,_=>by simp [jT]
 | k + 1,n=>by
  have:=CG k ((n - 1) / 26)
  simp only [jT]
  split
  ·simp only [List.length_cons];omega
  ·simp
theorem G6 (m:Int):97<=lC m/\lC m<=122:=by
 have h0:=Int.emod_nonneg m (show (26:Int)≠0 by decide)
 have h1:=Int.emod_lt_of_pos m (show (0:Int) < 26 by decide)
 unfold lC;omega
theorem C5:∀ (k:Nat) (n:Int),∀ c∈jT k n,97<=c/\c<=122
 | 0,_,c,h=>by cases h
 | k + 1,n,c,h=>by
  simp only [jT] at h
  split at h
  ·rcases List.mem_cons.mp h with rfl | h
   ·exact G6 _
   ·exact C5 k _ c h
  ·cases h
theorem CS (n:Int):∀ c∈sN n,97<=c/\c<=122:=fun c h=>by
 rcases List.mem_cons.mp h with rfl | h
 ·exact G6 _
 ·exact C5 _ _ c h
theorem lI (n:Int):1<=(jE n).length/\(jE n).length<=8:=by
 have:=CG 7 (n / 26)
 rw [jE,uP,sN,List.length_cons];omega
theorem vJ (n:Int):PyData.strOk (jE n)=true:=by
 unfold PyData.strOk jE qJ
 rw [<- Array.all_toList,List.all_eq_true]
 intro c hc
 have:=CS n c (by simpa using hc)
 simp;omega
def EJ:cF:=fun us M Q=>∃ n:Int,us=[.int n]/\Q (.str (jE n)) M
theorem Jz (F:b8 K "_law_name_of" "_law_name_of" o9 f fd) (hm:mg "_law_name_of"=some (.ref f)) (bF:mg "len"=none):Callee P w K mg base 1 "_law_name_of" EJ []:=by
 refine cB F hm i4 (mK fun _ _ _ _ _ _ _=>rfl) (aG (aS 1 i4.nd bZ)
 (aG (v7 (i9.pt (xX (bS sE (cI eI bF (aA (uv 1) aB)) aJ) (Ao (i9.pt (iW (bS cG (uv 1) bZ) (iB (bS D9 (uv 0) aJ)))))))
 (aG (bY (bS sG (uv 1) bZ)
 (aM (aS 0 i4.nd (lU (uv 0) aJ)))
 aY)
 (aG (aS 1 i4.nd (aQ (own:=false) (uv 1) (aV bZ (cL (uv 0) aJ))))
 (aM (aS 0 i4.nd (jM (uv 0) aJ))))))
 (aM (aR (uv 1))))) ?_
 rintro us M Q ⟨n,rfl,q⟩
 refine ⟨rfl,?_⟩
 have hL2:Pq.length<=sizeLine:=by decide +kernel
 have sm:∀ A:List Nat,A.length < 8->(qJ A).length + (⟨#[0]⟩:Str).length<=sizeLine:=fun A h=>small (by rw [uP];show A.length + 1<=_;omega)
 dsimp? only [h7]
 refine lA (fun τ Mi=>∃ (A:List Nat) (m:Int),τ=[some (.int m),some (.str (qJ A))]/\Mi=M/\A.length<=8/\(A=[]->m=n)/\(A≠[]->A++jT (8 - A.length) m=sN n))
  (fun τ _=>match τ with | [_,some (.str z)]=>8 - z.length | _=>0) ⟨[],n,by rw [CD],rfl,by decide,fun _=>rfl,fun z=>absurd rfl z⟩ ?_
 rintro τ Mi ⟨A,m,rfl,rfl,hA,h1,h2⟩
 have fin:A≠[]->(A.length=8\/¬ 0 < m)->hZ Q (.str (qJ A)) Mi:=fun hne hh=>by
  have:=h2 hne
  have e:jT (8 - A.length) m=[]:=by
   rcases hh with hh | hh
   ·rw [hh];rfl
   ·cases hk:8 - A.length with
    | zero=>rfl
    | succ k=>show (if 0 < m then _ else _)=_;rw [if_neg hh]
  rw [e,List.append_nil] at this
  rw [this]
  exact aL q
 dsimp? only [uP,Uc,h7]
 cases A with
 | nil =>
  have hm':=h1 rfl
  subst hm'
  dsimp? only [List.isEmpty_nil,h7]
  refine ⟨by decide,hL2,_,Hg m,sm [] (by decide),⟨by decide,by decide⟩,⟨[lC m],m / 26,by rw [Aq,Aj];rfl,by simp,(fun z=>by cases z),fun _=>rfl⟩,?_⟩
  simp [uP,Aq,Aj]
 | cons c r =>
  dsimp? only [List.isEmpty_cons,h7]
  have e1:=h2 (by simp)
  refine ⟨small (by simp only [List.length_cons] at hA;omega),?_⟩
  refine oR (fun g1=>oR (fun g2=>?_) (fun g2=>?_)) (fun g1=>?_)
  ·have g1':=of_decide_eq_true g1
   have g2':=of_decide_eq_true g2
   have hlt:(c :: r).length < 8:=by simp only [List.length_cons];omega
   refine ⟨by decide,hL2,_,Hg (m - 1),sm (c :: r) hlt,⟨by decide,by decide⟩,⟨c :: r++[lC (m - 1)],(m - 1) / 26,by rw [Aq,Aj],by simp only [List.length_append,List.length_cons,List.length_nil] at hlt ⊢;omega,(fun z=>by simp at z),fun _=>?_⟩,?_⟩
   ·rw [<- e1]
    have e2:8 - (c :: r).length=(8 - (c :: r++[lC (m - 1)]).length) + 1:=by simp only [List.length_append,List.length_cons,List.length_nil] at hlt ⊢;omega
    rw [e2]
    have e3:jT (8 - (c :: r++[lC (m - 1)]).length + 1) m=lC (m - 1) :: jT (8 - (c :: r++[lC (m - 1)]).length) ((m - 1) / 26):=by
     show (if 0 < m then _ else _)=_
     rw [if_pos (by omega)]
    rw [e3]
    simp
   ·rw [Aq,Aj]
    simp only [uP,List.length_append,List.length_cons,List.length_nil] at hlt ⊢;omega
  ·exact fin (by simp) (.inr fun z=>g2 (decide_eq_true (by omega)))
  ·refine fin (by simp) (.inl ?_)
   have:¬ (((c :: r).length:Nat):Int) < 8:=fun z=>g1 (decide_eq_true (by simpa using z))
   omega
def VW (cs:List Str):Prop:=cs≠[]/\cs.length<=6/\(∀ c∈cs,PyData.strOk c=true/\c.length<=8)
theorem JE {c:Nat} (h1:97<=c) (h2:c<=122):isLetter c=true:=by
 have:∀ k:Fin 26,isLetter (97 + k.val)=true:=by decide +kernel
 have:=this ⟨c - 97,by omega⟩
 rwa [show 97 + (c - 97)=c by omega] at this
theorem wI (n:Int):isName (.str (jE n))=true:=by
 have h:=lI n
 simp only [isName,Bool.and_eq_true,decide_eq_true_eq]
 refine ⟨⟨h.1,h.2⟩,List.all_eq_true.mpr fun c hc=>?_⟩
 have hc':c∈sN n:=by simpa [jE,qJ] using hc
 obtain ⟨a,b⟩:=CS n c hc'
 exact JE a b
structure oN (cs:List Str):Prop where
 ok:VW cs
 nd:cs.Nodup
 nm:∀ c∈cs,isName (.str c)=true
def Pt.size:Pt->Nat
 | .turn a=>a.size + 1
 | .two _ a b=>a.size + b.size + 1
 | _=>1
def Op.mid:Op->Str
 | .sum=>" + " | .less=>" - " | .by_=>" * "
def Pt.text:Pt->Str
 | .hole c=>Str.ofString "@"++c
 | .any=>"?"
 | .fr l h=>Str.ofString (toString l)++Str.ofString ".."++Str.ofString (toString h)
 | .turn a=>Str.ofString "(- "++a.text++Str.ofString ")"
 | .two o a b=>Str.ofString "("++a.text++o.mid++b.text++Str.ofString ")"
def Pt.sm (cs:List Str):Pt->Prop
 | .hole c=>c.length<=8/\c∈cs
 | .any=>True
 | .fr _ h=>h<=10 ^ 18
 | .turn a=>a.sm cs
 | .two _ a b=>a.sm cs/\b.sm cs
theorem An {n:Int} (h0:0<=n) (h1:n<=10 ^ 18):(Str.ofString (toString n)).length<=20:=by
 have h2:n.natAbs < 10 ^ 19:=by
  have:(10:Nat) ^ 19=10000000000000000000:=by decide
  rw [this];omega
 have h:=PySem.int_text_length_le10 (a:=n) (k:=19) (by decide) h2
 rw [PySem.ofString_length];exact h
theorem My:(Str.ofString "@").length=1:=by decide +kernel
theorem W6:(Str.ofString "?").length=1:=by decide +kernel
theorem y0:(Str.ofString "..").length=2:=by decide +kernel
theorem FE:(Str.ofString "(- ").length=3:=by decide +kernel
theorem vI:(Str.ofString "(").length=1:=by decide +kernel
theorem DZ:(Str.ofString ")").length=1:=by decide +kernel
theorem Vo (o:Op):o.mid.length=3:=by cases o <;> decide +kernel
theorem text_len {cs:List Str}:∀ {p:Pt},p.ok->p.sm cs->p.text.length<=50 * p.size
 | .hole c,h,k=>by
  have k':c.length<=8:=k.1
  simp only [Pt.text,Pt.size,len_app,My];omega
 | .any,h,k=>by simp only [Pt.text,Pt.size];rw [W6];omega
 | .fr l u,h,k=>by
  have h1:0<=l:=h.1
  have h2:l<=u:=h.2
  have h3:u<=10 ^ 18:=k
  have:=An h1 (by omega)
  have:=An (show 0<=u by omega) h3
  simp only [Pt.text,Pt.size,len_app,y0];omega
 | .turn a,h,k=>by
  have:=text_len (p:=a) h k
  simp only [Pt.text,Pt.size,len_app,FE,DZ];omega
 | .two o a b,h,k=>by
  have h1:=text_len h.1 k.1
  have h2:=text_len h.2 k.2
  simp only [Pt.text,Pt.size,len_app,vI,DZ,Vo];omega
def Xi (p:Pt):U:=.tup [p.toU,.int (p.size:Nat),.int (p.dep:Nat),.int (p.holes:Nat),.str p.text]
structure Pk (cs:List Str) (p:Pt):Prop where
 ok:p.ok
 sm:p.sm cs
 dep:p.dep<=5
 hol:p.holes<=4
 siz:p.size<=9
theorem Pk.len {cs:List Str} {p:Pt} (h:Pk cs p):p.text.length<=450:=by have:=text_len h.ok h.sm;have:=h.siz;omega
def Xd (p:Addr) (M:aE):Nat:=match M p with
 | some (.lst us)=>us.length
 | _=>0
theorem JZ (a b c:Str):a++b++c=a++(b++c):=by
 show (⟨(a.cps++b.cps)++c.cps⟩:Str)=⟨a.cps++(b.cps++c.cps)⟩
 rw [Array.append_assoc]
theorem join_eq (z:Str) (l:List Str):Txt.join z l=Str.join z l:=StrLaws.glued_eq_join z l
theorem VI (z a b c d:Str):Txt.join z [a,b,c,d]=a++z++b++z++c++z++d:=by
 rw [join_eq]
 simp only [Str.join,JZ]
theorem Lm (B:Nat):∀ l:List Str,(∀ s∈l,s.length<=B)->(l.map (·.length)).sum<=B * l.length
 | [],_=>by simp
 | a :: r,h=>by
  have h1:=h a List.mem_cons_self
  have h2:=Lm B r fun s hs=>h s (List.mem_cons_of_mem _ hs)
  simp only [List.map_cons,List.sum_cons,List.length_cons,Nat.mul_succ];omega
theorem qS {B n:Nat} {z:Str} {l:List Str} (hz:z.length<=1) (h:∀ s∈l,s.length<=B) (hl:l.length<=n) (hB:B * n + n<=100000):(l.map (·.length)).sum + l.length * z.length<=16777216/\(Txt.join z l).length<=B * n + n:=by
 have h1:=Lm B l h
 have h2:B * l.length<=B * n:=Nat.mul_le_mul_left _ hl
 have h3:l.length * z.length<=l.length * 1:=Nat.mul_le_mul_left _ hz
 have h4:=StrLaws.join_length_le z l
 rw [join_eq]
 omega
theorem sI (l:List Str):rY (l.map U.str)=some l:=by
 induction l with
 | nil=>rfl
 | cons a r ih=>simp only [List.map_cons,rY,ih];rfl
structure Tl where
 name:Str
 cls:Str
 pt:Pt
 cost:Int
def Tl.toU (t:Tl):U:=.tup [.str t.name,.str t.cls,t.pt.toU,.int t.cost]
def Tl.row (t:Tl):Str:=t.name++Str.ofString " "++t.cls++Str.ofString " "++Str.ofString (toString t.cost)++Str.ofString " "++t.pt.text
structure Tl.ok (cs:List Str) (t:Tl):Prop where
 nm:t.name.length<=8
 cl:t.cls.length<=8
 pt:Pk cs t.pt
 c0:0<=t.cost
 c1:t.cost<=1000
 nn:isName (.str t.name)=true
 ci:t.cls∈cs
 np:t.pt≠.hole t.cls
 no:PyData.strOk t.name=true
theorem mI:(Str.ofString " ").length=1:=by decide +kernel
theorem M9 (t:Tl):Txt.join (Str.ofString " ") [t.name,t.cls,Str.ofString (toString t.cost),t.pt.text]=t.row:=VI _ _ _ _ _
theorem Ow:(Str.ofString "\n").length=1:=by decide +kernel
def linesOf (cs:List Str) (tl:List Tl):List Str:=Txt.join (Str.ofString " ") cs :: tl.map Tl.row
theorem zZ {M:aE} {t:Tl}:view M t.toU=.tup [.str t.name,.str t.cls,t.pt.toU,.int t.cost]:=rfl
theorem E1 {n:Nat} (F:b8 K "places_of" "places_of" nO f fd) (hm:mg "places_of"=some (.ref f)) (eY:mg "enumerate"=none)
  (j9:Callee P w K mg base 1 "parts_of" vZ []) (sT:Callee P w K mg base (n + 1) "places_of" (rB n) []):Callee P w K mg base (n + 2) "places_of" (rB (n + 1)) []:=by
 refine cB F hm l8 (mK fun _ _ _ _ _ _ _=>rfl) (aG (aS 1 l8.nd (nX (own:=true) (aA (bB aB) aB)))
 (aG (yX (EY eY (aA (bD j9 (aA (uv 0) aB)) aB)) (yT (n:=2) (gY (cM (k:=1000) 2 l8.nd) (gY (cM (k:=1000) 3 l8.nd) uG)))
 (aM (qB (C4 (uv 1) (aA (lG false ["place","number"] 1 [2] (lZ (bD sT (aA (uv 3) aB))) (cM (k:=1) 0 (by dsimp only [cP];decide +kernel)) lJ (aQ (own:=false) (bB (aA (uv 1) aB)) (uv 0))) aB)))))
 (aM (aR (uv 1))))) ?_
 rintro us M Q ⟨t,rfl,hd,hz,q⟩
 refine ⟨rfl,?_⟩
 have hbig:∀ a:Pt,a.dep<=10->a.places.length<=1024:=fun a ha=>by
  have h1:=places_len a
  have h2:2 ^ a.dep<=2 ^ 10:=Nat.pow_le_pow_right (by decide) ha
  omega
 dsimp? only [aF,aK,aD,hX,h7]
 refine fun p hp=>?_
 refine uH (S:=⟨none,numbered (t.parts.map Pt.toU)⟩) (M1:=mup M p (.lst [.tup []])) (fun R r=>?_)
  (fun i τ Mi=>∃ b c,τ=[some t.toU,some (.ref p),b,c]/\Mi=mup M p (.lst (([] :: fA 0 (t.parts.take i)).map fC))) ⟨none,none,rfl,rfl⟩ nk ?_ ?_
 ·obtain ⟨z,rr,e,e1,e2,e3⟩:=L0 t
  refine ⟨z,rr,!t.leafy,by rw [<- e];rfl,e1,by omega,?_⟩
  cases hl:t.leafy with
  | true=>simp only [hl,Bool.not_true,Bool.false_eq_true,if_false];rw [JI hl] at r;exact r
  | false=>simp only [hl,Bool.not_false,if_true];rw [e2 hl];exact r
 ·rintro i x τ Mi e ⟨b,c,rfl,rfl⟩
  obtain ⟨u,hu,rfl⟩:=y8 e
  rw [List.getElem?_map] at hu
  cases hp':t.parts[i]? with
  | none=>rw [hp'] at hu;cases hu
  | some a =>
   rw [hp'] at hu
   cases hu
   have ha:=Nw hp'
   have hin:fA 0 (t.parts.take (i + 1))=fA 0 (t.parts.take i)++a.places.map (i :: ·):=by
    have hlt:=(List.getElem?_eq_some_iff.mp hp').1
    rw [List.take_add_one,hp']
    have:=Jm (t.parts.take i) a 0
    rw [List.length_take,Nat.min_eq_left (Nat.le_of_lt hlt),Nat.zero_add] at this
    exact this
   have hb1:=hbig a (by omega)
   dsimp? only [aF,aK,aD,hX,h7]
   refine ⟨lM,iG (S:=⟨none,a.places.map fC⟩) (M1:=mup M p (MO.lst (fC [] :: List.map fC (fA 0 (List.take i t.parts))))) (a.places.map fun pl=>fC (i :: pl)) (fun R r'=>⟨a,rfl,by omega,by omega,r'⟩) (by simp) ?_ (fun a e=>by cases e) ?_ ?_⟩
   ·show (a.places.map fC).length<=sizeLine
    rw [List.length_map]
    exact small (by omega)
   ·intro j x y hx hy M' _ R r'
    have hx':(a.places.map fC)[j]?=some x:=hx
    rw [List.getElem?_map] at hx' hy
    cases hpl:a.places[j]? with
    | none=>rw [hpl] at hx';cases hx'
    | some pl =>
     rw [hpl] at hx' hy
     cases hx'
     cases hy
     have h1:=nS a pl (List.mem_of_getElem? hpl)
     dsimp? only [fC,aF,aK,aD,hX,h7]
     refine ⟨small ?_,?_⟩
     ·simp only [List.length_cons,List.length_nil,List.length_map];omega
     ·simpa [fC] using r'
   ·have h1:=Oz t i
    have h2:=hbig t (by omega)
    dsimp? only [aF,aK,aD,hX,h7]
    refine ⟨small ?_,_,_,rfl,?_⟩
    ·simp only [List.length_map];omega
    ·rw [hin,List.map_append,List.map_map];rfl
 ·rintro τ Mi ⟨b,c,rfl,rfl⟩
  rw [zH,List.length_map,List.take_length,<- places_eq]
  dsimp? only [aF,aK,aD,hX,h7]
  exact ⟨_,M,(Sub.refl M).mup hp,.inr ⟨p,_,rfl,bM,hp,rfl⟩,q⟩
theorem Bl (F:b8 K "places_of" "places_of" nO f fd) (hm:mg "places_of"=some (.ref f)) (eY:mg "enumerate"=none) (j9:Callee P w K mg base 1 "parts_of" vZ []):∀ n,Callee P w K mg base (n + 1) "places_of" (rB n) []
 | 0=>by
  have no:∀ us M Q,¬ rB 0 us M Q:=fun us M Q h=>by
   obtain ⟨p,_,h,_⟩:=h
   have:=MQ p
   omega
  refine ⟨f,fd,["shape"],[],[],⟨fun vs H Q E h=>?_,fun A outer s H args us vs Q E _ _ _ _ h=>?_⟩,hm,F.kp,F.binds (mK fun _ _ _ _ _ _ _=>rfl),.nil,fun H M=>.nil⟩
  ·obtain ⟨us,M,Q',_,_,h,_⟩:=h;exact absurd h (no us M Q')
  ·obtain ⟨us,M,Q',_,_,h,_⟩:=h;exact absurd h (no us M Q')
 | n + 1=>E1 F hm eY j9 (Bl F hm eY j9 n)
theorem Gi (F:b8 K "shape_at" "shape_at" xD f fd) (hm:mg "shape_at"=some (.ref f)) (j9:Callee P w K mg base 1 "parts_of" vZ []):Callee P w K mg base 2 "shape_at" PJ []:=by
 refine cB F hm nN (mJ fun _ _ _ _ _ _ _ _=>rfl) (aG (aS 2 nN.nd (uv 0))
 (aG (yX (lZ (uv 1)) (cM (k:=1000) 3 nN.nd)
 (aM (aS 2 nN.nd (aV (bD j9 (aA (uv 2) aB)) (uv 3)))))
 (aM (aR (uv 2))))) ?_
 rintro us M Q ⟨u,v,pl,rfl,hpl,q⟩
 refine ⟨rfl,?_⟩
 dsimp? only [aF,aK,aD,hX,h7]
 refine uH (S:=⟨none,pl.map fun (n:Nat)=>U.int (n:Int)⟩) (M1:=M) (fun R r=>r)
  (fun i τ Mi=>∃ (h:U) (c:Option U),τ=[some u,some (fC pl),some h,c]/\Mi=M/\pJ u (pl.take i)=some h) ⟨u,none,rfl,rfl,rfl⟩ nk ?_ ?_
 ·rintro i x τ Mi e ⟨h,c,rfl,rfl,hh⟩
  have e':(pl.map fun (n:Nat)=>U.int (n:Int))[i]?=some x:=e
  rw [List.getElem?_map] at e'
  cases hk:pl[i]? with
  | none=>rw [hk] at e';cases e'
  | some k =>
   rw [hk] at e'
   cases e'
   have hnx:pJ u (pl.take (i + 1))=jB h k:=by
    rw [List.take_add_one,hk]
    show pJ u (pl.take i++[k])=_
    rw [DX,hh];rfl
   cases hs:jB h k with
   | none =>
    rw [hs] at hnx
    have:=E7 (pl.take (i + 1)) (pl.drop (i + 1)) u hnx
    rw [List.take_append_drop,hpl] at this
    cases this
   | some w' =>
    rw [hs] at hnx
    obtain ⟨z,r,rfl,hz,hr,hs'⟩:=MF hs
    dsimp? only [aF,aK,aD,hX,h7]
    refine ⟨z,r,true,rfl,hz,hr,?_⟩
    dsimp? only [aF,aK,aD,hX,h7]
    exact ⟨w',iX hs',w',_,rfl,hnx⟩
 ·rintro τ Mi ⟨h,c,rfl,rfl,hh⟩
  simp only [List.length_map,List.take_length] at hh
  rw [hpl] at hh
  cases hh
  dsimp? only [aF,aK,aD,hX,h7]
  exact aL q
def hF (e:List Nat × Pt):Option (List Nat × Str):=match e.2 with
 | .hole c=>some (e.1,c)
 | _=>none
def sU (e:List Nat × Str):U:=.tup [fC e.1,.str e.2]
def Td (p:Pt):List (List Nat × Str):=(cQ p []).filterMap hF
def hU:U->Option U
 | .tup [a,.tup (.str z :: r)]=>if decide (z=Str.ofString "at") then (r.head?).map fun c=>.tup [a,c] else none
 | _=>none
theorem Ln (e:List Nat × Pt):hU (gF e)=(hF e).map sU:=by
 obtain ⟨pl,q⟩:=e
 have e1:decide (Str.ofString "at"=Str.ofString "at")=true:=by simp
 cases q with
 | hole c=>simp only [gF,Pt.toU,hU,e1,hF,sU];rfl
 | any=>simp only [gF,Pt.toU,hU,uJ,uS,uE,tZ,uA,tY,t8,hF];rfl
 | fr l h=>simp only [gF,Pt.toU,hU,uJ,uS,uE,tZ,uA,tY,t8,hF];rfl
 | turn a=>simp only [gF,Pt.toU,hU,uJ,uS,uE,tZ,uA,tY,t8,hF];rfl
 | two o a b=>simp only [gF,Pt.toU,hU,uJ,uS,uE,tZ,uA,tY,t8,hF];rfl
theorem UD (l:List (List Nat × Pt)):(l.map gF).filterMap hU=(l.filterMap hF).map sU:=by
 induction l with
 | nil=>rfl
 | cons e l ih =>
  rw [List.map_cons,List.filterMap_cons,List.filterMap_cons,Ln,ih]
  cases hF e <;> rfl
def Hd:cF:=fun us M Q=>∃ p:Pt,us=[p.toU]/\p.dep<=6/\Q (.lst ((Td p).map sU)) M
theorem MM (F:b8 K "holes" "holes" Co f fd) (hm:mg "holes"=some (.ref f)) (sT:Callee P w K mg base 7 "places_of" (rB 6) []) (JJ:Callee P w K mg base 2 "shape_at" PJ []):Callee P w K mg base 8 "holes" Hd []:=by
 refine cB F hm Es (mK fun _ _ _ _ _ _ _=>rfl) (aG (Ro 1 Es.nd false ["place","pattern"] 1 [0] (lZ (bD sT (aA (uv 0) aB))) (cM (k:=1) 0 (by dsimp only [cP];decide +kernel)) lJ (bB (aA (uv 0) (aA (bD JJ (aA (uv 1) (aA (uv 0) aB))) aB))))
 (aM (aR (lG false ["place","piece"] 2 [] (lZ (uv 1)) (yT (n:=2) (gY (cM (k:=2) 0 (by dsimp only [cP];decide +kernel)) (gY (cM (k:=2) 1 (by dsimp only [cP];decide +kernel)) uG))) (Qn (bS cG (aV (uv 1) aJ) bZ)) (bB (aA (uv 0) (aA (aV (uv 1) aJ) aB))))))) ?_
 rintro us M Q ⟨p,rfl,hd,q⟩
 refine ⟨rfl,?_⟩
 have hsp:(cQ p []).map (·.1)=p.places:=by rw [kT];simp
 have hpl:p.places.length<=64:=by
  have h1:=places_len p
  have h2:2 ^ p.dep<=2 ^ 6:=Nat.pow_le_pow_right (by decide) hd
  omega
 have hsl:(cQ p []).length=p.places.length:=by rw [<- hsp,List.length_map]
 dsimp? only [aF,aK,aD,hX,h7]
 refine iG (S:=⟨none,p.places.map fC⟩) (M1:=M) ((cQ p []).map gF) (fun R r=>⟨p,rfl,hd,by decide,r⟩) (by simp [hsl]) (small (by show (p.places.map fC).length<=_;rw [List.length_map];omega)) (fun a e=>by cases e) ?_ ?_
 ·intro j x y hx hy M' _ R r'
  have hx':(p.places.map fC)[j]?=some x:=hx
  rw [<- hsp,List.map_map,List.getElem?_map] at hx'
  rw [List.getElem?_map] at hy
  cases hj:(cQ p [])[j]? with
  | none=>rw [hj] at hy;cases hy
  | some e =>
   rw [hj] at hx' hy
   cases hx'
   cases hy
   obtain ⟨s,h1,h2⟩:=zT p [] e (List.mem_of_getElem? hj)
   rw [List.nil_append] at h1
   dsimp? only [aF,aK,aD,hX,h7]
   refine ⟨p.toU,e.2.toU,e.1,rfl,by rw [h1];exact h2,?_⟩
   dsimp? only [aF,aK,aD,hX,h7]
   exact r'
 ·dsimp? only [aF,aK,aD,hX,h7]
  refine BK (S:=⟨none,(cQ p []).map gF⟩) (M1:=M) hU (fun R r=>r) (small (by show ((cQ p []).map gF).length<=_;rw [List.length_map];omega)) (fun a e=>by cases e) ?_ ?_
  ·intro x hx M' _ R r
   obtain ⟨e,he,rfl⟩:=List.mem_map.mp hx
   rw [Ln] at r
   obtain ⟨pl,pt⟩:=e
   cases pt with
   | hole c=>dsimp? only [gF,hF,sU,Pt.toU,uJ,uS,uE,tZ,uA,tY,t8,Option.map_some,aF,aK,aD,hX,h7] at r ⊢;exact r
   | any=>dsimp? only [gF,hF,sU,Pt.toU,uJ,uS,uE,tZ,uA,tY,t8,Option.map_none,aF,aK,aD,hX,h7] at r ⊢;exact r
   | fr l h=>dsimp? only [gF,hF,sU,Pt.toU,uJ,uS,uE,tZ,uA,tY,t8,Option.map_none,aF,aK,aD,hX,h7] at r ⊢;exact r
   | turn a=>dsimp? only [gF,hF,sU,Pt.toU,uJ,uS,uE,tZ,uA,tY,t8,Option.map_none,aF,aK,aD,hX,h7] at r ⊢;exact r
   | two o a b=>dsimp? only [gF,hF,sU,Pt.toU,uJ,uS,uE,tZ,uA,tY,t8,Option.map_none,aF,aK,aD,hX,h7] at r ⊢;exact r
  ·rw [show (Src.mk none ((cQ p []).map gF)).xs=(cQ p []).map gF from rfl,UD]
   simp only [jX]
   exact aL q
def A7 (p:List Nat):List Int:=p.map fun (n:Nat)=>(n:Int)
theorem WS (k:Nat) (p q:List Nat):HT.lexLt (A7 (k :: p)) (A7 (k :: q))=HT.lexLt (A7 p) (A7 q):=by
 simp only [A7,List.map_cons,HT.BX,if_true]
def Lx (a b:List Nat):Prop:=HT.lexLt (A7 a) (A7 b)=true
theorem VT (p:Pt):(cQ p []).map (·.1)=p.places:=by rw [kT];simp
theorem N5:bU cO (Str.ofString "turn")=some (.int 1):=by kernel_rfl
theorem RV (o:Op):bU cO o.word=some (.int 2):=by cases o <;> kernel_rfl
inductive G where
 | leaf (u:U) (b:Bool) | turn (a:G) | two (o:Op) (a b:G)
namespace G
def toU:G->U
 | leaf u _=>u
 | turn a=>.tup [.str "turn",a.toU]
 | two o a b=>.tup [.str o.word,a.toU,b.toU]
def size:G->Nat
 | leaf _ _=>1
 | turn a=>a.size + 1
 | two _ a b=>a.size + b.size + 1
def dep:G->Nat
 | leaf _ _=>1
 | turn a=>a.dep + 1
 | two _ a b=>max a.dep b.dep + 1
def fit:G->Bool
 | leaf _ b=>b
 | turn a=>a.fit
 | two _ a b=>a.fit && b.fit
def wf (L:U->Bool->Prop):G->Prop
 | leaf u b=>L u b
 | turn a=>a.wf L
 | two _ a b=>a.wf L/\b.wf L
end G
def ent (x:G × Nat):U:=.tup [x.1.toU,.int (x.2:Nat)]
def uM:List (G × Nat)->Nat
 | []=>0
 | x :: r=>x.1.size + uM r
theorem uY:∀ l r:List (G × Nat),uM (l++r)=uM l + uM r
 | [],_=>by simp [uM]
 | t :: l,r=>by simp [uM,uY l r];omega
def VV (c:Nat) (st:List (G × Nat)):Prop:=c + uM st<=9/\(∀ x∈st,x.2 + x.1.dep<=6)/\∀ x∈st,x.1.fit=true
def mR (g:G):Bool:=decide (g.size<=9) && (decide (g.dep<=5) && g.fit)
theorem ET (g:G):mR g=true ↔ VV 0 [(g,1)]:=by
 unfold mR VV
 simp only [Bool.and_eq_true,decide_eq_true_eq,uM,List.mem_cons,List.not_mem_nil,or_false,forall_eq]
 constructor
 ·rintro ⟨a,b,c⟩;exact ⟨by omega,by omega,c⟩
 ·rintro ⟨a,b,c⟩;exact ⟨by omega,by omega,c⟩
theorem QD {c d:Nat} {st:List (G × Nat)} {a:G}:VV (c + 1) (st++[(a,d + 1)]) ↔ VV c (st++[(G.turn a,d)]):=by
 unfold VV
 simp only [uY,uM,List.mem_append,List.mem_cons,List.not_mem_nil,or_false,G.size]
 constructor
 ·rintro ⟨h1,h2,h3⟩
  refine ⟨by omega,fun x hx=>?_,fun x hx=>?_⟩
  ·rcases hx with hx | rfl
   ·exact h2 x (.inl hx)
   ·have:=h2 (a,d + 1) (.inr rfl);simp only [G.dep] at this ⊢;omega
  ·rcases hx with hx | rfl
   ·exact h3 x (.inl hx)
   ·exact h3 (a,d + 1) (.inr rfl)
 ·rintro ⟨h1,h2,h3⟩
  refine ⟨by omega,fun x hx=>?_,fun x hx=>?_⟩
  ·rcases hx with hx | rfl
   ·exact h2 x (.inl hx)
   ·have:=h2 (G.turn a,d) (.inr rfl);simp only [G.dep] at this ⊢;omega
  ·rcases hx with hx | rfl
   ·exact h3 x (.inl hx)
   ·exact h3 (G.turn a,d) (.inr rfl)
theorem U5 {c d:Nat} {st:List (G × Nat)} {a b:G} {o:Op}:VV (c + 1) (st++[(a,d + 1),(b,d + 1)]) ↔ VV c (st++[(G.two o a b,d)]):=by
 unfold VV
 simp only [uY,uM,List.mem_append,List.mem_cons,List.not_mem_nil,or_false,G.size]
 constructor
 ·rintro ⟨h1,h2,h3⟩
  refine ⟨by omega,fun x hx=>?_,fun x hx=>?_⟩
  ·rcases hx with hx | rfl
   ·exact h2 x (.inl hx)
   ·have e1:=h2 (a,d + 1) (.inr (.inl rfl));have e2:=h2 (b,d + 1) (.inr (.inr rfl));simp only [G.dep] at e1 e2 ⊢;omega
  ·rcases hx with hx | rfl
   ·exact h3 x (.inl hx)
   ·have e1:=h3 (a,d + 1) (.inr (.inl rfl));have e2:=h3 (b,d + 1) (.inr (.inr rfl));simp only [G.fit] at e1 e2 ⊢;rw [e1,e2];rfl
 ·rintro ⟨h1,h2,h3⟩
  have e1:=h2 (G.two o a b,d) (.inr rfl)
  have e2:=h3 (G.two o a b,d) (.inr rfl)
  simp only [G.dep,G.fit,Bool.and_eq_true] at e1 e2
  refine ⟨by omega,fun x hx=>?_,fun x hx=>?_⟩
  ·rcases hx with hx | rfl | rfl
   ·exact h2 x (.inl hx)
   ·simp only;omega
   ·simp only;omega
  ·rcases hx with hx | rfl | rfl
   ·exact h3 x (.inl hx)
   ·exact e2.1
   ·exact e2.2
theorem RS {c d:Nat} {st:List (G × Nat)} {u:U} (hd:d<=5):VV (c + 1) st ↔ VV c (st++[(G.leaf u true,d)]):=by
 unfold VV
 simp only [uY,uM,List.mem_append,List.mem_cons,List.not_mem_nil,or_false,G.size]
 constructor
 ·rintro ⟨h1,h2,h3⟩
  refine ⟨by omega,fun x hx=>?_,fun x hx=>?_⟩
  ·rcases hx with hx | rfl
   ·exact h2 x hx
   ·simp only [G.dep];omega
  ·rcases hx with hx | rfl
   ·exact h3 x hx
   ·rfl
 ·rintro ⟨h1,h2,h3⟩
  exact ⟨by omega,fun x hx=>h2 x (.inl hx),fun x hx=>h3 x (.inl hx)⟩
theorem Q9 {α:Type} (l:List α):l=[]\/∃ r x,l=r++[x]:=by
 rcases List.eq_nil_or_concat l with h | ⟨r,x,h⟩
 ·exact .inl h
 ·exact .inr ⟨r,x,by simpa using h⟩
def Gv (fl:Addr) (s:cF):cF:=fun us M Q=>∃ (g:G) (L:U->Bool->Prop),us=[g.toU,.ref fl,.int 9,.int 5]/\g.wf L/\(∀ u b,L u b->∃ b',LF u b')/\(∀ u b M' Q',Sub M M'->L u b->Q' (.bl b) M'->s [u] M' Q')/\Q (.bl (mR g)) M
theorem F6 (F:b8 K "is_shape" "is_shape" v8 f fd) (hm:mg "is_shape"=some (.ref f)) (JW:Callee P w K mg base 1 "is_sign" EX []) {s:cF} {ka:Nat} (A_is_leaf:mY P w K mg base (ka + 1) fl s):Callee P w K mg base (ka + 2) "is_shape" (Gv fl s) []:=by
 refine cB F hm iO (TN fun _ _ _ _ _ _ _ _ _ _=>rfl) (aG (aS 4 iO.nd aJ)
 (aG (aS 5 iO.nd (nX (own:=true) (aA (bB (aA (uv 0) (aA aJ aB))) aB)))
 (aG (v7 (cN (uv 5))
 (aG (aS 6 iO.nd (Km (uv 5)))
 (aG (aS 7 iO.nd (aV (uv 6) aJ))
 (aG (aS 8 iO.nd (aV (uv 6) aJ))
 (aG (aS 4 iO.nd (aQ (own:=false) (uv 4) aJ))
 (aG (bY (i9.pt (iW (bS D9 (uv 4) (uv 2)) (iB (bS D9 (uv 8) (uv 3)))))
 (aM (aR n5))
 aY)
 (aM (bY (cN (bD JW (aA (uv 7) aB)))
 (aM (qB (C4 (uv 5) (aA (lG false ["part","depth"] 1 [8] (lZ (kQ (own:=false) (uv 7) (dO aJ) Cv)) (cM (k:=1) 0 (by dsimp only [cP];decide +kernel)) lJ (bB (aA (uv 0) (aA (aQ (own:=false) (uv 1) aJ) aB)))) aB))))
 (aM (bY (c5 (cN (MI 1 A_is_leaf (aA (uv 7) aB))))
 (aM (aR n5))
 aY))))))))))
 (aM (aR n5))))) ?_
 rintro us M Q ⟨g,L,rfl,hwf,hLF,hs,q⟩
 refine ⟨rfl,?_⟩
 dsimp? only [aF,aK,aD,dG,lD,eE,qR,qN,fB,iH,iF]
 refine fun p hp=>?_
 refine lA (fun τ M'=>∃ (c:Nat) (st:List (G × Nat)) (e1 e2 e3:Option U),τ=[some g.toU,some (.ref fl),some (.int 9),some (.int 5),some (.int (c:Nat)),some (.ref p),e1,e2,e3]/\M'=mup M p (.lst (st.map ent))/\(∀ x∈st,x.1.wf L)/\c<=9/\st.length<=c + 1/\(VV c st ↔ VV 0 [(g,1)]))
  (fun τ _=>match τ with | [_,_,_,_,some (.int c),_,_,_,_]=>10 - c.toNat | _=>0) ⟨0,[(g,1)],none,none,none,rfl,rfl,(fun x hx=>by cases List.mem_singleton.mp hx;exact hwf),by omega,by simp,Iff.rfl⟩ ?_
 rintro τ M' ⟨c,st,e1,e2,e3,rfl,rfl,hst,hc,hlen,hV⟩
 have no:¬ VV c st->Q (.bl false) M:=fun h=>by
  have:mR g=false:=by
   cases hv:mR g with
   | false=>rfl
   | true=>exact absurd (hV.mpr ((ET g).mp hv)) h
  rw [this] at q
  exact q
 have fin:∀ us,hZ Q (.bl false) (mup M p (.lst us)) ↔ hZ Q (.bl false) (mup M p (.lst us)):=fun _=>Iff.rfl
 have out:∀ us,Q (.bl false) M->hZ Q (.bl false) (mup M p (.lst us)):=fun us h=>⟨_,M,(Sub.refl M).mup hp,.inl rfl,h⟩
 rcases Q9 st with rfl | ⟨st,⟨x,dd⟩,rfl⟩
 ·dsimp? only [List.isEmpty_nil,aF,aK,aD,dG,lD,eE,qR,qN,fB,iH,iF]
  have:mR g=true:=by
   rw [ET,<- hV]
   exact ⟨by simp only [uM];omega,(fun x hx=>by cases hx),(fun x hx=>by cases hx)⟩
  rw [this] at q
  exact ⟨_,M,(Sub.refl M).mup hp,.inl rfl,q⟩
 ·have hlen':st.length<=c:=by simpa using hlen
  have hxw:x.wf L:=hst (x,dd) (by simp)
  have hse:(st.map ent++[U.tup [x.toU,U.int (dd:Nat)]]).isEmpty=false:=by simp
  dsimp? only [List.map_append,hse,WI,WN,ent,aF,aK,aD,dG,lD,eE,qR,qN,fB,iH,iF]
  refine ⟨lM,oR (fun h=>?_) (fun h=>oR (fun h2=>?_) (fun h2=>?_))⟩
  ·refine out _ (no fun hv=>?_)
   have:=of_decide_eq_true h
   have h3:=hv.1
   rw [uY] at h3
   have h4:1<=x.size:=by cases x <;> simp only [G.size] <;> omega
   simp only [uM] at h3
   omega
  ·refine out _ (no fun hv=>?_)
   have:=of_decide_eq_true h2
   have h3:=hv.2.1 (x,dd) (by simp)
   have h4:1<=x.dep:=by cases x <;> simp only [G.dep] <;> omega
   simp only at h3
   omega
  ·have hc1:c + 1<=9:=by
    have:¬ (9:Int) < (c:Int) + 1:=fun z=>h (decide_eq_true z)
    omega
   have hdd:dd<=5:=by
    have:¬ (5:Int) < (dd:Int):=fun z=>h2 (decide_eq_true z)
    omega
   have hst':∀ y∈st,y.1.wf L:=fun y hy=>hst y (by simp [hy])
   cases x with
   | leaf u b =>
    obtain ⟨b',hb'⟩:=hLF u b hxw
    refine ⟨_,rfl,.inl ⟨b',hb',?_⟩⟩
    dsimp? only [aF,aK,aD,dG,lD,eE,qR,qN,fB,iH,iF]
    refine hs u b _ _ ((Sub.refl M).mup hp) hxw ?_
    cases b with
    | false =>
     dsimp? only [aF,aK,aD,dG,lD,eE,qR,qN,fB,iH,iF]
     refine out _ (no fun hv=>?_)
     have:=hv.2.2 (G.leaf u false,dd) (by simp)
     cases this
    | true =>
     dsimp? only [aF,aK,aD,dG,lD,eE,qR,qN,fB,iH,iF]
     refine ⟨⟨c + 1,st,_,_,_,rfl,rfl,hst',hc1,by omega,?_⟩,by omega⟩
     rw [<- hV]
     exact RS hdd
   | turn a =>
    refine ⟨_,rfl,.inr ⟨_,_,rfl,N5,?_⟩⟩
    dsimp? only [G.toU,aF,aK,aD,dG,lD,eE,qR,qN,fB,iH,iF]
    refine ⟨lM,iG (S:=⟨none,[a.toU]⟩) (M1:=mup M p (.lst (st.map ent))) [ent (a,dd + 1)] (fun R r=>?_) rfl (show 1<=sizeLine by decide) (fun a e=>by cases e) ?_ ?_⟩
    ·dsimp? only [OC,aF,aK,aD,dG,lD,eE,qR,qN,fB,iH,iF]
     exact r
    ·intro j x y hx hy M' _ R r'
     match j,hx,hy with
     | 0,hx,hy =>
      cases hx;cases hy
      dsimp? only [aF,aK,aD,dG,lD,eE,qR,qN,fB,iH,iF]
      first | refine ⟨by decide,?_⟩ | skip
      have e:U.tup [a.toU,U.int ((dd:Int) + 1)]=ent (a,dd + 1):=rfl
      rw [e];exact r'
     | j + 1,hx,hy=>cases hx
    ·dsimp? only [aF,aK,aD,dG,lD,eE,qR,qN,fB,iH,iF]
     refine ⟨small (by simp;omega),⟨c + 1,st++[(a,dd + 1)],_,_,_,rfl,by rw [List.map_append];rfl,?_,hc1,by simp;omega,?_⟩,by omega⟩
     ·intro y hy
      rcases List.mem_append.mp hy with hy | hy
      ·exact hst' y hy
      ·cases List.mem_singleton.mp hy;exact hxw
     ·rw [<- hV];exact QD
   | two o a b =>
    refine ⟨_,rfl,.inr ⟨_,_,rfl,RV o,?_⟩⟩
    dsimp? only [G.toU,aF,aK,aD,dG,lD,eE,qR,qN,fB,iH,iF]
    refine ⟨lM,iG (S:=⟨none,[a.toU,b.toU]⟩) (M1:=mup M p (.lst (st.map ent))) [ent (a,dd + 1),ent (b,dd + 1)] (fun R r=>?_) rfl (show 2<=sizeLine by decide) (fun a e=>by cases e) ?_ ?_⟩
    ·dsimp? only [OC,aF,aK,aD,dG,lD,eE,qR,qN,fB,iH,iF]
     exact r
    ·intro j x y hx hy M' _ R r'
     match j,hx,hy with
     | 0,hx,hy =>
      cases hx;cases hy
      dsimp? only [aF,aK,aD,dG,lD,eE,qR,qN,fB,iH,iF]
      first | refine ⟨by decide,?_⟩ | skip
      have e:U.tup [a.toU,U.int ((dd:Int) + 1)]=ent (a,dd + 1):=rfl
      rw [e];exact r'
     | 1,hx,hy =>
      cases hx;cases hy
      dsimp? only [aF,aK,aD,dG,lD,eE,qR,qN,fB,iH,iF]
      first | refine ⟨by decide,?_⟩ | skip
      have e:U.tup [b.toU,U.int ((dd:Int) + 1)]=ent (b,dd + 1):=rfl
      rw [e];exact r'
     | j + 2,hx,hy=>cases hx
    ·dsimp? only [aF,aK,aD,dG,lD,eE,qR,qN,fB,iH,iF]
     refine ⟨small (by simp;omega),⟨c + 1,st++[(a,dd + 1),(b,dd + 1)],_,_,_,rfl,by rw [List.map_append];rfl,?_,hc1,by simp;omega,?_⟩,by omega⟩
     ·intro y hy
      rcases List.mem_append.mp hy with hy | hy
      ·exact hst' y hy
      ·simp only [List.mem_cons,List.not_mem_nil,or_false] at hy
       rcases hy with rfl | rfl
       ·exact hxw.1
       ·exact hxw.2
     ·rw [<- hV];exact U5
def LP (cs:List Str) (u:U) (b:Bool):Prop:=plain u/\BZ u=false/\b=iV cs u
def QP:Str:=Str.ofString "is_pattern"++Str.ofString ".<locals>."++Str.ofString "<lambda>"
def isAt:U->Bool
 | .tup (.str z :: _)=>decide (z=Str.ofString "at")
 | _=>false
namespace G
def holes:G->Nat
 | leaf u _=>if isAt u then 1 else 0
 | turn a=>a.holes
 | two _ a b=>a.holes + b.holes
end G
def mL (g:G):Bool:=mR g && decide (g.holes<=4)
theorem RK {cs:List Str} {u:U} (hp:plain u) (h:iV cs u=true):∃ p:Pt,p.toU=u/\p.dep=1/\p.holes=(if isAt u then 1 else 0):=by
 cases u with
 | tup us =>
  cases us with
  | nil=>cases h
  | cons x r =>
   cases x with
   | str z =>
    simp only [iV] at h
    by_cases h1:z=Str.ofString "at"
    ·subst h1
     rw [if_pos rfl] at h
     rcases r with _ | ⟨a,_ | ⟨b,r⟩⟩
     ·cases h
     ·cases a with
      | str y=>exact ⟨.hole y,rfl,rfl,by simp [isAt,Pt.holes]⟩
      | _=>cases h
     ·cases h
    ·rw [if_neg h1] at h
     by_cases h2:z=Str.ofString "from"
     ·subst h2
      rw [if_pos rfl] at h
      rcases r with _ | ⟨a,_ | ⟨b,_ | ⟨c,r⟩⟩⟩
      ·cases h
      ·cases h
      ·dsimp only at h
       cases a with
       | int i =>
        cases b with
        | int j=>exact ⟨.fr i j,rfl,rfl,by simp [isAt,Pt.holes,h1]⟩
        | _=>simp [tG] at h
       | _=>simp [tG] at h
      ·cases h
     ·rw [if_neg h2,Bool.and_eq_true] at h
      obtain ⟨h3,h4⟩:=h
      have:=of_decide_eq_true h3
      subst this
      cases r with
      | nil=>exact ⟨.any,rfl,rfl,by simp [isAt,Pt.holes,h1]⟩
      | cons a r=>cases h4
   | _=>cases h
 | _=>cases h
theorem yS {cs:List Str}:∀ (g:G),g.wf (LP cs)->g.fit=true->∃ p:Pt,p.toU=g.toU/\p.dep=g.dep/\p.holes=g.holes
 | .leaf u b,⟨hp,_,hb⟩,h=>by
  simp only [G.fit] at h
  rw [h] at hb
  obtain ⟨p,h1,h2,h3⟩:=RK hp hb.symm
  exact ⟨p,h1,h2,h3⟩
 | .turn a,h1,h=>by
  obtain ⟨p,e1,e2,e3⟩:=yS a h1 h
  exact ⟨.turn p,by simp only [Pt.toU,G.toU,e1],by simp only [Pt.dep,G.dep,e2],e3⟩
 | .two o a b,h1,h=>by
  simp only [G.fit,Bool.and_eq_true] at h
  obtain ⟨p,e1,e2,e3⟩:=yS a h1.1 h.1
  obtain ⟨p',f1,f2,f3⟩:=yS b h1.2 h.2
  exact ⟨.two o p p',by simp only [Pt.toU,G.toU,e1,f1],by simp only [Pt.dep,G.dep,e2,f2],by simp only [Pt.holes,G.holes,e3,f3]⟩
theorem QZ:∀ (p:Pt) (pl:List Nat),((cQ p pl).filterMap hF).length=p.holes:=by
 intro p
 induction p with
 | hole c=>intro pl;rfl
 | any=>intro pl;rfl
 | fr l h=>intro pl;rfl
 | turn a ih=>intro pl;simp only [cQ,Pt.holes,List.filterMap_cons,hF];exact ih _
 | two o a b iha ihb=>intro pl;simp only [cQ,Pt.holes,List.filterMap_cons,List.filterMap_append,List.length_append,hF,iha,ihb]
def GJ (Pt:Addr):cF:=fun us M Q=>∃ (g:G) (cs:List Str),us=[g.toU,.tup (cs.map U.str)]/\g.wf (LP cs)/\(∀ c∈cs,PyData.strOk c=true)/\M Pt=some (.tbl QP)/\Q (.bl (mL g)) M
theorem Dj {c0 Pt fsh:Addr} {t1 t2 t3:Tok} (F:b8 K "is_pattern" "is_pattern" eD f fd) (hfd:fd.code=.ref c0) (hm:mg "is_pattern"=some (.ref f)) (hK:PySem.W.codeHdIn K c0 Pt=true) (hB:jO base mg) (kB:mg "is_shape"=some (.ref fsh)) (k_is_shape:PySem.W.keepIn K (.ref fsh)=true) (bF:mg "len"=none)
  (oU:mg "MOST_PIECES"=some (.int 9 t1)) (oO:mg "MOST_WITHIN"=some (.int 5 t2)) (qX:mg "MOST_HOLES"=some (.int 4 t3))
  (JA:∀ (base:Heap) (fl:Addr) (s:cF),jO base mg->mY P w K mg base 4 fl s->Callee P w K mg base 5 "is_shape" (Gv fl s) []) (CL_is_pattern_leaf:∀ base,jO base mg->Callee P w K mg base 3 "is_pattern_leaf" Ck []) (QN:Callee P w K mg base 8 "holes" Hd []):Callee P w K mg base 9 "is_pattern" (GJ Pt) []:=by
 refine HC F hfd hm Dr (mJ fun _ _ _ _ _ _ _ _=>rfl) (fun us M Q h=>by obtain ⟨_,_,rfl,_⟩:=h;rfl) (aG (bY (c5 (cN (Nu (P:=Pt) (q:=QP) 3 ["leaf","classes"] ["leaf"] [1] kB k_is_shape JA hB (Cp (uv 0) (Vk (P:=Pt) (q:=QP) hK hB (Cp (kN oU) (Cp (kN oO) U0)))) (fun base hBm=>(bD (CL_is_pattern_leaf base hBm) (aA (uv 0) (aA (uv 1) aB)) (hj:=by dsimp only [Mr];omega))))))
 (aM (aR n5))
 aY)
 (aM (aR (gE i6 (cI eI bF (aA (bD QN (aA (uv 0) aB)) aB)) (kN qX))))) ?_
 rintro us M Q ⟨g,cs,rfl,hw,hc,hP,q⟩
 refine aO fun V1 hV1=>?_
 refine bR fun A B hA hB'=>?_
 dsimp! only [eE,JM,fB,iH,iF,aF,aK,aD]
 have back:∀ ps vs,mup (mup M Pt (.cap ps vs [.tup (cs.map U.str)])) Pt (.tbl QP)=M:=fun ps vs=>by
  rw [gI]
  funext b
  by_cases hb:b=Pt
  ·subst hb;rw [bM,hP]
  ·rw [cA hb]
 refine ⟨hP,fun fl=>⟨hP,[.tup (cs.map U.str)],rfl,fun ps vs hno=>⟨g,LP cs,rfl,hw,fun u b h=>⟨b,h.1,h.2.1⟩,fun u b M' Q' hS h hq=>?_,hno,bM,?_⟩⟩⟩
 ·refine ⟨hS Pt _ bM,rfl,?_⟩
  dsimp! only [aF,aK,aD]
  exact ⟨u,cs,rfl,h.1,hc,by rw [<- h.2.2];exact hq⟩
 ·rw [back]
  cases hv:mR g with
  | false =>
   dsimp! only [aF,aK,aD]
   subst hA
   dsimp! only [bG,aF,aK,aD]
   have e:mL g=false:=by unfold mL;rw [hv];rfl
   rw [e] at q
   exact aL q
  | true =>
   dsimp! only [aF,aK,aD]
   subst hB'
   simp only [bJ]
   subst hV1
   have hv':=hv
   unfold mR at hv'
   simp only [Bool.and_eq_true,decide_eq_true_eq] at hv'
   obtain ⟨h1,h2,h3⟩:=hv'
   obtain ⟨p,e1,e2,e3⟩:=yS g hw h3
   dsimp! only [bG,aF,aK,aD]
   refine ⟨p,by rw [e1],by omega,?_⟩
   dsimp! only [aF,aK,aD]
   have e:mL g=decide ((((Td p).map sU).length:Int)<=4):=by
    unfold mL Td
    rw [hv,Bool.true_and,List.length_map,QZ,e3]
    by_cases hh:g.holes<=4
    ·rw [decide_eq_true hh];exact (decide_eq_true (by omega)).symm
    ·rw [decide_eq_false hh];exact (decide_eq_false (by omega)).symm
   rw [e] at q
   exact aL q
def WT (u:U):Prop:=∃ a k p d,u=.tup [a,k,p,d]
def rJ:U->Bool
 | .int i=>decide (0<=i) && decide (i<=1000)
 | _=>false
def lQ:U->U->Bool
 | .tup [.str z,.str c],.str y=>!(decide (z=Str.ofString "at") && decide (c=y))
 | _,_=>true
def wC (cs:List Str) (u:U) (b:Bool):Prop:=plain u/\((¬ WT u/\b=false)\/∃ (a k:U) (g:G) (d:U),u=.tup [a,k,g.toU,d]/\g.wf (LP cs)/\b=(isName a && (xZ cs k && (mL g && (rJ d && lQ g.toU k)))))
theorem Ew {u:U} (h:plain u):Wm u:=by
 cases u with
 | str z=>exact small (Nat.le_trans h.1.2 (by decide))
 | ref a=>exact h.1.elim
 | ty a=>exact h.1.elim
 | _=>trivial
theorem Gh (z:Pt) (k:U):lQ (.tup [.str (Str.ofString "turn"),z.toU]) k=true:=by
 cases z <;> cases k <;> rfl
theorem Ig (z a b:U) (k:U):lQ (.tup [z,a,b]) k=true:=by
 unfold lQ
 split
 ·rename_i h;cases h
 ·rfl
def LK:cF:=fun us M Q=>∃ (a k d:U) (p:Pt),us=[.tup [a,k,p.toU,d]]/\Q (.bl (isAt p.toU)) M
theorem Jf (F:b8 K "is_pass" "is_pass" yG f fd) (hm:mg "is_pass"=some (.ref f)):Callee P w K mg base 1 "is_pass" LK []:=by
 refine cB F hm IP (mK fun _ _ _ _ _ _ _=>rfl) (aM (aR (gE cG (aV (aV (uv 0) aJ) aJ) bZ))) ?_
 rintro us M Q ⟨a,k,d,p,rfl,q⟩
 refine ⟨rfl,?_⟩
 cases p <;> (dsimp! only [bG,Pt.toU,aF,aK,aD];exact aL q)
def Ec (Pt:Addr):cF:=fun us M Q=>∃ (u:U) (cs:List Str) (b:Bool),us=[u,.tup (cs.map U.str)]/\wC cs u b/\(∀ c∈cs,PyData.strOk c=true)/\M Pt=some (.tbl QP)/\Q (.bl b) M
theorem IF {Pl:Addr} {t1:Tok} (F:b8 K "is_tile" "is_tile" yM f fd) (hm:mg "is_tile"=some (.ref f)) (aN:mg "isinstance"=none) (bK:mg "tuple"=none) (bF:mg "len"=none) (lB:mg "GREATEST_PRICE"=some (.int 1000 t1))
  (zG:Callee P w K mg base 1 "is_name" D3 []) (EF:Callee P w K mg base 9 "is_pattern" (GJ Pl) []) (wM:Callee P w K mg base 1 "is_whole" wX []) (Kh:Callee P w K mg base 1 "is_pass" LK []):Callee P w K mg base 10 "is_tile" (Ec Pl) []:=by
 refine cB F hm Ir (mJ fun _ _ _ _ _ _ _ _=>rfl) (aG (bY (i9.pt (iW (c5 (cN (cI iL aN (aA (uv 0) (aA (iE (n:="tuple") bK) aB))))) (iB (bS sG (cI eI bF (aA (uv 0) aB)) aJ))))
 (aM (aR n5))
 aY)
 (aG (bY (i9.pt (iW (c5 (cN (bD zG (aA (aV (uv 0) aJ) aB)))) (iW (bS N3 (aV (uv 0) aJ) (uv 1)) (iB (c5 (cN (bD EF (aA (aV (uv 0) aJ) (aA (uv 1) aB)))))))))
 (aM (aR n5))
 aY)
 (aG (bY (i9.pt (iW (c5 (cN (bD wM (aA (aV (uv 0) aJ) aB)))) (iB (c5 (DD i6 i6 aJ (aV (uv 0) aJ) (kN lB))))))
 (aM (aR n5))
 aY)
 (aM (aR (VA (EC (bD Kh (aA (uv 0) aB))) (iJ (gE sG (aV (aV (uv 0) aJ) aJ) (aV (uv 0) aJ))))))))) ?_
 rintro us M Q ⟨u,cs,b,rfl,⟨hp,h⟩,hc,hP,q⟩
 refine ⟨rfl,?_⟩
 have neX:∀ (i j:Int) (M:aE) (Q:UK),jR true (.int i) (.int j) M Q=Q (.bl (!decide (i=j))) M:=fun i j M Q=>rfl
 refine aO fun V1 hV1=>?_
 refine bR fun A B hA hB=>?_
 rcases h with ⟨n4,rfl⟩ | ⟨a,k,g,d,rfl,hw,rfl⟩
 ·have fls:A M:=by
   subst hA
   dsimp! only [bG,aF,aK,aD]
   exact aL q
  cases u with
  | tup us =>
   have hl:decide ((us.length:Int)=4)=false:=decide_eq_false fun z=>n4 (by
    have z:us.length=4:=by omega
    match us,z with
    | [a,k,p,d],_=>exact ⟨a,k,p,d,rfl⟩)
   dsimp! only [neX,hl,aF,aK,aD]
   exact fls
  | ref a=>exact hp.1.elim
  | ty a=>exact hp.1.elim
  | dic a b c=>exact hp.1.elim
  | _=>dsimp! only [aF,aK,aD];exact fls
 ·have d4:decide (((0 + 1 + 1 + 1 + 1:Nat):Int)=4)=true:=rfl
  dsimp! only [neX,d4,aF,aK,aD]
  subst hB
  simp only [bJ]
  subst hV1
  refine aO fun V2 hV2=>?_
  refine bR fun A B hA hB=>?_
  have pa:plain a:=jA hp (by simp)
  have pk:plain k:=jA hp (by simp)
  have pd:plain d:=jA hp (by simp)
  have fls:Q (.bl false) M->A M:=fun q=>by
   subst hA
   dsimp! only [bG,aF,aK,aD]
   exact aL q
  dsimp! only [aF,aK,aD]
  refine ⟨a,rfl,Ew pa,?_⟩
  cases ha:isName a with
  | false =>
   rw [ha] at q
   dsimp! only [aF,aK,aD]
   exact fls q
  | true =>
   rw [ha] at q
   dsimp! only [aF,aK,aD]
   refine Hk (neg:=true) pk hc ?_
   cases hk:xZ cs k with
   | false =>
    rw [hk] at q
    dsimp! only [aF,aK,aD]
    exact fls q
   | true =>
    rw [hk] at q
    dsimp! only [aF,aK,aD]
    refine ⟨g,cs,rfl,hw,hc,hP,?_⟩
    cases hg:mL g with
    | false =>
     rw [hg] at q
     dsimp! only [aF,aK,aD]
     exact fls q
    | true =>
     rw [hg] at q
     dsimp! only [aF,aK,aD]
     clear fls hA
     subst hB
     simp only [bJ]
     subst hV2
     refine aO fun V3 hV3=>?_
     refine bR fun A B hA hB=>?_
     have fls:Q (.bl false) M->A M:=fun q=>by
      subst hA
      dsimp! only [bG,aF,aK,aD]
      exact aL q
     dsimp! only [aF,aK,aD]
     refine ⟨d,rfl,pd,?_⟩
     cases d with
     | int i =>
      dsimp! only [Eo,aF,aK,aD]
      simp only [rJ,Bool.true_and] at q
      by_cases h0:0<=i
      ·dsimp! only [h0,Bool.true_and,aF,aK,aD] at q ⊢
       by_cases h1:i<=1000
       ·dsimp! only [h1,Bool.true_and,aF,aK,aD] at q ⊢
        clear fls hA
        subst hB
        simp only [bJ]
        subst hV3
        unfold mL mR at hg
        simp only [Bool.and_eq_true,decide_eq_true_eq] at hg
        obtain ⟨⟨_,_,hf⟩,_⟩:=hg
        obtain ⟨p,e1,_,_⟩:=yS g hw hf
        rw [<- e1] at q ⊢
        obtain ⟨y,rfl⟩:∃ y,k=.str y:=by
         cases k with
         | str y=>exact ⟨y,rfl⟩
         | _=>cases hk
        dsimp! only [bG,aF,aK,aD]
        refine ⟨a,_,_,p,rfl,?_⟩
        cases p with
        | hole c =>
         dsimp! only [Pt.toU,isAt,lQ,Bool.true_and,aF,aK,aD] at q ⊢
         exact aL q
        | any=>dsimp! only [Pt.toU,isAt,lQ,Fn,aF,aK,aD] at q ⊢;exact aL q
        | fr l h=>dsimp! only [Pt.toU,isAt,lQ,C8,aF,aK,aD] at q ⊢;exact aL q
        | turn z=>dsimp! only [Pt.toU,isAt,Gh,CB,aF,aK,aD] at q ⊢;exact aL q
        | two o y z=>dsimp! only [Pt.toU,isAt,Ig,La,aF,aK,aD] at q ⊢;exact aL q
       ·dsimp! only [h1,aF,aK,aD] at q ⊢
        exact fls q
      ·dsimp! only [h0,Bool.false_and,aF,aK,aD] at q ⊢
       exact fls q
     | ref a=>exact pd.1.elim
     | ty a=>exact pd.1.elim
     | dic a b c=>exact pd.1.elim
     | _=>dsimp! only [Eo,aF,aK,aD];exact fls q
def strOf:U->Str
 | .str z=>z
 | _=>Str.ofString ""
theorem Bk:∀ {us:List U},us.all isName=true->us=(us.map strOf).map U.str
 | [],_=>rfl
 | u :: us,h=>by
  rw [List.all_cons,Bool.and_eq_true] at h
  cases u with
  | str z=>simp only [List.map_cons,strOf];rw [<- Bk h.2]
  | _=>cases h.1
def G3 (ss:List Str):Bool:=decide ((eU ss).length=ss.length)
def Bd:cF:=fun us M Q=>∃ (u:U) (ss:List Str),us=[u]/\(u=.tup (ss.map U.str)\/u=.lst (ss.map U.str))/\ss.length < 1000/\Q (.bl (G3 ss)) M
theorem Mn (F:b8 K "are_unlike" "are_unlike" rE f fd) (hm:mg "are_unlike"=some (.ref f)) (bF:mg "len"=none) (Iz:mg "set"=none):Callee P w K mg base 1 "are_unlike" Bd []:=by
 refine cB F hm Dn (mK fun _ _ _ _ _ _ _=>rfl) (aM (aR (gE cG (JB bF Iz (aA (uv 0) aB)) (cI eI bF (aA (uv 0) aB))))) ?_
 rintro us M Q ⟨u,ss,rfl,hu,hl,q⟩
 refine ⟨rfl,?_⟩
 have e:∀ n m:Nat,decide ((n:Int)=(m:Int))=decide (n=m):=fun n m=>by
  by_cases h:n=m
  ·subst h;simp
  ·rw [decide_eq_false h];exact decide_eq_false (by omega)
 rcases hu with rfl | rfl <;>
 ·dsimp! only [bG,Em,List.length_map,aF,aK,aD]
  refine ⟨ss,rfl,hl,?_⟩
  dsimp! only [e,aF,aK,aD]
  exact aL q
theorem Hs (f:U->Bool):∀ us:List U,oM (us.map fun u=>U.bl (f u))=some (us.map f)
 | []=>rfl
 | u :: us=>by simp only [List.map_cons,oM,Hs f us,Option.map_some]
theorem K1:∀ bs:List Bool,oM (bs.map U.bl)=some bs
 | []=>rfl
 | b :: bs=>by simp only [List.map_cons,oM,K1 bs,Option.map_some]
def i7:U->Bool
 | .tup us=>decide (1<=us.length) && (decide (us.length<=6) && (us.all isName && G3 (us.map strOf)))
 | _=>false
def wA:cF:=fun us M Q=>∃ u:U,us=[u]/\plain u/\Q (.bl (i7 u)) M
theorem Cd {t1:Tok} (F:b8 K "are_classes" "are_classes" oF f fd) (hm:mg "are_classes"=some (.ref f)) (aN:mg "isinstance"=none) (bK:mg "tuple"=none) (bF:mg "len"=none) (pY:mg "all"=none) (mZ:mg "MOST_CLASSES"=some (.int 6 t1)) (zG:Callee P w K mg base 1 "is_name" D3 []) (rG:Callee P w K mg base 1 "are_unlike" Bd []):Callee P w K mg base 2 "are_classes" wA []:=by
 refine cB F hm Cr (mK fun _ _ _ _ _ _ _=>rfl) (aG (bY (i9.pt (iW (c5 (cN (cI iL aN (aA (uv 0) (aA (iE (n:="tuple") bK) aB))))) (iB (c5 (DD i6 i6 aJ (cI eI bF (aA (uv 0) aB)) (kN mZ))))))
 (aM (aR n5))
 aY)
 (aM (aR (gX (cI HX pY (aA (lG false ["name"] 1 [] (lZ (uv 0)) (cM (k:=1) 0 (by dsimp only [cP];decide +kernel)) lJ (bD zG (aA (uv 0) aB))) aB)) (iJ (bD rG (aA (uv 0) aB))))))) ?_
 rintro us M Q ⟨u,rfl,hp,q⟩
 refine ⟨rfl,?_⟩
 refine aO fun V1 hV1=>?_
 refine bR fun A B hA hB=>?_
 have fls:Q (.bl false) M->A M:=fun q=>by
  subst hA
  dsimp! only [bG,aF,aK,aD]
  exact aL q
 cases u with
 | tup us =>
  have hl:=plain_len hp
  simp only [i7] at q
  dsimp! only [aF,aK,aD]
  by_cases h1:1<=us.length
  ·have h1':(1:Int)<=(us.length:Int):=by omega
   dsimp! only [h1,h1',Bool.true_and,aF,aK,aD] at q ⊢
   by_cases h2:us.length<=6
   ·have h2':(us.length:Int)<=6:=by omega
    dsimp! only [h2,h2',Bool.true_and,aF,aK,aD] at q ⊢
    subst hB
    simp only [bJ]
    subst hV1
    simp only [bG,kE,rS,kA,mN]
    refine iG (S:=⟨none,us⟩) (M1:=M) (us.map fun x=>U.bl (isName x)) (fun R r=>?_) (by simp) (small (by show us.length<=_;omega)) (fun a e=>by cases e) (fun i x y hx hy M' _ R r=>?_) ?_
    ·dsimp! only [aF,aK,aD];exact r
    ·rw [List.getElem?_map,hx] at hy
     cases hy
     dsimp! only [hName,aF,aK,aD]
     exact ⟨x,rfl,Ew (jA hp (List.mem_of_getElem? hx)),r⟩
    ·dsimp! only [Hs,aF,aK,aD]
     cases ha:us.all isName with
     | false =>
      rw [ha] at q
      have e:((us.map isName).all fun b=>b)=false:=by rw [List.all_map];exact ha
      dsimp! only [e,aF,aK,aD]
      exact aL q
     | true =>
      rw [ha] at q
      have e:((us.map isName).all fun b=>b)=true:=by rw [List.all_map];exact ha
      dsimp! only [e,aF,aK,aD]
      exact ⟨_,us.map strOf,rfl,.inl (by rw [<- Bk ha]),by rw [List.length_map];omega,aL q⟩
   ·have h2':¬ (us.length:Int)<=6:=by omega
    dsimp! only [h2,h2',Bool.false_and,aF,aK,aD] at q ⊢
    exact fls q
  ·have h1':¬ (1:Int)<=(us.length:Int):=by omega
   dsimp! only [h1,h1',Bool.false_and,aF,aK,aD] at q ⊢
   exact fls q
 | ref a=>exact hp.1.elim
 | ty a=>exact hp.1.elim
 | dic a b c=>exact hp.1.elim
 | _=>dsimp! only [aF,aK,aD];exact fls q
def Lh (cs:List Str) (u:U) (b:Bool):Prop:=plain u/\(((∀ ts,u≠.tup ts)/\b=false)\/∃ (ts:List U) (bs:List Bool),u=.tup ts/\Paired (wC cs) ts bs/\b=(decide (1<=ts.length) && (decide (ts.length<=40) && ((bs.all fun x=>x) && G3 (ts.map fun t=>match t with | .tup (.str z :: _)=>z | _=>Str.ofString "")))))
theorem Lq {cs:List Str} {u:U} (h:wC cs u true):∃ z r,u=.tup (.str z :: r):=by
 rcases h.2 with ⟨_,z⟩ | ⟨a,k,g,d,rfl,_,e⟩
 ·cases z
 ·cases a with
  | str z=>exact ⟨z,_,rfl⟩
  | _=>cases e
theorem vP {α β:Type} {R:α->β->Prop}:∀ {xs:List α} {ys:List β},Paired R xs ys->∀ {i:Nat} {x:α} {y:β},xs[i]?=some x->ys[i]?=some y->R x y
 | _,_,.nil,i,_,_,h,_=>by simp at h
 | _,_,.cons h t,0,_,_,h1,h2=>by cases h1;cases h2;exact h
 | _,_,.cons h t,i + 1,_,_,h1,h2=>vP t (by simpa using h1) (by simpa using h2)
def FD (Pt:Addr):cF:=fun us M Q=>∃ (u:U) (cs:List Str) (b:Bool),us=[u,.tup (cs.map U.str)]/\Lh cs u b/\(∀ c∈cs,PyData.strOk c=true)/\M Pt=some (.tbl QP)/\Q (.bl b) M
theorem EW {Pl:Addr} {t1:Tok} (F:b8 K "are_tiles" "are_tiles" sW f fd) (hm:mg "are_tiles"=some (.ref f)) (aN:mg "isinstance"=none) (bK:mg "tuple"=none) (bF:mg "len"=none) (pY:mg "all"=none) (qL:mg "MOST_TILES"=some (.int 40 t1)) (J6:Callee P w K mg base 10 "is_tile" (Ec Pl) []) (rG:Callee P w K mg base 1 "are_unlike" Bd []):Callee P w K mg base 11 "are_tiles" (FD Pl) []:=by
 refine cB F hm Fj (mJ fun _ _ _ _ _ _ _ _=>rfl) (aG (bY (i9.pt (iW (c5 (cN (cI iL aN (aA (uv 0) (aA (iE (n:="tuple") bK) aB))))) (iB (c5 (DD i6 i6 aJ (cI eI bF (aA (uv 0) aB)) (kN qL))))))
 (aM (aR n5))
 aY)
 (aM (aR (gX (cI HX pY (aA (lG false ["tile","classes"] 1 [1] (lZ (uv 0)) (cM (k:=1) 0 (by dsimp only [cP];decide +kernel)) lJ (bD J6 (aA (uv 0) (aA (uv 1) aB)))) aB)) (iJ (bD rG (aA (lG false ["tile"] 1 [] (lZ (uv 0)) (cM (k:=1) 0 (by dsimp only [cP];decide +kernel)) lJ (aV (uv 0) aJ)) aB))))))) ?_
 rintro us M Q ⟨u,cs,b,rfl,⟨hp,h⟩,hc,hP,q⟩
 refine ⟨rfl,?_⟩
 refine aO fun V1 hV1=>?_
 refine bR fun A B hA hB=>?_
 have fls:Q (.bl false) M->A M:=fun q=>by
  subst hA
  dsimp! only [bG,aF,aK,aD]
  exact aL q
 rcases h with ⟨nt,rfl⟩ | ⟨ts,bs,rfl,hb,rfl⟩
 ·cases u with
  | tup us=>exact (nt us rfl).elim
  | ref a=>exact hp.1.elim
  | ty a=>exact hp.1.elim
  | dic a b c=>exact hp.1.elim
  | _=>dsimp! only [aF,aK,aD];exact fls q
 ·have hl:=plain_len hp
  have hlb:=hb.length
  dsimp! only [aF,aK,aD]
  by_cases h1:1<=ts.length
  ·have h1':(1:Int)<=(ts.length:Int):=by omega
   dsimp! only [h1,h1',Bool.true_and,aF,aK,aD] at q ⊢
   by_cases h2:ts.length<=40
   ·have h2':(ts.length:Int)<=40:=by omega
    dsimp! only [h2,h2',Bool.true_and,aF,aK,aD] at q ⊢
    subst hB
    simp only [bJ]
    subst hV1
    simp only [bG,kE,rS,kA,mN]
    refine iG (S:=⟨none,ts⟩) (M1:=M) (bs.map U.bl) (fun R r=>?_) (by simp [hlb]) (small (by show ts.length<=_;omega)) (fun a e=>by cases e) (fun i x y hx hy M' hS R r=>?_) ?_
    ·dsimp! only [aF,aK,aD];exact r
    ·rw [List.getElem?_map] at hy
     cases hbi:bs[i]? with
     | none=>rw [hbi] at hy;cases hy
     | some bb =>
      rw [hbi] at hy
      cases hy
      dsimp! only [hName,aF,aK,aD]
      exact ⟨x,cs,bb,rfl,vP hb hx hbi,hc,hS Pl _ hP,r⟩
    ·dsimp! only [K1,aF,aK,aD]
     cases ha:bs.all fun x=>x with
     | false =>
      rw [ha] at q
      dsimp! only [ha,aF,aK,aD]
      exact aL q
     | true =>
      rw [ha] at q
      dsimp! only [ha,aF,aK,aD]
      have hall:∀ (i:Nat) x,ts[i]?=some x->∃ z r,x=.tup (.str z :: r):=fun i x hx=>by
       have hi:i < bs.length:=by have:=(List.getElem?_eq_some_iff.mp hx).1;omega
       obtain ⟨bb,hbi⟩:∃ bb,bs[i]?=some bb:=⟨_,List.getElem?_eq_getElem hi⟩
       have:bb=true:=List.all_eq_true.mp ha bb (List.mem_of_getElem? hbi)
       subst this
       exact Lq (vP hb hx hbi)
      refine iG (S:=⟨none,ts⟩) (M1:=M) ((ts.map fun t=>match t with | .tup (.str z :: _)=>z | _=>Str.ofString "").map U.str) (fun R r=>?_) (by simp) (small (by show ts.length<=_;omega)) (fun a e=>by cases e) (fun i x y hx hy M' hS R r=>?_) ?_
      ·dsimp! only [aF,aK,aD];exact r
      ·obtain ⟨z,rr,rfl⟩:=hall i x hx
       rw [List.getElem?_map,List.getElem?_map,hx] at hy
       cases hy
       dsimp! only [hName,aF,aK,aD]
       exact r
      ·dsimp! only [aF,aK,aD]
       exact ⟨_,_,rfl,.inr rfl,by simp;omega,aL q⟩
   ·have h2':¬ (ts.length:Int)<=40:=by omega
    dsimp! only [h2,h2',Bool.false_and,aF,aK,aD] at q ⊢
    exact fls q
  ·have h1':¬ (1:Int)<=(ts.length:Int):=by omega
   dsimp! only [h1,h1',Bool.false_and,aF,aK,aD] at q ⊢
   exact fls q
def rA (u:U) (b:Bool):Prop:=plain u/\(((∀ c t,u≠.tup [c,t])/\b=false)\/∃ c t,u=.tup [c,t]/\((i7 c=false/\b=false)\/∃ cs:List Str,c=.tup (cs.map U.str)/\i7 c=true/\(∀ x∈cs,PyData.strOk x=true)/\Lh cs t b))
def Bc (Pt:Addr):cF:=fun us M Q=>∃ (u:U) (b:Bool),us=[u]/\rA u b/\M Pt=some (.tbl QP)/\Q (.bl b) M
theorem Gj {Pl:Addr} (F:b8 K "is_table" "is_table" wL f fd) (hm:mg "is_table"=some (.ref f)) (aN:mg "isinstance"=none) (bK:mg "tuple"=none) (bF:mg "len"=none) (oV:Callee P w K mg base 2 "are_classes" wA []) (F2:Callee P w K mg base 11 "are_tiles" (FD Pl) []):Callee P w K mg base 12 "is_table" (Bc Pl) []:=by
 refine cB F hm F8 (mK fun _ _ _ _ _ _ _=>rfl) (aG (bY (i9.pt (iW (c5 (cN (cI iL aN (aA (uv 0) (aA (iE (n:="tuple") bK) aB))))) (iB (bS sG (cI eI bF (aA (uv 0) aB)) aJ))))
 (aM (aR n5))
 aY)
 (aM (aR (gX (bD oV (aA (aV (uv 0) aJ) aB)) (iJ (bD F2 (aA (aV (uv 0) aJ) (aA (aV (uv 0) aJ) aB)))))))) ?_
 rintro us M Q ⟨u,b,rfl,⟨hp,h⟩,hP,q⟩
 refine ⟨rfl,?_⟩
 have neX:∀ (i j:Int) (M:aE) (Q:UK),jR true (.int i) (.int j) M Q=Q (.bl (!decide (i=j))) M:=fun i j M Q=>rfl
 refine aO fun V1 hV1=>?_
 refine bR fun A B hA hB=>?_
 rcases h with ⟨n2,rfl⟩ | ⟨c,t,rfl,h⟩
 ·have fls:A M:=by
   subst hA
   dsimp! only [bG,aF,aK,aD]
   exact aL q
  cases u with
  | tup us =>
   have hl:decide ((us.length:Int)=2)=false:=decide_eq_false fun z=>by
    have z:us.length=2:=by omega
    match us,z with
    | [c,t],_=>exact n2 c t rfl
   dsimp! only [neX,hl,aF,aK,aD]
   exact fls
  | ref a=>exact hp.1.elim
  | ty a=>exact hp.1.elim
  | dic a b c=>exact hp.1.elim
  | _=>dsimp! only [aF,aK,aD];exact fls
 ·have d2:decide (((0 + 1 + 1:Nat):Int)=2)=true:=rfl
  dsimp! only [neX,d2,aF,aK,aD]
  subst hB
  simp only [bJ]
  subst hV1
  dsimp! only [bG,aF,aK,aD]
  refine ⟨c,rfl,jA hp (by simp),?_⟩
  rcases h with ⟨hc,rfl⟩ | ⟨cs,rfl,hc,hs,ht⟩
  ·dsimp! only [hc,aF,aK,aD]
   exact aL q
  ·dsimp! only [hc,aF,aK,aD]
   exact ⟨t,cs,b,rfl,ht,hs,hP,aL q⟩
def Xb:Pt->List Nat->Option Pt
 | p,[]=>some p
 | p,k :: w=>match p.parts[k]? with
  | some a=>Xb a w
  | none=>none
def Xg:Pt->Bool
 | .turn _=>true
 | .two _ _ _=>true
 | _=>false
def gP:Pt->G
 | .turn a=>.turn (gP a)
 | .two o a b=>.two o (gP a) (gP b)
 | p=>.leaf p.toU true
theorem DU:∀ p:Pt,(gP p).toU=p.toU
 | .turn a=>by simp only [gP,G.toU,Pt.toU,DU a]
 | .two o a b=>by simp only [gP,G.toU,Pt.toU,DU a,DU b]
 | .hole _=>rfl
 | .any=>rfl
 | .fr _ _=>rfl
def pN (n:Nat) (u:U):Prop:=pl u/\lay u n
def Df (n:Nat) (us:List U):Prop:=Er us/\Oe us n
theorem sH {n:Nat}:Df n []:=⟨trivial,[],rfl,rfl,Nat.zero_le _⟩
theorem fY {n:Nat} {u:U} {us:List U} (h:pN n u) (g:Df n us):Df n (u :: us):=by
 obtain ⟨h1,d,e1,e2,e3⟩:=h
 obtain ⟨g1,ds,f1,f2,f3⟩:=g
 refine ⟨⟨h1,g1⟩,d :: ds,by simp only [dI,e1,f1],by simp only [PyData.canLayAll0,e2,f2];rfl,by simp only [PyData.depthAll];omega⟩
theorem pT {n:Nat} {us:List U} (h:Df n us) (hl:us.length<=1000):pN (n + 1) (.tup us):=by
 obtain ⟨g1,ds,f1,f2,f3⟩:=h
 exact ⟨⟨hl,g1⟩,.tuple ds,by simp only [toD,f1,Option.map_some],by simp only [PyData.canLay0];exact f2,by simp only [PyData.depth];omega⟩
theorem pI {n:Nat} {i:Int}:pN n (.int i):=⟨trivial,_,rfl,rfl,Nat.zero_le _⟩
theorem pS {n:Nat} {z:Str} (h:PyData.strOk z=true) (hl:z.length<=1000):pN n (.str z):=⟨⟨h,hl⟩,_,rfl,(by simp only [PyData.canLay0];exact h),Nat.zero_le _⟩
theorem pN.mono {n m:Nat} {u:U} (h:pN n u) (hm:n<=m):pN m u:=let ⟨a,d,b,c,e⟩:=h;⟨a,d,b,c,Nat.le_trans e hm⟩
theorem pN.plain {n:Nat} {u:U} (h:pN n u) (hn:n<=60):plain u:=h.mono hn
theorem pP {cs:List Str}:∀ {p:Pt},p.ok->p.sm cs->pN p.dep p.toU
 | .hole c,h,k=>pT (fY (pS (by decide +kernel) (by decide +kernel)) (fY (pS h (by have:=k.1;omega)) sH)) (by simp)
 | .any,h,k=>pT (fY (pS (by decide +kernel) (by decide +kernel)) sH) (by simp)
 | .fr l u,h,k=>pT (fY (pS (by decide +kernel) (by decide +kernel)) (fY pI (fY pI sH))) (by simp)
 | .turn a,h,k=>pT (fY (pS (by decide +kernel) (by decide +kernel)) (fY (pP (p:=a) h k) sH)) (by simp)
 | .two o a b,h,k=>pT (fY (pS (by cases o <;> decide +kernel) (by cases o <;> decide +kernel)) (fY ((pP (p:=a) h.1 k.1).mono (Nat.le_max_left _ _)) (fY ((pP (p:=b) h.2 k.2).mono (Nat.le_max_right _ _)) sH))) (by simp)
theorem Au {z:Str} {r:List U} (h:bU cO z=none):BZ (.tup (.str z :: r))=false:=by simp only [BZ,h]
theorem BJ {cs:List Str}:∀ {p:Pt},p.ok->p.sm cs->p.dep<=50->(gP p).wf (LP cs)
 | .hole c,h,k,_=>⟨(pP (p:=.hole c) h k).plain (by simp [Pt.dep]),Au (by decide +kernel),by
   have:c∈cs:=k.2
   show true=iV cs (.tup [.str (Str.ofString "at"),.str c])
   simp only [iV,if_true,xZ]
   exact (by simpa using this:cs.contains c=true).symm⟩
 | .any,h,k,_=>⟨(pP (cs:=cs) (p:=.any) h k).plain (by decide),Au (by decide +kernel),by
   have h1:Str.ofString "any"≠Str.ofString "at":=by decide +kernel
   have h2:Str.ofString "any"≠Str.ofString "from":=by decide +kernel
   show true=iV cs (.tup [.str (Str.ofString "any")])
   simp only [iV,h1,h2,if_false,decide_true]
   rfl⟩
 | .fr l u,h,k,_=>⟨(pP (p:=.fr l u) h k).plain (by simp [Pt.dep]),Au (by decide +kernel),by
   have h1:0<=l:=h.1
   have h2:l<=u:=h.2
   have h3:u<=10 ^ 18:=k
   have hne:Str.ofString "from"≠Str.ofString "at":=by decide +kernel
   show true=iV cs (.tup [.str (Str.ofString "from"),.int l,.int u])
   simp only [iV,hne,if_true,if_false,tG]
   have a1:decide (0<=l)=true:=decide_eq_true h1
   have a2:decide (l<=1000000000000000000)=true:=decide_eq_true (by omega)
   have a3:decide (0<=u)=true:=decide_eq_true (by omega)
   have a4:decide (u<=1000000000000000000)=true:=decide_eq_true (by omega)
   have a5:decide (l<=u)=true:=decide_eq_true h2
   rw [a1,a2,a3,a4,a5];rfl⟩
 | .turn a,h,k,hd=>BJ (p:=a) h k (by simp only [Pt.dep] at hd;omega)
 | .two o a b,h,k,hd=>⟨BJ (p:=a) h.1 k.1 (by simp only [Pt.dep] at hd;omega),BJ (p:=b) h.2 k.2 (by simp only [Pt.dep] at hd;omega)⟩
theorem RW {cs:List Str} {p:Pt} {c:Str} (h:p.toU=.tup [.str (Str.ofString "at"),.str c]):p=.hole c:=by
 cases p with
 | hole d=>simp only [Pt.toU,U.tup.injEq,List.cons.injEq,U.str.injEq,and_true,true_and] at h;rw [h]
 | any=>simp [Pt.toU] at h
 | fr l u=>simp [Pt.toU] at h
 | turn a =>
  simp only [Pt.toU,U.tup.injEq,List.cons.injEq,U.str.injEq] at h
  exact absurd h.1 (by decide +kernel)
 | two o a b=>simp [Pt.toU] at h
theorem CK {p:Pt} {c:Str} (h:p≠.hole c):lQ p.toU (.str c)=true:=by
 unfold lQ
 split
 ·rename_i z d y e1 e2
  cases e2
  cases hz:decide (z=Str.ofString "at") && decide (d=c) with
  | false=>rfl
  | true =>
   rw [Bool.and_eq_true] at hz
   have h1:=of_decide_eq_true hz.1
   have h2:=of_decide_eq_true hz.2
   subst h1;subst h2
   exact (h (RW (cs:=[]) e1)).elim
 ·rfl
theorem yK:∀ p:Pt,(gP p).fit=true
 | .turn a=>by simp only [gP,G.fit];exact yK a
 | .two o a b=>by simp only [gP,G.fit,yK a,yK b];rfl
 | .hole _=>rfl
 | .any=>rfl
 | .fr _ _=>rfl
theorem t7:∀ p:Pt,(gP p).size=p.size/\(gP p).dep=p.dep/\(gP p).holes=p.holes
 | .turn a=>by obtain ⟨a1,a2,a3⟩:=t7 a;simp only [gP,G.size,G.dep,G.holes,Pt.size,Pt.dep,Pt.holes,a1,a2,a3];exact ⟨trivial,trivial,trivial⟩
 | .two o a b=>by obtain ⟨a1,a2,a3⟩:=t7 a;obtain ⟨b1,b2,b3⟩:=t7 b;simp only [gP,G.size,G.dep,G.holes,Pt.size,Pt.dep,Pt.holes,a1,a2,a3,b1,b2,b3];exact ⟨trivial,trivial,trivial⟩
 | .hole c=>⟨rfl,rfl,by simp [gP,G.holes,isAt,Pt.toU,Pt.holes]⟩
 | .any=>⟨rfl,rfl,by
   have:Str.ofString "any"≠Str.ofString "at":=by decide +kernel
   simp [gP,G.holes,isAt,Pt.toU,Pt.holes,this]⟩
 | .fr l u=>⟨rfl,rfl,by
   have:Str.ofString "from"≠Str.ofString "at":=by decide +kernel
   simp [gP,G.holes,isAt,Pt.toU,Pt.holes,this]⟩
theorem Ei {cs:List Str} (hc:oN cs) {t:Tl} (ht:t.ok cs):pN 20 t.toU :=
 (pT (n:=6) (fY (pS ht.no (by have:=ht.nm;omega)) (fY (pS (hc.ok.2.2 _ ht.ci).1 (by have:=ht.cl;omega)) (fY ((pP ht.pt.ok ht.pt.sm).mono (by have:=ht.pt.dep;omega)) (fY pI sH)))) (by simp)).mono (by decide)
theorem PK {cs:List Str} (hc:oN cs) {t:Tl} (ht:t.ok cs):wC cs t.toU true:=by
 have hf:=ht.pt
 obtain ⟨s1,s2,s3⟩:=t7 t.pt
 have e:=DU t.pt
 refine ⟨(Ei hc ht).plain (by decide),.inr ⟨.str t.name,.str t.cls,gP t.pt,.int t.cost,by rw [e];rfl,BJ hf.ok hf.sm (by have:=hf.dep;omega),?_⟩⟩
 have h1:mL (gP t.pt)=true:=by
  unfold mL mR
  rw [yK,s1,s2,s3,decide_eq_true hf.siz,decide_eq_true hf.dep,decide_eq_true hf.hol]
  rfl
 have h2:xZ cs (.str t.cls)=true:=by show cs.contains t.cls=true;simpa using ht.ci
 have h3:rJ (.int t.cost)=true:=by
  simp only [rJ]
  rw [decide_eq_true ht.c0,decide_eq_true ht.c1];rfl
 rw [ht.nn,h1,h2,h3,e,CK ht.np]
 rfl
theorem pR:∀ {cs:List Str},(∀ c∈cs,PyData.strOk c=true/\c.length<=8)->∀ n,Df n (cs.map U.str)
 | [],_,n=>sH
 | c :: cs,h,n=>fY (pS (h c List.mem_cons_self).1 (by have:=(h c List.mem_cons_self).2;omega)) (pR (fun x hx=>h x (List.mem_cons_of_mem _ hx)) n)
theorem N2 (tl:List Tl):((tl.map Tl.toU).map fun t=>match t with | .tup (.str z :: _)=>z | _=>Str.ofString "")=tl.map Tl.name:=by
 rw [List.map_map];rfl
theorem Kw (cs:List Str):(cs.map U.str).map strOf=cs:=by
 rw [List.map_map]
 conv=>rhs;rw [<- List.map_id cs]
 rfl
theorem GH (l:List Str):G3 l=true ↔ l.Nodup:=by
 unfold G3
 rw [decide_eq_true_eq]
 exact LY l
theorem KD {cs:List Str} (h:∀ c∈cs,isName (.str c)=true):(cs.map U.str).all isName=true:=by
 rw [List.all_map,List.all_eq_true]
 exact h
theorem A9 {cs:List Str} (hc:oN cs):i7 (.tup (cs.map U.str))=true:=by
 have h1:=List.length_pos_iff.mpr hc.ok.1
 have h2:=hc.ok.2.1
 simp only [i7,List.length_map,Kw]
 rw [decide_eq_true (show 1<=cs.length by omega),decide_eq_true h2,KD hc.nm,(GH cs).mpr hc.nd]
 rfl
theorem Lb {cs:List Str} (hc:oN cs) {ts:List U} {bs:List Bool} {b:Bool} (hp:Df 20 ts) (hl:ts.length<=1000) (h:Paired (wC cs) ts bs) (hb:b=(decide (1<=ts.length) && (decide (ts.length<=40) && ((bs.all fun x=>x) && G3 (ts.map fun t=>match t with | .tup (.str z :: _)=>z | _=>Str.ofString ""))))):rA (.tup [.tup (cs.map U.str),.tup ts]) b:=by
 have p1:pN 21 (.tup (cs.map U.str)):=pT (pR hc.ok.2.2 20) (by rw [List.length_map];have:=hc.ok.2.1;omega)
 have p2:pN 21 (.tup ts):=pT hp hl
 have p3:pN 22 (.tup [.tup (cs.map U.str),.tup ts]):=pT (fY p1 (fY p2 sH)) (by simp)
 exact ⟨p3.plain (by decide),.inr ⟨_,_,rfl,.inr ⟨cs,rfl,A9 hc,(fun x hx=>(hc.ok.2.2 x hx).1),p2.plain (by decide),.inr ⟨ts,bs,rfl,h,hb⟩⟩⟩⟩
def tx (s:List Nat):Str:=⟨s.toArray⟩
theorem Vm (s:List Nat):(tx s).cps.toList=s:=by simp [tx]
theorem Iv (z:Str):tx z.cps.toList=z:=by cases z;simp [tx]
theorem Bx {a b:List Nat}:(tx a=tx b)=(a=b):=by
 refine propext ⟨fun h=>?_,fun h=>by rw [h]⟩
 have:=congrArg (fun z:Str=>z.cps.toList) h
 simpa [Vm] using this
theorem dR {L:List Nat} {i:Nat} {c:Nat} {r:List Nat} (h:L.drop i=c :: r):L[i]?=some c/\i < L.length/\L.drop (i + 1)=r:=by
 have hl:i < L.length:=by
  have:=congrArg List.length h
  rw [List.length_drop] at this
  simp at this
  omega
 rw [List.drop_eq_getElem_cons hl] at h
 injection h with h1 h2
 exact ⟨by rw [List.getElem?_eq_getElem hl,h1],hl,h2⟩
theorem jW {L:List Nat} {i:Nat} {s r:List Nat} (h:L.drop i=s++r):L.drop (i + s.length)=r:=by
 rw [<- List.drop_drop,h,List.drop_left'];rfl
def dig (n:Nat):List Nat:=if h:n < 10 then [48 + n] else dig (n / 10)++[48 + n % 10]
termination_by n
decreasing_by omega
def val (l:List Nat):Nat:=l.foldl (fun a c=>a * 10 + (c - 48)) 0
theorem DR (l:List Nat) (c:Nat):val (l++[c])=val l * 10 + (c - 48):=by simp [val,List.foldl_append]
theorem B8 (n:Nat):1<=(dig n).length:=by
 rw [dig];split
 ·simp
 ·simp
theorem Ac:∀ (n k:Nat),k<=(dig n).length->val ((dig n).take k)=n / 10 ^ ((dig n).length - k):=by
 intro n
 induction n using Nat.strongRecOn with
 | _ n ih =>
  intro k hk
  by_cases h:n < 10
  ·have e:dig n=[48 + n]:=by rw [dig,dif_pos h]
   rw [e] at hk ⊢
   simp only [List.length_cons,List.length_nil] at hk ⊢
   have:k=0\/k=1:=by omega
   rcases this with rfl | rfl
   ·simp [val];omega
   ·simp [val]
  ·have e:dig n=dig (n / 10)++[48 + n % 10]:=by rw [dig,dif_neg h]
   rw [e] at hk ⊢
   simp only [List.length_append,List.length_cons,List.length_nil] at hk ⊢
   by_cases hk2:k<=(dig (n / 10)).length
   ·rw [List.take_append_of_le_length hk2,ih (n / 10) (by omega) k hk2,Nat.div_div_eq_div_mul]
    congr 1
    rw [show (dig (n / 10)).length + (0 + 1) - k=((dig (n / 10)).length - k) + 1 by omega,Nat.pow_succ,Nat.mul_comm]
   ·have:k=(dig (n / 10)).length + 1:=by omega
    subst this
    rw [List.take_of_length_le (by simp),DR]
    have:=ih (n / 10) (by omega) _ (Nat.le_refl _)
    rw [List.take_length,Nat.sub_self] at this
    rw [this]
    simp
    omega
theorem K7:∀ n:Nat,1<=n->10 ^ ((dig n).length - 1)<=n:=by
 intro n
 induction n using Nat.strongRecOn with
 | _ n ih =>
  intro h1
  by_cases h:n < 10
  ·have e:dig n=[48 + n]:=by rw [dig,dif_pos h]
   rw [e];simpa using h1
  ·have e:dig n=dig (n / 10)++[48 + n % 10]:=by rw [dig,dif_neg h]
   rw [e]
   simp only [List.length_append,List.length_cons,List.length_nil]
   have:=ih (n / 10) (by omega) (by omega)
   have hp:=B8 (n / 10)
   rw [show (dig (n / 10)).length + (0 + 1) - 1=((dig (n / 10)).length - 1) + 1 by omega,Nat.pow_succ]
   omega
theorem mW:∀ n:Nat,∀ c∈dig n,48<=c/\c<=57:=by
 intro n
 induction n using Nat.strongRecOn with
 | _ n ih =>
  intro c hc
  by_cases h:n < 10
  ·have e:dig n=[48 + n]:=by rw [dig,dif_pos h]
   rw [e] at hc
   cases List.mem_singleton.mp hc
   omega
  ·have e:dig n=dig (n / 10)++[48 + n % 10]:=by rw [dig,dif_neg h]
   rw [e] at hc
   rcases List.mem_append.mp hc with hc | hc
   ·exact ih (n / 10) (by omega) c hc
   ·cases List.mem_singleton.mp hc
    omega
theorem Jn:∀ n:Nat,(Nat.toDigits 10 n).map Char.toNat=dig n:=by
 intro n
 have hd:∀ k:Fin 10,(Nat.digitChar k.val).toNat=48 + k.val:=by decide
 induction n using Nat.strongRecOn with
 | _ n ih =>
  by_cases h:n < 10
  ·rw [Nat.toDigits_of_lt_base h,dig,dif_pos h]
   have:=hd ⟨n,h⟩
   simp only [List.map_cons,List.map_nil]
   rw [this]
  ·rw [Nat.toDigits_of_base_le (by decide) (by omega),dig,dif_neg h,List.map_append,ih (n / 10) (by omega)]
   have:=hd ⟨n % 10,by omega⟩
   simp only [List.map_cons,List.map_nil]
   rw [this]
theorem yV {n:Int} (h:0<=n):(Str.ofString (toString n)).cps.toList=dig n.toNat:=by
 obtain ⟨k,rfl⟩:∃ k:Nat,n=k:=⟨n.toNat,by omega⟩
 rw [Str.ofString_eq_toList]
 have e:(toString (k:Int)).toList=Nat.toDigits 10 k:=by
  show (toString k).toList=_
  rw [show toString k=k.repr from rfl,Nat.toList_repr]
 rw [e]
 simp only [Int.toNat_natCast]
 rw [<- Jn]
theorem aT {t u:fX} {De:kY} {E:AE} {τ:SU} {M:aE} (h:∀ V,V=u De E->t { De with nx:=V } E τ M):DK t u De E τ M:=h _ rfl
theorem iA {c:UT} {t u:fX} {De:kY} {E:AE} {τ:SU} {M:aE} (h:∀ A B:aE->Prop,A=t De E τ->B=u De E τ->c τ M fun b M1=>if b=true then A M1 else B M1):Sn c t u De E τ M:=h _ _ rfl rfl
theorem Tu {Q:UK} {v:U} {M:aE} {p:Addr} {o o':MO} (h:M p=some o) (q:Q v (mup M p o')):hZ Q v (mup M p o'):=aL q
theorem oS (z:Str):z.cps.toList.length=z.length:=by simp [Str.length]
theorem MV (i j len:Nat):Builtin.Str.strSliceIndices (some (i:Int)) (some (j:Int)) 1 len=Builtin.Str.strSliceIndices (some ((min i len:Nat):Int)) (some ((min j len:Nat):Int)) 1 len:=by
 unfold Builtin.Str.strSliceIndices
 have h1:∀ k:Nat,max (0:Int) (min (if ((k:Nat):Int) < 0 then ((k:Nat):Int) + (len:Int) else ((k:Nat):Int)) (len:Int))=max (0:Int) (min (if ((min k len:Nat):Int) < 0 then ((min k len:Nat):Int) + (len:Int) else ((min k len:Nat):Int)) (len:Int)):=fun k=>by
  rw [if_neg (by omega),if_neg (by omega)];omega
 simp only [show ((1:Int) > 0)=True by decide,if_true,h1 i,h1 j]
theorem HY (z:Str) {i j:Nat} (h:i<=j):Txt.slice z (some (i:Int)) (some (j:Int))=tx ((z.cps.toList.drop i).take (j - i)):=by
 have hl:=oS z
 have e:=PySem.StrLaws.sliced_plain z (a:=min i z.length) (b:=min j z.length) (by omega) (by omega)
 have e0:(z.cps.toList.drop (min i z.length)).take (min j z.length - min i z.length)=(z.cps.toList.drop i).take (j - i):=by
  by_cases hi:i<=z.length
  ·rw [Nat.min_eq_left hi]
   by_cases hj:j<=z.length
   ·rw [Nat.min_eq_left hj]
   ·rw [Nat.min_eq_right (by omega),List.take_of_length_le (by rw [List.length_drop];omega),List.take_of_length_le (by rw [List.length_drop];omega)]
  ·rw [List.drop_eq_nil_of_le (by omega:z.cps.toList.length<=i),List.take_nil]
   have:min j z.length - min i z.length=0:=by omega
   rw [this,List.take_zero]
 unfold Txt.slice
 rw [MV i j z.length]
 split
 ·rename_i hc
  have hc':(Builtin.Str.strSliceIndices (some ((min i z.length:Nat):Int)) (some ((min j z.length:Nat):Int)) 1 z.length).length=z.length:=by simpa using hc
  rw [PySem.StrLaws.strSliceIndices_plain (by omega) (by omega)] at hc'
  simp only [List.length_map,List.length_range] at hc'
  rw [<- e0,List.take_of_length_le (by rw [List.length_drop];omega)]
  by_cases h0:z.length=0
  ·have:z.cps.toList=[]:=List.length_eq_zero_iff.mp (by omega)
   rw [this,List.drop_nil,<- Iv z,this]
  ·have:min i z.length=0:=by omega
   rw [this,List.drop_zero,Iv]
 ·rw [e,e0];rfl
theorem take1 (L:List Nat) (i:Nat):(L.drop i).take 1=L[i]?.toList:=by
 cases h:L[i]? with
 | none=>rw [List.drop_eq_nil_of_le (List.getElem?_eq_none_iff.mp h)];rfl
 | some c =>
  obtain ⟨hi,e⟩:=List.getElem?_eq_some_iff.mp h
  rw [List.drop_eq_getElem_cons hi,e];rfl
theorem uO (L:List Nat) (i c:Nat):decide (tx ((L.drop i).take 1)=tx [c])=decide (L[i]?=some c):=by
 refine decide_eq_decide.mpr ?_
 rw [take1]
 cases L[i]? with
 | none=>simp [tx]
 | some x=>simp [tx]
theorem IK (z:Str) (i:Nat):Txt.slice z (some (i:Int)) (some ((i:Int) + 1))=tx ((z.cps.toList.drop i).take 1):=by
 have:=HY z (i:=i) (j:=i + 1) (by omega)
 rw [show i + 1 - i=1 by omega] at this
 exact this
def CJ:Str:="0123456789"
def condT (v:V):Prop:=∃ i:Nat,v=.int (i:Int)/\i<=1000000
def AD (i:Nat):List (Str × U):=[(Str.ofString "at",.int (i:Int))]
theorem Av {i:Nat} (h:i<=1000000):∃ v,U2.jV (.int (i:Int))=some v/\condT v:=⟨_,rfl,i,rfl,h⟩
def zO (N:Addr):i3:=fun us M Q E=>∃ (z:Str) (i c:Nat),us=[.str z,.int (i:Int),.str (tx [c])]/\z.length<=100000/\i<=200000/\(if z.cps.toList[i]?=some c then Q .non M else E N (AD i) M)
local macro_rules | `(tactic| simp! only [$xs,*] $[$l]?) => `(tactic| simp only [$xs,*, Bool.false_eq_true, Bool.not_false, Bool.not_true, List.append_nil, List.cons_append, List.getElem?_cons_succ, List.getElem?_cons_zero, List.length_cons, List.length_nil, List.map_cons, List.map_nil, List.nil_append, List.replicate, List.set_cons_succ, List.set_cons_zero, Nat.add_sub_cancel, Nat.reduceAdd, Nat.reduceLeDiff, Nat.reduceSub, Nat.sub_self, Option.getD_some, Option.some.injEq, and_true, yC, CL, at2, ED, wZ, Fo, nG, w9, nK, o6, wW, AZ, A6, kX, DT, CV, Di, Eu, eG, decide_false, decide_true, uQ, tX, exists_eq_left', if_false, if_true, xW, eH, c6, c7, dH, c8, dJ, cV, fE, fF, gN, fK, hW, eO, fS, fG, gL, fH, gT, eT, gU, gO, iM, gM, iT, fN, fR, fL, gS, fO, gR, eP, gK, gQ, iR, gZ, iN, fT, eQ, eJ, fM, eK, fP, dZ, items, iY, rO, jL, tH, zE, jX, gI, bM, reduceCtorEq, c9, KJ, true_and, wV, mU, nM, u5, kE, AL, wR, uC, rS, pW, nY, kS, kA, aF, aD, AR, uI, qV, BI, tS, pV, sP, wF, vB, yH, A1, mN, kD, vD, u7, pU, gB, Bv, v9, pX, pQ, v5, qY, lX, vG, vQ, Fc, i5, aK, AG, Bs, zU, B0, yJ, yA, zC, uD, yN, zJ] $[$l]?)
theorem MG {N:Addr} (F:b8 K "need_sign" "need_sign" tR f fd) (hm:mg "need_sign"=some (.ref f)) (X_NoText:pA P w K mg base 1 "NoText" N "at" condT):bV P w K mg base 3 "need_sign" (zO N) []:=by
 refine eF F hm DW (Tp fun _ _ _ _ _ _ _ _ _=>rfl) (fun us M Q E h=>by obtain ⟨_,_,_,rfl,_⟩:=h;rfl) (cD (k9 (bS sG (kQ (own:=false) (uv 0) (dO (uv 1)) (dO (aQ (own:=false) (uv 1) aJ))) (uv 2))
 (cD (iP X_NoText (uv 1)))
 (j6 aY))) ?_
 rintro us M Q E ⟨z,i,c,rfl,hz,hi,q⟩
 refine iA fun A B hA hB=>?_
 simp! only [IK,uO]
 refine ⟨small hz,?_⟩
 by_cases h:z.cps.toList[i]?=some c
 ·rw [if_pos h] at q
  rw [decide_eq_true h]
  subst hB
  simp! only [bJ]
  exact aL q
 ·rw [if_neg h] at q
  rw [decide_eq_false h]
  subst hA
  simp! only [j7]
  exact ⟨Av (by omega),M,Sub.refl M,q⟩
def GR:Nat:=1000000000000000000
def iZ (v k:Nat):List Nat->Nat × Nat
 | []=>(v,k)
 | c :: r=>if 48<=c/\c<=57 then (if v * 10 + (c - 48) > GR\/(v=0/\0 < k) then (v,k) else iZ (v * 10 + (c - 48)) (k + 1) r) else (v,k)
def jF (L:List Nat) (i:Nat):Except Nat (Nat × Nat):=if (iZ 0 0 (L.drop i)).2=0 then .error i else .ok ((iZ 0 0 (L.drop i)).1,i + (iZ 0 0 (L.drop i)).2)
def Fs (N:Addr):i3:=fun us M Q E=>∃ (z:Str) (i:Nat),us=[.str z,.int (i:Int)]/\z.length<=100000/\i<=200000/\(match jF z.cps.toList i with
 | .ok (v,j)=>Q (.tup [.int (v:Int),.int (j:Int)]) M
 | .error k=>E N (AD k) M)
theorem QR (c:Nat):decide (c∈CJ.cps.toList)=decide (48<=c/\c<=57):=by
 have:CJ.cps.toList=List.range' 48 10:=by decide +kernel
 rw [this]
 refine decide_eq_decide.mpr ?_
 rw [List.mem_range'_1]
 omega
theorem R3 (c:Nat):(!(Builtin.Str.occurrences CJ ⟨#[c]⟩ 0 CJ.length 1).isEmpty)=decide (48<=c/\c<=57):=by rw [PySem.StrLaws.found_one,QR]
theorem MD {c:Nat} (h:48<=c/\c<=57):findF CJ ⟨#[c]⟩=((c - 48:Nat):Int):=by
 have:∀ k:Fin 10,findF CJ ⟨#[48 + k.val]⟩=(k.val:Int):=by decide +kernel
 have:=this ⟨c - 48,by omega⟩
 simp only at this
 rw [show 48 + (c - 48)=c by omega] at this
 exact this
theorem EM {L:List Nat} {i c:Nat} (h:L[i]?=some c):iI L (i:Int)=some c:=by
 have hl:=(List.getElem?_eq_some_iff.mp h).1
 unfold iI xI
 rw [if_pos (by omega),if_pos (by omega)]
 simpa using h
theorem J7 {v:Int} (h1:-1000000000000000000<=v) (h2:v<=1000000000000000000):Builtin.Int.intBits v<=60:=PySem.intBits_le_iff.mpr (by omega)
theorem Na {i j:Int} (h1:-1000000000000000000<=i) (h2:i<=1000000000000000000) (h3:-1000000000000000000<=j) (h4:j<=1000000000000000000):wU i j:=.inr ⟨Nat.le_trans (J7 h1 h2) (by decide),Nat.le_trans (J7 h3 h4) (by decide)⟩
theorem P0 {N:Addr} {t1 t2:Tok} (F:b8 K "read_number" "read_number" oH f fd) (hm:mg "read_number"=some (.ref f)) (bF:mg "len"=none) (j8:mg "GREATEST"=some (.int 1000000000000000000 t1)) (rZ:mg "FIGURES"=some (.str CJ t2)) (X_NoText:pA P w K mg base 1 "NoText" N "at" condT):bV P w K mg base 3 "read_number" (Fs N) []:=by
 refine eF F hm gH (mJ fun _ _ _ _ _ _ _ _=>rfl) (fun us M Q E h=>by obtain ⟨_,_,rfl,_⟩:=h;rfl) (aX (cE (aS 2 gH.nd aJ))
 (aX (cE (aS 3 gH.nd (uv 1)))
 (aX (cE (v7 (i9.pt (xX (bS sE (uv 3) (cI eI bF (aA (uv 0) aB))) (Ao (bS Ji (aV (uv 0) (uv 3)) (BA rZ)))))
 (aG (aS 4 gH.nd (aQ (own:=false) (Cw (own:=false) (uv 2) aJ) (RE (BA rZ) (aA (aV (uv 0) (uv 3)) aB))))
 (aG (bY (i9.pt (iW (bS D9 (uv 4) (kN j8)) (iB (i9.pt (xX (bS cG (uv 2) aJ) (Ao (bS D9 (uv 3) (uv 1))))))))
 (aM Oq)
 aY)
 (aG (aS 2 gH.nd (uv 4))
 (aM (aS 3 gH.nd (aQ (own:=false) (uv 3) aJ))))))))
 (aX (k9 (bS cG (uv 3) (uv 1))
 (cD (iP X_NoText (uv 1)))
 (j6 aY))
 (cD (cE (aR (bB (aA (uv 2) (aA (uv 3) aB)))))))))) ?_
 rintro us M Q E ⟨z,i,rfl,hz,hi,q⟩
 have hL:=oS z
 refine aT fun V1 hV1=>?_
 simp! only [bH,hName]
 subst hV1
 refine aT fun V2 hV2=>?_
 simp! only [bH,hName]
 subst hV2
 refine aT fun V3 hV3=>?_
 simp only [AG]
 refine lA (fun τ M'=>∃ (k v:Nat) (e:Option U),τ=[some (.str z),some (.int (i:Int)),some (.int (v:Int)),some (.int ((i + k:Nat):Int)),e]/\M'=M/\v<=GR/\iZ v k (z.cps.toList.drop (i + k))=iZ 0 0 (z.cps.toList.drop i)) (fun τ _=>match τ with | [_,_,_,some (.int e),_]=>z.length - e.toNat | _=>0) ⟨0,0,none,rfl,rfl,by decide,rfl⟩ ?_
 rintro τ M' ⟨k,v,e,rfl,rfl,hv,hn⟩
 have fin:∀ (e:Option U),iZ 0 0 (z.cps.toList.drop i)=(v,k)->V3 [some (U.str z),some (U.int (i:Int)),some (U.int (v:Int)),some (U.int ((i + k:Nat):Int)),e] M':=fun e he=>by
  subst hV3
  refine aT fun V4 hV4=>?_
  refine iA fun A B hA hB=>?_
  simp! only [true_and]
  unfold jF at q
  rw [he] at q
  by_cases hk:k=0
  ·rw [decide_eq_true (by omega),if_pos rfl]
   rw [if_pos hk] at q
   subst hA
   simp! only [j7]
   exact ⟨Av (by omega),M',Sub.refl M',q⟩
  ·rw [decide_eq_false (by omega),if_neg (by simp)]
   rw [if_neg hk] at q
   subst hB
   simp! only [bJ]
   subst hV4
   simp! only [bG]
   exact aL q
 simp! only [true_and]
 refine ⟨small hz,?_⟩
 cases hd:z.cps.toList.drop (i + k) with
 | nil =>
  rw [hd] at hn
  have hlt:z.cps.toList.length<=i + k:=List.drop_eq_nil_iff.mp hd
  rw [if_neg (fun e=>by have:=of_decide_eq_true e;omega)]
  exact fin e hn.symm
 | cons c r =>
  obtain ⟨a1,a2,a3⟩:=dR hd
  rw [hd] at hn
  rw [if_pos (decide_eq_true (by omega))]
  refine ⟨small hz,c,EM a1,?_⟩
  rw [R3]
  by_cases hc:48<=c/\c<=57
  ·rw [decide_eq_true hc,if_pos rfl]
   simp only [iZ,if_pos hc] at hn
   refine aO fun V4 hV4=>?_
   have hG:(GR:Nat)=1000000000000000000:=rfl
   simp! only [bH,hName,zA,DO,EN]
   refine ⟨Na (by omega) (by omega) (by decide) (by decide),⟨_,rfl⟩,small hz,_,EM a1,?_⟩
   rw [MD hc]
   have ev:((v:Int) * 10 + ((c - 48:Nat):Int))=((v * 10 + (c - 48):Nat):Int):=by omega
   rw [ev]
   generalize hx:v * 10 + (c - 48)=x at hn
   subst hV4
   refine aO fun V5 hV5=>?_
   refine bR fun A B hA hB=>?_
   simp! only [true_and]
   by_cases hstop:x > GR\/(v=0/\0 < k)
   ·rw [if_pos hstop] at hn
    have hA':A M':=by
     subst hA
     simp! only [mD]
     exact fin _ hn.symm
    refine oR (fun _=>hA') (fun b1=>oR (fun _=>oR (fun _=>hA') fun b3=>?_) fun b2=>?_)
    ·have h1:¬ ((1000000000000000000:Int) < (x:Int)):=fun z=>b1 (decide_eq_true z)
     have h3:¬ ((i:Int) < ((i + k:Nat):Int)):=fun z=>b3 (decide_eq_true z)
     omega
    ·have h1:¬ ((1000000000000000000:Int) < (x:Int)):=fun z=>b1 (decide_eq_true z)
     have h2:¬ ((v:Int)=0):=fun z=>b2 (decide_eq_true z)
     omega
   ·rw [if_neg hstop] at hn
    have hB':B M':=by
     subst hB
     simp only [bJ]
     subst hV5
     simp! only [sX,bH,hName]
     refine ⟨⟨k + 1,x,some (.int (x:Int)),by rw [show (((i + k:Nat):Int) + 1)=((i + (k + 1):Nat):Int) by omega],by omega,?_⟩,by omega⟩
     rw [show i + (k + 1)=i + k + 1 by omega,a3]
     exact hn
    refine oR (fun b1=>?_) (fun _=>oR (fun b2=>oR (fun b3=>?_) fun _=>hB') fun _=>hB')
    ·have:=of_decide_eq_true b1
     omega
    ·have h2:=of_decide_eq_true b2
     have h3:=of_decide_eq_true b3
     omega
  ·rw [decide_eq_false hc,if_neg (by simp)]
   simp only [iZ,if_neg hc] at hn
   exact fin e hn.symm
def pH:Nat->List Nat->Nat
 | 0,_=>0
 | _,[]=>0
 | n + 1,c :: r=>if 97<=c/\c<=122 then pH n r + 1 else 0
theorem Lj:∀ (n:Nat) (l:List Nat),pH n l<=n/\pH n l<=l.length
 | 0,l=>⟨Nat.le_refl _,Nat.zero_le _⟩
 | n + 1,[]=>⟨Nat.zero_le _,Nat.le_refl _⟩
 | n + 1,c :: r=>by
  have:=Lj n r
  simp only [pH,List.length_cons]
  split <;> omega
theorem PZ (c:Nat):decide (c∈x9.cps.toList)=decide (97<=c/\c<=122):=by
 have:x9.cps.toList=List.range' 97 26:=by decide +kernel
 rw [this]
 refine decide_eq_decide.mpr ?_
 rw [List.mem_range'_1]
 omega
theorem Ly (c:Nat):(!(Builtin.Str.occurrences x9 ⟨#[c]⟩ 0 x9.length 1).isEmpty)=decide (97<=c/\c<=122):=by rw [PySem.StrLaws.found_one,PZ]
def Md:cF:=fun us M Q=>∃ (z:Str) (i:Nat),us=[.str z,.int (i:Int)]/\z.length<=100000/\Q (.int ((i + pH 8 (z.cps.toList.drop i):Nat):Int)) M
theorem QF {t1 t2:Tok} (F:b8 K "end_of_name" "end_of_name" pB f fd) (hm:mg "end_of_name"=some (.ref f)) (bF:mg "len"=none) (gJ:mg "LONGEST_NAME"=some (.int 8 t1)) (lK:mg "LETTERS"=some (.str x9 t2)):Callee P w K mg base 1 "end_of_name" Md []:=by
 refine cB F hm mX (mJ fun _ _ _ _ _ _ _ _=>rfl) (aG (aS 2 mX.nd (uv 1))
 (aG (v7 (i9.pt (xX (bS sE (uv 2) (cI eI bF (aA (uv 0) aB))) (xX (bS sE (uv 2) (aQ (own:=false) (uv 1) (kN gJ))) (Ao (bS Ji (aV (uv 0) (uv 2)) (BA lK))))))
 (aM (aS 2 mX.nd (aQ (own:=false) (uv 2) aJ))))
 (aM (aR (uv 2))))) ?_
 rintro us M Q ⟨z,i,rfl,hz,q⟩
 refine ⟨rfl,?_⟩
 have hL:=oS z
 refine aO fun V1 hV1=>?_
 simp! only [bH,hName]
 subst hV1
 refine aO fun V2 hV2=>?_
 refine lA (fun τ M'=>∃ k:Nat,τ=[some (.str z),some (.int (i:Int)),some (.int ((i + k:Nat):Int))]/\M'=M/\k<=8/\k + pH (8 - k) (z.cps.toList.drop (i + k))=pH 8 (z.cps.toList.drop i)) (fun τ _=>match τ with | [_,_,some (.int e)]=>i + 8 - e.toNat | _=>0) ⟨0,rfl,rfl,by decide,by rw [Nat.zero_add,Nat.add_zero]⟩ ?_
 rintro τ M' ⟨k,rfl,rfl,hk,hn⟩
 have fin:pH (8 - k) (z.cps.toList.drop (i + k))=0->V2 [some (U.str z),some (U.int (i:Int)),some (U.int ((i + k:Nat):Int))] M':=fun h0=>by
  rw [h0] at hn
  subst hV2
  simp! only [bG]
  rw [<- hn] at q
  exact aL q
 simp! only [true_and]
 refine ⟨small hz,?_⟩
 cases hd:z.cps.toList.drop (i + k) with
 | nil =>
  have hlt:z.cps.toList.length<=i + k:=List.drop_eq_nil_iff.mp hd
  rw [if_neg (fun e=>by have:=of_decide_eq_true e;omega)]
  refine fin ?_
  rw [hd];cases (8 - k) <;> rfl
 | cons c r =>
  obtain ⟨a1,a2,a3⟩:=dR hd
  rw [if_pos (decide_eq_true (by omega))]
  by_cases h8:k=8
  ·subst h8
   rw [if_neg (fun e=>by have:=of_decide_eq_true e;omega)]
   exact fin rfl
  ·rw [if_pos (decide_eq_true (by omega))]
   refine ⟨small hz,c,EM a1,?_⟩
   rw [Ly]
   obtain ⟨m,hm8⟩:∃ m,8 - k=m + 1:=⟨7 - k,by omega⟩
   by_cases hc:97<=c/\c<=122
   ·rw [decide_eq_true hc,if_pos rfl]
    simp! only [bH,hName]
    refine ⟨⟨k + 1,by rw [show (((i + k:Nat):Int) + 1)=((i + (k + 1):Nat):Int) by omega],by omega,?_⟩,by omega⟩
    rw [hd,hm8] at hn
    simp only [pH,if_pos hc] at hn
    rw [show i + (k + 1)=i + k + 1 by omega,a3,show 8 - (k + 1)=m by omega]
    omega
   ·rw [decide_eq_false hc,if_neg (by simp)]
    refine fin ?_
    rw [hd,hm8]
    simp only [pH,if_neg hc]
def rX (L:List Nat) (i:Nat):Except Nat (Pt × Nat):=match jF L i with
 | .error k=>.error k
 | .ok (l,j)=>if (L.drop j).take 2=[46,46] then (match jF L (j + 2) with
  | .error k=>.error k
  | .ok (h,j2)=>.ok (.fr (l:Int) (h:Int),j2)) else .error j
theorem EG:∀ (l:List Nat) (v k:Nat),(iZ v k l).2<=k + l.length
 | [],v,k=>Nat.le_refl _
 | c :: r,v,k=>by
  simp only [iZ]
  split
  ·split
   ·simp
   ·have:=EG r (v * 10 + (c - 48)) (k + 1)
    simp only [List.length_cons];omega
  ·simp
theorem vO {L:List Nat} {i v j:Nat} (h:jF L i=.ok (v,j)):i < j/\j<=L.length:=by
 unfold jF at h
 split at h
 ·cases h
 ·rename_i h0
  injection h with h
  injection h with h1 h2
  have:=EG (L.drop i) 0 0
  rw [List.length_drop] at this
  omega
def KU (N:Addr):i3:=fun us M Q E=>∃ (z:Str) (i:Nat),us=[.str z,.int (i:Int)]/\z.length<=100000/\i<=150000/\(match rX z.cps.toList i with
 | .ok (p,j)=>Q (.tup [p.toU,.int (j:Int)]) M
 | .error k=>E N (AD k) M)
theorem V0:Str.ofString ".."=tx [46,46]:=by decide +kernel
theorem QL {N:Addr} (F:b8 K "read_stretch" "read_stretch" mM f fd) (hm:mg "read_stretch"=some (.ref f)) (X_NoText:pA P w K mg base 1 "NoText" N "at" condT) (CX_read_number:bV P w K mg base 3 "read_number" (Fs N) []):bV P w K mg base 4 "read_stretch" (KU N) []:=by
 refine eF F hm l7 (mJ fun _ _ _ _ _ _ _ _=>rfl) (fun us M Q E h=>by obtain ⟨_,_,rfl,_⟩:=h;rfl) (aX (kR 2 l7.nd (eS CX_read_number (aA (uv 0) (aA (uv 1) aB))))
 (aX (k9 (bS sG (kQ (own:=false) (uv 0) (dO (aV (uv 2) aJ)) (dO (aQ (own:=false) (aV (uv 2) aJ) aJ))) bZ)
 (cD (iP X_NoText (aV (uv 2) aJ)))
 (j6 aY))
 (aX (kR 3 l7.nd (eS CX_read_number (aA (uv 0) (aA (aQ (own:=false) (aV (uv 2) aJ) aJ) aB))))
 (cD (cE (aR (bB (aA (bB (aA bZ (aA (aV (uv 2) aJ) (aA (aV (uv 3) aJ) aB)))) (aA (aV (uv 3) aJ) aB))))))))) ?_
 rintro us M Q E ⟨z,i,rfl,hz,hi,q⟩
 have hL:=oS z
 unfold rX at q
 refine aT fun V1 hV1=>?_
 simp! only [mE]
 refine ⟨z,i,rfl,hz,by omega,?_⟩
 cases hr:jF z.cps.toList i with
 | error k =>
  rw [hr] at q
  exact ⟨M,Sub.refl M,q⟩
 | ok vj =>
  obtain ⟨l,j⟩:=vj
  rw [hr] at q
  have hj:=vO hr
  dsimp only at q ⊢
  subst hV1
  refine aT fun V2 hV2=>?_
  refine iA fun A B hA hB=>?_
  have e2:(j:Int) + 2=((j + 2:Nat):Int):=by omega
  have hs:=HY z (i:=j) (j:=j + 2) (by omega)
  rw [show j + 2 - j=2 by omega] at hs
  simp! only [e2,hs,V0,Bx]
  refine ⟨small hz,?_⟩
  by_cases hdd:(z.cps.toList.drop j).take 2=[46,46]
  ·rw [if_pos hdd] at q
   rw [decide_eq_true hdd]
   subst hB
   simp! only [bJ]
   subst hV2
   refine aT fun V3 hV3=>?_
   simp! only [mE,e2]
   refine ⟨z,j + 2,rfl,hz,by omega,?_⟩
   cases hr2:jF z.cps.toList (j + 2) with
   | error k =>
    rw [hr2] at q
    exact ⟨M,Sub.refl M,q⟩
   | ok vj2 =>
    obtain ⟨h,j2⟩:=vj2
    rw [hr2] at q
    dsimp only at q ⊢
    subst hV3
    simp! only [bG]
    exact aL q
  ·rw [if_neg hdd] at q
   rw [decide_eq_false hdd]
   subst hA
   simp! only [j7]
   exact ⟨Av (by omega),M,Sub.refl M,q⟩
def j5 (L:List Nat) (i:Nat):Except Nat (Pt × Nat):=if L[i]?=some 63 then .ok (.any,i + 1) else if L[i]?=some 64 then .ok (.hole (tx ((L.drop (i + 1)).take (pH 8 (L.drop (i + 1))))),i + 1 + pH 8 (L.drop (i + 1))) else rX L i
def Hr (N:Addr):i3:=fun us M Q E=>∃ (z:Str) (i:Nat),us=[.str z,.int (i:Int)]/\z.length<=100000/\i<=150000/\(match j5 z.cps.toList i with
 | .ok (p,j)=>Q (.tup [p.toU,.int (j:Int)]) M
 | .error k=>E N (AD k) M)
theorem VJ:Str.ofString "?"=tx [63]:=by decide +kernel
theorem VU:Str.ofString "@"=tx [64]:=by decide +kernel
theorem Mv {N:Addr} (F:b8 K "read_leaf" "read_leaf" tT f fd) (hm:mg "read_leaf"=some (.ref f)) (Dp:Callee P w K mg base 1 "end_of_name" Md []) (CX_read_stretch:bV P w K mg base 4 "read_stretch" (KU N) []):bV P w K mg base 5 "read_leaf" (Hr N) []:=by
 refine eF F hm rP (mJ fun _ _ _ _ _ _ _ _=>rfl) (fun us M Q E h=>by obtain ⟨_,_,rfl,_⟩:=h;rfl) (aX (cE (aS 2 rP.nd (kQ (own:=false) (uv 0) (dO (uv 1)) (dO (aQ (own:=false) (uv 1) aJ)))))
 (aX (cE (bY (bS cG (uv 2) bZ)
 (aM (aR (bB (aA (bB (aA bZ aB)) (aA (aQ (own:=false) (uv 1) aJ) aB)))))
 aY))
 (aX (cE (bY (bS cG (uv 2) bZ)
 (aG (aS 3 rP.nd (bD Dp (aA (uv 0) (aA (aQ (own:=false) (uv 1) aJ) aB))))
 (aM (aR (bB (aA (bB (aA bZ (aA (kQ (own:=false) (uv 0) (dO (aQ (own:=false) (uv 1) aJ)) (dO (uv 3))) aB))) (aA (uv 3) aB))))))
 aY))
 (cD (Uh (eS CX_read_stretch (aA (uv 0) (aA (uv 1) aB)))))))) ?_
 rintro us M Q E ⟨z,i,rfl,hz,hi,q⟩
 have hL:=oS z
 have e1:(i:Int) + 1=((i + 1:Nat):Int):=by omega
 unfold j5 at q
 refine aT fun V1 hV1=>?_
 simp! only [bH,hName,IK]
 refine ⟨small hz,?_⟩
 subst hV1
 refine aT fun V2 hV2=>?_
 simp only [AG]
 refine bR fun A B hA hB=>?_
 simp! only [VJ,uO]
 by_cases h1:z.cps.toList[i]?=some 63
 ·rw [if_pos h1] at q
  rw [decide_eq_true h1,if_pos rfl]
  subst hA
  simp! only [bG,e1]
  exact aL q
 rw [if_neg h1] at q
 rw [decide_eq_false h1,if_neg (by simp)]
 subst hB
 simp only [bJ]
 subst hV2
 refine aT fun V3 hV3=>?_
 simp only [AG]
 refine bR fun A B hA hB=>?_
 simp! only [VU,uO]
 by_cases h2:z.cps.toList[i]?=some 64
 ·rw [if_pos h2] at q
  rw [decide_eq_true h2,if_pos rfl]
  subst hA
  refine aO fun V4 hV4=>?_
  simp! only [bH,hName,e1]
  refine ⟨z,i + 1,rfl,hz,?_⟩
  subst hV4
  have hs:=HY z (i:=i + 1) (j:=i + 1 + pH 8 (z.cps.toList.drop (i + 1))) (by omega)
  rw [Nat.add_sub_cancel_left] at hs
  simp! only [bG,e1,hs]
  exact ⟨small hz,aL q⟩
 ·rw [if_neg h2] at q
  rw [decide_eq_false h2,if_neg (by simp)]
  subst hB
  simp only [bJ]
  subst hV3
  simp! only [OS]
  refine ⟨z,i,rfl,hz,hi,?_⟩
  cases hr:rX z.cps.toList i with
  | error k =>
   rw [hr] at q
   exact ⟨M,Sub.refl M,q⟩
  | ok pj =>
   rw [hr] at q
   exact aL q
theorem OR (z:Str) {i j k:Nat} (hj:j=i + k) (n:Nat) (hn:n=j + 1):Txt.slice z (some (j:Int)) (some (n:Int))=tx ((z.cps.toList.drop j).take 1):=by
 subst hn
 have:=HY z (i:=j) (j:=j + 1) (by omega)
 rw [show j + 1 - j=1 by omega] at this
 exact this
def oc:Op->Nat
 | .sum=>43 | .less=>45 | .by_=>42
def Fd:Option Nat->Option Op
 | some 43=>some .sum
 | some 45=>some .less
 | some 42=>some .by_
 | _=>none
def sQ (L:List Nat) (i:Nat):Except Nat Op:=if L[i]?=some 32 then (match Fd L[i + 1]? with
 | none=>.error (i + 1)
 | some o=>if L[i + 2]?=some 32 then .ok o else .error (i + 2)) else .error i
def AS:List (Str × Fl):=[("+",.str "sum"),("-",.str "less"),("*",.str "by")]
theorem EU (x:Option Nat):bU AS (tx x.toList)=(Fd x).map fun o=>Fl.str o.word:=by
 cases x with
 | none=>kernel_rfl
 | some c =>
  by_cases h1:c=43
  ·subst h1;kernel_rfl
  by_cases h2:c=45
  ·subst h2;kernel_rfl
  by_cases h3:c=42
  ·subst h3;kernel_rfl
  have e0:Fd (some c)=none:=by
   unfold Fd
   split
   ·rename_i h;cases h;exact (h1 rfl).elim
   ·rename_i h;cases h;exact (h2 rfl).elim
   ·rename_i h;cases h;exact (h3 rfl).elim
   ·rfl
  rw [e0]
  have t1:("+":Str)=tx [43]:=by decide +kernel
  have t2:("-":Str)=tx [45]:=by decide +kernel
  have t3:("*":Str)=tx [42]:=by decide +kernel
  show bU AS (tx [c])=none
  simp only [AS,bU]
  rw [t1,t2,t3,if_neg,if_neg,if_neg]
  ·rw [Bx];simp;omega
  ·rw [Bx];simp;omega
  ·rw [Bx];simp;omega
theorem IH:Str.ofString " "=tx [32]:=by decide +kernel
theorem VE:Str.ofString "("=tx [40]:=by decide +kernel
theorem OT:Str.ofString ")"=tx [41]:=by decide +kernel
theorem Vp:Str.ofString "-"=tx [45]:=by decide +kernel
def K5 (N:Addr):i3:=fun us M Q E=>∃ (z:Str) (i:Nat),us=[.str z,.int (i:Int)]/\z.length<=100000/\i<=150000/\(match sQ z.cps.toList i with
 | .ok o=>Q (.str o.word) M
 | .error k=>E N (AD k) M)
theorem Rq {N:Addr} (F:b8 K "read_middle" "read_middle" oZ f fd) (hm:mg "read_middle"=some (.ref f)) (kI:nF P w K d AS) (kF:mg "MIDDLE_WORDS"=some (.ref d)) (X_NoText:pA P w K mg base 1 "NoText" N "at" condT) (CX_need_sign:bV P w K mg base 3 "need_sign" (zO N) []):bV P w K mg base 4 "read_middle" (K5 N) []:=by
 refine eF F hm t9 (mJ fun _ _ _ _ _ _ _ _=>rfl) (fun us M Q E h=>by obtain ⟨_,_,rfl,_⟩:=h;rfl) (aX (uB (eS CX_need_sign (aA (uv 0) (aA (uv 1) (aA bZ aB)))))
 (aX (cE (aS 2 t9.nd (kQ (own:=false) (uv 0) (dO (aQ (own:=false) (uv 1) aJ)) (dO (aQ (own:=false) (uv 1) aJ)))))
 (aX (k9 (bS (Ie kI) (uv 2) (uK kF))
 (cD (iP X_NoText (aQ (own:=false) (uv 1) aJ)))
 (j6 aY))
 (aX (uB (eS CX_need_sign (aA (uv 0) (aA (aQ (own:=false) (uv 1) aJ) (aA bZ aB)))))
 (cD (cE (aR (KY kI (uK kF) (uv 2))))))))) ?_
 rintro us M Q E ⟨z,i,rfl,hz,hi,q⟩
 have e1:(i:Int) + 1=((i + 1:Nat):Int):=by omega
 have e2:(i:Int) + 2=((i + 2:Nat):Int):=by omega
 unfold sQ at q
 refine aT fun V1 hV1=>?_
 simp! only [qH,IH]
 refine ⟨z,i,32,rfl,hz,by omega,?_⟩
 by_cases h1:z.cps.toList[i]?=some 32
 rotate_left
 ·rw [if_neg h1] at q ⊢
  exact ⟨M,Sub.refl M,q⟩
 rw [if_pos h1] at q ⊢
 subst hV1
 refine aT fun V2 hV2=>?_
 have hs:Txt.slice z (some ((i + 1:Nat):Int)) (some ((i + 2:Nat):Int))=tx z.cps.toList[i + 1]?.toList:=by rw [OR z (i:=i) (k:=1) rfl (i + 2) rfl,take1]
 simp! only [bH,hName,e1,e2,hs]
 refine ⟨small hz,?_⟩
 subst hV2
 refine aT fun V3 hV3=>?_
 refine iA fun A B hA hB=>?_
 simp! only [l3,EU,Option.isSome_map]
 cases ho:Fd z.cps.toList[i + 1]? with
 | none =>
  rw [ho] at q
  rw [if_pos (by rfl)]
  subst hA
  simp! only [j7,e1]
  exact ⟨Av (by omega),M,Sub.refl M,q⟩
 | some o =>
  rw [ho] at q
  dsimp only at q
  rw [if_neg (by simp)]
  subst hB
  simp! only [bJ]
  subst hV3
  refine aT fun V4 hV4=>?_
  simp! only [qH,e2,IH]
  refine ⟨z,i + 2,32,rfl,hz,by omega,?_⟩
  by_cases h2:z.cps.toList[i + 2]?=some 32
  ·rw [if_pos h2] at q ⊢
   subst hV4
   simp! only [bG,nI,EU,ho,Option.map_some]
   exact aL q
  ·rw [if_neg h2] at q ⊢
   exact ⟨M,Sub.refl M,q⟩
inductive Fr where
 | t | l | r (o:Op) (a:Pt)
def ER:Fr->U
 | .t=>.lst [.str (Str.ofString "turn")]
 | .l=>.lst [.str (Str.ofString "")]
 | .r o a=>.lst [.str o.word,a.toU]
def pK (c:List Fr):List U:=(c.map ER).reverse
theorem qF (f:Fr) (c:List Fr):pK (f :: c)=pK c++[ER f]:=by simp [pK]
theorem nD (c:List Fr):(pK c).length=c.length:=by simp [pK]
theorem j4 {L:List Nat} {i c:Nat} (h:L[i]?=some c):i < L.length:=(List.getElem?_eq_some_iff.mp h).1
def j3 (L:List Nat) (i:Nat) (c:List Fr):Except Nat (Nat × List Fr) :=
 if h:L[i]?=some 40 then (if L[i + 1]?=some 45 then (if L[i + 2]?=some 32 then j3 L (i + 3) (.t :: c) else .error (i + 2)) else j3 L (i + 1) (.l :: c)) else .ok (i,c)
termination_by L.length - i
decreasing_by all_goals (have:=j4 h;omega)
def LC (N:Addr):i3:=fun us M Q E=>∃ (z:Str) (i:Nat) (p:Addr) (c:List Fr),us=[.str z,.int (i:Int),.ref p]/\z.length<=100000/\i<=100000/\c.length<=i/\M p=some (.lst (pK c))/\(match j3 z.cps.toList i c with
 | .ok (j,c')=>Q (.int (j:Int)) (mup M p (.lst (pK c')))
 | .error k=>∀ c',E N (AD k) (mup M p (.lst (pK c'))))
theorem Kd {M:aE} {a:Addr} {o:MO} (h:M a=some o):mup M a o=M:=by
 funext b
 unfold mup
 split
 ·rename_i e;subst e;exact h.symm
 ·rfl
theorem Rk {N:Addr} (F:b8 K "read_openings" "read_openings" lS f fd) (hm:mg "read_openings"=some (.ref f)) (CX_need_sign:bV P w K mg base 3 "need_sign" (zO N) []):bV P w K mg base 4 "read_openings" (LC N) []:=by
 refine eF F hm jC (Tp fun _ _ _ _ _ _ _ _ _=>rfl) (fun us M Q E h=>by obtain ⟨_,_,_,_,rfl,_⟩:=h;rfl) (aX (cE (aS 3 jC.nd (uv 1)))
 (aX (A4 (bS cG (kQ (own:=false) (uv 0) (dO (uv 3)) (dO (aQ (own:=false) (uv 3) aJ))) bZ)
 (cD (k9 (bS cG (kQ (own:=false) (uv 0) (dO (aQ (own:=false) (uv 3) aJ)) (dO (aQ (own:=false) (uv 3) aJ))) bZ)
 (aX (uB (eS CX_need_sign (aA (uv 0) (aA (aQ (own:=false) (uv 3) aJ) (aA bZ aB)))))
 (aX (cE (qB (rV (uv 2) (aA (nX (own:=false) (aA bZ aB)) aB))))
 (cD (cE (aS 3 jC.nd (aQ (own:=false) (uv 3) aJ))))))
 (aX (cE (qB (rV (uv 2) (aA (nX (own:=false) (aA bZ aB)) aB))))
 (cD (cE (aS 3 jC.nd (aQ (own:=false) (uv 3) aJ))))))))
 (cD (cE (aR (uv 3)))))) ?_
 rintro us M Q E ⟨z,i0,p,c0,rfl,hz,hi0,hc0,hM,q⟩
 have hL:=oS z
 refine aT fun V1 hV1=>?_
 simp! only [bH,hName]
 subst hV1
 refine aT fun V2 hV2=>?_
 refine lA (fun τ M'=>∃ (i:Nat) (c:List Fr),τ=[some (.str z),some (.int (i0:Int)),some (.ref p),some (.int (i:Int))]/\M'=mup M p (.lst (pK c))/\c.length<=i/\i<=100000/\j3 z.cps.toList i c=j3 z.cps.toList i0 c0) (fun τ _=>match τ with | [_,_,_,some (.int e)]=>z.length - e.toNat | _=>0) ⟨i0,c0,rfl,(Kd hM).symm,hc0,hi0,rfl⟩ ?_
 rintro τ M' ⟨i,c,rfl,rfl,hc,hi,he⟩
 have e1:(i:Int) + 1=((i + 1:Nat):Int):=by omega
 have e2:(i:Int) + 2=((i + 2:Nat):Int):=by omega
 have e3:(i:Int) + 3=((i + 3:Nat):Int):=by omega
 rw [j3] at he
 simp! only [IK,VE,uO]
 refine ⟨small hz,?_⟩
 by_cases h1:z.cps.toList[i]?=some 40
 rotate_left
 ·rw [dif_neg h1] at he
  rw [decide_eq_false h1,if_neg (by simp)]
  rw [<- he] at q
  subst hV2
  simp! only [bG]
  exact Tu hM q
 have hlt:=j4 h1
 rw [dif_pos h1] at he
 rw [decide_eq_true h1,if_pos rfl]
 refine iA fun A B hA hB=>?_
 have hs:Txt.slice z (some ((i + 1:Nat):Int)) (some ((i + 2:Nat):Int))=tx ((z.cps.toList.drop (i + 1)).take 1):=OR z (i:=i) (k:=1) rfl (i + 2) rfl
 simp! only [e1,e2,hs,Vp,uO]
 refine ⟨small hz,?_⟩
 by_cases h2:z.cps.toList[i + 1]?=some 45
 ·rw [if_pos h2] at he
  rw [decide_eq_true h2,if_pos rfl]
  subst hA
  refine aT fun V3 hV3=>?_
  simp! only [qH,e2,IH]
  refine ⟨z,i + 2,32,rfl,hz,by omega,?_⟩
  by_cases h3:z.cps.toList[i + 2]?=some 32
  ·have hlt3:=j4 h3
   rw [if_pos h3] at he ⊢
   subst hV3
   refine aT fun V4 hV4=>?_
   simp! only [k8,nD]
   refine ⟨lM,big (by omega),?_⟩
   subst hV4
   simp! only [bH,hName,e3]
   exact ⟨⟨i + 3,.t :: c,rfl,by rw [qF];rfl,by simp only [List.length_cons];omega,by omega,he⟩,by omega⟩
  ·rw [if_neg h3] at he ⊢
   rw [<- he] at q
   exact ⟨_,Sub.refl _,q c⟩
 ·rw [if_neg h2] at he
  rw [decide_eq_false h2,if_neg (by simp)]
  subst hB
  refine aT fun V3 hV3=>?_
  simp! only [k8,nD]
  refine ⟨lM,big (by omega),?_⟩
  subst hV3
  simp! only [bH,hName,e1]
  exact ⟨⟨i + 1,.l :: c,rfl,by rw [qF];rfl,by simp only [List.length_cons];omega,by omega,he⟩,by omega⟩
def kO (L:List Nat):Pt->Nat->List Fr->Except Nat (Option Pt × Nat × List Fr)
 | t,i,[]=>.ok (some t,i,[])
 | t,i,.l :: c=>match sQ L i with
  | .error k=>.error k
  | .ok o=>.ok (none,i + 3,.r o t :: c)
 | t,i,.t :: c=>if L[i]?=some 41 then kO L (.turn t) (i + 1) c else .error i
 | t,i,.r o a :: c=>if L[i]?=some 41 then kO L (.two o a t) (i + 1) c else .error i
theorem Nm {L:List Nat} {i:Nat} {o:Op} (h:sQ L i=.ok o):L[i]?=some 32/\Fd L[i + 1]?=some o/\L[i + 2]?=some 32:=by
 unfold sQ at h
 split at h
 ·rename_i h1
  split at h
  ·cases h
  ·rename_i o' h2
   split at h
   ·rename_i h3;cases h;exact ⟨h1,h2,h3⟩
   ·cases h
 ·cases h
theorem EA (L:List Nat):∀ (c:List Fr) (t:Pt) (i:Nat) (r:Option Pt) (k:Nat) (c':List Fr),kO L t i c=.ok (r,k,c')->i<=k/\k<=i + c.length + 3/\c'.length<=c.length/\(r=none->i + 3<=k/\k<=L.length)
 | [],t,i,r,k,c',h=>by cases h;exact ⟨Nat.le_refl _,by simp,Nat.le_refl _,fun z=>by cases z⟩
 | .l :: c,t,i,r,k,c',h=>by
  simp only [kO] at h
  split at h
  ·cases h
  ·rename_i o ho
   cases h
   obtain ⟨_,_,h3⟩:=Nm ho
   have:=j4 h3
   exact ⟨by omega,by simp only [List.length_cons];omega,by simp,fun _=>⟨by omega,by omega⟩⟩
 | .t :: c,t,i,r,k,c',h=>by
  simp only [kO] at h
  split at h
  ·obtain ⟨a1,a2,a3,a4⟩:=EA L c _ _ _ _ _ h
   exact ⟨by omega,by simp only [List.length_cons];omega,by simp only [List.length_cons];omega,fun z=>by have:=a4 z;omega⟩
  ·cases h
 | .r o a :: c,t,i,r,k,c',h=>by
  simp only [kO] at h
  split at h
  ·obtain ⟨a1,a2,a3,a4⟩:=EA L c _ _ _ _ _ h
   exact ⟨by omega,by simp only [List.length_cons];omega,by simp only [List.length_cons];omega,fun z=>by have:=a4 z;omega⟩
  ·cases h
theorem Sw (L:List Nat):∀ (m i:Nat) (c:List Fr) (j:Nat) (c':List Fr),L.length - i<=m->j3 L i c=.ok (j,c')->i<=L.length->i<=j/\j<=L.length/\c'.length + i<=c.length + j:=by
 intro m
 induction m with
 | zero =>
  intro i c j c' hm h hi
  rw [j3] at h
  split at h
  ·rename_i h1;have:=j4 h1;omega
  ·cases h;exact ⟨Nat.le_refl _,hi,Nat.le_refl _⟩
 | succ m ih =>
  intro i c j c' hm h hi
  rw [j3] at h
  split at h
  ·rename_i h1
   have:=j4 h1
   split at h
   ·split at h
    ·rename_i h3
     have:=j4 h3
     have:=ih _ _ _ _ (by omega) h (by omega)
     simp only [List.length_cons] at this
     omega
    ·cases h
   ·have:=ih _ _ _ _ (by omega) h (by omega)
    simp only [List.length_cons] at this
    omega
  ·cases h;exact ⟨Nat.le_refl _,hi,Nat.le_refl _⟩
theorem NL {L:List Nat} {i j:Nat} {p:Pt} (h:rX L i=.ok (p,j)):i < j/\j<=L.length:=by
 unfold rX at h
 split at h
 ·cases h
 ·rename_i l j1 h1
  have:=vO h1
  split at h
  ·split at h
   ·cases h
   ·rename_i h' j2 h2
    have:=vO h2
    cases h
    omega
  ·cases h
theorem L5 {L:List Nat} {i j:Nat} {p:Pt} (h:j5 L i=.ok (p,j)):i < j/\j<=L.length:=by
 unfold j5 at h
 split at h
 ·rename_i h1;have:=j4 h1;cases h;omega
 ·split at h
  ·rename_i h1
   have:=j4 h1
   have:=(Lj 8 (L.drop (i + 1))).2
   rw [List.length_drop] at this
   cases h;omega
  ·exact NL h
def Lr (N:Addr):i3:=fun us M Q E=>∃ (z:Str) (t:Pt) (i:Nat) (p:Addr) (c:List Fr),us=[.str z,t.toU,.int (i:Int),.ref p]/\z.length<=100000/\i<=100000/\c.length<=100000/\M p=some (.lst (pK c))/\(match kO z.cps.toList t i c with
 | .ok (some T,j,_)=>Q (.tup [T.toU,.int (j:Int)]) (mup M p (.lst []))
 | .ok (none,j,c')=>Q (.tup [.non,.int (j:Int)]) (mup M p (.lst (pK c')))
 | .error k=>∀ c',E N (AD k) (mup M p (.lst (pK c'))))
theorem Wi {α:Type} {l:List α} {a:α}:(l++[a]).getLast?=some a:=by simp
theorem VL {α:Type} {l:List α} {a:α}:(l++[a]).dropLast=l:=by simp
theorem Qo {N:Addr} (F:b8 K "read_behind" "read_behind" pG f fd) (hm:mg "read_behind"=some (.ref f)) (bK:mg "tuple"=none) (CX_need_sign:bV P w K mg base 3 "need_sign" (zO N) []) (CX_read_middle:bV P w K mg base 4 "read_middle" (K5 N) []):bV P w K mg base 5 "read_behind" (Lr N) []:=by
 refine eF F hm gG (TN fun _ _ _ _ _ _ _ _ _ _=>rfl) (fun us M Q E h=>by obtain ⟨_,_,_,_,_,rfl,_⟩:=h;rfl) (aX (cE (aS 4 gG.nd (uv 1)))
 (aX (cE (aS 5 gG.nd (uv 2)))
 (aX (A4 (cN (uv 3))
 (aX (cE (aS 6 gG.nd (Km (uv 3))))
 (aX (k9 (bS cG (aV (uv 6) aJ) bZ)
 (aX (uB (KG (uv 3) (Cy (Tq (own:=false) (Cy (eS CX_read_middle (aA (uv 0) (aA (uv 5) aB))) (HB (aA (uv 4) aB)))) (HB aB))))
 (cD (cE (aR (bB (aA GY (aA (aQ (own:=false) (uv 5) aJ) aB)))))))
 (j6 aY))
 (aX (uB (eS CX_need_sign (aA (uv 0) (aA (uv 5) (aA bZ aB)))))
 (aX (cE (aS 4 gG.nd (pE qC bK (aA (aQ (own:=false) (uv 6) (nX (own:=false) (aA (uv 4) aB))) aB))))
 (cD (cE (aS 5 gG.nd (aQ (own:=false) (uv 5) aJ)))))))))
 (cD (cE (aR (bB (aA (uv 4) (aA (uv 5) aB))))))))) ?_
 rintro us M Q E ⟨z,t0,i0,p,c0,rfl,hz,hi0,hc0,hM,q⟩
 have hL:=oS z
 refine aT fun V1 hV1=>?_
 simp! only [bH,hName]
 subst hV1
 refine aT fun V2 hV2=>?_
 simp! only [bH,hName]
 subst hV2
 refine aT fun V3 hV3=>?_
 refine lA (fun τ M'=>∃ (i:Nat) (t:Pt) (c:List Fr) (e:Option U),τ=[some (.str z),some t0.toU,some (.int (i0:Int)),some (.ref p),some t.toU,some (.int (i:Int)),e]/\M'=mup M p (.lst (pK c))/\i<=100000/\c.length<=100000/\kO z.cps.toList t i c=kO z.cps.toList t0 i0 c0) (fun _ M'=>match M' p with | some (.lst l)=>l.length | _=>0) ⟨i0,t0,c0,none,rfl,(Kd hM).symm,hi0,hc0,rfl⟩ ?_
 rintro τ M' ⟨i,t,c,e,rfl,rfl,hic,hc,he⟩
 have e1:(i:Int) + 1=((i + 1:Nat):Int):=by omega
 have e3:(i:Int) + 3=((i + 3:Nat):Int):=by omega
 cases c with
 | nil =>
  simp only [kO] at he
  rw [<- he] at q
  simp! only [pK,List.reverse_nil,List.isEmpty_nil]
  subst hV3
  simp! only [bG]
  exact aL q
 | cons fm c =>
  simp only [List.length_cons] at hc
  have hne:(pK (fm :: c)).isEmpty=false:=by rw [qF];simp
  simp! only [hne]
  refine aT fun V4 hV4=>?_
  simp! only [bH,hName,qF,Wi,VL]
  refine ⟨lM,?_⟩
  subst hV4
  refine aT fun V5 hV5=>?_
  refine iA fun A B hA hB=>?_
  cases fm with
  | l =>
   simp! only [ER]
   subst hA
   simp only [kO] at he
   refine aT fun V6 hV6=>?_
   simp! only [qH,SA,Eb,Pz]
   refine ⟨lM,z,i,rfl,hz,by omega,?_⟩
   cases ho:sQ z.cps.toList i with
   | error k =>
    rw [ho] at he
    rw [<- he] at q
    exact ⟨_,Sub.refl _,q c⟩
   | ok o =>
    rw [ho] at he
    rw [<- he] at q
    dsimp only at q ⊢
    simp! only [nD]
    subst hV6
    rw [qF] at q
    simp! only [bG,e3]
    exact ⟨big (by omega),aL q⟩
  | t =>
   simp! only [ER,show decide (Str.ofString "turn"=Str.ofString "")=false by decide +kernel]
   subst hB
   simp only [bJ,AG]
   subst hV5
   simp only [kO] at he
   refine aT fun V6 hV6=>?_
   simp! only [qH,OT]
   refine ⟨z,i,41,rfl,hz,by omega,?_⟩
   by_cases h1:z.cps.toList[i]?=some 41
   ·have hlt:=j4 h1
    rw [if_pos h1] at he ⊢
    subst hV6
    refine aT fun V7 hV7=>?_
    simp! only [bH,hName,ER]
    subst hV7
    simp! only [bH,hName,e1]
    exact ⟨⟨i + 1,.turn t,c,_,rfl,rfl,by omega,by omega,he⟩,by rw [nD,nD];simp⟩
   ·rw [if_neg h1] at he ⊢
    rw [<- he] at q
    exact ⟨_,Sub.refl _,q c⟩
  | r o a =>
   have hw:decide (o.word=Str.ofString "")=false:=by cases o <;> decide +kernel
   simp! only [ER,hw]
   subst hB
   simp only [bJ,AG]
   subst hV5
   simp only [kO] at he
   refine aT fun V6 hV6=>?_
   simp! only [qH,OT]
   refine ⟨z,i,41,rfl,hz,by omega,?_⟩
   by_cases h1:z.cps.toList[i]?=some 41
   ·have hlt:=j4 h1
    rw [if_pos h1] at he ⊢
    subst hV6
    refine aT fun V7 hV7=>?_
    simp! only [bH,hName,ER]
    subst hV7
    simp! only [bH,hName,e1]
    exact ⟨⟨i + 1,.two o a t,c,_,rfl,rfl,by omega,by omega,he⟩,by rw [nD,nD];simp⟩
   ·rw [if_neg h1] at he ⊢
    rw [<- he] at q
    exact ⟨_,Sub.refl _,q c⟩
def qZ (L:List Nat):Nat->Nat->List Fr->Except Nat Pt
 | 0,_,_=>.error 0
 | n + 1,i,c=>match j3 L i c with
  | .error k=>.error k
  | .ok (i1,c1)=>match j5 L i1 with
   | .error k=>.error k
   | .ok (t,j)=>match kO L t j c1 with
    | .error k=>.error k
    | .ok (some T,k,_)=>if k < L.length then .error k else .ok T
    | .ok (none,k,c2)=>qZ L n k c2
def dQ (L:List Nat):Except Nat Pt:=qZ L (L.length + 2) 0 []
def LD (N fl:Addr):i3:=fun us M Q E=>∃ z:Str,us=[.str z,.ref fl]/\z.length<=100000/\(match dQ z.cps.toList with
 | .ok T=>Q T.toU M
 | .error k=>E N (AD k) M)
theorem PQ {N:Addr} (F:b8 K "read_shape" "read_shape" qU f fd) (hm:mg "read_shape"=some (.ref f)) (bF:mg "len"=none) (X_NoText:pA P w K mg base 1 "NoText" N "at" condT) (AX_read_leaf:yU P w K mg base 5 fl (Hr N)) (CX_read_openings:bV P w K mg base 4 "read_openings" (LC N) []) (CX_read_behind:bV P w K mg base 5 "read_behind" (Lr N) []):bV P w K mg base 6 "read_shape" (LD N fl) []:=by
 refine eF F hm dE (mJ fun _ _ _ _ _ _ _ _=>rfl) (fun us M Q E h=>by obtain ⟨_,rfl,_⟩:=h;rfl) (aX (cE (aS 2 dE.nd (nX (own:=true) aB)))
 (aX (cE (aS 3 dE.nd GY))
 (aX (cE (aS 4 dE.nd aJ))
 (aX (A4 (bS OY (uv 3) GY)
 (aX (kR 4 dE.nd (eS CX_read_openings (aA (uv 0) (aA (uv 4) (aA (uv 2) aB)))))
 (aX (kR 5 dE.nd (Nn 1 AX_read_leaf (aA (uv 0) (aA (uv 4) aB))))
 (aX (kR 5 dE.nd (eS CX_read_behind (aA (uv 0) (aA (aV (uv 5) aJ) (aA (aV (uv 5) aJ) (aA (uv 2) aB))))))
 (aX (cE (aS 3 dE.nd (aV (uv 5) aJ)))
 (cD (cE (aS 4 dE.nd (aV (uv 5) aJ)))))))))
 (aX (k9 (bS sE (uv 4) (cI eI bF (aA (uv 0) aB)))
 (cD (iP X_NoText (uv 4)))
 (j6 aY))
 (cD (cE (aR (uv 3))))))))) ?_
 rintro us M Q E ⟨z,rfl,hz,q⟩
 have hL:=oS z
 generalize hR:dQ z.cps.toList=R at q
 refine aT fun V1 hV1=>?_
 simp! only [bH,hName]
 intro p hp
 subst hV1
 refine aT fun V2 hV2=>?_
 simp! only [bH,hName]
 subst hV2
 refine aT fun V3 hV3=>?_
 simp! only [bH,hName]
 subst hV3
 refine aT fun V4 hV4=>?_
 have no:∀ k o,R=.error k->∃ M',U2.Sub M' (mup M p o)/\E N (AD k) M':=fun k o h=>by
  subst h
  exact ⟨M,(Sub.refl M).mup hp,q⟩
 refine lA (fun τ M'=>∃ (s:U) (i:Nat) (e:Option U) (c:List Fr),τ=[some (.str z),some (.ref fl),some (.ref p),some s,some (.int (i:Int)),e]/\M'=mup M p (.lst (pK c))/\((∃ T:Pt,s=T.toU/\i<=300000/\R=if i < z.cps.toList.length then .error i else .ok T)\/(s=.non/\∃ n,i<=z.cps.toList.length/\z.cps.toList.length + 2<=n + i/\c.length<=i/\qZ z.cps.toList n i c=R))) (fun τ _=>match τ with | [_,_,_,_,some (.int i),_]=>400000 - i.toNat | _=>0) ⟨.non,0,none,[],rfl,rfl,.inr ⟨rfl,_,Nat.zero_le _,by omega,by simp,hR⟩⟩ ?_
 rintro τ M' ⟨s,i,e,c,rfl,rfl,(⟨T,rfl,hi,hT⟩ | ⟨rfl,n,hi,hn,hc,hs⟩)⟩
 ·have hnn:eH T.toU=false:=by cases T <;> rfl
  simp_all! only [hnn,uQ,tX,zC,B0,yJ,yN,zJ,yA,uD,bM,gI,qY,yH,Fo,zE,aD,KJ,Nat.reduceLeDiff,Option.getD_some,AG,Bs,zU]
  subst hV4
  refine aT fun V5 hV5=>?_
  refine iA fun A B hA hB=>?_
  simp! only [true_and]
  refine ⟨small hz,?_⟩
  by_cases hlt:i < z.cps.toList.length
  ·rw [if_pos hlt] at hT
   rw [if_pos (decide_eq_true (by omega))]
   subst hA
   simp! only [j7]
   exact ⟨Av (by omega),no i _ hT⟩
  ·rw [if_neg hlt] at hT
   rw [if_neg (fun z=>by have:=of_decide_eq_true z;omega)]
   subst hB
   simp! only [bJ]
   subst hV5
   simp! only [bG]
   subst hT
   exact ⟨_,M,(Sub.refl M).mup hp,.inl rfl,q⟩
 ·obtain ⟨m,rfl⟩:∃ m,n=m + 1:=⟨n - 1,by omega⟩
  simp only [qZ] at hs
  simp! only [true_and]
  refine aT fun V5 hV5=>?_
  simp! only [mE]
  refine ⟨z,i,p,c,rfl,hz,by omega,hc,bM,?_⟩
  cases ho:j3 z.cps.toList i c with
  | error k =>
   rw [ho] at hs
   dsimp only at hs ⊢
   intro c'
   rw [gI]
   exact no k _ hs.symm
  | ok jc =>
   obtain ⟨i1,c1⟩:=jc
   rw [ho] at hs
   have o1:=Sw z.cps.toList _ i c i1 c1 (Nat.le_refl _) ho hi
   dsimp only at hs ⊢
   rw [gI]
   subst hV5
   refine aT fun V6 hV6=>?_
   simp! only [mE]
   refine ⟨z,i1,rfl,hz,by omega,?_⟩
   cases hl:j5 z.cps.toList i1 with
   | error k =>
    rw [hl] at hs
    dsimp only at hs ⊢
    exact no k _ hs.symm
   | ok tj =>
    obtain ⟨t,j⟩:=tj
    rw [hl] at hs
    have l1:=L5 hl
    dsimp only at hs ⊢
    subst hV6
    refine aT fun V7 hV7=>?_
    simp! only [mE]
    refine ⟨z,t,j,p,c1,rfl,hz,by omega,by omega,bM,?_⟩
    cases hb:kO z.cps.toList t j c1 with
    | error k =>
     rw [hb] at hs
     dsimp only at hs ⊢
     intro c'
     rw [gI]
     exact no k _ hs.symm
    | ok r =>
     obtain ⟨r,k,c2⟩:=r
     have b1:=EA z.cps.toList c1 t j r k c2 hb
     rw [hb] at hs
     cases r with
     | some T =>
      dsimp only at hs ⊢
      rw [gI]
      subst hV7
      simp! only [DK,bH,hName]
      exact ⟨⟨_,k,_,[],rfl,rfl,.inl ⟨T,rfl,by omega,hs.symm⟩⟩,by omega⟩
     | none =>
      have b2:=b1.2.2.2 rfl
      dsimp only at hs ⊢
      rw [gI]
      subst hV7
      simp! only [DK,bH,hName]
      exact ⟨⟨_,k,_,c2,rfl,rfl,.inr ⟨rfl,m,by omega,by omega,by omega,hs⟩⟩,by omega⟩
def HP (L:List Nat):Except Nat Nat:=match jF L 0 with
 | .error k=>.error k
 | .ok (v,j)=>if j < L.length then .error j else .ok v
def O7 (N:Addr):i3:=fun us M Q E=>∃ z:Str,us=[.str z]/\z.length<=100000/\(match HP z.cps.toList with
 | .ok v=>Q (.int (v:Int)) M
 | .error k=>E N (AD k) M)
theorem Ta {N:Addr} (F:b8 K "read_whole_number" "read_whole_number" jP f fd) (hm:mg "read_whole_number"=some (.ref f)) (bF:mg "len"=none) (X_NoText:pA P w K mg base 1 "NoText" N "at" condT) (CX_read_number:bV P w K mg base 3 "read_number" (Fs N) []):bV P w K mg base 4 "read_whole_number" (O7 N) []:=by
 refine eF F hm lO (mK fun _ _ _ _ _ _ _=>rfl) (fun us M Q E h=>by obtain ⟨_,rfl,_⟩:=h;rfl) (aX (kR 1 lO.nd (eS CX_read_number (aA (uv 0) (aA aJ aB))))
 (aX (k9 (bS sE (aV (uv 1) aJ) (cI eI bF (aA (uv 0) aB)))
 (cD (iP X_NoText (aV (uv 1) aJ)))
 (j6 aY))
 (cD (cE (aR (aV (uv 1) aJ)))))) ?_
 rintro us M Q E ⟨z,rfl,hz,q⟩
 have hL:=oS z
 unfold HP at q
 refine aT fun V1 hV1=>?_
 simp! only [mE]
 refine ⟨z,0,rfl,hz,by omega,?_⟩
 cases hr:jF z.cps.toList 0 with
 | error k =>
  rw [hr] at q
  exact ⟨M,Sub.refl M,q⟩
 | ok vj =>
  obtain ⟨v,j⟩:=vj
  rw [hr] at q
  have hj:=vO hr
  dsimp only at q ⊢
  subst hV1
  refine aT fun V2 hV2=>?_
  refine iA fun A B hA hB=>?_
  simp! only [true_and]
  refine ⟨small hz,?_⟩
  by_cases hlt:j < z.cps.toList.length
  ·rw [if_pos hlt] at q
   rw [if_pos (decide_eq_true (by omega))]
   subst hA
   simp! only [j7]
   exact ⟨Av (by omega),M,Sub.refl M,q⟩
  ·rw [if_neg hlt] at q
   rw [if_neg (fun z=>by have:=of_decide_eq_true z;omega)]
   subst hB
   simp! only [bJ]
   subst hV2
   simp! only [bG]
   exact aL q
theorem vW (x y:Str):(x++y).cps.toList=x.cps.toList++y.cps.toList:=HH x y
theorem bN {c:Str} (h:isName (.str c)=true):(1<=c.length/\c.length<=8)/\∀ x∈c.cps.toList,97<=x/\x<=122:=by
 simp only [isName,Bool.and_eq_true,decide_eq_true_eq] at h
 refine ⟨h.1,fun x hx=>?_⟩
 have:=List.all_eq_true.mp h.2 x hx
 unfold isLetter at this
 rw [Ly] at this
 exact of_decide_eq_true this
def n8:Str:=⟨#[32]⟩
theorem DN:Str.ofString " "=n8:=by decide +kernel
theorem VZ:Str.ofString "\n"=⟨#[10]⟩:=by decide +kernel
theorem Ai (z:Str) (l:List Str):Txt.join z l=Str.join z l:=StrLaws.glued_eq_join z l
theorem Rj {a b:Str} (h:a.cps.toList=b.cps.toList):a=b:=by cases a;cases b;simp only at h;congr 1;exact Array.toList_inj.mp h
theorem mS (z a:Str) {l:List Str} (h:l≠[]):Str.join z (a :: l)=a++z++Str.join z l:=by
 cases l with
 | nil=>exact (h rfl).elim
 | cons b r=>rfl
theorem Sd {a b c d:Str} (ha:32 ∉ a.cps.toList) (hb:32 ∉ b.cps.toList) (hc:32 ∉ c.cps.toList):Txt.splitMax (Str.join n8 [a,b,c,d]) n8 3=[a,b,c,d]:=by
 have hn:=Ey d n8
 have hf:=StrLaws.split_free d 32
 have hj:=StrLaws.join_split d n8
 have hf':∀ p∈Txt.split d n8,32 ∉ p.cps.toList:=hf
 generalize Txt.split d n8=ps at hn hf' hj
 have e:Str.join n8 [a,b,c,d]=Str.join n8 (a :: b :: c :: ps):=by
  rw [mS _ a (by simp),mS _ b (by simp),mS _ c (by simp),mS _ a (by simp),mS _ b (by simp),mS _ c hn,hj]
  rfl
 have hs:Txt.split (Str.join n8 [a,b,c,d]) n8=a :: b :: c :: ps:=by
  rw [e]
  refine wK (by simp) fun p hp=>?_
  rcases List.mem_cons.mp hp with rfl | hp
  ·exact ha
  ·rcases List.mem_cons.mp hp with rfl | hp
   ·exact hb
   ·rcases List.mem_cons.mp hp with rfl | hp
    ·exact hc
    ·exact hf' p hp
 have:=F5 (Str.join n8 [a,b,c,d]) n8 3 (by decide)
 rw [hs] at this
 have this':Txt.splitMax (Str.join n8 [a,b,c,d]) n8 3=_:=this
 rw [this']
 split
 ·rename_i h
  have:ps.length=1:=by
   have:=List.length_pos_iff.mpr hn
   simp only [List.length_cons] at h
   omega
  obtain ⟨x,rfl⟩:=List.length_eq_one_iff.mp this
  have hj':x=d:=hj
  rw [hj']
 ·show a :: b :: c :: [Str.join n8 ps]=_
  rw [hj]
theorem G5 {n:Int} (h:0<=n):∀ x∈(Str.ofString (toString n)).cps.toList,48<=x/\x<=57:=fun x hx=>by
 rw [yV h] at hx
 exact mW _ x hx
theorem Fh {c:Nat}:∀ {l:List Str} {x:Nat},x∈(Str.join ⟨#[c]⟩ l).cps.toList->x=c\/∃ s∈l,x∈s.cps.toList
 | [],x,h=>by cases h
 | [a],x,h=>.inr ⟨a,List.mem_singleton.mpr rfl,h⟩
 | a :: b :: r,x,h=>by
  rw [mS _ a (by simp)] at h
  simp only [vW,List.mem_append] at h
  rcases h with (h | h) | h
  ·exact .inr ⟨a,List.mem_cons_self,h⟩
  ·left;simpa using h
  ·rcases Fh h with h | ⟨s,h1,h2⟩
   ·exact .inl h
   ·exact .inr ⟨s,List.mem_cons_of_mem _ h1,h2⟩
theorem NO {α:Type} (a:α) (l:List α):oK (a :: l) (some 1) none=l:=by
 unfold oK
 simp only [HT.bP]
 rw [if_neg (by decide)]
 have e1:(1:Int).toNat=1:=rfl
 rw [e1]
 simp
structure Rw (t:Tl):Prop where
 nm:isName (.str t.name)=true
 cl:isName (.str t.cls)=true
 c0:0<=t.cost
 c1:t.cost<=10 ^ 18
 pn:10 ∉ t.pt.text.cps.toList
 pl:t.pt.text.length<=1000
theorem Rw.split {t:Tl} (h:Rw t):Txt.splitMax t.row (Str.ofString " ") 3=[t.name,t.cls,Str.ofString (toString t.cost),t.pt.text]:=by
 have e:t.row=Str.join n8 [t.name,t.cls,Str.ofString (toString t.cost),t.pt.text]:=by
  rw [<- M9,DN]
  exact Ai _ _
 rw [e,DN]
 refine Sd (fun z=>?_) (fun z=>?_) (fun z=>?_)
 ·have:=(bN h.nm).2 _ z;omega
 ·have:=(bN h.cl).2 _ z;omega
 ·have:=G5 h.c0 _ z;omega
theorem Rw.no {t:Tl} (h:Rw t):10 ∉ t.row.cps.toList:=fun z=>by
 have hb:(Str.ofString " ").cps.toList=[32]:=by decide +kernel
 simp only [Tl.row,vW,List.mem_append,hb,List.mem_singleton] at z
 rcases z with (((((z | z) | z) | z) | z) | z) | z
 ·have:=(bN h.nm).2 _ z;omega
 ·omega
 ·have:=(bN h.cl).2 _ z;omega
 ·omega
 ·have:=G5 h.c0 _ z;omega
 ·omega
 ·exact h.pn z
theorem Rw.len {t:Tl} (h:Rw t):t.row.length<=1100:=by
 have h1:=(bN h.nm).1
 have h2:=(bN h.cl).1
 have h3:=An h.c0 h.c1
 have h4:=h.pl
 have hb:(Str.ofString " ").length=1:=by decide +kernel
 simp only [Tl.row,len_app,hb]
 omega
def Bq (v:V):Prop:=∃ i:Nat,v=.int (i:Int)/\i<=1000000
def eR (i:Nat):List (Str × U):=[(Str.ofString "row",.int (i:Int))]
def Sy (i:Nat):List (Str × U):=[(Str.ofString "row",.int (i:Int)),(Str.ofString "row",.int (i:Int))]
theorem Fx:∀ (l:List Nat) (v k:Nat),v<=GR->(iZ v k l).1<=GR/\∃ pre post,l=pre++post/\(iZ v k l).2=k + pre.length/\(iZ v k l).1=pre.foldl (fun a c=>a * 10 + (c - 48)) v
 | [],v,k,h=>⟨h,[],[],rfl,rfl,rfl⟩
 | c :: r,v,k,h=>by
  simp only [iZ]
  split
  ·split
   ·exact ⟨h,[],c :: r,rfl,rfl,rfl⟩
   ·rename_i h2
    obtain ⟨a1,pre,post,a2,a3,a4⟩:=Fx r (v * 10 + (c - 48)) (k + 1) (by omega)
    exact ⟨a1,c :: pre,post,by rw [a2];rfl,by rw [a3];simp only [List.length_cons];omega,by rw [a4];rfl⟩
  ·exact ⟨h,[],c :: r,rfl,rfl,rfl⟩
theorem Mq {n:Nat} (hn:n<=GR) {R:List Nat} (hR:∀ c r,R=c :: r->¬ (48<=c/\c<=57)):iZ 0 0 (dig n++R)=(n,(dig n).length):=by
 have key:∀ m k,m + k=(dig n).length->iZ (val ((dig n).take k)) k ((dig n).drop k++R)=(n,(dig n).length):=by
  intro m
  induction m with
  | zero =>
   intro k hk
   have hk':k=(dig n).length:=by omega
   subst hk'
   have hv:=Ac n (dig n).length (Nat.le_refl _)
   rw [Nat.sub_self,Nat.pow_zero,Nat.div_one] at hv
   rw [hv,List.drop_length,List.nil_append]
   cases R with
   | nil=>rfl
   | cons c r=>simp only [iZ,if_neg (hR c r rfl)]
  | succ m ih =>
   intro k hk
   have hk2:k < (dig n).length:=by omega
   have hwk:(dig n).drop k=(dig n)[k] :: (dig n).drop (k + 1):=List.drop_eq_getElem_cons hk2
   have hc:=mW n (dig n)[k] (List.getElem_mem hk2)
   have htk:(dig n).take (k + 1)=(dig n).take k++[(dig n)[k]]:=by rw [List.take_add_one,List.getElem?_eq_getElem hk2];rfl
   have hv1:=Ac n (k + 1) hk2
   have hv0:=Ac n k (by omega)
   have hle:n / 10 ^ ((dig n).length - (k + 1))<=n:=Nat.div_le_self _ _
   have hx:val ((dig n).take k) * 10 + ((dig n)[k] - 48)=val ((dig n).take (k + 1)):=by rw [htk,DR]
   have hbig:k=0\/1<=val ((dig n).take k):=by
    by_cases k0:k=0
    ·exact .inl k0
    ·right
     have h1:1<=n:=by
      rcases Nat.eq_zero_or_pos n with z0 | z0
      ·subst z0
       have:(dig 0).length=1:=by rw [dig];simp
       omega
      ·exact z0
     have h2:=K7 n h1
     rw [hv0]
     refine (Nat.le_div_iff_mul_le (Nat.pow_pos (by decide))).mpr ?_
     rw [Nat.one_mul]
     exact Nat.le_trans (Nat.pow_le_pow_right (by decide) (by omega)) h2
   rw [hwk]
   simp only [List.cons_append,iZ,if_pos hc,hx]
   rw [if_neg (by rintro (z | ⟨z1,z2⟩);rw [hv1] at z;omega;omega)]
   exact ih (k + 1) (by omega)
 have:=key (dig n).length 0 (by omega)
 simpa [val] using this
theorem rU {L:List Nat} {i n:Nat} (hn:n<=GR) {R:List Nat} (hd:L.drop i=dig n++R) (hR:∀ c r,R=c :: r->¬ (48<=c/\c<=57)):jF L i=.ok (n,i + (dig n).length):=by
 unfold jF
 rw [hd,Mq hn hR]
 have:=B8 n
 rw [if_neg (by show ¬ (dig n).length=0;omega)]
theorem Ot {n:Nat} (hn:n<=GR):HP (dig n)=.ok n:=by
 unfold HP
 rw [rU (L:=dig n) (i:=0) (R:=[]) hn (by simp) (fun c r e=>by cases e)]
 simp
def Hb (N fl:Addr):i3:=fun us M Q E=>∃ (t:Tl) (r:Nat),us=[.str t.row,.int (r:Int)]/\Rw t/\r<=1000/\(match dQ t.pt.text.cps.toList with
 | .ok p=>Q (.tup [.str t.name,.str t.cls,p.toU,.int t.cost]) M
 | .error _=>E N (Sy r) M)
theorem WJ:(decide ((3:Int) < -(2 ^ 63:Int)) || decide ((3:Int) ≥ 2 ^ 63))=false:=by decide
theorem HK {i:Nat} (h:i<=1000000):∃ v,U2.jV (.int (i:Int))=some v/\Bq v:=⟨_,rfl,i,rfl,h⟩
theorem Mw {NT N fl:Addr} (F:b8 K "read_tile" "read_tile" tB f fd) (hm:mg "read_tile"=some (.ref f)) (bF:mg "len"=none) (iQ:mg "read_leaf"=some (.ref fl)) (NN:mg "NoText"=some (.ref NT)) (H_NoText:AU K NT) (hsub:PySem.W.subIn K (.ref NT) (.ref NT)=some true) (X_NoRow:pA P w K mg base 1 "NoRow" N "row" Bq) (CX_read_whole_number:bV P w K mg base 4 "read_whole_number" (O7 NT) []) (CX_read_shape:bV P w K mg base 6 "read_shape" (LD NT fl) []):bV P w K mg base 7 "read_tile" (Hb N fl) []:=by
 refine eF F hm lR (mJ fun _ _ _ _ _ _ _ _=>rfl) (fun us M Q E h=>by obtain ⟨_,_,rfl,_⟩:=h;rfl) (aX (cE (aS 2 lR.nd (KC (own:=false) (uv 0) (aA bZ (aA aJ aB)))))
 (aX (k9 (bS sE (cI eI bF (aA (uv 2) aB)) aJ)
 (cD (iP X_NoRow (uv 1)))
 (j6 aY))
 (aX (So NN H_NoText (aX (kR 3 lR.nd (eS CX_read_whole_number (aA (aV (uv 2) aJ) aB)))
 (cD (kR 4 lR.nd (eS CX_read_shape (aA (aV (uv 2) aJ) (aA (uK iQ) aB)))))) (fun a C fs hl=>NU hl X_NoRow (Pb 1)))
 (cD (cE (aR (bB (aA (aV (uv 2) aJ) (aA (aV (uv 2) aJ) (aA (uv 4) (aA (uv 3) aB))))))))))) ?_
 rintro us M Q E ⟨t,r,rfl,ht,hr,q⟩
 have hrow:=ht.len
 refine aT fun V1 hV1=>?_
 simp! only [bH,hName,zA,rH,EN,ht.split]
 refine ⟨⟨_,rfl⟩,rfl,by omega,WJ,?_⟩
 subst hV1
 refine aT fun V2 hV2=>?_
 refine iA fun A B hA hB=>?_
 simp! only [true_and]
 refine oR (fun e=>absurd (of_decide_eq_true e) (by omega)) (fun _=>?_)
 subst hB
 simp! only [bJ]
 subst hV2
 refine aT fun V3 hV3=>?_
 simp only [ON]
 refine aT fun V4 hV4=>?_
 simp! only [mE]
 have h1:=ht.c1
 have h0:=ht.c0
 have h18:(10:Int) ^ 18=1000000000000000000:=by decide
 have hGR:GR=1000000000000000000:=rfl
 have hnl:=An h0 h1
 refine ⟨_,rfl,by omega,?_⟩
 rw [yV h0,Ot (by omega)]
 dsimp only
 have hn:((t.cost.toNat:Nat):Int)=t.cost:=by omega
 rw [hn]
 subst hV4
 simp! only [mE]
 refine ⟨_,rfl,by have:=ht.pl;omega,?_⟩
 cases hs:dQ t.pt.text.cps.toList with
 | error k =>
  rw [hs] at q
  refine ⟨rfl,hsub,fun a=>?_⟩
  simp! only [Eg]
  exact ⟨HK (by omega),M,Sub.refl M,q⟩
 | ok p =>
  rw [hs] at q
  dsimp only at q ⊢
  subst hV3
  simp! only [bG]
  exact aL q
theorem EH {cs:List Str} (h0:cs≠[]) (hc:∀ c∈cs,isName (.str c)=true) {tl:List Tl} (h:∀ t∈tl,Rw t):Txt.split (Txt.join (Str.ofString "\n") (linesOf cs tl)) (Str.ofString "\n")=linesOf cs tl:=by
 rw [Ai,VZ]
 refine wK (by simp [linesOf]) fun p hp z=>?_
 rcases List.mem_cons.mp hp with rfl | hp
 ·rw [Ai,DN] at z
  rcases Fh z with z | ⟨s,h1,h2⟩
  ·cases z
  ·have:=(bN (hc s h1)).2 _ h2;omega
 ·obtain ⟨t,h1,rfl⟩:=List.mem_map.mp hp
  exact (h t h1).no z
theorem IJ {cs:List Str} (h0:cs≠[]) (hc:∀ c∈cs,isName (.str c)=true):Txt.split (Txt.join (Str.ofString " ") cs) (Str.ofString " ")=cs:=by
 rw [Ai,DN]
 refine wK h0 fun p hp z=>?_
 have:=(bN (hc p hp)).2 _ z
 omega
def Goes (cs:List Str) (tl:List Tl) (i:Nat):Prop:=∃ t,tl[i]?=some t/\dQ t.pt.text.cps.toList=.ok t.pt/\rA (.tup [.tup (cs.map U.str),.tup ((tl.take (i + 1)).map Tl.toU)]) true
def Tn (cs:List Str) (tl:List Tl) (i:Nat):Prop:=∃ t,tl[i]?=some t/\((∃ k,dQ t.pt.text.cps.toList=.error k)\/(dQ t.pt.text.cps.toList=.ok t.pt/\rA (.tup [.tup (cs.map U.str),.tup ((tl.take (i + 1)).map Tl.toU)]) false))
def Kx (N Pt:Addr):i3:=fun us M Q E=>∃ (cs:List Str) (tl:List Tl),us=[.str (Txt.join (Str.ofString "\n") (linesOf cs tl))]/\cs≠[]/\cs.length<=20/\(∀ c∈cs,isName (.str c)=true)/\(∀ c∈cs,PyData.strOk c=true)/\1<=tl.length/\tl.length<=60/\(∀ t∈tl,Rw t)/\M Pt=some (.tbl QP) /\
 ((i7 (.tup (cs.map U.str))=false/\E N (eR 0) M)\/(i7 (.tup (cs.map U.str))=true/\∃ J,(∀ i,i < J->Goes cs tl i)/\((J=tl.length/\Q (.tup [.tup (cs.map U.str),.tup (tl.map Tl.toU)]) M)\/(Tn cs tl J/\E N (eR (J + 1)) M/\E N (Sy (J + 1)) M))))
theorem Q0 {N fl Pl:Addr} (F:b8 K "read_table" "read_table" qK f fd) (hm:mg "read_table"=some (.ref f)) (bF:mg "len"=none) (bK:mg "tuple"=none) (eY:mg "enumerate"=none) (X_NoRow:pA P w K mg base 1 "NoRow" N "row" Bq) (oV:Callee P w K mg base 2 "are_classes" wA []) (CX_read_tile:bV P w K mg base 7 "read_tile" (Hb N fl) []) (vT:Callee P w K mg base 12 "is_table" (Bc Pl) []):bV P w K mg base 13 "read_table" (Kx N Pl) []:=by
 refine eF F hm fQ (mK fun _ _ _ _ _ _ _=>rfl) (fun us M Q E h=>by obtain ⟨_,_,rfl,_⟩:=h;rfl) (aX (cE (aS 1 fQ.nd (CW (own:=false) (uv 0) (aA bZ aB))))
 (aX (cE (aS 2 fQ.nd (pE qC bK (aA (CW (own:=false) (aV (uv 1) aJ) (aA bZ aB)) aB))))
 (aX (k9 (c5 (cN (bD oV (aA (uv 2) aB))))
 (cD (iP X_NoRow aJ))
 (j6 aY))
 (aX (k9 (bS cG (cI eI bF (aA (uv 1) aB)) aJ)
 (cD (iP X_NoRow aJ))
 (j6 aY))
 (aX (cE (aS 3 fQ.nd (bB aB)))
 (aX (Sh (Oc eY (aA (kQ (own:=false) (uv 1) (dO aJ) Cv) aB)) (yT (n:=2) (gY (cM (k:=1000) 4 fQ.nd) (gY (cM (k:=1000) 5 fQ.nd) uG)))
 (aX (kR 3 fQ.nd (S0 (own:=false) (uv 3) (U3 (Cy (eS CX_read_tile (aA (uv 5) (aA (uv 4) aB))) (HB aB)))))
 (cD (k9 (c5 (cN (bD vT (aA (bB (aA (uv 2) (aA (uv 3) aB))) aB))))
 (cD (iP X_NoRow (uv 4)))
 (j6 aY)))))
 (cD (cE (aR (bB (aA (uv 2) (aA (uv 3) aB)))))))))))) ?_
 rintro us M Q E ⟨cs,tl,rfl,hne,hcl,hcn,hco,h1,h60,ht,hP,q⟩
 have hll:∀ s∈linesOf cs tl,s.length<=1100:=fun s hs=>by
  rcases List.mem_cons.mp hs with rfl | hs
  ·have:=qS (B:=8) (n:=20) (z:=Str.ofString " ") (l:=cs) (by rw [mI];omega) (fun s hs=>(bN (hcn s hs)).1.2) hcl (by decide)
   omega
  ·obtain ⟨t,h1,rfl⟩:=List.mem_map.mp hs
   exact (ht t h1).len
 have hzl:(Txt.join (Str.ofString "\n") (linesOf cs tl)).length<=100000:=by
  have:=qS (B:=1100) (n:=61) (z:=Str.ofString "\n") (l:=linesOf cs tl) (by rw [Ow];omega) hll (by simp only [linesOf,List.length_cons,List.length_map];omega) (by decide)
  omega
 have hcz:(Txt.join (Str.ofString " ") cs).length<=1100:=hll _ List.mem_cons_self
 refine aT fun V1 hV1=>?_
 simp! only [bH,hName,zA,rH,EN]
 rw [EH hne hcn ht]
 refine ⟨⟨_,rfl⟩,rfl,hzl,?_⟩
 generalize Txt.join (Str.ofString "\n") (linesOf cs tl)=z
 subst hV1
 refine aT fun V2 hV2=>?_
 simp! only [bH,hName,zA,rH,EN,linesOf,IJ hne hcn]
 refine ⟨⟨_,rfl⟩,rfl,by omega,?_⟩
 subst hV2
 refine aT fun V3 hV3=>?_
 refine iA fun A B hA hB=>?_
 simp! only [true_and]
 have pC:pN 21 (.tup (cs.map U.str)):=pT (pR (fun c hc=>⟨hco c hc,(bN (hcn c hc)).1.2⟩) 20) (by rw [List.length_map];omega)
 refine ⟨_,rfl,pC.plain (by decide),?_⟩
 rcases q with ⟨qb,q⟩ | ⟨qb,q⟩
 ·simp! only [qb]
  subst hA
  simp! only [j7]
  exact ⟨HK (i:=0) (by omega),M,Sub.refl M,q⟩
 obtain ⟨J,qg,q⟩:=q
 simp! only [qb]
 subst hB
 simp! only [bJ]
 subst hV3
 refine aT fun V4 hV4=>?_
 refine iA fun A B hA hB=>?_
 simp! only [true_and]
 rw [if_neg (fun e=>by have:=of_decide_eq_true e;simp only [List.length_map] at this;omega)]
 subst hB
 simp! only [bJ]
 subst hV4
 refine aT fun V5 hV5=>?_
 simp! only [bH,hName]
 subst hV5
 refine aT fun V6 hV6=>?_
 refine uH (S:=⟨none,nU ((tl.map Tl.row).map U.str)⟩) (M1:=M) (fun R r=>by simp! only [Ea,NO];exact r)
  (fun i τ Mi=>(∃ (a b:Option U),τ=[some (.str z),some (.lst (.str (Txt.join (Str.ofString " ") cs) :: (tl.map Tl.row).map U.str)),some (.tup (cs.map U.str)),some (.tup ((tl.take i).map Tl.toU)),a,b])/\Mi=M/\i<=J) ⟨⟨_,_,rfl⟩,rfl,Nat.zero_le _⟩ nk ?_ ?_
 ·rintro i x τ Mi e ⟨⟨a,b,rfl⟩,rfl,hg⟩
  obtain ⟨u,e1,rfl⟩:=Dd e
  rw [List.getElem?_map,List.getElem?_map] at e1
  cases hk:tl[i]? with
  | none=>rw [hk] at e1;cases e1
  | some t =>
   rw [hk] at e1
   cases e1
   have hti:=ht t (List.mem_of_getElem? hk)
   have hil:i < tl.length:=(List.getElem?_eq_some_iff.mp hk).1
   have hnext:(tl.take i).map Tl.toU++[t.toU]=(tl.take (i + 1)).map Tl.toU:=by
    rw [List.take_add_one,hk];simp
   have hgb:(i < J/\Goes cs tl i)\/(Tn cs tl i/\E N (eR (i + 1)) Mi/\E N (Sy (i + 1)) Mi):=by
    by_cases hij:i < J
    ·exact .inl ⟨hij,qg i hij⟩
    ·have e:i=J:=by omega
     subst e
     rcases q with ⟨e,_⟩ | q
     ·omega
     ·exact .inr q
   simp! only [jY,lW,qQ,hName]
   refine aT fun V7 hV7=>?_
   simp! only [mE,UL,Pw,Eb]
   refine ⟨t,i + 1,rfl,hti,by omega,?_⟩
   have go:∀ b,dQ t.pt.text.cps.toList=.ok t.pt->rA (.tup [.tup (cs.map U.str),.tup ((tl.take (i + 1)).map Tl.toU)]) b->(b=true->i < J)->(b=false->E N (eR (i + 1)) Mi)->V7 [some (U.str z),some (U.lst (U.str (Txt.join (Str.ofString " ") cs) :: (tl.map Tl.row).map U.str)),some (U.tup (cs.map U.str)),some (U.tup ((tl.take (i + 1)).map Tl.toU)),some (U.int ((i + 1:Nat):Int)),some (U.str t.row)] Mi:=fun b hs hT g1 g2=>by
    subst hV7
    refine iA fun A B hA hB=>?_
    simp! only [true_and]
    refine ⟨_,b,rfl,hT,hP,?_⟩
    cases b with
    | true =>
     simp! only [true_and]
     subst hB
     simp! only [bJ]
     exact ⟨⟨_,_,rfl⟩,g1 rfl⟩
    | false =>
     simp! only [true_and]
     subst hA
     simp! only [j7]
     exact ⟨HK (by omega),Mi,Sub.refl Mi,g2 rfl⟩
   rcases hgb with ⟨hij,t',a1,a2,a3⟩ | ⟨⟨t',b1,b2⟩,b3,b4⟩
   ·rw [hk] at a1;cases a1
    rw [a2]
    dsimp only
    rw [show [U.tup [U.str t.name,U.str t.cls,t.pt.toU,U.int t.cost]]=[t.toU] from rfl,hnext]
    refine ⟨Nat.le_trans (show _<=61 by rw [List.length_map,List.length_take];omega) (by decide),go true a2 a3 (fun _=>hij) (fun z=>by cases z)⟩
   ·rw [hk] at b1;cases b1
    rcases b2 with ⟨k,b2⟩ | ⟨b2,b5⟩
    ·rw [b2]
     exact ⟨Mi,Sub.refl Mi,b4⟩
    ·rw [b2]
     dsimp only
     rw [show [U.tup [U.str t.name,U.str t.cls,t.pt.toU,U.int t.cost]]=[t.toU] from rfl,hnext]
     refine ⟨Nat.le_trans (show _<=61 by rw [List.length_map,List.length_take];omega) (by decide),go false b2 b5 (fun z=>by cases z) (fun _=>b3)⟩
 ·rintro τ Mi ⟨⟨a,b,rfl⟩,rfl,hg⟩
  have hl2:(Src.mk none (nU ((tl.map Tl.row).map U.str))).xs.length=tl.length:=by simp [nU]
  rw [hl2] at hg ⊢
  rw [List.take_length]
  subst hV6
  simp! only [bG]
  rcases q with ⟨_,q⟩ | ⟨⟨t2,b1,_⟩,_⟩
  ·exact aL q
  ·have:=(List.getElem?_eq_some_iff.mp b1).1
   omega
def cT (t:Pt):List Nat:=t.text.cps.toList
def Pt.rd:Pt->Prop
 | .hole c=>c.length<=8/\∀ x∈c.cps.toList,97<=x/\x<=122
 | .any=>True
 | .fr l h=>(0<=l/\l<=10 ^ 18)/\0<=h/\h<=10 ^ 18
 | .turn a=>a.rd
 | .two _ a b=>a.rd/\b.rd
theorem Ap (a:Pt):cT (.turn a)=40 :: 45 :: 32 :: (cT a++[41]):=by
 unfold cT
 simp only [Pt.text,vW]
 rw [show (Str.ofString "(- ").cps.toList=[40,45,32] by decide +kernel,show (Str.ofString ")").cps.toList=[41] by decide +kernel]
 simp
theorem BN (o:Op) (a b:Pt):cT (.two o a b)=40 :: (cT a++32 :: oc o :: 32 :: (cT b++[41])):=by
 unfold cT
 simp only [Pt.text,vW]
 rw [show (Str.ofString "(").cps.toList=[40] by decide +kernel,show (Str.ofString ")").cps.toList=[41] by decide +kernel]
 have:o.mid.cps.toList=[32,oc o,32]:=by cases o <;> decide +kernel
 rw [this]
 simp
theorem Qv:(Str.ofString "..").cps.toList=[46,46]:=by decide +kernel
theorem zY {l h:Int} (h1:0<=l) (h2:0<=h):cT (.fr l h)=dig l.toNat++46 :: 46 :: dig h.toNat:=by
 unfold cT
 simp only [Pt.text,vW,yV h1,yV h2,Qv]
 simp
theorem uL (c:Str):cT (.hole c)=64 :: c.cps.toList:=by
 unfold cT
 simp only [Pt.text,vW]
 rw [show (Str.ofString "@").cps.toList=[64] by decide +kernel]
 rfl
theorem zB:cT .any=[63]:=by unfold cT;decide +kernel
theorem sM (n:Nat):∃ c r,dig n=c :: r/\48<=c/\c<=57:=by
 have hp:=B8 n
 cases hd:dig n with
 | nil=>rw [hd] at hp;simp at hp
 | cons c r=>exact ⟨c,r,rfl,mW n c (by rw [hd];exact List.mem_cons_self)⟩
theorem DS:∀ t:Pt,t.rd->∃ c r,cT t=c :: r/\c≠45/\(t.leafy=true->c≠40)
 | .fr l u,h=>by
  obtain ⟨c,r,e,h1,h2⟩:=sM l.toNat
  exact ⟨c,_,by rw [zY h.1.1 h.2.1,e];rfl,by omega,fun _=>by omega⟩
 | .hole x,h=>⟨64,_,uL x,by decide,fun _=>by decide⟩
 | .any,h=>⟨63,_,zB,by decide,fun _=>by decide⟩
 | .turn a,h=>⟨40,_,Ap a,by decide,fun z=>by cases z⟩
 | .two o a b,h=>⟨40,_,BN o a b,by decide,fun z=>by cases z⟩
def JK (R:List Nat):Prop:=∀ c r,R=c :: r->c=32\/c=41
theorem Gy:∀ (x:List Nat) (n:Nat) (R:List Nat),(∀ c∈x,97<=c/\c<=122)->x.length<=n->JK R->pH n (x++R)=x.length
 | [],n,R,_,_,hR=>by
  cases n with
  | zero=>rfl
  | succ n =>
   cases R with
   | nil=>rfl
   | cons c r =>
    have:=hR c r rfl
    simp only [List.nil_append,pH]
    rw [if_neg (by omega)];rfl
 | c :: x,0,R,_,h,_=>by simp at h
 | c :: x,n + 1,R,hx,h,hR=>by
  simp only [List.cons_append,pH,if_pos (hx c List.mem_cons_self)]
  rw [Gy x n R (fun y hy=>hx y (List.mem_cons_of_mem _ hy)) (by simpa using h) hR]
  rfl
theorem Mc {L:List Nat} {i:Nat} {t:Pt} {R:List Nat} (ht:t.rd) (hl:t.leafy=true) (hd:L.drop i=cT t++R) (hR:JK R):j5 L i=.ok (t,i + (cT t).length):=by
 have hG:GR=1000000000000000000:=rfl
 have h18:(10:Int) ^ 18=1000000000000000000:=by decide
 unfold j5
 cases t with
 | turn a=>cases hl
 | two o a b=>cases hl
 | any =>
  rw [zB] at hd
  rw [if_pos (dR hd).1,zB]
  rfl
 | hole x =>
  rw [uL] at hd
  obtain ⟨a1,a2,a3⟩:=dR (show L.drop i=64 :: (x.cps.toList++R) from hd)
  rw [if_neg (by rw [a1];simp),if_pos a1,a3,Gy x.cps.toList 8 R ht.2 (by rw [oS];exact ht.1) hR,List.take_left' rfl,Iv,uL]
  simp only [List.length_cons]
  congr 2
  omega
 | fr l h =>
  obtain ⟨⟨k1,k2⟩,k3,k4⟩:=ht
  rw [zY k1 k3] at hd ⊢
  obtain ⟨c,r,e,c1,c2⟩:=sM l.toNat
  have g0:L[i]?=some c:=by
   have:L.drop i=c :: (r++46 :: 46 :: dig h.toNat++R):=by rw [hd,e];simp
   exact (dR this).1
  rw [if_neg (by rw [g0];simp;omega),if_neg (by rw [g0];simp;omega)]
  unfold rX
  have d1:L.drop i=dig l.toNat++(46 :: 46 :: (dig h.toNat++R)):=by rw [hd];simp
  rw [rU (n:=l.toNat) (by omega) d1 (fun c r e=>by cases e;omega)]
  have d2:=jW d1
  have d3:=jW (s:=[46,46]) (r:=dig h.toNat++R) (show L.drop (i + (dig l.toNat).length)=[46,46]++(dig h.toNat++R) from d2)
  dsimp only
  rw [d2]
  rw [if_pos (by rfl)]
  rw [show i + (dig l.toNat).length + 2=i + (dig l.toNat).length + ([46,46]:List Nat).length from rfl,rU (n:=h.toNat) (by omega) d3 (fun c r e=>by have:=hR c r e;omega)]
  dsimp only
  rw [show ((l.toNat:Nat):Int)=l by omega,show ((h.toNat:Nat):Int)=h by omega]
  congr 2
  simp only [List.length_append,List.length_cons,List.length_nil]
  omega
def vU (L:List Nat) (n:Nat) (t:Pt) (j:Nat) (c:List Fr):Except Nat Pt:=match kO L t j c with
 | .error k=>.error k
 | .ok (some T,k,_)=>if k < L.length then .error k else .ok T
 | .ok (none,k,c2)=>qZ L n k c2
def lv:Pt->Nat
 | .turn a=>lv a
 | .two _ a b=>lv a + lv b
 | _=>1
theorem Hq {L:List Nat} {m i i':Nat} {c c':List Fr} (h:j3 L i c=j3 L i' c'):qZ L m i c=qZ L m i' c':=by
 cases m with
 | zero=>rfl
 | succ m=>simp only [qZ,h]
theorem Ny {L:List Nat} {n i j:Nat} {c:List Fr} {t:Pt} (h1:j3 L i c=.ok (i,c)) (h2:j5 L i=.ok (t,j)):qZ L (n + 1) i c=vU L n t j c:=by
 simp only [qZ,h1,h2,vU]
 all_goals rfl
theorem Ti (o:Op):Fd (some (oc o))=some o:=by cases o <;> rfl
theorem PV:∀ (t:Pt) (L:List Nat) (n i:Nat) (c:List Fr) (R:List Nat),t.rd->L.drop i=cT t++R->JK R->qZ L (n + lv t) i c=vU L n t (i + (cT t).length) c:=by
 have leafC:∀ (t:Pt) (L:List Nat) (n i:Nat) (c:List Fr) (R:List Nat),t.rd->t.leafy=true->lv t=1->L.drop i=cT t++R->JK R->qZ L (n + lv t) i c=vU L n t (i + (cT t).length) c:=by
  intro t L n i c R ht hl h1 hd hR
  rw [h1]
  refine Ny ?_ (Mc ht hl hd hR)
  obtain ⟨a,r,e,_,h40⟩:=DS t ht
  rw [j3,dif_neg]
  rw [(dR (show L.drop i=a :: (r++R) by rw [hd,e];rfl)).1]
  intro z
  exact h40 hl (Option.some.inj z)
 intro t
 induction t with
 | hole x=>intro L n i c R ht hd hR;exact leafC _ L n i c R ht rfl rfl hd hR
 | any=>intro L n i c R ht hd hR;exact leafC _ L n i c R ht rfl rfl hd hR
 | fr l h=>intro L n i c R ht hd hR;exact leafC _ L n i c R ht rfl rfl hd hR
 | turn a ih =>
  intro L n i c R ht hd hR
  rw [Ap] at hd ⊢
  obtain ⟨a1,_,d1⟩:=dR (show L.drop i=40 :: (45 :: 32 :: (cT a++[41])++R) from hd)
  obtain ⟨a2,_,d2⟩:=dR (show L.drop (i + 1)=45 :: (32 :: (cT a++[41])++R) from d1)
  obtain ⟨a3,_,d3⟩:=dR (show L.drop (i + 2)=32 :: ((cT a++[41])++R) from d2)
  have e:j3 L i c=j3 L (i + 3) (.t :: c):=by rw [j3,dif_pos a1,if_pos a2,if_pos a3]
  have d3':L.drop (i + 3)=cT a++(41 :: R):=by rw [d3];simp
  rw [Hq e,show lv (.turn a)=lv a from rfl,ih L n (i + 3) (.t :: c) (41 :: R) ht d3' (fun c r z=>by cases z;exact .inr rfl)]
  have g:=(dR (jW d3')).1
  unfold vU
  rw [kO,if_pos g]
  have:i + 3 + (cT a).length + 1=i + (40 :: 45 :: 32 :: (cT a++[41])).length:=by simp;omega
  rw [this]
 | two o a b iha ihb =>
  intro L n i c R ht hd hR
  rw [BN] at hd ⊢
  obtain ⟨a1,_,d1⟩:=dR (show L.drop i=40 :: ((cT a++32 :: oc o :: 32 :: (cT b++[41]))++R) from hd)
  obtain ⟨x,r,ex,hx,_⟩:=DS a ht.1
  have d1':L.drop (i + 1)=cT a++(32 :: oc o :: 32 :: (cT b++41 :: R)):=by rw [d1];simp
  have a2:L[i + 1]?=some x:=(dR (show L.drop (i + 1)=x :: (r++(32 :: oc o :: 32 :: (cT b++41 :: R))) by rw [d1',ex];rfl)).1
  have e:j3 L i c=j3 L (i + 1) (.l :: c):=by rw [j3,dif_pos a1,if_neg (by rw [a2];simpa using hx)]
  rw [Hq e,show n + lv (.two o a b)=(n + lv b) + lv a by simp only [lv];omega,iha L (n + lv b) (i + 1) (.l :: c) _ ht.1 d1' (fun c r z=>by cases z;exact .inl rfl)]
  have d4:=jW d1'
  obtain ⟨m1,_,d5⟩:=dR d4
  obtain ⟨m2,_,d6⟩:=dR d5
  obtain ⟨m3,_,d7⟩:=dR d6
  have hmid:sQ L (i + 1 + (cT a).length)=.ok o:=by
   unfold sQ
   rw [if_pos m1,m2,Ti]
   dsimp only
   rw [if_pos m3]
  have e2:vU L (n + lv b) a (i + 1 + (cT a).length) (.l :: c)=qZ L (n + lv b) (i + 1 + (cT a).length + 3) (.r o a :: c):=by
   unfold vU
   rw [kO,hmid]
  rw [e2,ihb L n _ (.r o a :: c) (41 :: R) ht.2 d7 (fun c r z=>by cases z;exact .inr rfl)]
  have g:=(dR (jW d7)).1
  unfold vU
  rw [kO,if_pos g]
  have:i + 1 + (cT a).length + 3 + (cT b).length + 1=i + (40 :: (cT a++32 :: oc o :: 32 :: (cT b++[41]))).length:=by simp;omega
  rw [this]
theorem DL:∀ {t:Pt},t.rd->lv t<=(cT t).length
 | .hole x,_=>by rw [uL];simp [lv]
 | .any,_=>by rw [zB];simp [lv]
 | .fr l u,h=>by
  obtain ⟨c,r,e,_⟩:=sM l.toNat
  rw [zY h.1.1 h.2.1,e];simp [lv]
 | .turn a,h=>by have:=DL (t:=a) h;rw [Ap];simp only [lv,List.length_cons,List.length_append,List.length_nil];omega
 | .two o a b,h=>by have:=DL h.1;have:=DL h.2;rw [BN];simp only [lv,List.length_cons,List.length_append,List.length_nil];omega
theorem vH {t:Pt} (ht:t.rd):dQ t.text.cps.toList=.ok t:=by
 have hl:=DL ht
 unfold dQ
 show qZ (cT t) ((cT t).length + 2) 0 []=_
 rw [show (cT t).length + 2=((cT t).length + 2 - lv t) + lv t by omega,PV t (cT t) _ 0 [] [] ht (by simp) (fun c r z=>by cases z)]
 unfold vU
 simp [kO]
theorem JQ {l h:Int} (h1:0<=l) (h2:l<=10 ^ 18) (h3:10 ^ 18 < h):∃ k,dQ (Pt.fr l h).text.cps.toList=.error k:=by
 have hG:GR=1000000000000000000:=rfl
 have h18:(10:Int) ^ 18=1000000000000000000:=by decide
 have hc:=zY h1 (show 0<=h by omega)
 show ∃ k,dQ (cT (.fr l h))=.error k
 generalize hL:cT (.fr l h)=L at hc
 obtain ⟨c,r,e,c1,c2⟩:=sM l.toNat
 have hd0:L.drop 0=c :: (r++46 :: 46 :: dig h.toNat):=by rw [List.drop_zero,hc,e];rfl
 have g0:=(dR hd0).1
 unfold dQ
 simp only [qZ]
 have ho:j3 L 0 []=.ok (0,[]):=by rw [j3,dif_neg (by rw [g0];simp;omega)]
 rw [ho]
 dsimp only
 have d1:L.drop 0=dig l.toNat++(46 :: 46 :: dig h.toNat):=by rw [List.drop_zero,hc]
 have d2:=jW d1
 have d3:=jW (s:=[46,46]) (r:=dig h.toNat) (show L.drop (0 + (dig l.toNat).length)=[46,46]++dig h.toNat from d2)
 have hlf:j5 L 0=match jF L (0 + (dig l.toNat).length + 2) with
   | .error k=>.error k
   | .ok (h',j2)=>.ok (.fr (l.toNat:Int) (h':Int),j2):=by
  unfold j5
  rw [if_neg (by rw [g0];simp;omega),if_neg (by rw [g0];simp;omega)]
  unfold rX
  rw [rU (n:=l.toNat) (by omega) d1 (fun c r e=>by cases e;omega)]
  dsimp only
  rw [d2,if_pos (by rfl)]
  all_goals rfl
 rw [hlf]
 cases hr:jF L (0 + (dig l.toNat).length + 2) with
 | error k=>exact ⟨_,rfl⟩
 | ok vj =>
  obtain ⟨v,j⟩:=vj
  dsimp only
  simp only [kO]
  have hj:j < L.length:=by
   unfold jF at hr
   split at hr
   ·cases hr
   ·injection hr with hr
    injection hr with r1 r2
    obtain ⟨n1,pre,post,n2,n3,n4⟩:=Fx (dig h.toNat) 0 0 (by omega)
    have e3:L.drop (0 + (dig l.toNat).length + 2)=dig h.toNat:=d3
    rw [e3] at r2
    have hp:post≠[]:=fun z=>by
     subst z
     rw [List.append_nil] at n2
     have hv:=Ac h.toNat (dig h.toNat).length (Nat.le_refl _)
     rw [Nat.sub_self,Nat.pow_zero,Nat.div_one,List.take_length] at hv
     rw [<- n2] at n4
     have:(iZ 0 0 (dig h.toNat)).1=h.toNat:=by rw [n4];exact hv
     omega
    have hlen:=congrArg List.length n2
    rw [List.length_append] at hlen
    have hpl:=List.length_pos_iff.mpr hp
    have hLl:L.length=(dig l.toNat).length + 2 + (dig h.toNat).length:=by rw [hc];simp;omega
    omega
  rw [if_pos hj]
  exact ⟨_,rfl⟩
def Bb:List Nat->Int
 | []=>0
 | c :: r=>1 + ((c:Int) - 97) + 26 * Bb r
def EL:Nat->Int
 | 0=>0
 | k + 1=>26 + 26 * EL k
theorem Be:∀ (k:Nat) (m:Int),0<=m->m<=EL k->Bb (jT k m)=m
 | 0,m,h0,h1=>by simp only [EL] at h1;simp only [jT,Bb];omega
 | k + 1,m,h0,h1=>by
  simp only [EL] at h1
  simp only [jT]
  split
  ·have:=Be k ((m - 1) / 26) (by omega) (by omega)
   simp only [Bb,this,lC]
   omega
  ·simp only [Bb];omega
theorem zF {a b:Int} (ha:0<=a) (ha2:a<=100000000000) (hb:0<=b) (hb2:b<=100000000000) (h:jE a=jE b):a=b:=by
 have hc:EL 7=8353082582:=by decide
 have e:sN a=sN b:=Gp h
 have e2:=congrArg Bb e
 have d1:=Be 7 (a / 26) (by omega) (by rw [hc];omega)
 have d2:=Be 7 (b / 26) (by omega) (by rw [hc];omega)
 simp only [sN,Bb,d1,d2,lC] at e2
 omega
structure Lz (cs:List Str) (p:Pt) (cost:Int) (due:Bool):Prop where
 c0:0<=cost
 c1:cost<=10 ^ 18
 tl:p.text.length<=1000
 t10:10 ∉ p.text.cps.toList
 pn:pN 15 p.toU
 np:∀ c,p≠.hole c
 dp:p.dep<=14
 gg:∃ g:G,g.toU=p.toU/\g.wf (LP cs)/\(mL g && rJ (.int cost))=due
 rd:dQ p.text.cps.toList=.ok p\/(due=false/\∃ k,dQ p.text.cps.toList=.error k)
theorem Ad:∀ {p:Pt},p.rd->∀ x∈cT p,32<=x
 | .hole c,h,x,hx=>by
  rw [uL] at hx
  rcases List.mem_cons.mp hx with rfl | hx
  ·decide
  ·have:=h.2 x hx;omega
 | .any,h,x,hx=>by
  rw [zB] at hx
  cases List.mem_singleton.mp hx;decide
 | .fr l u,h,x,hx=>by
  rw [zY h.1.1 h.2.1] at hx
  rcases List.mem_append.mp hx with hx | hx
  ·have:=mW _ x hx;omega
  ·rcases List.mem_cons.mp hx with rfl | hx
   ·decide
   ·rcases List.mem_cons.mp hx with rfl | hx
    ·decide
    ·have:=mW _ x hx;omega
 | .turn a,h,x,hx=>by
  rw [Ap] at hx
  simp only [List.mem_cons,List.mem_append,List.not_mem_nil,or_false] at hx
  rcases hx with rfl | rfl | rfl | hx | rfl
  ·decide
  ·decide
  ·decide
  ·exact Ad (p:=a) h x hx
  ·decide
 | .two o a b,h,x,hx=>by
  rw [BN] at hx
  simp only [List.mem_cons,List.mem_append,List.not_mem_nil,or_false] at hx
  rcases hx with rfl | hx | rfl | rfl | rfl | hx | rfl
  ·decide
  ·exact Ad (p:=a) h.1 x hx
  ·decide
  ·cases o <;> decide
  ·decide
  ·exact Ad (p:=b) h.2 x hx
  ·decide
theorem BH {cs:List Str} {p:Pt} {cost:Int} {due:Bool} (h0:0<=cost) (h1:cost<=1000000) (ok:p.ok) (sm:p.sm cs) (rd:p.rd) (np:∀ c,p≠.hole c) (hs:p.size<=15) (hd:p.dep<=14) (due_:((decide (p.size<=9) && (decide (p.dep<=5) && decide (p.holes<=4))) && decide (cost<=1000))=due):Lz cs p cost due:=by
 obtain ⟨s1,s2,s3⟩:=t7 p
 refine ⟨h0,by omega,by have:=text_len ok sm;omega,fun z=>by have:=Ad rd _ z;omega,(pP ok sm).mono (by omega),np,hd,⟨gP p,DU p,BJ ok sm (by omega),?_⟩,.inl (vH rd)⟩
 rw [<- due_]
 unfold mL mR
 rw [yK,s1,s2,s3]
 simp only [rJ,decide_eq_true h0,Bool.true_and,Bool.and_true,Bool.and_assoc]
theorem Cz {n:Nat} (h:n < 10 ^ 20):(dig n).length<=20:=by
 rcases Nat.eq_zero_or_pos n with z | z
 ·subst z;rw [dig];simp
 ·have h1:=K7 n z
  by_cases hl:(dig n).length<=20
  ·exact hl
  ·have:10 ^ 20<=10 ^ ((dig n).length - 1):=Nat.pow_le_pow_right (by decide) (by omega)
   omega
theorem PB (l h:Int):pN 15 (Pt.fr l h).toU:=(pT (n:=0) (fY (pS (by decide +kernel) (by decide +kernel)) (fY pI (fY pI sH))) (by simp)).mono (by decide)
theorem KP {cs:List Str} {l h cost:Int} {due:Bool} (h0:0<=cost) (h1:cost<=1000) (hl:0<=l) (hl2:l<=10 ^ 18) (hh:0<=h) (hh2:h < 10 ^ 20) (due_:(decide (h<=10 ^ 18) && decide (l<=h))=due):Lz cs (.fr l h) cost due:=by
 have h18:(10:Int) ^ 18=1000000000000000000:=by decide
 have h20:(10:Int) ^ 20=100000000000000000000:=by decide
 have h20n:(10:Nat) ^ 20=100000000000000000000:=by decide
 have ec:=zY hl hh
 have e1:=Cz (n:=l.toNat) (by omega)
 have e2:=Cz (n:=h.toNat) (by omega)
 have hlen:(Pt.fr l h).text.length<=1000:=by
  rw [<- oS]
  show (cT (.fr l h)).length<=1000
  rw [ec]
  simp only [List.length_append,List.length_cons]
  omega
 have hten:10 ∉ (Pt.fr l h).text.cps.toList:=fun z=>by
  have z':10∈cT (.fr l h):=z
  rw [ec] at z'
  simp only [List.mem_append,List.mem_cons] at z'
  rcases z' with z | z | z | z
  ·have:=mW _ _ z;omega
  ·omega
  ·omega
  ·have:=mW _ _ z;omega
 refine ⟨h0,by omega,hlen,hten,PB l h,(fun c z=>nomatch z),(show 1<=14 by decide),⟨.leaf (Pt.fr l h).toU (iV cs (Pt.fr l h).toU),rfl,⟨(PB l h).plain (by decide),Au (by decide +kernel),rfl⟩,?_⟩,?_⟩
 ·rw [<- due_]
  have n1:Str.ofString "from"≠Str.ofString "at":=by decide +kernel
  have e3:iV cs (Pt.fr l h).toU=(decide (h<=10 ^ 18) && decide (l<=h)):=by
   simp only [Pt.toU,iV,if_neg n1,if_true,tG,decide_eq_true hl,decide_eq_true hh,Bool.true_and]
   rw [decide_eq_true (show l<=1000000000000000000 by omega),Bool.true_and,h18]
  have e4:isAt (Pt.fr l h).toU=false:=by simp [isAt,Pt.toU,n1]
  unfold mL mR
  simp only [G.size,G.dep,G.fit,G.holes,e3,e4,rJ,decide_eq_true h0,decide_eq_true h1,Bool.and_true,Bool.true_and]
  simp
 ·by_cases hb:h<=10 ^ 18
  ·exact .inl (vH (t:=.fr l h) ⟨⟨hl,hl2⟩,hh,hb⟩)
  ·refine .inr ⟨?_,JQ hl hl2 (by omega)⟩
   rw [<- due_,decide_eq_false hb];rfl
structure Tv (cs:List Str) (t:Tl) (b:Bool):Prop where
 rw_:Rw t
 ti:wC cs t.toU b
 pl:pN 20 t.toU
 rd:dQ t.pt.text.cps.toList=.ok t.pt\/(b=false/\∃ k,dQ t.pt.text.cps.toList=.error k)
theorem TZ {cs:List Str} (hc:oN cs) {nm cl:Str} {p:Pt} {cost:Int} {due:Bool} (h1:isName (.str nm)=true) (h2:PyData.strOk nm=true) (h3:cl∈cs) (o:Lz cs p cost due):Tv cs ⟨nm,cl,p,cost⟩ due:=by
 obtain ⟨g,g1,g2,g3⟩:=o.gg
 have hpl:pN 20 (Tl.toU ⟨nm,cl,p,cost⟩):=(pT (n:=15) (fY (pS h2 (by have:=(bN h1).1;omega)) (fY (pS (hc.ok.2.2 _ h3).1 (by have:=(hc.ok.2.2 _ h3).2;omega)) (fY o.pn (fY pI sH)))) (by simp)).mono (by decide)
 refine ⟨⟨h1,hc.nm _ h3,o.c0,o.c1,o.t10,o.tl⟩,⟨hpl.plain (by decide),.inr ⟨.str nm,.str cl,g,.int cost,by rw [g1];rfl,g2,?_⟩⟩,hpl,o.rd⟩
 have e2:xZ cs (.str cl)=true:=by show cs.contains cl=true;simpa using h3
 rw [h1,e2,g1,CK (o.np cl),Bool.and_true,g3]
 rfl
theorem GL {cs:List Str} (hc:oN cs) {t:Tl} (h:t.ok cs):Tv cs t true:=by
 have rd:t.pt.rd:=by
  have key:∀ {p:Pt},p.ok->p.sm cs->p.rd:=by
   intro p
   induction p with
   | hole c=>intro _ k;exact ⟨(bN (hc.nm c k.2)).1.2,(bN (hc.nm c k.2)).2⟩
   | any=>intro _ _;trivial
   | fr l u=>intro h k;exact ⟨⟨h.1,by have:=h.2;have k':u<=10 ^ 18:=k;omega⟩,by have:=h.1;have:=h.2;omega,k⟩
   | turn a ih=>intro h k;exact ih h k
   | two o a b iha ihb=>intro h k;exact ⟨iha h.1 k.1,ihb h.2 k.2⟩
  exact key h.pt.ok h.pt.sm
 exact ⟨⟨h.nn,hc.nm _ h.ci,h.c0,by have:=h.c1;omega,fun z=>by have:=Ad rd _ z;omega,by have:=h.pt.len;omega⟩,PK hc h,Ei hc h,.inl (vH rd)⟩
theorem B2 {cs:List Str} {V:Tl->Bool}:∀ {tl:List Tl},(∀ t∈tl,Tv cs t (V t))->Df 20 (tl.map Tl.toU)/\Paired (wC cs) (tl.map Tl.toU) (tl.map V)
 | [],_=>⟨sH,.nil⟩
 | t :: tl,h=>⟨fY (h t List.mem_cons_self).pl (B2 fun x hx=>h x (List.mem_cons_of_mem _ hx)).1,.cons (h t List.mem_cons_self).ti (B2 fun x hx=>h x (List.mem_cons_of_mem _ hx)).2⟩
theorem JN {cs:List Str} (hc:oN cs) {V:Tl->Bool} {tl:List Tl} (h:∀ t∈tl,Tv cs t (V t)) (hl:tl.length<=1000) (hn:(tl.map Tl.name).Nodup) {b:Bool} (hb:(decide (1<=tl.length) && (decide (tl.length<=40) && tl.all V))=b):rA (.tup [.tup (cs.map U.str),.tup (tl.map Tl.toU)]) b:=by
 obtain ⟨p1,p2⟩:=B2 h
 refine Lb hc p1 (by rw [List.length_map];exact hl) p2 ?_
 rw [List.length_map,N2,(GH _).mpr hn,List.all_map,Bool.and_true,<- hb]
 rfl
def Due (cs:List Str) (tl:List Tl) (due:Bool) (at_:Nat):Prop :=
  cs≠[]/\cs.length<=20/\(∀ c∈cs,isName (.str c)=true)/\(∀ c∈cs,PyData.strOk c=true)/\1<=tl.length/\tl.length<=60/\(∀ t∈tl,Rw t) /\
  rA (.tup [.tup (cs.map U.str),.tup (tl.map Tl.toU)]) due /\
  ((due=true/\i7 (.tup (cs.map U.str))=true/\∀ i,i < tl.length->Goes cs tl i) \/
   (due=false/\i7 (.tup (cs.map U.str))=false/\at_=0) \/
   (due=false/\i7 (.tup (cs.map U.str))=true/\∃ J,at_=J + 1/\J<=60/\(∀ i,i < J->Goes cs tl i)/\Tn cs tl J))
theorem BP {tl:List Tl} (h:(tl.map Tl.name).Nodup) (n:Nat):((tl.take n).map Tl.name).Nodup:=by
 rw [List.map_take];exact h.sublist (List.take_sublist _ _)
theorem A8 {cs:List Str} (hc:oN cs) {V:Tl->Bool} {tl:List Tl} (h:∀ t∈tl,Tv cs t (V t)) (h1:1<=tl.length) (h60:tl.length<=60) (hn:(tl.map Tl.name).Nodup) {due:Bool} {J:Nat} (hJ:J < tl.length) (hJ4:J<=40) (hpre:∀ i t,i < J->tl[i]?=some t->V t=true)
  (hd:due=(decide (tl.length<=40) && tl.all V)) (hbad:due=false->J=40\/∃ t,tl[J]?=some t/\V t=false):Due cs tl due (J + 1):=by
 have goes:∀ i t,i < tl.length->i < 40->tl[i]?=some t->(∀ k t',k < i + 1->tl[k]?=some t'->V t'=true)->Goes cs tl i:=fun i t hi h40 ht hv=>by
  have hV:=hv i t (by omega) ht
  have tv:=h t (List.mem_of_getElem? ht)
  refine ⟨t,ht,?_,JN hc (V:=V) (fun x hx=>h x (List.mem_of_mem_take hx)) (by rw [List.length_take];omega) (BP hn _) ?_⟩
  ·rcases tv.rd with r | ⟨r,_⟩
   ·exact r
   ·rw [hV] at r;cases r
  ·rw [List.length_take,decide_eq_true (by omega),decide_eq_true (by omega)]
   have:(tl.take (i + 1)).all V=true:=by
    rw [List.all_eq_true]
    intro x hx
    obtain ⟨k,hk,e⟩:=List.mem_take_iff_getElem.mp hx
    exact hv k x (by omega) (by rw [List.getElem?_eq_getElem (by omega),e])
   rw [this];rfl
 refine ⟨hc.ok.1,by have:=hc.ok.2.1;omega,hc.nm,fun c hx=>(hc.ok.2.2 c hx).1,h1,h60,fun t ht=>(h t ht).rw_,JN hc h (by omega) hn (by rw [decide_eq_true h1,Bool.true_and,hd]),?_⟩
 cases due with
 | true =>
  have hd':=hd.symm
  rw [Bool.and_eq_true,decide_eq_true_eq,List.all_eq_true] at hd'
  exact .inl ⟨rfl,A9 hc,fun i hi=>goes i tl[i] hi (by omega) (List.getElem?_eq_getElem hi) fun k t' hk e=>hd'.2 t' (List.mem_of_getElem? e)⟩
 | false =>
  refine .inr (.inr ⟨rfl,A9 hc,J,rfl,by omega,fun i hi=>goes i tl[i] (by omega) (by omega) (List.getElem?_eq_getElem (by omega)) fun k t' hk e=>hpre k t' (by omega) e,tl[J],List.getElem?_eq_getElem hJ,?_⟩)
  have tv:=h tl[J] (List.getElem_mem hJ)
  rcases tv.rd with r | ⟨r,k,e⟩
  ·refine .inr ⟨r,JN hc (V:=V) (fun x hx=>h x (List.mem_of_mem_take hx)) (by rw [List.length_take];omega) (BP hn _) ?_⟩
   rw [List.length_take]
   rcases hbad rfl with e | ⟨t,ht,hv⟩
   ·rw [decide_eq_false (show ¬ (min (J + 1) tl.length<=40) by omega)];simp
   ·have:(tl.take (J + 1)).all V=false:=by
     rw [List.all_eq_false]
     refine ⟨t,?_,by rw [hv];simp⟩
     refine List.mem_take_iff_getElem.mpr ⟨J,by omega,?_⟩
     exact (List.getElem?_eq_some_iff.mp ht).2
    rw [this];simp
  ·exact .inl ⟨k,e⟩
mutual
def al:U->Nat->Prop
 | .str _,n=>1<=n
 | .int _,n=>1<=n
 | .tup us,n=>us.length<=1000/\∃ m,n=m + 1/\GW us m
 | _,_=>False
def GW:List U->Nat->Prop
 | [],_=>True
 | u :: us,n=>al u n/\GW us n
end
theorem GU:∀ {us:List U} {n i:Nat} {u:U},GW us n->us[i]?=some u->al u n
 | a :: us,n,0,u,h,e=>by cases e;exact h.1
 | a :: us,n,i + 1,u,h,e=>GU (us:=us) h.2 e
theorem Eh:∀ {u:U} {n:Nat},al u n->1<=n
 | .str _,n,h=>h
 | .int _,n,h=>h
 | .tup us,n,h=>by obtain ⟨_,m,rfl,_⟩:=h;omega
def uT (n:Nat):cF:=fun us M Q=>∃ u:U,us=[u,u]/\al u n/\n<=30/\Q (.bl true) M
def vN:cF:=fun us M Q=>∃ i:Int,us=[.int i]/\Q (.bl true) M
local macro_rules | `(tactic| dsimp! only [$xs,*] $[$l]?) => `(tactic| simp only [$xs,*, Bool.false_eq_true, Bool.not_false, Bool.not_true, List.append_nil, List.cons_append, List.getElem?_cons_succ, List.getElem?_cons_zero, List.length_cons, List.length_nil, List.map_cons, List.map_nil, List.nil_append, List.replicate, List.set_cons_succ, List.set_cons_zero, Nat.add_sub_cancel, Nat.reduceAdd, Nat.reduceLeDiff, Nat.reduceSub, Nat.sub_self, Option.getD_some, Option.some.injEq, and_true, yC, CL, at2, ED, wZ, Fo, nG, w9, nK, o6, wW, AZ, A6, kX, DT, CV, Di, Eu, eG, decide_false, decide_true, uQ, tX, exists_eq_left', if_false, if_true, xW, eH, c6, c7, dH, c8, dJ, cV, fE, fF, gN, fK, hW, eO, fS, fG, gL, fH, gT, eT, gU, gO, iM, gM, iT, fN, fR, fL, gS, fO, gR, eP, gK, gQ, iR, gZ, iN, fT, eQ, eJ, fM, eK, fP, dZ, items, iY, rO, jL, tH, zE, jX, gI, bM, reduceCtorEq, c9, KJ, true_and, wV, mU, nM, u5, kE, AL, wR, uC, rS, pW, nY, kS, kA, AR, uI, qV, BI, tS, pV, sP, wF, vB, yH, A1, mN, kD, vD, u7, pU, gB, Bv, v9, pX, pQ, v5, qY, lX, vG, vQ, Fc, i5, B0, yJ, yA, zC, uD, yN, zJ] $[$l]?)
theorem Kz (F:b8 K "_law_whole" "_law_whole" tO f fd) (hm:mg "_law_whole"=some (.ref f)) (aN:mg "isinstance"=none) (zS:mg "int"=none) (l5:mg "bool"=none):Callee P w K mg base 1 "_law_whole" vN []:=by
 refine cB F hm DY (mK fun _ _ _ _ _ _ _=>rfl) (aM (aR (gX (cI iL aN (aA (uv 0) (aA (iE (n:="int") zS) aB))) (iJ (EC (cI iL aN (aA (uv 0) (aA (iE (n:="bool") l5) aB)))))))) ?_
 rintro us M Q ⟨i,rfl,q⟩
 refine ⟨rfl,?_⟩
 dsimp! only [bG,aF,aK,aD]
 exact aL q
theorem zip_get {us:List U} {i:Nat} {x:U} (h:(fV us us)[i]?=some x):∃ u,us[i]?=some u/\x=.tup [u,u]:=by
 obtain ⟨u,w,e1,e2,e3⟩:=vM h
 rw [e1] at e2;cases e2
 exact ⟨u,e1,e3⟩
theorem MA {n:Nat} (F:b8 K "_law_alike" "_law_alike" nR f fd) (hm:mg "_law_alike"=some (.ref f)) (aN:mg "isinstance"=none) (bK:mg "tuple"=none) (bF:mg "len"=none) (Ab:mg "zip"=none) (eA:mg "str"=none) (jK:Callee P w K mg base 1 "_law_whole" vN []) (tD:Callee P w K mg base (n + 1) "_law_alike" (uT n) []):Callee P w K mg base (n + 2) "_law_alike" (uT (n + 1)) []:=by
 refine cB F hm rC (mJ fun _ _ _ _ _ _ _ _=>rfl) (aG (bY (cN (cI iL aN (aA (uv 1) (aA (iE (n:="tuple") bK) aB))))
 (aG (bY (i9.pt (iW (c5 (cN (cI iL aN (aA (uv 0) (aA (iE (n:="tuple") bK) aB))))) (iB (bS sG (cI eI bF (aA (uv 0) aB)) (cI eI bF (aA (uv 1) aB))))))
 (aM (aR n5))
 aY)
 (aG (yX (Sj Ab (aA (uv 0) (aA (uv 1) aB))) (yT (n:=2) (gY (cM (k:=1000) 2 rC.nd) (gY (cM (k:=1000) 3 rC.nd) uG)))
 (aM (bY (c5 (cN (bD tD (aA (uv 2) (aA (uv 3) aB)))))
 (aM (aR n5))
 aY)))
 (aM (aR n5))))
 aY)
 (aG (bY (cN (cI iL aN (aA (uv 1) (aA (iE (n:="str") eA) aB))))
 (aM (aR (gX (cI iL aN (aA (uv 0) (aA (iE (n:="str") eA) aB))) (iJ (gE cG (uv 0) (uv 1))))))
 aY)
 (aM (aR (gX (bD jK (aA (uv 0) aB)) (iJ (gE cG (uv 0) (uv 1)))))))) ?_
 rintro us M Q ⟨u,rfl,ha,hn,q⟩
 refine ⟨rfl,?_⟩
 refine aO fun V1 hV1=>?_
 refine bR fun A B hA hB=>?_
 cases u with
 | str z =>
  dsimp! only [aF,aK,aD]
  subst hB
  simp only [bJ]
  subst hV1
  refine aO fun V2 hV2=>?_
  refine bR fun A B hA hB=>?_
  dsimp! only [aF,aK,aD]
  subst hA
  dsimp! only [bG,aF,aK,aD]
  exact aL q
 | int z =>
  dsimp! only [aF,aK,aD]
  subst hB
  simp only [bJ]
  subst hV1
  refine aO fun V2 hV2=>?_
  refine bR fun A B hA hB=>?_
  dsimp! only [aF,aK,aD]
  subst hB
  simp only [bJ]
  subst hV2
  dsimp! only [bG,aF,aK,aD]
  refine ⟨z,rfl,?_⟩
  dsimp! only [aF,aK,aD]
  exact aL q
 | tup ws =>
  obtain ⟨hl,m,e,has⟩:=ha
  cases e
  dsimp! only [aF,aK,aD]
  subst hA
  refine aO fun V2 hV2=>?_
  refine bR fun A B hA hB=>?_
  dsimp! only [aF,aK,aD]
  subst hB
  simp only [bJ]
  subst hV2
  refine aO fun V3 hV3=>?_
  refine uH (S:=⟨none,fV ws ws⟩) (M1:=M) (fun R r=>by dsimp! only [aK,aF,aK,aD];exact r)
   (fun i τ Mi=>∃ (a b:Option U),τ=[some (.tup ws),some (.tup ws),a,b]/\Mi=M) ⟨_,_,rfl,rfl⟩ nk ?_ ?_
  ·rintro i x τ Mi e ⟨a,b,rfl,rfl⟩
   obtain ⟨v,e1,rfl⟩:=zip_get e
   dsimp! only [jY,lW,qQ,hName,aF,aK,aD]
   refine bR fun A B hA hB=>?_
   dsimp! only [aF,aK,aD]
   refine ⟨v,rfl,GU has e1,by omega,?_⟩
   dsimp! only [aF,aK,aD]
   subst hB
   exact ⟨_,_,rfl,rfl⟩
  ·rintro τ Mi ⟨a,b,rfl,rfl⟩
   subst hV3
   dsimp! only [bG,aF,aK,aD]
   exact aL q
 | _=>exact ha.elim
theorem CC (F:b8 K "_law_alike" "_law_alike" nR f fd) (hm:mg "_law_alike"=some (.ref f)) (aN:mg "isinstance"=none) (bK:mg "tuple"=none) (bF:mg "len"=none) (Ab:mg "zip"=none) (eA:mg "str"=none) (jK:Callee P w K mg base 1 "_law_whole" vN []):∀ n,Callee P w K mg base (n + 1) "_law_alike" (uT n) []
 | 0=>by
  have no:∀ us M Q,¬ uT 0 us M Q:=fun us M Q h=>by
   obtain ⟨p,_,h,_⟩:=h
   have:=Eh h
   omega
  refine ⟨f,fd,["found","due"],[],[],⟨fun vs H Q E h=>?_,fun A outer s H args us vs Q E _ _ _ _ h=>?_⟩,hm,F.kp,F.binds (mJ fun _ _ _ _ _ _ _ _=>rfl),.nil,fun H M=>.nil⟩
  ·obtain ⟨us,M,Q',_,_,h,_⟩:=h;exact absurd h (no us M Q')
  ·obtain ⟨us,M,Q',_,_,h,_⟩:=h;exact absurd h (no us M Q')
 | n + 1=>MA F hm aN bK bF Ab eA jK (CC F hm aN bK bF Ab eA jK n)
theorem Qp:∀ {u:U} {n:Nat},al u n->al u (n + 1):=by
 have key:∀ n,(∀ u,al u n->al u (n + 1))/\∀ us,GW us n->GW us (n + 1):=by
  intro n
  induction n with
  | zero =>
   refine ⟨fun u h=>absurd (Eh h) (by omega),fun us=>?_⟩
   cases us with
   | nil=>exact fun _=>trivial
   | cons u us=>exact fun h=>absurd (Eh h.1) (by omega)
  | succ n ih =>
   have h1:∀ u,al u (n + 1)->al u (n + 1 + 1):=fun u h=>by
    cases u with
    | str z=>exact (show 1<=_ by omega)
    | int z=>exact (show 1<=_ by omega)
    | tup ws =>
     obtain ⟨hl,m,e,has⟩:=h
     cases e
     exact ⟨hl,_,rfl,ih.2 ws has⟩
    | _=>exact h.elim
   refine ⟨h1,fun us=>?_⟩
   induction us with
   | nil=>exact fun _=>trivial
   | cons u us ih2=>exact fun h=>⟨h1 u h.1,ih2 h.2⟩
 exact fun {u n} h=>(key n).1 u h
theorem DE {u:U} {n m:Nat} (h:al u n) (hm:n<=m):al u m:=by
 induction hm with
 | refl=>exact h
 | step _ ih=>exact Qp ih
theorem DI:∀ p:Pt,al p.toU (p.dep + 1)
 | .hole c=>⟨by simp,_,rfl,(show 1<=_ by simp [Pt.dep]),(show 1<=_ by simp [Pt.dep]),trivial⟩
 | .any=>⟨by simp,_,rfl,(show 1<=_ by simp [Pt.dep]),trivial⟩
 | .fr l h=>⟨by simp,_,rfl,(show 1<=_ by simp [Pt.dep]),(show 1<=_ by simp [Pt.dep]),(show 1<=_ by simp [Pt.dep]),trivial⟩
 | .turn a=>⟨by simp,_,rfl,(show 1<=_ by simp [Pt.dep]),DE (DI a) (by simp [Pt.dep]),trivial⟩
 | .two o a b=>⟨by simp,_,rfl,(show 1<=_ by simp [Pt.dep]),DE (DI a) (by simp only [Pt.dep];omega),DE (DI b) (by simp only [Pt.dep];omega),trivial⟩
theorem Cq {α:Type} {g:α->U} {n:Nat}:∀ {l:List α},(∀ x∈l,al (g x) n)->GW (l.map g) n
 | [],_=>trivial
 | x :: l,h=>⟨h x List.mem_cons_self,Cq fun y hy=>h y (List.mem_cons_of_mem _ hy)⟩
def LQ:cF:=fun us M Q=>∃ (ns:List Int) (k:Nat),us=[.lst (ns.map .int),.int (k:Int)]/\Q (.int (ns.getD k 0)) M
local macro_rules | `(tactic| simp_all! only [$xs,*]) => `(tactic| simp only [$xs,*, Bool.false_eq_true, Bool.not_false, Bool.not_true, List.append_nil, List.cons_append, List.getElem?_cons_succ, List.getElem?_cons_zero, List.length_cons, List.length_nil, List.map_cons, List.map_nil, List.nil_append, List.replicate, List.set_cons_succ, List.set_cons_zero, Nat.add_sub_cancel, Nat.reduceAdd, Nat.reduceSub, Nat.sub_self, Option.some.injEq, and_true, yC, CL, at2, ED, wZ, nG, w9, nK, o6, wW, AZ, A6, kX, DT, CV, Di, Eu, eG, decide_false, decide_true, exists_eq_left', if_false, if_true, xW, c6, c7, dH, c8, dJ, cV, fE, fF, gN, fK, hW, eO, fS, fG, gL, fH, gT, eT, gU, gO, iM, gM, iT, fN, fR, fL, gS, fO, gR, eP, gK, gQ, iR, gZ, iN, fT, eQ, eJ, fM, eK, fP, dZ, items, iY, rO, jL, tH, jX, reduceCtorEq, c9, true_and, wV, mU, nM, u5, kE, AL, wR, uC, rS, pW, nY, kS, kA, aF, AR, uI, qV, BI, tS, pV, sP, wF, vB, A1, mN, kD, vD, u7, pU, gB, Bv, v9, pX, pQ, v5, lX, vG, vQ, Fc, i5, aK])
theorem Hx (F:b8 K "_law_cell_at" "_law_cell_at" oQ f fd) (hm:mg "_law_cell_at"=some (.ref f)) (bF:mg "len"=none):Callee P w K mg base 1 "_law_cell_at" LQ []:=by
 refine cB F hm Cj (mJ fun _ _ _ _ _ _ _ _=>rfl) (aG (bY (bS sE (uv 1) (cI eI bF (aA (uv 0) aB)))
 (aM (aR (aV (uv 0) (uv 1))))
 aY)
 (aM (aR aJ))) ?_
 rintro us M Q ⟨ns,k,rfl,q⟩
 refine ⟨rfl,?_⟩
 simp_all! only [jY,lW,qQ,jR,A5,GZ,l3,nI,sX,wJ,bJ,bG,Af,bH,hName,k8,view,yW,eH,W2,mD,zQ]
 refine oR (fun h=>?_) (fun h=>?_)
 ·have hk:k < ns.length:=by
   have:=of_decide_eq_true h
   rw [List.length_map] at this
   omega
  refine ⟨.int (ns.getD k 0),iX ?_,aL q⟩
  simp [hk]
 ·have hk:¬ k < ns.length:=fun z=>h (by simpa using z)
  have:ns.getD k 0=0:=by simp [hk]
  rw [this] at q
  exact aL q
theorem DM (i:Int):IV i 2:=by first | exact ⟨by decide,by decide⟩ | decide
def dB (n:Nat):Nat:=if n<=1 then 1 else if n<=3 then 2 else if n<=7 then 3 else 4
theorem Pj (n:Nat):dB n<=4:=by unfold dB;split <;> (try split) <;> (try split) <;> omega
theorem Sb:∀ n:Fin 12,3<=n.val->max (dB ((n.val - 1) / 2)) (dB (n.val - 1 - (n.val - 1) / 2)) + 1<=dB n.val:=by decide
structure Ft (n:Nat) (p:Pt):Prop where
 ok:p.ok
 sm:∀ cs,p.sm cs
 rd:p.rd
 np:∀ c,p≠.hole c
 siz:p.size=n
 hol:p.holes=0
 dep:p.dep<=dB n
def uR (m:Nat):cF:=fun us M Q=>∃ n:Nat,us=[.int (n:Int)]/\1<=n/\n<=m/\m<=11/\∀ p,Ft n p->Q (.tup [p.toU,.str p.text]) M
theorem S8:Ft 1 .any:=⟨trivial,fun _=>trivial,trivial,(fun c z=>nomatch z),rfl,rfl,by decide⟩
theorem RI:Ft 2 (.turn (.fr 0 9)):=⟨⟨by decide,by decide⟩,fun _=>(show (9:Int)<=10 ^ 18 by decide),⟨⟨by decide,by decide⟩,by decide,by decide⟩,(fun c z=>nomatch z),rfl,rfl,by decide⟩
theorem TQ {n a b:Nat} {p q:Pt} (h1:Ft a p) (h2:Ft b q) (ha:a=(n - 1) / 2) (hb:b=n - 1 - (n - 1) / 2) (hn:3<=n) (h11:n<=11):Ft n (.two .less p q):=by
 refine ⟨⟨h1.ok,h2.ok⟩,fun cs=>⟨h1.sm cs,h2.sm cs⟩,⟨h1.rd,h2.rd⟩,(fun c z=>nomatch z),?_,?_,?_⟩
 ·have s1:=h1.siz;have s2:=h2.siz
  simp only [Pt.size]
  clear h1 h2
  omega
 ·have o1:=h1.hol;have o2:=h2.hol
  simp only [Pt.holes,o1,o2]
 ·have k:=Sb ⟨n,by omega⟩ hn
  have d1:=h1.dep;have d2:=h2.dep
  rw [ha] at d1;rw [hb] at d2
  simp only [Pt.dep]
  simp only at k
  clear h1 h2 ha hb hn
  omega
theorem L6 {p:Pt} {n:Nat} (h:Ft n p):p.text.length<=50 * n:=by
 have:=text_len (cs:=[]) h.ok (h.sm []);rw [h.siz] at this;exact this
theorem RB:(Pt.turn (.fr 0 9)).text=Str.ofString "(- 0..9)":=by decide +kernel
local macro_rules | `(tactic| simp! only [$xs,*] $[$l]?) => `(tactic| simp only [$xs,*, Bool.false_eq_true, Bool.not_false, Bool.not_true, List.append_nil, List.cons_append, List.getElem?_cons_succ, List.getElem?_cons_zero, List.length_cons, List.length_nil, List.map_cons, List.map_nil, List.nil_append, List.replicate, List.set_cons_succ, List.set_cons_zero, Nat.add_sub_cancel, Nat.reduceAdd, Nat.reduceLeDiff, Nat.reduceSub, Nat.sub_self, Option.getD_some, Option.some.injEq, and_true, yC, CL, at2, ED, wZ, Fo, nG, w9, nK, o6, wW, AZ, A6, kX, DT, CV, Di, Eu, eG, decide_false, decide_true, uQ, tX, exists_eq_left', if_false, if_true, xW, eH, c6, c7, dH, c8, dJ, cV, fE, fF, gN, fK, hW, eO, fS, fG, gL, fH, gT, eT, gU, gO, iM, gM, iT, fN, fR, fL, gS, fO, gR, eP, gK, gQ, iR, gZ, iN, fT, eQ, eJ, fM, eK, fP, dZ, items, iY, rO, jL, tH, zE, jX, gI, bM, reduceCtorEq, c9, KJ, true_and, wV, mU, nM, u5, kE, AL, wR, uC, rS, pW, nY, kS, kA, aF, aD, AR, uI, qV, BI, tS, pV, sP, wF, vB, yH, A1, mN, kD, vD, u7, pU, gB, Bv, v9, pX, pQ, v5, qY, lX, vG, vQ, Fc, i5, aK, AG, Bs, zU, B0, yJ, yA, zC, uD, yN, zJ] $[$l]?)
theorem Og {m:Nat} (F:b8 K "_law_sized" "_law_sized" nJ f fd) (hm:mg "_law_sized"=some (.ref f)) (nH:Callee P w K mg base (m + 1) "_law_sized" (uR m) []):Callee P w K mg base (m + 2) "_law_sized" (uR (m + 1)) []:=by
 refine cB F hm qM (mK fun _ _ _ _ _ _ _=>rfl) (aG (bY (bS cG (uv 0) aJ)
 (aM (aR (bB (aA (bB (aA bZ aB)) (aA bZ aB)))))
 aY)
 (aG (bY (bS cG (uv 0) aJ)
 (aM (aR (bB (aA (bB (aA bZ (aA (bB (aA bZ (aA aJ (aA aJ aB)))) aB))) (aA bZ aB)))))
 aY)
 (aG (aS 1 qM.nd (bD nH (aA (jM (lU (uv 0) aJ) aJ) aB)))
 (aG (aS 2 qM.nd (bD nH (aA (lU (lU (uv 0) aJ) (jM (lU (uv 0) aJ) aJ)) aB)))
 (aM (aR (bB (aA (bB (aA bZ (aA (aV (uv 1) aJ) (aA (aV (uv 2) aJ) aB)))) (aA (aQ (own:=false) (aQ (own:=false) (aQ (own:=false) (aQ (own:=false) bZ (aV (uv 1) aJ)) bZ) (aV (uv 2) aJ)) bZ) aB))))))))) ?_
 rintro us M Q ⟨n,rfl,h1,hm1,h11,q⟩
 refine ⟨rfl,?_⟩
 refine aO fun V1 hV1=>?_
 refine bR fun A B hA hB=>?_
 simp! only [true_and]
 by_cases n1:n=1
 ·subst n1
  rw [if_pos (decide_eq_true (by rfl))]
  subst hA
  simp! only [bG]
  exact aL (q _ S8)
 rw [if_neg (fun e=>by have:=of_decide_eq_true e;omega)]
 subst hB
 simp only [bJ]
 subst hV1
 refine aO fun V2 hV2=>?_
 refine bR fun A B hA hB=>?_
 simp! only [true_and]
 by_cases n2:n=2
 ·subst n2
  rw [if_pos (decide_eq_true (by rfl))]
  subst hA
  simp! only [bG]
  have q2:=q _ RI
  rw [RB] at q2
  exact aL q2
 rw [if_neg (fun e=>by have:=of_decide_eq_true e;omega)]
 subst hB
 simp only [bJ]
 subst hV2
 refine aO fun V3 hV3=>?_
 simp! only [bH,hName]
 have e1:((n:Int) - 1) / 2=(((n - 1) / 2:Nat):Int):=by omega
 have e2:((n:Int) - 1) - (((n - 1) / 2:Nat):Int)=((n - 1 - (n - 1) / 2:Nat):Int):=by omega
 refine ⟨by first | decide | exact DM _,?_⟩
 rw [e1]
 refine ⟨_,rfl,by omega,by omega,by omega,fun p hp=>?_⟩
 have l1:=L6 hp
 subst hV3
 refine aO fun V4 hV4=>?_
 simp! only [bH,hName]
 refine ⟨by first | decide | exact DM _,?_⟩
 rw [e1,e2]
 refine ⟨_,rfl,by omega,by omega,by omega,fun r hr=>?_⟩
 have l2:=L6 hr
 subst hV4
 have q3:=q _ (TQ (n:=n) hp hr rfl rfl (by omega) (by omega))
 simp! only [bG]
 have w1:(Str.ofString " - ").length=3:=by decide +kernel
 refine ⟨small (by simp only [vI];omega),small (by simp only [len_app,vI,w1];omega),small (by simp only [len_app,vI,w1];omega),small (by simp only [len_app,vI,w1,DZ];omega),aL q3⟩
theorem CN (F:b8 K "_law_sized" "_law_sized" nJ f fd) (hm:mg "_law_sized"=some (.ref f)):∀ n,Callee P w K mg base (n + 1) "_law_sized" (uR n) []
 | 0=>by
  have no:∀ us M Q,¬ uR 0 us M Q:=fun us M Q h=>by
   obtain ⟨n,_,h1,h2,_⟩:=h
   omega
  refine ⟨f,fd,["size"],[],[],⟨fun vs H Q E h=>?_,fun A outer s H args us vs Q E _ _ _ _ h=>?_⟩,hm,F.kp,F.binds (mK fun _ _ _ _ _ _ _=>rfl),.nil,fun H M=>.nil⟩
  ·obtain ⟨us,M,Q',_,_,h,_⟩:=h;exact absurd h (no us M Q')
  ·obtain ⟨us,M,Q',_,_,h,_⟩:=h;exact absurd h (no us M Q')
 | n + 1=>Og F hm (CN F hm n)
structure Gw (n:Nat) (c:Str) (p:Pt):Prop where
 ok:p.ok
 sm:∀ cs,c∈cs->p.sm cs
 rd:p.rd
 np:2<=n->∀ c,p≠.hole c
 siz:p.size + 1=2 * n
 hol:p.holes=n
 dep:p.dep<=n
def C6 (c:Str):Prop:=PyData.strOk c=true/\isName (.str c)=true
theorem Sm {c:Str} (h:C6 c):Gw 1 c (.hole c):=⟨h.1,fun cs hc=>⟨(bN h.2).1.2,hc⟩,⟨(bN h.2).1.2,(bN h.2).2⟩,fun z=>by omega,rfl,rfl,Nat.le_refl _⟩
theorem Uw {n a b:Nat} {c:Str} {p q:Pt} (h1:Gw a c p) (h2:Gw b c q) (ha:1<=a) (hb:1<=b) (hn:a + b=n):Gw n c (.two .by_ p q):=by
 have s1:=h1.siz;have s2:=h2.siz;have o1:=h1.hol;have o2:=h2.hol;have d1:=h1.dep;have d2:=h2.dep
 exact ⟨⟨h1.ok,h2.ok⟩,fun cs hc=>⟨h1.sm cs hc,h2.sm cs hc⟩,⟨h1.rd,h2.rd⟩,(fun _ c z=>nomatch z),by simp only [Pt.size];omega,by simp only [Pt.holes];omega,by simp only [Pt.dep];omega⟩
theorem LO {n:Nat} {c:Str} {p:Pt} (h:Gw n c p):p.text.length<=100 * n:=by
 have:=text_len (cs:=[c]) h.ok (h.sm [c] List.mem_cons_self);have:=h.siz;omega
def y9 (m:Nat):cF:=fun us M Q=>∃ (n:Nat) (c:Str),us=[.int (n:Int),.str c]/\1<=n/\n<=m/\m<=11/\C6 c/\∀ p,Gw n c p->Q (.tup [p.toU,.str p.text]) M
theorem Qq {m:Nat} (F:b8 K "_law_gaps" "_law_gaps" pZ f fd) (hm:mg "_law_gaps"=some (.ref f)) (pO:Callee P w K mg base (m + 1) "_law_gaps" (y9 m) []):Callee P w K mg base (m + 2) "_law_gaps" (y9 (m + 1)) []:=by
 refine cB F hm tU (mJ fun _ _ _ _ _ _ _ _=>rfl) (aG (bY (bS cG (uv 0) aJ)
 (aM (aR (bB (aA (bB (aA bZ (aA (uv 1) aB))) (aA (aQ (own:=false) bZ (uv 1)) aB)))))
 aY)
 (aG (aS 2 tU.nd (bD pO (aA (jM (uv 0) aJ) (aA (uv 1) aB))))
 (aG (aS 3 tU.nd (bD pO (aA (lU (uv 0) (jM (uv 0) aJ)) (aA (uv 1) aB))))
 (aM (aR (bB (aA (bB (aA bZ (aA (aV (uv 2) aJ) (aA (aV (uv 3) aJ) aB)))) (aA (aQ (own:=false) (aQ (own:=false) (aQ (own:=false) (aQ (own:=false) bZ (aV (uv 2) aJ)) bZ) (aV (uv 3) aJ)) bZ) aB)))))))) ?_
 rintro us M Q ⟨n,c,rfl,h1,hm1,h11,hc,q⟩
 refine ⟨rfl,?_⟩
 have hcl:=(bN hc.2).1
 refine aO fun V1 hV1=>?_
 refine bR fun A B hA hB=>?_
 simp! only [true_and]
 by_cases n1:n=1
 ·subst n1
  rw [if_pos (decide_eq_true (by rfl))]
  subst hA
  simp! only [bG]
  exact ⟨small (by simp only [My];omega),aL (q _ (Sm hc))⟩
 rw [if_neg (fun e=>by have:=of_decide_eq_true e;omega)]
 subst hB
 simp only [bJ]
 subst hV1
 refine aO fun V3 hV3=>?_
 simp! only [bH,hName]
 have e1:(n:Int) / 2=((n / 2:Nat):Int):=by omega
 have e2:(n:Int) - ((n / 2:Nat):Int)=((n - n / 2:Nat):Int):=by omega
 refine ⟨by first | decide | exact DM _,?_⟩
 rw [e1]
 refine ⟨_,c,rfl,by omega,by omega,by omega,hc,fun p hp=>?_⟩
 have l1:=LO hp
 subst hV3
 refine aO fun V4 hV4=>?_
 simp! only [bH,hName]
 refine ⟨by first | decide | exact DM _,?_⟩
 rw [e1,e2]
 refine ⟨_,c,rfl,by omega,by omega,by omega,hc,fun r hr=>?_⟩
 have l2:=LO hr
 subst hV4
 have q3:=q _ (Uw (n:=n) hp hr (by omega) (by omega) (by omega))
 simp! only [bG]
 have w1:(Str.ofString " * ").length=3:=by decide +kernel
 refine ⟨small (by simp only [vI];omega),small (by simp only [len_app,vI,w1];omega),small (by simp only [len_app,vI,w1];omega),small (by simp only [len_app,vI,w1,DZ];omega),aL q3⟩
theorem Fz (F:b8 K "_law_gaps" "_law_gaps" pZ f fd) (hm:mg "_law_gaps"=some (.ref f)):∀ n,Callee P w K mg base (n + 1) "_law_gaps" (y9 n) []
 | 0=>by
  have no:∀ us M Q,¬ y9 0 us M Q:=fun us M Q h=>by
   obtain ⟨n,_,_,h1,h2,_⟩:=h
   omega
  refine ⟨f,fd,["many","cls"],[],[],⟨fun vs H Q E h=>?_,fun A outer s H args us vs Q E _ _ _ _ h=>?_⟩,hm,F.kp,F.binds (mJ fun _ _ _ _ _ _ _ _=>rfl),.nil,fun H M=>.nil⟩
  ·obtain ⟨us,M,Q',_,_,h,_⟩:=h;exact absurd h (no us M Q')
  ·obtain ⟨us,M,Q',_,_,h,_⟩:=h;exact absurd h (no us M Q')
 | n + 1=>Qq F hm (Fz F hm n)
def qT (c:Str):Nat->Pt
 | 0=>.hole c
 | n + 1=>.turn (qT c n)
theorem Fp {c:Str} (h:C6 c):∀ n,(qT c n).ok/\(∀ cs,c∈cs->(qT c n).sm cs)/\(qT c n).rd/\(qT c n).size=n + 1/\(qT c n).holes=1/\(qT c n).dep=n + 1
 | 0=>⟨h.1,fun cs hc=>⟨(bN h.2).1.2,hc⟩,⟨(bN h.2).1.2,(bN h.2).2⟩,rfl,rfl,rfl⟩
 | n + 1=>by
  obtain ⟨a1,a2,a3,a4,a5,a6⟩:=Fp h n
  exact ⟨a1,a2,a3,by simp only [qT,Pt.size,a4],by simp only [qT,Pt.holes,a5],by simp only [qT,Pt.dep,a6]⟩
def G8:cF:=fun us M Q=>∃ (n:Nat) (c:Str),us=[.int ((n + 1:Nat):Int),.str c]/\n<=10/\C6 c/\Q (.tup [(qT c n).toU,.str (qT c n).text]) M
theorem UM {c:Str} (h:C6 c) (n:Nat):(qT c n).text.length<=50 * (n + 1):=by
 obtain ⟨a1,a2,_,a4,_⟩:=Fp h n
 have:=text_len (cs:=[c]) a1 (a2 [c] List.mem_cons_self)
 rw [a4] at this;exact this
theorem OG (F:b8 K "_law_chain" "_law_chain" sR f fd) (hm:mg "_law_chain"=some (.ref f)) (nE:mg "range"=none):Callee P w K mg base 1 "_law_chain" G8 []:=by
 refine cB F hm lY (mJ fun _ _ _ _ _ _ _ _=>rfl) (aG (aS 2 lY.nd (bB (aA (bB (aA bZ (aA (uv 1) aB))) (aA (aQ (own:=false) bZ (uv 1)) aB))))
 (aG (yX (Cc nE (aA (lU (uv 0) aJ) aB)) (cM (k:=1000) 3 lY.nd)
 (aM (aS 2 lY.nd (bB (aA (bB (aA bZ (aA (aV (uv 2) aJ) aB))) (aA (aQ (own:=false) (aQ (own:=false) bZ (aV (uv 2) aJ)) bZ) aB))))))
 (aM (aR (uv 2))))) ?_
 rintro us M Q ⟨n,c,rfl,hn,hc,q⟩
 refine ⟨rfl,?_⟩
 have hcl:=(bN hc.2).1
 refine aO fun V1 hV1=>?_
 simp! only [bH,hName]
 refine ⟨small (by simp only [My];omega),?_⟩
 subst hV1
 refine aO fun V2 hV2=>?_
 have e1:((n + 1:Nat):Int) - 1=(n:Int):=by omega
 refine uH (S:=⟨none,cY 0 n⟩) (M1:=M) (fun R r=>by simp! only [e1];refine ⟨by omega,by omega,?_⟩;first | exact r | simpa using r)
  (fun i τ Mi=>∃ (a:Option U),τ=[some (.int ((n + 1:Nat):Int)),some (.str c),some (.tup [(qT c i).toU,.str (qT c i).text]),a]/\Mi=M) ⟨_,rfl,rfl⟩ nk ?_ ?_
 ·rintro i x τ Mi e ⟨a,rfl,rfl⟩
  obtain ⟨rfl,hi⟩:=u4 e
  have l1:=UM hc i
  simp! only [hName,bH]
  refine ⟨small (by simp only [FE];omega),small (by simp only [len_app,FE,DZ];omega),_,rfl⟩
 ·rintro τ Mi ⟨a,rfl,rfl⟩
  have hl2:(Src.mk none (cY 0 n)).xs.length=n:=by simp [cY]
  rw [hl2]
  subst hV2
  simp! only [bG]
  exact aL q
def O4:cF:=fun us M Q=>∃ (way draw:Int) (c:Str) (cs:List Str),us=[.int way,.int draw,.str c]/\2<=way/\way<=7/\c∈cs/\C6 c/\∀ p cost due,Lz cs p cost due->Q (.tup [.tup [p.toU,.str p.text],.int cost,.bl due]) M
theorem Ll (l h:Int):(Pt.fr l h).text=Str.ofString (toString l)++Str.ofString ".."++Str.ofString (toString h):=rfl
theorem i8 {n:Int} (h:0<=n) (h2:n < 100000000000000000000):n.natAbs.log2 < 1920:=by
 have e70:(2:Nat) ^ 70=1180591620717411303424:=by decide
 by_cases h0:n.natAbs=0
 ·rw [h0];decide
 ·have h3:n.natAbs.log2 < 70:=(Nat.log2_lt h0).mpr (by rw [e70];omega)
  omega
theorem iC {n:Int} (h:0<=n) (h2:n < 100000000000000000000):(Str.ofString (toString n)).length<=20:=by
 have e20:(10:Nat) ^ 20=100000000000000000000:=by decide
 rw [<- oS,yV h]
 exact Cz (by rw [e20];omega)
theorem Sf (F:b8 K "_law_odd" "_law_odd" yQ f fd) (hm:mg "_law_odd"=some (.ref f)) (eA:mg "str"=none) (nH:Callee P w K mg base 12 "_law_sized" (uR 11) []) (FR:Callee P w K mg base 1 "_law_chain" G8 []) (pO:Callee P w K mg base 12 "_law_gaps" (y9 11) []):Callee P w K mg base 13 "_law_odd" O4 []:=by
 refine cB F hm lT (Tp fun _ _ _ _ _ _ _ _ _=>rfl) (aG (aS 3 lT.nd (lU (Bg aJ aJ) aJ))
 (aG (bY (bS cG (uv 0) aJ)
 (aM (aR (bB (aA (bD nH (aA (aQ (own:=false) aJ (cL (uv 1) aJ)) aB)) (aA aJ (aA (gE i6 (cL (uv 1) aJ) aJ) aB))))))
 aY)
 (aG (bY (bS cG (uv 0) aJ)
 (aM (aR (bB (aA (bD FR (aA (aQ (own:=false) aJ (cL (uv 1) aJ)) (aA (uv 2) aB))) (aA aJ (aA (gE i6 (cL (uv 1) aJ) aJ) aB))))))
 aY)
 (aG (bY (bS cG (uv 0) aJ)
 (aM (aR (bB (aA (bD pO (aA (aQ (own:=false) aJ (cL (uv 1) aJ)) (aA (uv 2) aB))) (aA aJ (aA (gE i6 (cL (uv 1) aJ) aJ) aB))))))
 aY)
 (aG (bY (bS cG (uv 0) aJ)
 (aM (aR (bB (aA (bB (aA (bB (aA bZ aB)) (aA bZ aB))) (aA (aQ (own:=false) aJ (cL (uv 1) aJ)) (aA (gE i6 (cL (uv 1) aJ) aJ) aB))))))
 aY)
 (aG (bY (bS cG (uv 0) aJ)
 (aG (aS 4 lT.nd (aQ (own:=false) (uv 3) (cL (uv 1) aJ)))
 (aM (aR (bB (aA (bB (aA (bB (aA bZ (aA (cL (uv 1) aJ) (aA (uv 4) aB)))) (aA (aQ (own:=false) (aQ (own:=false) (pE zW eA (aA (cL (uv 1) aJ) aB)) bZ) (pE zW eA (aA (uv 4) aB))) aB))) (aA aJ (aA (gE i6 (cL (uv 1) aJ) aJ) aB)))))))
 aY)
 (aG (aS 4 lT.nd (aQ (own:=false) aJ (cL (jM (uv 1) aJ) (Bg aJ aJ))))
 (aG (aS 3 lT.nd (aQ (own:=false) (lU (uv 4) aJ) (cL (uv 1) aJ)))
 (aM (aR (bB (aA (bB (aA (bB (aA bZ (aA (uv 3) (aA (uv 4) aB)))) (aA (aQ (own:=false) (aQ (own:=false) (pE zW eA (aA (uv 3) aB)) bZ) (pE zW eA (aA (uv 4) aB))) aB))) (aA aJ (aA (gE i6 (cL (uv 1) aJ) aJ) aB)))))))))))))) ?_
 rintro us M Q ⟨way,d,c,cs,rfl,hw1,hw2,hcs,hc,q⟩
 refine ⟨rfl,?_⟩
 have m6:=Int.emod_nonneg d (show (6:Int)≠0 by decide)
 have m6':=Int.emod_lt_of_pos d (show (0:Int) < 6 by decide)
 have m5:=Int.emod_nonneg d (show (5:Int)≠0 by decide)
 have m5':=Int.emod_lt_of_pos d (show (0:Int) < 5 by decide)
 have m4:=Int.emod_nonneg d (show (4:Int)≠0 by decide)
 have m4':=Int.emod_lt_of_pos d (show (0:Int) < 4 by decide)
 have m3:=Int.emod_nonneg d (show (3:Int)≠0 by decide)
 have m3':=Int.emod_lt_of_pos d (show (0:Int) < 3 by decide)
 refine aO fun V1 hV1=>?_
 simp! only [bH,hName]
 refine ⟨⟨by decide,by decide,by decide⟩,?_⟩
 rw [show (10:Int) ^ Int.toNat 18 - 2=999999999999999998 by decide]
 subst hV1
 refine aO fun V2 hV2=>?_
 refine bR fun A B hA hB=>?_
 simp! only [true_and]
 by_cases w2:way=2
 ·subst w2
  rw [if_pos (decide_eq_true rfl)]
  subst hA
  simp! only [bG]
  refine ⟨by decide,(6 + d % 6).toNat,by rw [Int.toNat_of_nonneg (by omega)],by omega,by omega,by decide,fun p hp=>?_⟩
  refine ⟨by decide,aL (q p 0 _ (BH (by decide) (by decide) hp.ok (hp.sm cs) hp.rd hp.np (by rw [hp.siz];omega) (by have:=hp.dep;have:=Pj (6 + d % 6).toNat;omega) ?_))⟩
  rw [hp.siz,hp.hol,decide_eq_true (show p.dep<=5 by have:=hp.dep;have:=Pj (6 + d % 6).toNat;omega)]
  by_cases hd:d % 6<=3
  ·rw [decide_eq_true hd,decide_eq_true (by omega)];rfl
  ·rw [decide_eq_false hd,decide_eq_false (by omega)];rfl
 rw [if_neg (fun e=>w2 (of_decide_eq_true e))]
 subst hB
 simp only [bJ]
 subst hV2
 refine aO fun V3 hV3=>?_
 refine bR fun A B hA hB=>?_
 simp! only [true_and]
 by_cases w3:way=3
 ·subst w3
  rw [if_pos (decide_eq_true rfl)]
  subst hA
  simp! only [bG]
  obtain ⟨k1,k2,k3,k4,k5,k6⟩:=Fp hc (2 + d % 5).toNat
  have e0:(3:Int) + d % 5=(((2 + d % 5).toNat + 1:Nat):Int):=by omega
  refine ⟨by decide,(2 + d % 5).toNat,c,by rw [e0],by omega,hc,?_⟩
  refine ⟨by decide,aL (q _ 0 _ (BH (by decide) (by decide) k1 (k2 cs hcs) k3 ?_ (by rw [k4];omega) (by rw [k6];omega) ?_))⟩
  ·obtain ⟨m,hm⟩:∃ m,(2 + d % 5).toNat=m + 1:=⟨(1 + d % 5).toNat,by omega⟩
   rw [hm]
   exact fun c z=>nomatch z
  ·rw [k4,k5,k6]
   by_cases hd:d % 5<=2
   ·rw [decide_eq_true hd,decide_eq_true (by omega),decide_eq_true (by omega)];rfl
   ·rw [decide_eq_false hd,decide_eq_true (show (2 + d % 5).toNat + 1<=9 by omega),decide_eq_false (show ¬ (2 + d % 5).toNat + 1<=5 by omega)];rfl
 rw [if_neg (fun e=>w3 (of_decide_eq_true e))]
 subst hB
 simp only [bJ]
 subst hV3
 refine aO fun V4 hV4=>?_
 refine bR fun A B hA hB=>?_
 simp! only [true_and]
 by_cases w4:way=4
 ·subst w4
  rw [if_pos (decide_eq_true rfl)]
  subst hA
  simp! only [bG]
  refine ⟨by decide,(2 + d % 4).toNat,c,by rw [Int.toNat_of_nonneg (by omega)],by omega,by omega,by decide,hc,fun p hp=>?_⟩
  have s1:=hp.siz;have s2:=hp.dep;have s3:=hp.hol
  refine ⟨by decide,aL (q p 0 _ (BH (by decide) (by decide) hp.ok (hp.sm cs hcs) hp.rd (hp.np (by omega)) (by omega) (by omega) ?_))⟩
  rw [s3,decide_eq_true (show p.size<=9 by omega),decide_eq_true (show p.dep<=5 by omega)]
  by_cases hd:d % 4<=2
  ·rw [decide_eq_true hd,decide_eq_true (by omega)];rfl
  ·rw [decide_eq_false hd,decide_eq_false (by omega)];rfl
 rw [if_neg (fun e=>w4 (of_decide_eq_true e))]
 subst hB
 simp only [bJ]
 subst hV4
 refine aO fun V5 hV5=>?_
 refine bR fun A B hA hB=>?_
 simp! only [true_and]
 by_cases w5:way=5
 ·subst w5
  rw [if_pos (decide_eq_true rfl)]
  subst hA
  simp! only [bG]
  refine ⟨by decide,by decide,aL (q .any (997 + d % 6) _ (BH (by omega) (by omega) trivial trivial trivial (fun c z=>nomatch z) (by decide) (by decide) ?_))⟩
  by_cases hd:d % 6<=3
  ·rw [decide_eq_true hd,decide_eq_true (show 997 + d % 6<=1000 by omega)];rfl
  ·rw [decide_eq_false hd,decide_eq_false (show ¬ 997 + d % 6<=1000 by omega)];rfl
 rw [if_neg (fun e=>w5 (of_decide_eq_true e))]
 subst hB
 simp only [bJ]
 subst hV5
 refine aO fun V6 hV6=>?_
 refine bR fun A B hA hB=>?_
 simp! only [true_and]
 have h18:(10:Int) ^ 18=1000000000000000000:=by decide
 have h20:(10:Int) ^ 20=100000000000000000000:=by decide
 by_cases w6:way=6
 ·subst w6
  rw [if_pos (decide_eq_true rfl)]
  subst hA
  refine aO fun V7 hV7=>?_
  simp! only [bH,hName]
  refine ⟨by decide,?_⟩
  subst hV7
  simp! only [bG]
  have q6:=q (.fr (d % 3) (999999999999999998 + d % 5)) 7 (decide (d % 5<=2)) (KP (by decide) (by decide) (by omega) (by omega) (by omega) (by omega) (by
   rw [decide_eq_true (show d % 3<=999999999999999998 + d % 5 by omega),Bool.and_true]
   exact decide_eq_decide.mpr (by omega)))
  rw [Ll] at q6
  have r1:=iC (n:=d % 3) (by omega) (by omega)
  have r2:=iC (n:=999999999999999998 + d % 5) (by omega) (by omega)
  refine ⟨by decide,by decide,i8 (by omega) (by omega),small (by simp only [y0];omega),i8 (by omega) (by omega),small (by simp only [len_app,y0];omega),by decide,aL q6⟩
 have w7:way=7:=by omega
 subst w7
 rw [if_neg (fun e=>w6 (of_decide_eq_true e))]
 subst hB
 simp only [bJ]
 subst hV6
 refine aO fun V7 hV7=>?_
 simp! only [bH,hName]
 refine ⟨⟨by decide,by decide⟩,⟨by decide,by decide,by decide⟩,by decide,?_⟩
 rw [show (10:Int) ^ Int.toNat 17=100000000000000000 by decide]
 have n1:=Int.emod_nonneg (d / 3) (show (100000000000000000:Int)≠0 by decide)
 have n2:=Int.emod_lt_of_pos (d / 3) (show (0:Int) < 100000000000000000 by decide)
 generalize d / 3 % 100000000000000000=e at n1 n2
 subst hV7
 refine aO fun V8 hV8=>?_
 simp! only [bH,hName]
 refine ⟨by decide,?_⟩
 subst hV8
 simp! only [bG]
 have q7:=q (.fr (1 + e - 1 + d % 3) (1 + e)) 1000 (decide (d % 3<=1)) (KP (by decide) (by decide) (by omega) (by omega) (by omega) (by omega) (by
  rw [decide_eq_true (show 1 + e<=10 ^ 18 by omega),Bool.true_and]
  exact decide_eq_decide.mpr (by omega)))
 rw [Ll] at q7
 have r1:=iC (n:=1 + e - 1 + d % 3) (by omega) (by omega)
 have r2:=iC (n:=1 + e) (by omega) (by omega)
 refine ⟨i8 (by omega) (by omega),small (by simp only [y0];omega),i8 (by omega) (by omega),small (by simp only [len_app,y0];omega),by decide,aL q7⟩
theorem Wa {cs:List Str} {tl:List Tl} (hc:cs.length<=20) (h60:tl.length<=60) (hd:∀ t∈tl,t.pt.dep<=14):al (.tup [.tup (cs.map U.str),.tup (tl.map Tl.toU)]) 20:=by
 refine ⟨by simp,19,rfl,⟨?_,18,rfl,Cq fun x _=>(show 1<=18 by decide)⟩,⟨?_,18,rfl,Cq fun t h=>?_⟩,trivial⟩
 ·rw [List.length_map];omega
 ·rw [List.length_map];omega
 ·exact ⟨by simp,17,rfl,(show 1<=17 by decide),(show 1<=17 by decide),DE (DI t.pt) (by have:=hd t h;omega),(show 1<=17 by decide),trivial⟩
def PF (Pt:Addr):cF:=fun us M Q=>∃ (cs:List Str) (tl:List Tl) (due:Bool) (at_:Nat),us=[.tup [.tup (cs.map U.str),.tup (tl.map Tl.toU)],.str (Txt.join (Str.ofString "\n") (linesOf cs tl)),.bl due,.int (at_:Int)]/\Due cs tl due at_/\(∀ t∈tl,t.pt.dep<=14)/\M Pt=some (.tbl QP)/\Q (.bl true) M
theorem eC:aU ["table","text","due","at","found","told","row","e"] ["table","text","due","at"] (aH pF):=dP
theorem Tf {N Pl:Addr} (F:b8 K "_law_answers" "_law_answers" pF f fd) (hm:mg "_law_answers"=some (.ref f)) (aN:mg "isinstance"=none) (l5:mg "bool"=none) (Q8:mg "NoRow"=some (.ref N)) (H_NoRow:AU K N) (hs0:PySem.W.subIn K (.ref N) (.ref N)=some true) (cg:∃ R fI,oP K N R fI/\PySem.W.findIn K (.ref N) "row"=some none) (vT:Callee P w K mg base 12 "is_table" (Bc Pl) []) (CX_read_table:bV P w K mg base 13 "read_table" (Kx N Pl) []) (tD:Callee P w K mg base 21 "_law_alike" (uT 20) []) (jK:Callee P w K mg base 1 "_law_whole" vN []):Callee P w K mg base 22 "_law_answers" (PF Pl) []:=by
 refine cB F hm eC (TN fun _ _ _ _ _ _ _ _ _ _=>rfl) (aG (aS 4 eC.nd (bD vT (aA (uv 0) aB)))
 (aG (bY (i9.pt (iW (c5 (cN (cI iL aN (aA (uv 4) (aA (iE (n:="bool") l5) aB))))) (iB (bS sG (uv 4) (uv 2)))))
 (aM (aR n5))
 aY)
 (aG (aS 5 eC.nd GY)
 (aG (aS 6 eC.nd GY)
 (aG (Ts 7 eC.nd Q8 H_NoRow (cD (kR 5 eC.nd (eS CX_read_table (aA (uv 1) aB)))) (fun a C fs=>Up (VN 6 eC.nd (S7 (Pb 7)))))
 (aG (bY (cN (uv 2))
 (aM (aR (gX (gE OY (uv 6) GY) (iJ (bD tD (aA (uv 5) (aA (uv 0) aB)))))))
 aY)
 (aM (aR (gX (bD jK (aA (uv 6) aB)) (iJ (gE cG (uv 6) (uv 3)))))))))))) ?_
 rintro us M Q ⟨cs,tl,due,at_,rfl,⟨d1,d2,d3,d4,d5,d6,d7,d8,d9⟩,hdp,hP,q⟩
 refine ⟨rfl,?_⟩
 refine aO fun V1 hV1=>?_
 simp! only [bH,hName]
 refine ⟨_,due,rfl,d8,hP,?_⟩
 subst hV1
 refine aO fun V2 hV2=>?_
 refine bR fun A B hA hB=>?_
 simp! only [Vb]
 subst hB
 simp only [bJ]
 subst hV2
 refine aO fun V3 hV3=>?_
 simp! only [bH,hName]
 subst hV3
 refine aO fun V4 hV4=>?_
 simp! only [bH,hName]
 subst hV4
 refine aO fun V5 hV5=>?_
 have fin1:due=true->V5 [some (U.tup [U.tup (cs.map U.str),U.tup (tl.map Tl.toU)]),some (U.str (Txt.join (Str.ofString "\n") (linesOf cs tl))),some (U.bl due),some (U.int (at_:Int)),some (U.bl due),some (U.tup [U.tup (cs.map U.str),U.tup (tl.map Tl.toU)]),some U.non,none] M:=fun hd=>by
  subst hd
  subst hV5
  refine aO fun V6 hV6=>?_
  refine bR fun A B hA hB=>?_
  simp! only [true_and]
  subst hA
  simp! only [bG]
  exact ⟨_,rfl,Wa d2 d6 hdp,by decide,aL q⟩
 have fin2:due=false->V5 [some (U.tup [U.tup (cs.map U.str),U.tup (tl.map Tl.toU)]),some (U.str (Txt.join (Str.ofString "\n") (linesOf cs tl))),some (U.bl due),some (U.int (at_:Int)),some (U.bl due),some U.non,some (U.int (at_:Int)),none] M:=fun hd=>by
  subst hd
  subst hV5
  refine aO fun V6 hV6=>?_
  refine bR fun A B hA hB=>?_
  simp! only [true_and]
  subst hB
  simp only [bJ]
  subst hV6
  simp! only [bG]
  refine ⟨_,rfl,?_⟩
  simp! only [true_and]
  exact aL q
 simp! only [R4,mE]
 refine ⟨cs,tl,rfl,d1,d2,d3,d4,d5,d6,d7,hP,?_⟩
 have hexc:∀ fs:List (Str × U),fs.lookup (Str.ofString "row")=some (.int (at_:Int))->due=false->PySem.W.subIn K (Value.ref N) (Value.ref N)=some true /\
      ∀ (a:Addr),
       bH (IA K a N fs (Str.ofString "row") (i5 7)) (hName 6)
        { nx:=fun τ M=>V5 (List.set τ 7 none) M,rt:=hZ Q }
        [some (U.tup [U.tup (List.map U.str cs),U.tup (List.map Tl.toU tl)]),
         some (U.str (Txt.join (Str.ofString "\n") (linesOf cs tl))),some (U.bl due),some (U.int ↑at_),
         some (U.bl due),some U.non,some U.non,some (U.ref a)]
        M:=fun fs hfs hd=>⟨hs0,fun a=>by
  simp! only [bH,hName,IA]
  exact ⟨cg,_,_,hfs,rfl,fin2 hd⟩⟩
 rcases d9 with ⟨e1,e2,e3⟩ | ⟨e1,e2,e3⟩ | ⟨e1,e2,J,e3,e4,e5,e6⟩
 ·exact .inr ⟨e2,tl.length,e3,.inl ⟨rfl,fin1 e1⟩⟩
 ·subst e3
  exact .inl ⟨e2,hexc _ rfl e1⟩
 ·subst e3
  exact .inr ⟨e2,J,e5,.inr ⟨e6,hexc _ rfl e1,hexc _ rfl e1⟩⟩
def eL (b:Int) (n:Nat):List Str:=(List.range n).map fun (k:Nat)=>jE (b + 3 * (k:Int))
def bE (b:Int) (cs:List Str) (k:Nat):Tl:=⟨jE (b + 5 * (k:Int) + 1),cs.getD ((b + (k:Int)) % (cs.length:Int)).toNat (Str.ofString ""),.any,(b + (k:Int)) % 1001⟩
def bL (b:Int) (cs:List Str) (n:Nat):List Tl:=(List.range n).map (bE b cs)
theorem n6 (b:Int) (n:Nat):(eL b n).length=n:=by simp [eL]
theorem dA (b:Int) (cs:List Str) (n:Nat):(bL b cs n).length=n:=by simp [bL]
theorem nodup_range {α:Type} {g:Nat->α} {n:Nat} (h:∀ i j,i < n->j < n->g i=g j->i=j):((List.range n).map g).Nodup:=by
 unfold List.Nodup
 rw [List.pairwise_map]
 refine List.Pairwise.imp_of_mem (fun {x y} hx hy hlt e=>?_) (List.pairwise_lt_range (n:=n))
 have:=h x y (List.mem_range.mp hx) (List.mem_range.mp hy) e
 omega
theorem OB {b:Int} (hb:0<=b) (hb2:b<=1000000000) {n:Nat} (hn:n<=20):(eL b n).Nodup:=nodup_range fun i j hi hj e=>by
 have:=zF (by omega) (by omega) (by omega) (by omega) e
 omega
theorem mG {b:Int} {n:Nat}:∀ c∈eL b n,C6 c:=fun c hc=>by
 obtain ⟨k,_,rfl⟩:=List.mem_map.mp hc
 exact ⟨vJ _,wI _⟩
theorem EK {b:Int} (hb:0<=b) (hb2:b<=1000000000) {n:Nat} (h1:1<=n) (hn:n<=6):oN (eL b n):=by
 refine ⟨⟨fun z=>?_,by rw [n6];exact hn,fun c hc=>⟨(mG c hc).1,(bN (mG c hc).2).1.2⟩⟩,OB hb hb2 (by omega),fun c hc=>(mG c hc).2⟩
 have:=congrArg List.length z
 rw [n6] at this
 simp at this;omega
theorem AY {b:Int} (hb:0<=b) (hb2:b<=1000000000) {cs:List Str} {n:Nat} (hn:n<=60):((bL b cs n).map Tl.name).Nodup:=by
 unfold bL
 rw [List.map_map]
 exact nodup_range fun i j hi hj e=>by
  have:=zF (a:=b + 5 * (i:Int) + 1) (b:=b + 5 * (j:Int) + 1) (by omega) (by omega) (by omega) (by omega) e
  omega
theorem oC {b:Int} {cs:List Str} (h:cs≠[]) (k:Nat):(bE b cs k).cls∈cs:=by
 have hl:=List.length_pos_iff.mpr h
 have h0:=Int.emod_nonneg (b + (k:Int)) (show (cs.length:Int)≠0 by omega)
 have h1:=Int.emod_lt_of_pos (b + (k:Int)) (show (0:Int) < (cs.length:Int) by omega)
 have hlt:((b + (k:Int)) % (cs.length:Int)).toNat < cs.length:=by omega
 show cs.getD _ _∈cs
 rw [List.getD_eq_getElem?_getD,List.getElem?_eq_getElem hlt]
 exact List.getElem_mem hlt
theorem QS (cs:List Str):Pk cs .any:=⟨trivial,trivial,by decide,by decide,by decide⟩
theorem Pp {b:Int} {cs:List Str} (hc:oN cs) (k:Nat):(bE b cs k).ok cs:=by
 have h0:=Int.emod_nonneg (b + (k:Int)) (show (1001:Int)≠0 by decide)
 have h1:=Int.emod_lt_of_pos (b + (k:Int)) (show (0:Int) < 1001 by decide)
 have hm:=oC (b:=b) hc.ok.1 k
 exact ⟨(lI _).2,(hc.ok.2.2 _ hm).2,QS cs,h0,by show (b + (k:Int)) % 1001<=1000;omega,wI _,hm,(fun z=>nomatch z),vJ _⟩
theorem FI {b:Int} (hb:0<=b) (hb2:b<=1000000000) {cs:List Str} (hc:oN cs) {n:Nat} (h1:1<=n) (h60:n<=60):Due cs (bL b cs n) (decide (n<=40)) 41:=by
 have hall:(bL b cs n).all (fun _=>true)=true:=by rw [List.all_eq_true];intro _ _;rfl
 have htv:∀ t∈bL b cs n,Tv cs t true:=fun t ht=>by
  obtain ⟨k,_,rfl⟩:=List.mem_map.mp ht
  exact GL hc (Pp hc k)
 by_cases h40:n<=40
 ·have:=A8 hc (V:=fun _=>true) (tl:=bL b cs n) htv (by rw [dA];exact h1) (by rw [dA];exact h60) (AY hb hb2 h60) (due:=true) (J:=0) (by rw [dA];omega) (by omega) (fun i t hi=>by omega) (by rw [hall,dA,decide_eq_true h40];rfl) (fun z=>by cases z)
  rw [decide_eq_true h40]
  obtain ⟨a1,a2,a3,a4,a5,a6,a7,a8,a9⟩:=this
  refine ⟨a1,a2,a3,a4,a5,a6,a7,a8,?_⟩
  rcases a9 with a9 | ⟨z,_⟩ | ⟨z,_⟩
  ·exact .inl a9
  ·cases z
  ·cases z
 ·rw [decide_eq_false h40]
  exact A8 hc (V:=fun _=>true) (tl:=bL b cs n) htv (by rw [dA];exact h1) (by rw [dA];exact h60) (AY hb hb2 h60) (due:=false) (J:=40) (by rw [dA];omega) (by omega) (fun i t hi _=>rfl) (by rw [hall,dA,decide_eq_false h40];rfl) (fun _=>.inl rfl)
theorem Ue {cs:List Str} {tl:List Tl} {a b:Nat} (h:Due cs tl true a):Due cs tl true b:=by
 obtain ⟨a1,a2,a3,a4,a5,a6,a7,a8,a9⟩:=h
 refine ⟨a1,a2,a3,a4,a5,a6,a7,a8,?_⟩
 rcases a9 with a9 | ⟨z,_⟩ | ⟨z,_⟩
 ·exact .inl a9
 ·cases z
 ·cases z
theorem FL {b:Int} (hb:0<=b) (hb2:b<=1000000000) {m n:Nat} (hm1:1<=m) (hm:m<=8) (h1:1<=n) (h40:n<=40):Due (eL b m) (bL b (eL b m) n) (decide (m<=6)) 0:=by
 by_cases h6:m<=6
 ·have:=FI hb hb2 (EK hb hb2 hm1 h6) h1 (show n<=60 by omega)
  rw [decide_eq_true h40] at this
  rw [decide_eq_true h6]
  exact Ue this
 ·rw [decide_eq_false h6]
  have hne:eL b m≠[]:=fun z=>by have:=congrArg List.length z;rw [n6] at this;simp at this;omega
  have hcl:i7 (.tup ((eL b m).map U.str))=false:=by
   simp only [i7,List.length_map,n6]
   rw [decide_eq_false h6];simp
  have hnc:∀ c∈eL b m,PyData.strOk c=true/\c.length<=8:=fun c hc=>⟨(mG c hc).1,(bN (mG c hc).2).1.2⟩
  have p1:pN 21 (.tup ((eL b m).map U.str)):=pT (pR hnc 20) (by rw [List.length_map,n6];omega)
  have pt:∀ k,pN 20 (bE b (eL b m) k).toU:=fun k=>(pT (n:=6) (fY (pS (vJ _) (by have:=(lI (b + 5 * (k:Int) + 1)).2;omega)) (fY (pS (mG _ (oC hne k)).1 (by have:=(bN (mG _ (oC (b:=b) hne k)).2).1;omega)) (fY ((pP (cs:=[]) (p:=.any) trivial trivial).mono (by decide)) (fY pI sH)))) (by simp)).mono (by decide)
  have p2:Df 20 ((bL b (eL b m) n).map Tl.toU):=by
   unfold bL
   rw [List.map_map]
   generalize List.range n=l
   induction l with
   | nil=>exact sH
   | cons x l ih=>exact fY (pt x) ih
  have p3:pN 22 (.tup [.tup ((eL b m).map U.str),.tup ((bL b (eL b m) n).map Tl.toU)]):=pT (fY p1 (fY (pT p2 (by rw [List.length_map,dA];omega)) sH)) (by simp)
  refine ⟨hne,by rw [n6];omega,fun c hc=>(mG c hc).2,fun c hc=>(mG c hc).1,by rw [dA];exact h1,by rw [dA];omega,fun t ht=>?_,⟨p3.plain (by decide),.inr ⟨_,_,rfl,.inl ⟨hcl,rfl⟩⟩⟩,.inr (.inl ⟨rfl,hcl,rfl⟩)⟩
  obtain ⟨k,_,rfl⟩:=List.mem_map.mp ht
  have h0:=Int.emod_nonneg (b + (k:Int)) (show (1001:Int)≠0 by decide)
  have h1:=Int.emod_lt_of_pos (b + (k:Int)) (show (0:Int) < 1001 by decide)
  exact ⟨wI _,(mG _ (oC hne k)).2,h0,by show (b + (k:Int)) % 1001<=10 ^ 18;omega,fun z=>by have:=Ad (p:=.any) trivial _ z;omega,(show (Pt.any).text.length<=1000 by decide +kernel)⟩
theorem Qk {b:Int} (hb:0<=b) (hb2:b<=1000000000) {cs:List Str} (hc:oN cs) {n a:Nat} (h40:n<=40) (ha:a < n) {p:Pt} {cost:Int} {due:Bool} (o:Lz cs p cost due):Due cs ((bL b cs n).set a ⟨(bE b cs a).name,(bE b cs a).cls,p,cost⟩) due (a + 1):=by
 have hx:(bL b cs n)[a]?=some (bE b cs a):=by unfold bL;rw [List.getElem?_map,List.getElem?_range ha];rfl
 have hset:∀ i t,((bL b cs n).set a ⟨(bE b cs a).name,(bE b cs a).cls,p,cost⟩)[i]?=some t->(i=a/\t=⟨(bE b cs a).name,(bE b cs a).cls,p,cost⟩)\/(i≠a/\i < n/\t=bE b cs i):=fun i t h=>by
  rw [List.getElem?_set] at h
  split at h
  ·rename_i e
   subst e
   split at h
   ·cases h;exact .inl ⟨rfl,rfl⟩
   ·cases h
  ·rename_i e
   unfold bL at h
   rw [List.getElem?_map] at h
   by_cases hi:i < n
   ·rw [List.getElem?_range hi] at h;cases h;exact .inr ⟨fun z=>e z.symm,hi,rfl⟩
   ·rw [List.getElem?_eq_none (by simp;omega)] at h;cases h
 have hnames:(((bL b cs n).set a ⟨(bE b cs a).name,(bE b cs a).cls,p,cost⟩).map Tl.name)=(bL b cs n).map Tl.name:=by
  rw [List.map_set]
  refine List.ext_getElem? fun i=>?_
  rw [List.getElem?_set]
  split
  ·rename_i e
   subst e
   rw [List.getElem?_map,hx]
   split
   ·rfl
   ·rename_i z;rw [List.length_map,dA] at z;omega
  ·rfl
 classical
 let V:Tl->Bool:=fun t=>if t.name=(bE b cs a).name then due else true
 have hnm:∀ i,i < n->i≠a->(bE b cs i).name≠(bE b cs a).name:=fun i hi hia z=>by
  have:=zF (a:=b + 5 * (i:Int) + 1) (b:=b + 5 * (a:Int) + 1) (by omega) (by omega) (by omega) (by omega) z
  omega
 have hV1:∀ i,i < n->i≠a->V (bE b cs i)=true:=fun i hi hia=>if_neg (hnm i hi hia)
 have hV2:V ⟨(bE b cs a).name,(bE b cs a).cls,p,cost⟩=due:=if_pos rfl
 have hlen:((bL b cs n).set a ⟨(bE b cs a).name,(bE b cs a).cls,p,cost⟩).length=n:=by rw [List.length_set,dA]
 have htv:∀ t∈(bL b cs n).set a ⟨(bE b cs a).name,(bE b cs a).cls,p,cost⟩,Tv cs t (V t):=fun t ht=>by
  obtain ⟨i,hi⟩:=List.getElem?_of_mem ht
  rcases hset i t hi with ⟨rfl,rfl⟩ | ⟨h1,h2,rfl⟩
  ·rw [hV2];exact TZ hc (wI _) (vJ _) (oC hc.ok.1 _) o
  ·rw [hV1 i h2 h1];exact GL hc (Pp hc i)
 have hall:((bL b cs n).set a ⟨(bE b cs a).name,(bE b cs a).cls,p,cost⟩).all V=due:=by
  cases due with
  | true =>
   rw [List.all_eq_true]
   intro t ht
   obtain ⟨i,hi⟩:=List.getElem?_of_mem ht
   rcases hset i t hi with ⟨rfl,rfl⟩ | ⟨h1,h2,rfl⟩
   ·exact hV2
   ·exact hV1 i h2 h1
  | false =>
   rw [List.all_eq_false]
   refine ⟨⟨(bE b cs a).name,(bE b cs a).cls,p,cost⟩,List.mem_of_getElem? (i:=a) (by rw [List.getElem?_set,if_pos rfl,if_pos (by rw [dA];exact ha)]),by rw [hV2];simp⟩
 exact A8 hc (V:=V) htv (by rw [hlen];omega) (by rw [hlen];omega) (by rw [hnames];exact AY hb hb2 (by omega)) (J:=a) (by rw [hlen];exact ha) (by omega) (fun i t hi h=>by
  rcases hset i t h with ⟨rfl,_⟩ | ⟨h1,h2,rfl⟩
  ·omega
  ·exact hV1 i h2 h1) (by rw [hall,hlen,decide_eq_true h40,Bool.true_and]) (fun hd=>.inr ⟨_,(by rw [List.getElem?_set,if_pos rfl,if_pos (by rw [dA];exact ha)]),by rw [hV2];exact hd⟩)
theorem Gb (a b c:Str):a++b++c=a++(b++c):=Rj (by simp only [vW,List.append_assoc])
theorem RR (t:Tl) (h:t.pt=.any):t.row=t.name++Str.ofString " "++t.cls++Str.ofString " "++Str.ofString (toString t.cost)++Str.ofString " ?":=by
 unfold Tl.row
 rw [h,Gb (t.name++Str.ofString " "++t.cls++Str.ofString " "++Str.ofString (toString t.cost)) (Str.ofString " ")]
 congr 1
def BY (Pt:Addr):cF:=fun us M Q=>∃ ns:List Int,us=[.lst (ns.map .int)]/\ns.length<=63/\(∀ m∈ns,Builtin.Int.intBits m<=2 ^ 20)/\M Pt=some (.tbl QP)/\Q (.bl true) M
theorem UU {Pl:Addr} (F:b8 K "law" "law" pM f fd) (bK:mg "tuple"=none) (nE:mg "range"=none) (eA:mg "str"=none) (k7:Callee P w K mg base 1 "_law_cell_at" LQ []) (xH:Callee P w K mg base 1 "_law_name_of" EJ []) (oE:Callee P w K mg base 22 "_law_answers" (PF Pl) []) (LV:Callee P w K mg base 13 "_law_odd" O4 []):fD P w K mg base iU 24 f fd ["script"] (fZ K (BY Pl)):=by
 refine Qw F dY (fun us M Q h=>by obtain ⟨x,rfl,_⟩:=h;rfl) (aG (aS 1 dY.nd (bD k7 (aA (uv 0) (aA aJ aB))))
 (aG (aS 2 dY.nd (bD k7 (aA (uv 0) (aA aJ aB))))
 (aG (aS 3 dY.nd (cL (uv 2) aJ))
 (aG (aS 4 dY.nd (aQ (own:=false) aJ (cL (bD k7 (aA (uv 0) (aA aJ aB))) aJ)))
 (aG (aS 5 dY.nd (aQ (own:=false) aJ (cL (bD k7 (aA (uv 0) (aA aJ aB))) aJ)))
 (aG (bY (bS cG (uv 3) aJ)
 (aM (aS 5 dY.nd (aQ (own:=false) aJ (cL (jM (uv 2) aJ) aJ))))
 aY)
 (aG (bY (bS cG (uv 3) aJ)
 (aM (aS 4 dY.nd (aQ (own:=false) aJ (cL (jM (uv 2) aJ) aJ))))
 aY)
 (aG (aS 6 dY.nd (cL (uv 1) (Bg aJ aJ)))
 (aG (aS 7 dY.nd (pE qC bK (aA (lG false ["k","base"] 1 [6] (Cc nE (aA (uv 4) aB)) (cM (k:=1) 0 (by dsimp only [cP];decide +kernel)) lJ (bD xH (aA (aQ (own:=false) (uv 1) (Cw (own:=false) aJ (uv 0))) aB))) aB)))
 (aG (aS 8 dY.nd (nX (own:=true) aB))
 (aG (aS 9 dY.nd (nX (own:=true) (aA (Ae bZ (aA (uv 7) aB)) aB)))
 (aG (yX (Cc nE (aA (uv 5) aB)) (cM (k:=1000) 10 dY.nd)
 (aG (aS 11 dY.nd (aV (uv 7) (cL (aQ (own:=false) (uv 6) (uv 10)) (uv 4))))
 (aG (qB (rV (uv 8) (aA (bB (aA (bD xH (aA (aQ (own:=false) (aQ (own:=false) (uv 6) (Cw (own:=false) aJ (uv 10))) aJ) aB)) (aA (uv 11) (aA (bB (aA bZ aB)) (aA (cL (aQ (own:=false) (uv 6) (uv 10)) aJ) aB))))) aB)))
 (aM (qB (rV (uv 9) (aA (aQ (own:=false) (aQ (own:=false) (aQ (own:=false) (aQ (own:=false) (aQ (own:=false) (aV (aV (uv 8) (uv 10)) aJ) bZ) (uv 11)) bZ) (pE zW eA (aA (cL (aQ (own:=false) (uv 6) (uv 10)) aJ) aB))) bZ) aB)))))))
 (aG (bY (bS cG (uv 3) aJ)
 (aM (aR (bD oE (aA (bB (aA (uv 7) (aA (pE qC bK (aA (uv 8) aB)) aB))) (aA (Ae bZ (aA (uv 9) aB)) (aA (gE i6 (uv 5) aJ) (aA aJ aB)))))))
 aY)
 (aG (bY (bS cG (uv 3) aJ)
 (aM (aR (bD oE (aA (bB (aA (uv 7) (aA (pE qC bK (aA (uv 8) aB)) aB))) (aA (Ae bZ (aA (uv 9) aB)) (aA (gE i6 (uv 4) aJ) (aA aJ aB)))))))
 aY)
 (aG (aS 12 dY.nd (cL (jM (uv 1) (Bg aJ aJ)) (uv 5)))
 (aG (aS 13 dY.nd (aV (aV (uv 8) (uv 12)) aJ))
 (aG (Ul (bD LV (aA (uv 3) (aA (jM (uv 2) aJ) (aA (aV (uv 7) aJ) aB)))) (yT (n:=3) (gY (cM (k:=1000) 14 dY.nd) (gY (cM (k:=1000) 15 dY.nd) (gY (cM (k:=1000) 16 dY.nd) uG)))))
 (aG (GV (bB (aA (aV (aV (uv 8) (uv 12)) aJ) (aA (uv 13) (aA (aV (uv 14) aJ) (aA (uv 15) aB))))) (uv 8) (uv 12))
 (aG (GV (aQ (own:=false) (aQ (own:=false) (aQ (own:=false) (aQ (own:=false) (aQ (own:=false) (aQ (own:=false) (aV (aV (uv 8) (uv 12)) aJ) bZ) (uv 13)) bZ) (pE zW eA (aA (uv 15) aB))) bZ) (aV (uv 14) aJ)) (uv 9) (aQ (own:=false) (uv 12) aJ))
 (aM (aR (bD oE (aA (bB (aA (uv 7) (aA (pE qC bK (aA (uv 8) aB)) aB))) (aA (Ae bZ (aA (uv 9) aB)) (aA (uv 16) (aA (aQ (own:=false) (uv 12) aJ) aB)))))))))))))))))))))))))) ?_
 rintro us M Q ⟨ns,rfl,hl,hb,hP,q⟩
 refine aO fun V1 hV1=>?_
 simp! only [bH,hName]
 refine ⟨ns,0,rfl,?_⟩
 generalize ns.getD 0 0=D
 subst hV1
 refine aO fun V2 hV2=>?_
 simp! only [bH,hName]
 refine ⟨ns,1,rfl,?_⟩
 generalize ns.getD 1 0=C
 subst hV2
 refine aO fun V3 hV3=>?_
 simp! only [bH,hName]
 refine ⟨by decide,?_⟩
 have w0:=Int.emod_nonneg C (show (8:Int)≠0 by decide)
 have w8:=Int.emod_lt_of_pos C (show (0:Int) < 8 by decide)
 have hc5:=Int.emod_nonneg (C / 8) (show (5:Int)≠0 by decide)
 have hc5':=Int.emod_lt_of_pos (C / 8) (show (0:Int) < 5 by decide)
 generalize hw:C % 8=way at w0 w8
 subst hV3
 refine aO fun V4 hV4=>?_
 simp! only [bH,hName]
 refine ⟨ns,2,rfl,by decide,?_⟩
 have m0:=Int.emod_nonneg (ns.getD 2 0) (show (6:Int)≠0 by decide)
 have m6:=Int.emod_lt_of_pos (ns.getD 2 0) (show (0:Int) < 6 by decide)
 generalize ns.getD 2 0 % 6=e2 at m0 m6
 subst hV4
 refine aO fun V5 hV5=>?_
 simp! only [bH,hName]
 refine ⟨ns,3,rfl,by decide,?_⟩
 have n0:=Int.emod_nonneg (ns.getD 3 0) (show (40:Int)≠0 by decide)
 have n40:=Int.emod_lt_of_pos (ns.getD 3 0) (show (0:Int) < 40 by decide)
 generalize ns.getD 3 0 % 40=e3 at n0 n40
 subst hV5
 refine aO fun V6 hV6=>?_
 have key6:∀ n:Nat,1<=n->n<=42->(way≠0->n<=40)->V6 [some (U.lst (ns.map U.int)),some (U.int D),some (U.int C),some (U.int way),some (U.int (1 + e2)),some (U.int (n:Int)),none,none,none,none,none,none,none,none,none,none,none] M:=fun n h1 h42 hw0=>by
  subst hV6
  refine aO fun V7 hV7=>?_
  have key7:∀ m:Nat,1<=m->m<=8->(way≠1->m<=6)->V7 [some (U.lst (ns.map U.int)),some (U.int D),some (U.int C),some (U.int way),some (U.int (m:Int)),some (U.int (n:Int)),none,none,none,none,none,none,none,none,none,none,none] M:=fun m hm1 hm8 hw1=>by
   subst hV7
   refine aO fun V8 hV8=>?_
   simp! only [bH,hName]
   refine ⟨⟨by decide,by decide,by decide⟩,by decide,?_⟩
   rw [show (10:Int) ^ Int.toNat 9=1000000000 by decide]
   have b0:=Int.emod_nonneg D (show (1000000000:Int)≠0 by decide)
   have b9:=Int.emod_lt_of_pos D (show (0:Int) < 1000000000 by decide)
   generalize D % 1000000000=b at b0 b9
   subst hV8
   refine aO fun V9 hV9=>?_
   simp! only [bH,hName]
   have hcs0:eL b m≠[]:=fun z=>by have:=congrArg List.length z;rw [n6] at this;simp at this;omega
   have hcl:=n6 b m
   have hcn:∀ c∈eL b m,C6 c:=mG
   have hcj:=qS (B:=8) (n:=8) (z:=Str.ofString " ") (l:=eL b m) (by rw [mI];omega) (fun s hs=>(bN (hcn s hs).2).1.2) (by omega) (by decide)
   refine iG (S:=⟨none,cY 0 m⟩) (M1:=M) ((eL b m).map U.str) (fun R r=>by simp! only [true_and];refine ⟨by omega,by omega,?_⟩;first | exact r | simpa using r) (by rw [List.length_map,hcl];simp [cY]) (Nat.le_trans (show (cY 0 m).length<=8 by simp [cY];omega) (by decide)) (fun a e=>by cases e) ?_ ?_
   ·intro i x y hx hy M' _ R r'
    obtain ⟨rfl,hi⟩:=u4 hx
    rw [List.getElem?_map,show (eL b m)[i]?=some (jE (b + 3 * (i:Int))) by unfold eL;rw [List.getElem?_map,List.getElem?_range hi];rfl] at hy
    cases hy
    simp! only [hName]
    refine ⟨Na (by decide) (by decide) (by omega) (by omega),_,rfl,?_⟩
    rw [show (0:Int) + (i:Int)=(i:Int) by omega]
    exact r'
   simp! only [true_and]
   generalize hcs:eL b m=cs at hcs0 hcl hcn hcj
   subst hV9
   refine aO fun V10 hV10=>?_
   simp! only [bH,hName]
   intro p8 h8
   subst hV10
   refine aO fun V11 hV11=>?_
   simp! only [bH,hName,Cu,xA]
   refine ⟨⟨_,rfl⟩,cs,sI cs,hcj.1,fun p9 h9=>?_⟩
   have n98:p9≠p8:=fun z=>by subst z;rw [bM] at h9;cases h9
   have h9':M p9=none:=by rw [cA n98] at h9;exact h9
   have hP8:Pl≠p8:=fun z=>by subst z;rw [h8] at hP;cases hP
   have hP9:Pl≠p9:=fun z=>by subst z;rw [h9'] at hP;cases hP
   subst hV11
   refine aO fun V12 hV12=>?_
   refine uH (S:=⟨none,cY 0 n⟩) (M1:=mup (mup M p8 (.lst [])) p9 (.lst [.str (Txt.join (Str.ofString " ") cs)])) (fun R r=>by simp! only [true_and];refine ⟨by omega,by omega,?_⟩;first | exact r | simpa using r)
    (fun i τ Mi=>(∃ (a c:Option U),τ=[some (U.lst (ns.map U.int)),some (U.int D),some (U.int C),some (U.int way),some (U.int (m:Int)),some (U.int (n:Int)),some (U.int b),some (U.tup (cs.map U.str)),some (U.ref p8),some (U.ref p9),a,c,none,none,none,none,none])/\Mi p8=some (.lst ((bL b cs i).map Tl.toU))/\Mi p9=some (.lst ((linesOf cs (bL b cs i)).map .str))/\Sub M Mi) ⟨⟨_,_,rfl⟩,by rw [cA n98.symm,bM];rfl,by rw [bM];rfl,((Sub.refl M).mup h8).mup h9'⟩ nk ?_ ?_
   ·rintro i x τ Mi e ⟨⟨a,c,rfl⟩,g8,g9,hS⟩
    obtain ⟨rfl,hi⟩:=u4 e
    rw [show (0:Int) + (i:Int)=(i:Int) by omega]
    have k0:=Int.emod_nonneg (b + (i:Int)) (show (m:Int)≠0 by omega)
    have k1:=Int.emod_lt_of_pos (b + (i:Int)) (show (0:Int) < (m:Int) by omega)
    have k2:=Int.emod_nonneg (b + (i:Int)) (show (1001:Int)≠0 by decide)
    have k3:=Int.emod_lt_of_pos (b + (i:Int)) (show (0:Int) < 1001 by decide)
    have hone:iI (cs.map U.str) ((b + (i:Int)) % (m:Int))=some (.str (bE b cs i).cls):=by
     have hlt:((b + (i:Int)) % (cs.length:Int)).toNat < cs.length:=by rw [hcl];omega
     have:=iX (xs:=cs.map U.str) (j:=((b + (i:Int)) % (m:Int)).toNat) (v:=.str (bE b cs i).cls) (by
      rw [List.getElem?_map]
      show (cs[((b + (i:Int)) % (m:Int)).toNat]?).map U.str=some (.str (cs.getD ((b + (i:Int)) % (cs.length:Int)).toNat (Str.ofString "")))
      rw [hcl,List.getD_eq_getElem?_getD]
      rw [hcl] at hlt
      rw [List.getElem?_eq_getElem (by omega)]
      rfl)
     rw [Int.toNat_of_nonneg k0] at this
     exact this
    have hcm:=hcn _ (oC (b:=b) hcs0 i)
    have hnx:bL b cs (i + 1)=bL b cs i++[bE b cs i]:=by unfold bL;rw [List.range_succ,List.map_append];rfl
    have hlines:linesOf cs (bL b cs (i + 1))=linesOf cs (bL b cs i)++[(bE b cs i).row]:=by rw [hnx];simp [linesOf]
    have htl:=dA b cs i
    simp! only [hName]
    refine aO fun V13 hV13=>?_
    simp! only [bH,hName,hone]
    refine ⟨by omega,?_⟩
    subst hV13
    refine aO fun V14 hV14=>?_
    simp! only [k8,g8]
    refine ⟨⟨_,lF g8⟩,?_⟩
    refine ⟨Na (by decide) (by decide) (by omega) (by omega),_,rfl,by decide,?_⟩
    rw [g8]
    dsimp only
    refine ⟨big (by rw [List.length_map];omega),?_⟩
    have e8:(bL b cs i).map Tl.toU++[U.tup [U.str (jE (b + 5 * (i:Int) + 1)),U.str (bE b cs i).cls,U.tup [U.str (Str.ofString "any")],U.int ((b + (i:Int)) % 1001)]]=(bL b cs (i + 1)).map Tl.toU:=by rw [hnx,List.map_append];rfl
    rw [e8]
    have f8:mup Mi p8 (.lst ((bL b cs (i + 1)).map Tl.toU)) p8=some (.lst ((bL b cs (i + 1)).map Tl.toU)):=bM
    have f9:mup Mi p8 (.lst ((bL b cs (i + 1)).map Tl.toU)) p9=some (.lst ((linesOf cs (bL b cs i)).map .str)):=by rw [cA n98];exact g9
    have hat8:iI ((bL b cs (i + 1)).map Tl.toU) (i:Int)=some (bE b cs i).toU:=iX (by rw [List.getElem?_map,hnx,List.getElem?_append_right (by omega),htl,Nat.sub_self];rfl)
    have hS':Sub M (mup Mi p8 (.lst ((bL b cs (i + 1)).map Tl.toU))):=fun b' o hb'=>by
     have b2:b'≠p8:=fun z=>by subst z;rw [h8] at hb';cases hb'
     rw [cA b2];exact hS b' o hb'
    generalize mup Mi p8 (.lst ((bL b cs (i + 1)).map Tl.toU))=Mj at f8 f9 hS'
    subst hV14
    have hview:view Mj (.ref p8)=.lst ((bL b cs (i + 1)).map Tl.toU):=lF f8
    have t0:iI [U.str (bE b cs i).name,U.str (bE b cs i).cls,(bE b cs i).pt.toU,U.int (bE b cs i).cost] 0=some (U.str (bE b cs i).name):=yC
    simp! only [k8,hview,hat8,zZ,t0]
    refine ⟨⟨_,lF f9⟩,?_⟩
    have r1:=(lI (b + 5 * (i:Int) + 1)).2
    have r1':(bE b cs i).name.length<=8:=r1
    have r2:=(bN hcm.2).1
    have r3:=iC (n:=(b + (i:Int)) % 1001) k2 (by omega)
    have r4:(Str.ofString " ?").length=2:=by decide +kernel
    have erow:(bE b cs i).name++Str.ofString " "++(bE b cs i).cls++Str.ofString " "++Str.ofString (toString ((b + (i:Int)) % 1001))++Str.ofString " ?"=(bE b cs i).row:=(RR (bE b cs i) rfl).symm
    refine ⟨small (by simp only [mI];omega),small (by simp only [len_app,mI];omega),small (by simp only [len_app,mI];omega),by decide,i8 k2 (by omega),small (by simp only [len_app,mI];omega),small (by simp only [len_app,mI,r4];omega),?_⟩
    rw [f9]
    dsimp only
    rw [erow]
    refine ⟨big (by simp only [linesOf,List.length_map,List.length_cons,htl];omega),⟨_,_,rfl⟩,?_,?_,fun b' o hb'=>?_⟩
    ·rw [cA n98.symm];exact f8
    ·rw [hlines,List.map_append];rfl
    ·have b2:b'≠p9:=fun z=>by subst z;rw [h9'] at hb';cases hb'
     rw [cA b2];exact hS' b' o hb'
   ·rintro τ Mi ⟨⟨a,c,rfl⟩,g8,g9,hS⟩
    have hl2:(Src.mk none (cY 0 n)).xs.length=n:=by simp [cY]
    rw [hl2] at g8 g9
    have hPi:Mi Pl=some (.tbl QP):=hS Pl _ hP
    have hview:view Mi (.ref p8)=.lst ((bL b cs n).map Tl.toU):=lF g8
    have hit:items Mi (.ref p9)=some ((linesOf cs (bL b cs n)).map .str):=by simp only [items,g9]
    have hRw:∀ t∈bL b cs n,t.row.length<=600:=fun t ht=>by
     obtain ⟨k,_,rfl⟩:=List.mem_map.mp ht
     have k2:=Int.emod_nonneg (b + (k:Int)) (show (1001:Int)≠0 by decide)
     have k3:=Int.emod_lt_of_pos (b + (k:Int)) (show (0:Int) < 1001 by decide)
     have r1:=(lI (b + 5 * (k:Int) + 1)).2
     have r2:=(bN (hcn _ (oC (b:=b) hcs0 k)).2).1
     have r3:=iC (n:=(b + (k:Int)) % 1001) k2 (by omega)
     have r4:(Pt.any).text.length=1:=by decide +kernel
     have r5:(bE b cs k).pt=.any:=rfl
     have r6:(bE b cs k).cost=(b + (k:Int)) % 1001:=rfl
     have r7:(bE b cs k).name=jE (b + 5 * (k:Int) + 1):=rfl
     simp only [Tl.row,len_app,mI,r5,r6,r7,r4]
     omega
    have hjn:=qS (B:=600) (n:=61) (z:=Str.ofString "\n") (l:=linesOf cs (bL b cs n)) (by rw [Ow];omega) (fun s hs=>by
     rcases List.mem_cons.mp hs with rfl | hs
     ·omega
     ·obtain ⟨t,h1,rfl⟩:=List.mem_map.mp hs
      exact hRw t h1) (by simp only [linesOf,List.length_cons,List.length_map,dA];omega) (by decide)
    have hany:∀ t∈bL b cs n,t.pt.dep<=14:=fun t ht=>by
     obtain ⟨k,_,rfl⟩:=List.mem_map.mp ht
     exact (show (Pt.any).dep<=14 by decide)
    subst hV12
    dsimp only
    refine aO fun V13 hV13=>?_
    refine bR fun A B hA hB=>?_
    simp! only [true_and]
    by_cases w00:way=0
    ·rw [if_pos (decide_eq_true w00)]
     subst hA
     have hm6:=hw1 (by omega)
     subst hcs
     have hdue:=FI b0 (by omega) (EK b0 (by omega) hm1 hm6) h1 (show n<=60 by omega)
     simp! only [bG,hview,Cu,xA,g9]
     refine ⟨⟨_,rfl⟩,_,sI _,hjn.1,eL b m,bL b (eL b m) n,decide (n<=40),41,?_,hdue,hany,hPi,⟨_,M,hS,.inl rfl,q⟩⟩
     rw [show decide ((n:Int)<=40)=decide (n<=40) from decide_eq_decide.mpr (by omega)]
     rfl
    rw [if_neg (fun e=>w00 (of_decide_eq_true e))]
    subst hB
    simp only [bJ]
    subst hV13
    refine aO fun V14 hV14=>?_
    refine bR fun A B hA hB=>?_
    simp! only [true_and]
    have hn40:=hw0 w00
    by_cases w01:way=1
    ·rw [if_pos (decide_eq_true w01)]
     subst hA
     subst hcs
     have hdue:=FL (m:=m) (n:=n) b0 (by omega) hm1 hm8 h1 hn40
     simp! only [bG,hview,Cu,xA,g9]
     refine ⟨⟨_,rfl⟩,_,sI _,hjn.1,eL b m,bL b (eL b m) n,decide (m<=6),0,?_,hdue,hany,hPi,⟨_,M,hS,.inl rfl,q⟩⟩
     rw [show decide ((m:Int)<=6)=decide (m<=6) from decide_eq_decide.mpr (by omega)]
     rfl
    rw [if_neg (fun e=>w01 (of_decide_eq_true e))]
    subst hB
    simp only [bJ]
    subst hV14
    have hm6:=hw1 w01
    refine aO fun V15 hV15=>?_
    simp! only [bH,hName]
    refine ⟨⟨by decide,by decide,by decide⟩,⟨by decide,by decide⟩,by omega,?_⟩
    have a0:=Int.emod_nonneg (D / (10:Int) ^ Int.toNat 9) (show (n:Int)≠0 by omega)
    have a1:=Int.emod_lt_of_pos (D / (10:Int) ^ Int.toNat 9) (show (0:Int) < (n:Int) by omega)
    generalize D / (10:Int) ^ Int.toNat 9 % (n:Int)=ai at a0 a1
    obtain ⟨k,rfl⟩:∃ k:Nat,ai=(k:Int):=⟨ai.toNat,by omega⟩
    have hk:k < n:=by omega
    have hatk:iI ((bL b cs n).map Tl.toU) (k:Int)=some (bE b cs k).toU:=iX (by rw [List.getElem?_map];unfold bL;rw [List.getElem?_map,List.getElem?_range hk];rfl)
    have t0:iI [U.str (bE b cs k).name,U.str (bE b cs k).cls,(bE b cs k).pt.toU,U.int (bE b cs k).cost] 0=some (U.str (bE b cs k).name):=yC
    have t1:iI [U.str (bE b cs k).name,U.str (bE b cs k).cls,(bE b cs k).pt.toU,U.int (bE b cs k).cost] 1=some (U.str (bE b cs k).cls):=CL
    subst hV15
    refine aO fun V16 hV16=>?_
    simp! only [bH,hName,hview,hatk,zZ,t1]
    subst hV16
    refine aO fun V17 hV17=>?_
    obtain ⟨c0,cr,hc0⟩:∃ c0 cr,cs=c0 :: cr:=by cases cs with | nil=>exact (hcs0 rfl).elim | cons x r=>exact ⟨x,r,rfl⟩
    have hat0:iI (cs.map U.str) 0=some (.str c0):=by rw [hc0];exact yC
    have hc0m:c0∈cs:=by rw [hc0];exact List.mem_cons_self
    simp! only [bH,jY,lW,qQ,hName,hat0]
    refine ⟨⟨by decide,by decide⟩,way,C / 8,c0,cs,rfl,by omega,by omega,hc0m,hcn c0 hc0m,fun p cost due ho=>?_⟩
    subst hV17
    simp! only [true_and]
    refine aO fun V18 hV18=>?_
    simp! only [DF,hview,hatk,zZ,t0]
    rw [g8]
    dsimp only
    have ixk:∀ l k:Nat,k < l->xI l (k:Int)=some k:=fun l k h=>by
     unfold xI
     rw [if_pos (by omega),if_pos (by omega)]
     simp
    refine ⟨k,ixk _ _ (by rw [List.length_map,dA];exact hk),?_⟩
    have hset8:((bL b cs n).map Tl.toU).set k (U.tup [U.str (bE b cs k).name,U.str (bE b cs k).cls,p.toU,U.int cost])=((bL b cs n).set k ⟨(bE b cs k).name,(bE b cs k).cls,p,cost⟩).map Tl.toU:=by rw [List.map_set];rfl
    rw [hset8]
    have hcn2:=hcn _ (oC (b:=b) hcs0 k)
    have hdue:cs=eL b m->Due cs ((bL b cs n).set k ⟨(bE b cs k).name,(bE b cs k).cls,p,cost⟩) due (k + 1):=fun e=>Qk b0 (by omega) (by rw [e];exact EK b0 (by omega) hm1 hm6) hn40 hk ho
    have hdue:=hdue hcs.symm
    have hx:((bL b cs n).set k ⟨(bE b cs k).name,(bE b cs k).cls,p,cost⟩)[k]?=some ⟨(bE b cs k).name,(bE b cs k).cls,p,cost⟩:=by rw [List.getElem?_set,if_pos rfl,if_pos (by rw [dA];exact hk)]
    have hlines:((linesOf cs (bL b cs n)).map U.str).set (k + 1) (U.str (Tl.row ⟨(bE b cs k).name,(bE b cs k).cls,p,cost⟩))=(linesOf cs ((bL b cs n).set k ⟨(bE b cs k).name,(bE b cs k).cls,p,cost⟩)).map U.str:=by
     unfold linesOf
     rw [List.map_cons,List.map_cons,List.set_cons_succ,List.map_set,List.map_set]
    have hlt:((bL b cs n).set k ⟨(bE b cs k).name,(bE b cs k).cls,p,cost⟩).length=n:=by rw [List.length_set,dA]
    have hdep:∀ t∈(bL b cs n).set k ⟨(bE b cs k).name,(bE b cs k).cls,p,cost⟩,t.pt.dep<=14:=fun t ht=>by
     rcases List.mem_or_eq_of_mem_set ht with h | h
     ·exact hany t h
     ·rw [h];exact ho.dp
    generalize htt:(⟨(bE b cs k).name,(bE b cs k).cls,p,cost⟩:Tl)=t' at hdue hx hlines hlt hdep
    generalize htl2:(bL b cs n).set k t'=tl2 at hdue hx hlines hlt hdep
    have f8:mup Mi p8 (.lst (tl2.map Tl.toU)) p8=some (.lst (tl2.map Tl.toU)):=bM
    have f9:mup Mi p8 (.lst (tl2.map Tl.toU)) p9=some (.lst ((linesOf cs (bL b cs n)).map .str)):=by rw [cA n98];exact g9
    have hS':Sub M (mup Mi p8 (.lst (tl2.map Tl.toU))):=fun b' o hb'=>by
     have b2:b'≠p8:=fun z=>by subst z;rw [h8] at hb';cases hb'
     rw [cA b2];exact hS b' o hb'
    generalize mup Mi p8 (.lst (tl2.map Tl.toU))=Mj at f8 f9 hS'
    subst hV18
    refine aO fun V19 hV19=>?_
    have hview2:view Mj (.ref p8)=.lst (tl2.map Tl.toU):=lF f8
    have hat2:iI (tl2.map Tl.toU) (k:Int)=some t'.toU:=iX (by rw [List.getElem?_map,hx];rfl)
    have t0':iI [U.str t'.name,U.str t'.cls,t'.pt.toU,U.int t'.cost] 0=some (U.str t'.name):=yC
    have e1:(k:Int) + 1=((k + 1:Nat):Int):=by omega
    simp! only [DF,hview2,hat2,zZ,t0',e1]
    have r1:=(lI (b + 5 * (k:Int) + 1)).2
    have r1':t'.name.length<=8:=by rw [<- htt];exact r1
    have r2:=(bN hcn2.2).1
    have c0:=ho.c0
    have c1:=ho.c1
    have h18:(10:Int) ^ 18=1000000000000000000:=by decide
    have r3:=iC (n:=cost) c0 (by omega)
    have r4:=ho.tl
    refine ⟨small (by simp only [mI];omega),small (by simp only [len_app,mI];omega),small (by simp only [len_app,mI];omega),i8 c0 (by omega),small (by simp only [len_app,mI];omega),small (by simp only [len_app,mI];omega),small (by simp only [len_app,mI];omega),?_⟩
    rw [f9]
    dsimp only
    refine ⟨k + 1,ixk _ _ (by simp only [linesOf,List.length_map,List.length_cons,dA];omega),?_⟩
    have erow:t'.name++Str.ofString " "++(bE b cs k).cls++Str.ofString " "++Str.ofString (toString cost)++Str.ofString " "++p.text=t'.row:=by rw [<- htt];rfl
    have hrow':(Tl.row ⟨(bE b cs k).name,(bE b cs k).cls,p,cost⟩)=t'.row:=by rw [<- htt]
    rw [erow]
    first
     | rw [hlines]
     | (rw [hrow'] at hlines;rw [hlines])
    have g8':mup Mj p9 (.lst ((linesOf cs tl2).map .str)) p8=some (.lst (tl2.map Tl.toU)):=by rw [cA n98.symm];exact f8
    have g9':mup Mj p9 (.lst ((linesOf cs tl2).map .str)) p9=some (.lst ((linesOf cs tl2).map .str)):=bM
    have hS2:Sub M (mup Mj p9 (.lst ((linesOf cs tl2).map .str))):=fun b' o hb'=>by
     have b2:b'≠p9:=fun z=>by subst z;rw [h9'] at hb';cases hb'
     rw [cA b2];exact hS' b' o hb'
    generalize mup Mj p9 (.lst ((linesOf cs tl2).map .str))=Mk at g8' g9' hS2
    subst hV19
    have hview3:view Mk (.ref p8)=.lst (tl2.map Tl.toU):=lF g8'
    have hjn2:=qS (B:=1100) (n:=61) (z:=Str.ofString "\n") (l:=linesOf cs tl2) (by rw [Ow];omega) (fun s hs=>by
     rcases List.mem_cons.mp hs with rfl | hs
     ·omega
     ·obtain ⟨t,h1,rfl⟩:=List.mem_map.mp hs
      exact (hdue.2.2.2.2.2.2.1 t h1).len) (by simp only [linesOf,List.length_cons,List.length_map,hlt];omega) (by decide)
    simp! only [bG,hview3,Cu,xA,g9',e1]
    exact ⟨⟨_,rfl⟩,_,sI _,hjn2.1,cs,tl2,due,k + 1,rfl,hdue,hdep,hS2 Pl _ hP,⟨_,M,hS2,.inl rfl,q⟩⟩
  refine bR fun A B hA hB=>?_
  simp! only [true_and]
  by_cases w1:way=1
  ·rw [if_pos (decide_eq_true w1)]
   subst hA
   simp! only [bH,hName]
   refine ⟨⟨by decide,by decide⟩,by decide,?_⟩
   have:=key7 (4 + C / 8 % 5).toNat (by omega) (by omega) (fun z=>(z w1).elim)
   rw [Int.toNat_of_nonneg (by omega)] at this
   exact this
  ·rw [if_neg (fun e=>w1 (of_decide_eq_true e))]
   subst hB
   simp only [bJ]
   have:=key7 (1 + e2).toNat (by omega) (by omega) (fun z=>by omega)
   rw [Int.toNat_of_nonneg (by omega)] at this
   exact this
 refine bR fun A B hA hB=>?_
 simp! only [true_and]
 by_cases w1:way=0
 ·rw [if_pos (decide_eq_true w1)]
  subst hA
  simp! only [bH,hName]
  refine ⟨⟨by decide,by decide⟩,by decide,?_⟩
  have:=key6 (38 + C / 8 % 5).toNat (by omega) (by omega) (fun z=>(z w1).elim)
  rw [Int.toNat_of_nonneg (by omega)] at this
  exact this
 ·rw [if_neg (fun e=>w1 (of_decide_eq_true e))]
  subst hB
  simp only [bJ]
  have:=key6 (1 + e3).toNat (by omega) (by omega) (fun z=>by omega)
  rw [Int.toNat_of_nonneg (by omega)] at this
  exact this
end
end K15
namespace K15
open PySem L2 U2
def Ld (s:Stmt) (i:Nat):Stmt:=match s with
 | .ClassDef _ _ _ b _ _ _ _ _ _ _=>b.getD i (.Pass ⟨0,0,0,0⟩)
 | _=>.Pass ⟨0,0,0,0⟩
def Bh (n:Str):List Stmt->Stmt
 | []=>.Pass ⟨0,0,0,0⟩
 | s :: r=>match s with
  | .ClassDef m _ _ _ _ _ _ _ _ _ _=>if m=n then s else Bh n r
  | _=>Bh n r
def wH:Stmt:=Ld (Bh "NoText" PySem.Challenge.pw_rowsmith_k15_bounds_of_tables.main.body) 0
theorem Sk:aU ["self","at"] ["self","at"] (aH wH):=dP
section
variable {P:Program} {w:World} {K:PySem.W.Frag} {mg:Str->Option Value} {base:Heap}
theorem OM {R C fI:Addr} {fd:FuncData} (F:b8 K "__init__" "NoText.__init__" wH fI fd) (hm:mg "RowsmithError"=some (.ref R)) (B:Am K R) (c:lN K C R fI) (n:uF K C "at"):lP P w K mg base iU 1 fI fd ["self","at"] (kW C "at" condT) :=
 Ht (k:=0) (t2:=Us "no tree is written: wrong at sign " (sY 1)) F hm B c n rfl Sk rfl (fun X h1 h2 h3=>OV (lV (by rw [h1];rfl) (by rw [h2];exact .inl rfl)) (by decide +kernel)) (fun a y H Q hy q=>by
  obtain ⟨i,rfl,hi⟩:=hy
  have r1:=iC (n:=(i:Int)) (by omega) (by omega)
  have r2:(Str.ofString "no tree is written: wrong at sign ").length<=100:=by decide +kernel
  refine ⟨_,rfl,_,if_pos (i8 (by omega) (by omega)),by omega,?_,q _⟩
  rw [L2.len_app];omega)
theorem Rn {R C fI:Addr} {fd:FuncData} (F:b8 K "__init__" "NoText.__init__" wH fI fd) (hm:mg "RowsmithError"=some (.ref R)) (hc:mg "NoText"=some (.ref C)) (B:Am K R) (c:oP K C R fI) (n:uF K C "at"):pA P w K mg base 1 "NoText" C "at" condT :=
 ⟨R,fI,fd,"at",c,hc,OM F hm B c.cl n,F.binds fun _ _ _ _ _ _ us hl=>match us,hl with | [_,_],_=>rfl⟩
end
def vL:Stmt:=Ld (Bh "NoRow" PySem.Challenge.pw_rowsmith_k15_bounds_of_tables.main.body) 0
theorem Uk:aU ["self","row"] ["self","row"] (aH vL):=dP
section
variable {P:Program} {w:World} {K:PySem.W.Frag} {mg:Str->Option Value} {base:Heap}
theorem MW {R C fI:Addr} {fd:FuncData} (F:b8 K "__init__" "NoRow.__init__" vL fI fd) (hm:mg "RowsmithError"=some (.ref R)) (B:Am K R) (c:lN K C R fI) (n:uF K C "row"):lP P w K mg base iU 1 fI fd ["self","row"] (kW C "row" Bq) :=
 Ht (k:=0) (t2:=Us "no table is written: wrong at row " (sY 1)) F hm B c n rfl Uk rfl (fun X h1 h2 h3=>OV (lV (by rw [h1];rfl) (by rw [h2];exact .inl rfl)) (by decide +kernel)) (fun a y H Q hy q=>by
  obtain ⟨i,rfl,hi⟩:=hy
  have r1:=iC (n:=(i:Int)) (by omega) (by omega)
  have r2:(Str.ofString "no table is written: wrong at row ").length<=100:=by decide +kernel
  refine ⟨_,rfl,_,if_pos (i8 (by omega) (by omega)),by omega,?_,q _⟩
  rw [L2.len_app];omega)
theorem QW {R C fI:Addr} {fd:FuncData} (F:b8 K "__init__" "NoRow.__init__" vL fI fd) (hm:mg "RowsmithError"=some (.ref R)) (hc:mg "NoRow"=some (.ref C)) (B:Am K R) (c:oP K C R fI) (n:uF K C "row"):pA P w K mg base 1 "NoRow" C "row" Bq :=
 ⟨R,fI,fd,"row",c,hc,MW F hm B c.cl n,F.binds fun _ _ _ _ _ _ us hl=>match us,hl with | [_,_],_=>rfl⟩
end
def bX (K:PySem.W.Frag) (n:Str) (st:Stmt) (f:Addr):Prop:=∃ fd,PySem.W.nsIn K mainGlobals n=some (some (.ref f))/\b8 K n n st f fd
theorem W7 {K:PySem.W.Frag} {n:Str} {st:Stmt} {f:Addr} {oc:Value} {od an:Option Addr} {osl:Array (Option Value)} {kV doc pm cdv ct:Value} (a:PySem.W.nsIn K mainGlobals n=some (some (.ref f))) (l:K.lookup f=some ⟨oc,od,.func (PySem.W.fnOf n n (eM st) (cH st) (aH st) .none kV doc pm an cdv ct),osl⟩) (c:PySem.W.codeIn K cdv n=true) (k:PySem.W.keepIn K (.ref f)=true):bX K n st f:=⟨_,a,yI l c k⟩
open PyProof.Rows in
theorem all_mk (Pt0:Addr) {cRE:Addr} {cxt fxt xtN:Addr} {xtnm xtqq:Str} {xtbs xtsub:List Value} {xtsn:List Str} {xtab:Bool} {xtcol:Option Bool} {xtdd xtod xtan:Option Addr} {xtk0 xtk1 xtk2 xtk3 xtk5:Option Value} {xtosl:Array (Option Value)} {xtoc xtkV xtdoc xtpm xtcdv xtct:Value} {cxr fxr xrN:Addr} {xrnm xrqq:Str} {xrbs xrsub:List Value} {xrsn:List Str} {xrab:Bool} {xrcol:Option Bool} {xrdd xrod xran:Option Addr} {xrk0 xrk1 xrk2 xrk3 xrk5:Option Value} {xrosl:Array (Option Value)} {xroc xrkV xrdoc xrpm xrcdv xrct:Value} {l:PySem.W.OpenLaw} {w:World} {K:PySem.W.Frag} {h:Heap} {mg:Str->Option Value} {fa f0 f1 f2 f3 f4 f5 f6 f7 f8 f9 f10 f11 f12 f13 f14 f15 f16 f17 f18 f19 f20 f21 f22 f23 f24 f25 f26 f27 f28 f29 f30 f31 f32 f33 f34 f35 f36 f37 f38:Addr} (X:K.In h) (G:h.Ns mainGlobals mg) (hfa:mg "law"=some (.ref fa))
  {cd20:Addr} {od20 an20:Option Addr} {sl20:Array (Option Value)} {oc20 kV20 dc20 pm20 ct20:Value}
  {od38 an38:Option Addr} {sl38:Array (Option Value)} {oc38 kV38 dc38 pm38 cd38 ct38:Value}
  {Uv:Tok}
  {tk1:Tok}
  {tk2:Tok}
  {tk3:Tok}
  {tk4:Tok}
  {tk5:Tok}
  {tk6:Tok}
  {tk7:Tok}
  {tk8:Tok}
  {tk9:Tok}
  (a0:bX K "is_whole" xF f0)
  (a1:bX K "is_number" tW f1)
  (a2:bX K "is_sign" yR f2)
  (a3:bX K "is_shape" v8 f3)
  (a4:bX K "parts_of" v3 f4)
  (a5:bX K "places_of" nO f5)
  (a6:bX K "shape_at" xD f6)
  (a7:bX K "is_pass" yG f7)
  (a8:bX K "end_of_name" pB f8)
  (a9:bX K "read_number" oH f9)
  (a10:bX K "read_whole_number" jP f10)
  (a11:bX K "read_shape" qU f11)
  (a12:bX K "read_openings" lS f12)
  (a13:bX K "read_behind" pG f13)
  (a14:bX K "read_middle" oZ f14)
  (a15:bX K "need_sign" tR f15)
  (a16:bX K "is_name" y7 f16)
  (a17:bX K "are_unlike" rE f17)
  (a18:bX K "are_classes" oF f18)
  (a19:bX K "is_pattern_leaf" kM f19)
  (a20:PySem.W.nsIn K mainGlobals "is_pattern"=some (some (.ref f20))) (l20:K.lookup f20=some ⟨oc20,od20,.func (PySem.W.fnOf "is_pattern" "is_pattern" (eM eD) (cH eD) (aH eD) .none kV20 dc20 pm20 an20 (.ref cd20) ct20),sl20⟩) (c20:PySem.W.codeIn K (.ref cd20) "is_pattern"=true) (k20:PySem.W.keepIn K (.ref f20)=true)
  (q20:PySem.W.codeHdIn K cd20 Pt0=true)
  (a21:bX K "is_tile" yM f21)
  (a22:bX K "are_tiles" sW f22)
  (a23:bX K "is_table" wL f23)
  (a24:bX K "holes" Co f24)
  (a25:bX K "read_stretch" mM f25)
  (a26:bX K "read_leaf" tT f26)
  (a27:bX K "read_tile" tB f27)
  (a28:bX K "read_table" qK f28)
  (a29:bX K "_law_whole" tO f29)
  (a30:bX K "_law_cell_at" oQ f30)
  (a31:bX K "_law_alike" nR f31)
  (a32:bX K "_law_name_of" o9 f32)
  (a33:bX K "_law_sized" nJ f33)
  (a34:bX K "_law_chain" sR f34)
  (a35:bX K "_law_gaps" pZ f35)
  (a36:bX K "_law_odd" yQ f36)
  (a37:bX K "_law_answers" pF f37)
  (a38:PySem.W.nsIn K mainGlobals "law"=some (some (.ref f38))) (l38:K.lookup f38=some ⟨oc38,od38,.func (PySem.W.fnOf "law" "law" (eM pM) (cH pM) (aH pM) .none kV38 dc38 pm38 an38 cd38 ct38),sl38⟩) (c38:PySem.W.codeIn K cd38 "law"=true) (k38:PySem.W.keepIn K (.ref f38)=true)
  (e0:PySem.W.nsIn K mainGlobals "LETTERS"=some (some (.str (x9) Uv)))
  (e1:PySem.W.nsIn K mainGlobals "FIGURES"=some (some (.str (CJ) tk1)))
  (e2:PySem.W.nsIn K mainGlobals "LONGEST_NAME"=some (some (.int (8) tk2)))
  (e3:PySem.W.nsIn K mainGlobals "GREATEST"=some (some (.int (1000000000000000000) tk3)))
  (e4:PySem.W.nsIn K mainGlobals "MOST_CLASSES"=some (some (.int (6) tk4)))
  (e5:PySem.W.nsIn K mainGlobals "MOST_TILES"=some (some (.int (40) tk5)))
  (e6:PySem.W.nsIn K mainGlobals "MOST_PIECES"=some (some (.int (9) tk6)))
  (e7:PySem.W.nsIn K mainGlobals "MOST_WITHIN"=some (some (.int (5) tk7)))
  (e8:PySem.W.nsIn K mainGlobals "MOST_HOLES"=some (some (.int (4) tk8)))
  (e9:PySem.W.nsIn K mainGlobals "GREATEST_PRICE"=some (some (.int (1000) tk9)))
  {dt0:Addr} (ta0:PySem.W.nsIn K mainGlobals "SIGNS"=some (some (.ref dt0))) (tb0:KTD.tabLook KTD.flatLooks (fun b=>K.lookup b) dt0 (x8 cO)=true) (tc0:KTD.hashesOf (fun b=>K.lookup b) dt0=(x8 cO).map fun p=>(PySem.strKind l.prog w).hash p.1)
  {dt1:Addr} (ta1:PySem.W.nsIn K mainGlobals "MIDDLE_WORDS"=some (some (.ref dt1))) (tb1:KTD.tabLook KTD.flatLooks (fun b=>K.lookup b) dt1 (x8 AS)=true) (tc1:KTD.hashesOf (fun b=>K.lookup b) dt1=(x8 AS).map fun p=>(PySem.strKind l.prog w).hash p.1)
  (z0:PySem.W.nsIn K mainGlobals "len"=some none)
  (z1:PySem.W.nsIn K mainGlobals "isinstance"=some none)
  (z2:PySem.W.nsIn K mainGlobals "range"=some none)
  (z3:PySem.W.nsIn K mainGlobals "enumerate"=some none)
  (z4:PySem.W.nsIn K mainGlobals "int"=some none)
  (z5:PySem.W.nsIn K mainGlobals "bool"=some none)
  (z6:PySem.W.nsIn K mainGlobals "tuple"=some none)
  (z7:PySem.W.nsIn K mainGlobals "str"=some none)
  (z8:PySem.W.nsIn K mainGlobals "all"=some none)
  (z9:PySem.W.nsIn K mainGlobals "set"=some none)
  (z10:PySem.W.nsIn K mainGlobals "zip"=some none)
  (x2:PySem.W.nsIn K mainGlobals "RowsmithError"=some (some (.ref cRE)))
  (x18:PySem.W.readsIn K cRE (.type "type")=true)
  (x19:PySem.W.findCls K (.ref cRE) (.type "type") "__init__"=some (.val (.builtin "ValueError.__init__")))
  (x20:PySem.W.specialIn K (.ref cRE) "__getattribute__"=some (some (.builtin "type.__getattribute__")))
  (xt1:PySem.W.nsIn K mainGlobals "NoText"=some (some (.ref cxt)))
  (xt9:K.lookup cxt=some (excClassObj xtnm xtqq cxt xtN xtbs (oB cRE) true xtsn xtsub xtab xtcol xtdd xtk0 xtk1 xtk2 xtk3 xtk5 "ValueError.__new__"))
  (xt10:PySem.W.findIn K (.ref cxt) "__init__"=some (some (.ref fxt)))
  (xt11:PySem.W.isFn K (.ref fxt)=true)
  (xt12:PySem.W.keepIn K (.ref cxt)=true)
  (xt13:PySem.W.findIn K (.ref cxt) "__setattr__"=some (some (.builtin "object.__setattr__")))
  (xt14:PySem.W.findIn K (.ref cxt) "__getattribute__"=some (some (.builtin "BaseException.__getattribute__")))
  (xt15:PySem.W.findIn K (.ref cxt) "__getattr__"=some none)
  (xt16:PySem.W.findIn K (.ref cxt) "__class__"=some (some (.builtin "object.__class__")))
  (xt17:PySem.W.findIn K (.ref cxt) "at"=some none)
  (xt21:K.lookup fxt=some ⟨xtoc,xtod,.func (PySem.W.fnOf "__init__" "NoText.__init__" (eM wH) (cH wH) (aH wH) .none xtkV xtdoc xtpm xtan xtcdv xtct),xtosl⟩)
  (xt22:PySem.W.codeIn K xtcdv "NoText.__init__"=true)
  (xt23:PySem.W.keepIn K (.ref fxt)=true)
  (xt31:PySem.W.typeIn K (.ref cxt)=some (.type "type"))
  (xt32:(PySem.W.clsIn K cxt).isSome=true)
  (xt33:PySem.W.subIn K (.ref cxt) (.type "BaseException")=some true)
  (xt34:PySem.W.subIn K (.ref cxt) (.ref cxt)=some true)
  (xr1:PySem.W.nsIn K mainGlobals "NoRow"=some (some (.ref cxr)))
  (xr9:K.lookup cxr=some (excClassObj xrnm xrqq cxr xrN xrbs (oB cRE) true xrsn xrsub xrab xrcol xrdd xrk0 xrk1 xrk2 xrk3 xrk5 "ValueError.__new__"))
  (xr10:PySem.W.findIn K (.ref cxr) "__init__"=some (some (.ref fxr)))
  (xr11:PySem.W.isFn K (.ref fxr)=true)
  (xr12:PySem.W.keepIn K (.ref cxr)=true)
  (xr13:PySem.W.findIn K (.ref cxr) "__setattr__"=some (some (.builtin "object.__setattr__")))
  (xr14:PySem.W.findIn K (.ref cxr) "__getattribute__"=some (some (.builtin "BaseException.__getattribute__")))
  (xr15:PySem.W.findIn K (.ref cxr) "__getattr__"=some none)
  (xr16:PySem.W.findIn K (.ref cxr) "__class__"=some (some (.builtin "object.__class__")))
  (xr17:PySem.W.findIn K (.ref cxr) "row"=some none)
  (xr21:K.lookup fxr=some ⟨xroc,xrod,.func (PySem.W.fnOf "__init__" "NoRow.__init__" (eM vL) (cH vL) (aH vL) .none xrkV xrdoc xrpm xran xrcdv xrct),xrosl⟩)
  (xr22:PySem.W.codeIn K xrcdv "NoRow.__init__"=true)
  (xr23:PySem.W.keepIn K (.ref fxr)=true)
  (xr31:PySem.W.typeIn K (.ref cxr)=some (.type "type"))
  (xr32:(PySem.W.clsIn K cxr).isSome=true)
  (xr33:PySem.W.subIn K (.ref cxr) (.type "BaseException")=some true)
  (xr34:PySem.W.subIn K (.ref cxr) (.ref cxr)=some true)
  : ∃ fd:FuncData,(∀ (s:Shared) (v:Value),BindsTo s fd ⟨[v],[]⟩ [("script",v)])/\∀ base:Heap,K.In base->base.Ns mainGlobals mg->jO base mg->fD l.prog w K mg base iU 24 fa fd ["script"] (fZ K (BY Pt0)):=by
 have e:=hfa.symm.trans (PySem.W.mg_of X G a38)
 cases e
 obtain ⟨_,wY,II⟩:=a0;have wY:=PySem.W.mg_of X G wY
 obtain ⟨_,tQ,F1⟩:=a1;have tQ:=PySem.W.mg_of X G tQ
 obtain ⟨_,xU,LJ⟩:=a2;have xU:=PySem.W.mg_of X G xU
 obtain ⟨_,kB,BV⟩:=a3;have kB:=PySem.W.mg_of X G kB
 obtain ⟨_,xB,Jc⟩:=a4;have xB:=PySem.W.mg_of X G xB
 obtain ⟨_,sV,Gf⟩:=a5;have sV:=PySem.W.mg_of X G sV
 obtain ⟨_,u0,Js⟩:=a6;have u0:=PySem.W.mg_of X G u0
 obtain ⟨_,zL,Lg⟩:=a7;have zL:=PySem.W.mg_of X G zL
 obtain ⟨_,oY,DC⟩:=a8;have oY:=PySem.W.mg_of X G oY
 obtain ⟨_,oX,Dm⟩:=a9;have oX:=PySem.W.mg_of X G oX
 obtain ⟨_,jS,xQ⟩:=a10;have jS:=PySem.W.mg_of X G jS
 obtain ⟨_,qP,Fe⟩:=a11;have qP:=PySem.W.mg_of X G qP
 obtain ⟨_,mF,Bi⟩:=a12;have mF:=PySem.W.mg_of X G mF
 obtain ⟨_,oG,Dz⟩:=a13;have oG:=PySem.W.mg_of X G oG
 obtain ⟨_,o8,Ds⟩:=a14;have o8:=PySem.W.mg_of X G o8
 obtain ⟨_,tI,FY⟩:=a15;have tI:=PySem.W.mg_of X G tI
 obtain ⟨_,xY,Ma⟩:=a16;have xY:=PySem.W.mg_of X G xY
 obtain ⟨_,rQ,E9⟩:=a17;have rQ:=PySem.W.mg_of X G rQ
 obtain ⟨_,oJ,Dt⟩:=a18;have oJ:=PySem.W.mg_of X G oJ
 obtain ⟨_,kK,AA⟩:=a19;have kK:=PySem.W.mg_of X G kK
 have DV:=yI (st:=eD) l20 c20 k20
 have D8:=PySem.W.mg_of X G a20
 obtain ⟨_,yO,L9⟩:=a21;have yO:=PySem.W.mg_of X G yO
 obtain ⟨_,tF,F9⟩:=a22;have tF:=PySem.W.mg_of X G tF
 obtain ⟨_,xE,IW⟩:=a23;have xE:=PySem.W.mg_of X G xE
 obtain ⟨_,B6,Ql⟩:=a24;have B6:=PySem.W.mg_of X G B6
 obtain ⟨_,mO,Ce⟩:=a25;have mO:=PySem.W.mg_of X G mO
 obtain ⟨_,iQ,FZ⟩:=a26;have iQ:=PySem.W.mg_of X G iQ
 obtain ⟨_,sS,FP⟩:=a27;have sS:=PySem.W.mg_of X G sS
 obtain ⟨_,qO,Ff⟩:=a28;have qO:=PySem.W.mg_of X G qO
 obtain ⟨_,tK,Gm⟩:=a29;have tK:=PySem.W.mg_of X G tK
 obtain ⟨_,oW,Dv⟩:=a30;have oW:=PySem.W.mg_of X G oW
 obtain ⟨_,tE,Gn⟩:=a31;have tE:=PySem.W.mg_of X G tE
 obtain ⟨_,pD,Dk⟩:=a32;have pD:=PySem.W.mg_of X G pD
 obtain ⟨_,tL,FQ⟩:=a33;have tL:=PySem.W.mg_of X G tL
 obtain ⟨_,tP,FO⟩:=a34;have tP:=PySem.W.mg_of X G tP
 obtain ⟨_,uZ,Iy⟩:=a35;have uZ:=PySem.W.mg_of X G uZ
 obtain ⟨_,x6,Ml⟩:=a36;have x6:=PySem.W.mg_of X G x6
 obtain ⟨_,o7,DB⟩:=a37;have o7:=PySem.W.mg_of X G o7
 have VM:=yI (st:=pM) l38 c38 k38
 have Xe:=PySem.W.mg_of X G a38
 have lK:=PySem.W.mg_of X G e0
 have rZ:=PySem.W.mg_of X G e1
 have gJ:=PySem.W.mg_of X G e2
 have j8:=PySem.W.mg_of X G e3
 have mZ:=PySem.W.mg_of X G e4
 have qL:=PySem.W.mg_of X G e5
 have oU:=PySem.W.mg_of X G e6
 have oO:=PySem.W.mg_of X G e7
 have qX:=PySem.W.mg_of X G e8
 have lB:=PySem.W.mg_of X G e9
 have mQ:=PySem.W.mg_of X G ta0
 have mP:nF l.prog w K dt0 cO:=tab_of (by decide +kernel) tb0 tc0
 have kF:=PySem.W.mg_of X G ta1
 have kI:nF l.prog w K dt1 AS:=tab_of (by decide +kernel) tb1 tc1
 have bF:=PySem.W.mg_none_of X G z0
 have aN:=PySem.W.mg_none_of X G z1
 have nE:=PySem.W.mg_none_of X G z2
 have eY:=PySem.W.mg_none_of X G z3
 have zS:=PySem.W.mg_none_of X G z4
 have l5:=PySem.W.mg_none_of X G z5
 have bK:=PySem.W.mg_none_of X G z6
 have eA:=PySem.W.mg_none_of X G z7
 have pY:=PySem.W.mg_none_of X G z8
 have Iz:=PySem.W.mg_none_of X G z9
 have Ab:=PySem.W.mg_none_of X G z10
 refine ⟨PySem.W.fnOf "law" "law" (eM pM) (cH pM) (aH pM) .none kV38 dc38 pm38 an38 cd38 ct38,fun s v=>.of_eq rfl,fun base _ _ hB=>?_⟩
 have vRE:=PySem.W.mg_of X G x2
 have vxt:=PySem.W.mg_of X G xt1
 have ccxt:lN K cxt cRE fxt:=⟨⟨_,_,_,_,_,_,_,_,_,_,_,_,_,_,xt9⟩,xt10,xt11,xt12,xt13⟩
 have cgxt:oP K cxt cRE fxt:=⟨ccxt,xt14,xt15,xt16⟩
 have exxt:=Rn (P:=l.prog) (w:=w) (base:=base) (yI (st:=wH) xt21 xt22 xt23) vRE vxt ⟨x18,x19,x20⟩ cgxt xt17
 have vxr:=PySem.W.mg_of X G xr1
 have ccxr:lN K cxr cRE fxr:=⟨⟨_,_,_,_,_,_,_,_,_,_,_,_,_,_,xr9⟩,xr10,xr11,xr12,xr13⟩
 have cgxr:oP K cxr cRE fxr:=⟨ccxr,xr14,xr15,xr16⟩
 have exxr:=QW (P:=l.prog) (w:=w) (base:=base) (yI (st:=vL) xr21 xr22 xr23) vRE vxr ⟨x18,x19,x20⟩ cgxr xr17
 have a0:∀ base,Callee l.prog w K mg base 1 "is_whole" wX []:=fun base=>FW II wY aN zS l5
 have a1:∀ base,Callee l.prog w K mg base 2 "is_number" AX []:=fun base=>En F1 tQ j8 (a0 base)
 have a2:∀ base,Callee l.prog w K mg base 1 "is_sign" EX []:=fun base=>Ij LJ xU aN bK bF eA mP mQ
 have a3:∀ base,Callee l.prog w K mg base 3 "is_pattern_leaf" Ck []:=fun base=>Ou AA kK aN bK bF (a1 base)
 have a4:=Jr (P:=l.prog) (w:=w) (base:=base) Ma xY bF aN eA pY lK gJ
 have c0:=Ge (P:=l.prog) (w:=w) (base:=base) Jc xB mP mQ
 have b0:=Bl Gf sV eY c0 6
 have b1:=Gi Js u0 c0
 have b5:=MM Ql B6 b0 b1
 have e0:=Dj DV rfl D8 q20 hB kB BV.kp bF oU oO qX (fun base fl s _ A=>F6 BV kB (a2 base) (ka:=3) A) (fun base _=>a3 base) b5
 have e1:=IF L9 yO aN bK bF lB a4 e0 (a0 base) (Jf Lg zL)
 have e2:=Mn (P:=l.prog) (w:=w) (base:=base) E9 rQ bF Iz
 have e3:=Cd Dt oJ aN bK bF pY mZ a4 e2
 have e4:=EW F9 tF aN bK bF pY qL e1 e2
 have e5:=Gj IW xE aN bK bF e3 e4
 have d2:=Jz (P:=l.prog) (w:=w) (base:=base) Dk pD bF
 have g0:=P0 (P:=l.prog) (w:=w) (base:=base) Dm oX bF j8 rZ exxt
 have g1:=QF (P:=l.prog) (w:=w) (base:=base) DC oY bF gJ lK
 have g2:=MG (P:=l.prog) (w:=w) (base:=base) FY tI exxt
 have g3:=Rq Ds o8 kI kF exxt g2
 have g4:=Rk Bi mF g2
 have g5:=Qo Dz oG bK g2 g3
 have g6:=QL Ce mO exxt g0
 have g7:=(Mv FZ iQ g1 g6).at iQ
 have g8:=Ta xQ jS bF exxt g0
 have g9:=PQ Fe qP bF exxt g7 g4 g5
 have r0:=Mw FP sS bF iQ vxt ⟨xt31,xt32,xt33⟩ xt34 exxr g8 g9
 have r1:=Q0 Ff qO bF bK eY exxr e3 r0 e5
 have l0:=Kz (P:=l.prog) (w:=w) (base:=base) Gm tK aN zS l5
 have l1:=CC Gn tE aN bK bF Ab eA l0 20
 have o0:=CN (P:=l.prog) (w:=w) (base:=base) FQ tL 11
 have o1:=OG (P:=l.prog) (w:=w) (base:=base) FO tP nE
 have o2:=Fz (P:=l.prog) (w:=w) (base:=base) Iy uZ 11
 have o3:=Sf Ml x6 eA o0 o1 o2
 have o4:=Tf DB o7 aN l5 vxr ⟨xr31,xr32,xr33⟩ xr34 ⟨_,_,cgxr,xr17⟩ e5 r1 l1 l0
 exact UU VM bK nE eA (Hx Dv oW bF) d2 o4 o3
theorem Uv {K:PySem.W.Frag} {f c Pt:Addr} {od an:Option Addr} {sl:Array (Option Value)} {oc kV dc pm ct:Value} (n:K.lookup Pt=none) (a:PySem.W.nsIn K mainGlobals "is_pattern"=some (some (.ref f))) (lk:K.lookup f=some ⟨oc,od,.func (PySem.W.fnOf "is_pattern" "is_pattern" (eM eD) (cH eD) (aH eD) .none kV dc pm an (.ref c) ct),sl⟩) (q:PySem.W.codeHdIn K c Pt=true):K.lookup Pt=none/\∃ c,PySem.W.codeHdIn K c Pt=true:=⟨n,c,q⟩
theorem Mh {K:PySem.W.Frag} {H:Hp} {a:Addr} {ns:List Int} {E:XK} (hl:ns.length<=63) (hb:∀ m∈ns,Builtin.Int.intBits m<=2 ^ 20) (hS:eV K H a (ns.map V.int)) (hT:∀ p∈[(201:Addr)],H p=some (.tbl #[])):fZ K (BY (201:Addr)) [.ref a] H (fun v _=>v=.bl true) E :=
 U6 (ts:=[((201:Addr),QP)]) hS hT (by decide +kernel) ⟨ns,rfl,hl,hb,rfl,rfl⟩
theorem walk {l:PySem.W.OpenLaw} {q:Program} {loose:List Str} {XP:(Str->Option Value)->Heap->Prop} {YP:World->Heap->Prop} {d:DefRec} {K:Params->PySem.W.Frag} (hn:l.most=some 63) (hdf:d.params.defaults=[])
  (hY:∀ (w:World) (h:Heap),YP w h->(K w.params).In h/\∀ P∈[(201:Addr)],h.get? P=some (PySem.W.tabObj #[]))
  (hTK:∀ (w:World),∀ P∈[(201:Addr)],(K w.params).lookup P=none/\∃ c,PySem.W.codeHdIn (K w.params) c P=true)
  (F:∀ (w:World) (mg:Str->Option Value) (fa:Addr) (h:Heap),(K w.params).In h->h.Ns mainGlobals mg->mg d.name=some (.ref fa) ->
   ∃ fd:FuncData,(∀ (s:Shared) (u:Value),BindsTo s fd ⟨[u],[]⟩ [("script",u)])/\∀ base:Heap,(K w.params).In base->base.Ns mainGlobals mg->jO base mg->fD l.prog w (K w.params) mg base iU 24 fa fd ["script"] (fZ (K w.params) (BY (201:Addr)))) :
  PySem.W.WalkO q loose XP YP l.row.toRowW d [] (fun f vs=>PySem.call f vs) :=
 L7 (n:=63) (k:=24) (x:="script") (ts:=[(201:Addr)]) (sp:=fun w=>fZ (K w.params) (BY (201:Addr))) hn (by decide) hdf ⟨rfl,by decide,by decide⟩ hY hTK F (fun w H a ns hl hb _ hS hT=>Mh hl hb hS hT)
end K15
namespace PySem.W.Fast
def tw10046661406831377194:=0
def tw10052197806352263887:=0
def tw10069777808545444733:=0
def tw10203528168249960462:=0
def tw10301044294697886171:=0
def tw10345969001459064774:=0
def tw10362980517596501056:=0
def tw10385084873456698954:=0
def tw10551290673888560716:=0
def tw10762505538999386227:=0
def tw10769063795037085413:=0
def tw10851054588515664874:=0
def tw10888257610944117471:=0
def tw10951123285564925778:=0
def tw10959039816379477373:=0
def tw11000452619999042846:=0
def tw11030843099932416391:=0
def tw1104047619905583407:=0
def tw11145938384091708085:=0
def tw11176179468066737363:=0
def tw11209078567172914946:=0
def tw11259978426288463823:=0
def tw11259982945109134017:=0
def tw11368923702803603644:=0
def tw11505769679967961111:=0
def tw1151384904386295974:=0
def tw115580321402863294:=0
def tw11585413461585401186:=0
def tw11660471461154590975:=0
def tw11702253973377341455:=0
def tw11833470590826716673:=0
def tw11864238060636406177:=0
def tw11958003155071118183:=0
def tw11976688538833677267:=0
def tw12040299343152373447:=0
def tw12081806051931467562:=0
def tw12100046670503936189:=0
def tw1214680604244585134:=0
def tw12171684644054677968:=0
def tw12195140634368184686:=0
def tw12231321701278574264:=0
def tw12373582283076001967:=0
def tw12387814864028538102:=0
def tw12406691949789121128:=0
def tw1241355397118002398:=0
def tw12438977847069849913:=0
def tw12445181477976188277:=0
def tw12474004579445318719:=0
def tw12495092195827467265:=0
def tw12524392556566032632:=0
def tw12527822272774920297:=0
def tw12572268136183486431:=0
def tw12664006280470059565:=0
def tw12700465189580606500:=0
def tw12702909580236155957:=0
def tw12867780326181429249:=0
def tw12938118488157238602:=0
def tw12942911900264297355:=0
def tw13017319348242168157:=0
def tw13018282474092308602:=0
def tw1306442138134752430:=0
def tw13099771852026746115:=0
def tw13138433313041047850:=0
def tw13140412269883834348:=0
def tw13181338293676078738:=0
def tw13203253180413405894:=0
def tw13215386869441184401:=0
def tw13257522129681655117:=0
def tw13277886759538139291:=0
def tw13339432372458063187:=0
def tw13352572001025757013:=0
def tw13532954911651936070:=0
def tw13603712812408607986:=0
def tw13609850658220888348:=0
def tw13646267382854537544:=0
def tw13865389581371480629:=0
def tw13927065279047712923:=0
def tw13979692013469035693:=0
def tw14007263375670231301:=0
def tw14015588132184300441:=0
def tw14151707063112216250:=0
def tw14164866123511887646:=0
def tw14189863616779411997:=0
def tw14204601439645017944:=0
def tw14218282201480234473:=0
def tw14250626152319105209:=0
def tw14264039841598833669:=0
def tw14266809816845082773:=0
def tw14336488610853821700:=0
def tw14369989802505822864:=0
def tw14413642696882281234:=0
def tw14426920881327727572:=0
def tw14504233753076158398:=0
def tw14511277586968635613:=0
def tw14597521115794138635:=0
def tw14675289436288237517:=0
def tw14718049660392167701:=0
def tw14738507831643831752:=0
def tw14795097858592763170:=0
def tw14822426031738294558:=0
def tw14882362587611073556:=0
def tw14895956971121191722:=0
def tw15123375849324218590:=0
def tw15142357047593486471:=0
def tw15172720157177597194:=0
def tw15210042932490465369:=0
def tw15233473939212458527:=0
def tw15325413130958232158:=0
def tw15367285823116675323:=0
def tw15390022784433218115:=0
def tw15450746669812151358:=0
def tw15505779418313961939:=0
def tw15666741403610273524:=0
def tw15707556167113563145:=0
def tw15717708797673120021:=0
def tw15722973750064279964:=0
def tw15812116114547220332:=0
def tw15853809424169240467:=0
def tw1590955872295179149:=0
def tw15974601444038726256:=0
def tw15983129675973883844:=0
def tw15985991559617569196:=0
def tw16006533207175362409:=0
def tw16128667949127771243:=0
def tw16195397685473611930:=0
def tw16248999092398450199:=0
def tw16254028770268244771:=0
def tw16261035133618838260:=0
def tw16332932135807582634:=0
def tw16378936761073968193:=0
def tw16413259779705293403:=0
def tw16413556338250521547:=0
def tw16416017253341483907:=0
def tw16437732575526466267:=0
def tw16538862651629031229:=0
def tw16768254228970164792:=0
def tw169396207927105860:=0
def tw16961964439183460944:=0
def tw1716693602827339751:=0
def tw17197230892215194908:=0
def tw17224081536422703702:=0
def tw17244789859078778307:=0
def tw17310818641863900542:=0
def tw17320231790871695022:=0
def tw17386369890783663652:=0
def tw17503324725063656385:=0
def tw17582049065597267089:=0
def tw17641250378950398502:=0
def tw17669559571450237196:=0
def tw17675049413368952854:=0
def tw17730161159393968591:=0
def tw17755637769357030550:=0
def tw1776178618840327408:=0
def tw17815567512588886458:=0
def tw178367476917393760:=0
def tw17948460504316546826:=0
def tw17950303088951319734:=0
def tw17961931159648439191:=0
def tw1796733543992197310:=0
def tw17999625545240115384:=0
def tw18046035063759999095:=0
def tw18069044686221415144:=0
def tw18112539689189643116:=0
def tw18117797663340784353:=0
def tw18163746325698149437:=0
def tw18728067609655902:=0
def tw187436370811997059:=0
def tw1946164653653308281:=0
def tw1948247988130141772:=0
def tw2046798227840408990:=0
def tw2198101946560732183:=0
def tw2319800055482342972:=0
def tw2394635679544517340:=0
def tw2602730994588832613:=0
def tw2612749511045782454:=0
def tw2626230273094541280:=0
def tw2725635681498195942:=0
def tw272572930666112127:=0
def tw2741567535881995608:=0
def tw2766839441842905088:=0
def tw2869775055289488168:=0
def tw2972597759275328568:=0
def tw2981245482597557222:=0
def tw3059994603994328731:=0
def tw3062639340018230759:=0
def tw3194389016457581036:=0
def tw3352191658271396785:=0
def tw336211614548460496:=0
def tw3410203811743302887:=0
def tw3423517474094285146:=0
def tw3429896265603840851:=0
def tw3449814524448334011:=0
def tw3454453450145090979:=0
def tw3559636766795180967:=0
def tw3569353533979491599:=0
def tw3601173428949818094:=0
def tw3660473696633743978:=0
def tw3700455217951930673:=0
def tw3716096402660670051:=0
def tw3948671426590683810:=0
def tw4042979079321540516:=0
def tw4160072867802645258:=0
def tw416813195782365802:=0
def tw4175530774966403640:=0
def tw4185240369390591511:=0
def tw4306450842263534743:=0
def tw4352405484133480803:=0
def tw4377826550266133262:=0
def tw4541330483767032703:=0
def tw4585070389471955307:=0
def tw4589684655326060606:=0
def tw4624254051929193020:=0
def tw463286828604141468:=0
def tw4650274805689953239:=0
def tw4703552416977072308:=0
def tw4708135961675200192:=0
def tw4841276870135172647:=0
def tw4891810066228506069:=0
def tw4896115435159362533:=0
def tw4985000865602677647:=0
def tw4998635542716126606:=0
def tw5216726238578828512:=0
def tw5301662302664379040:=0
def tw5309343048811530207:=0
def tw5322424390162452419:=0
def tw532529324323068383:=0
def tw5351494730550634534:=0
def tw5362466816801532864:=0
def tw5373213000132239135:=0
def tw5517195747004402061:=0
def tw5668743086933825831:=0
def tw574390757310480120:=0
def tw5754917361771454303:=0
def tw5853473836796160921:=0
def tw587534538633860551:=0
def tw5984411978918068298:=0
def tw6011216852510949937:=0
def tw6049487278831236166:=0
def tw6158762960618472802:=0
def tw6343379297224751120:=0
def tw6365753288898527133:=0
def tw637909301931217904:=0
def tw6393072887711117392:=0
def tw6398687841237966805:=0
def tw6437652255919466853:=0
def tw6442832538746183739:=0
def tw6586136805872392063:=0
def tw6653029592917987524:=0
def tw6718007770673433925:=0
def tw6740320589021141253:=0
def tw6781435047608356205:=0
def tw6855649805421601135:=0
def tw6857318995330958480:=0
def tw7025647980394599355:=0
def tw7064898402638334647:=0
def tw714694120860554995:=0
def tw7512724898116764209:=0
def tw7671585334017868171:=0
def tw7691126640336082580:=0
def tw7702539229974222371:=0
def tw7725910106120989173:=0
def tw7763049693246406294:=0
def tw7898423681806973377:=0
def tw7899641567876569967:=0
def tw7901509301394088208:=0
def tw7913263613356989673:=0
def tw7913584577481382872:=0
def tw8013043283747647884:=0
def tw8139763841694646672:=0
def tw8147070127955270383:=0
def tw8233348194429066519:=0
def tw8351587550505937788:=0
def tw836511968818917346:=0
def tw8389284514478157249:=0
def tw8415983109133668710:=0
def tw8438358956041960016:=0
def tw844889297644677967:=0
def tw8453831966748178181:=0
def tw8484487038902230348:=0
def tw8748139728033270046:=0
def tw8782923313865897888:=0
def tw8903391087364694440:=0
def tw9006443102370925367:=0
def tw912333466226637008:=0
def tw9194927760341340903:=0
def tw9278027738025873079:=0
def tw9286994535080764053:=0
def tw9305406707065065164:=0
def tw9344097132330037254:=0
def tw9366216973093610464:=0
def tw9461604249952564814:=0
def tw9461818276171205525:=0
def tw9483393926456796837:=0
def tw9499285339136048381:=0
def tw9538848631329042796:=0
def tw95587035384427948:=0
def tw9621568542069242966:=0
def tw9653310941002159838:=0
def tw9750226627547389647:=0
def tw9843396832075848343:=0
def tw9870269887811825177:=0
def tw9871727572612300345:=0
end PySem.W.Fast
open PySem PySem.W PyProof.Rows
set_option maxRecDepth 100000 in
set_option maxHeartbeats 0 in
theorem PySem.Challenge.cw_rowsmith_k15_bounds_of_tables_holds : PySem.Challenge.rw_rowsmith_k15_bounds_of_tables.Holds := by
 w_on;o_law;k_head;(case hw=>w_witness2)
 k_fill
 refine K15.walk (l:=PySem.Challenge.rw_rowsmith_k15_bounds_of_tables) rfl rfl (fun w h Y=>⟨PySem.W.km_in_of Y,PySem.W.km_tabs_of Y⟩) ?T ?F
 case T =>
  intro w P hP
  simp only [List.mem_cons,List.not_mem_nil,or_false] at hP
  rcases hP with rfl
  ·refine' K15.Uv ?tkn ?tka ?tkl ?tkq
   (case tkn=>kernel_rfl)
   (case tka=>k_is)
   (case tkl=>k_is)
   (case tkq=>kernel_rfl)
 case F =>
  intro w mg fa h KX G hmg
  refine' K15.all_mk (201:Addr) KX G hmg ?a0 ?a1 ?a2 ?a3 ?a4 ?a5 ?a6 ?a7 ?a8 ?a9 ?a10 ?a11 ?a12 ?a13 ?a14 ?a15 ?a16 ?a17 ?a18 ?a19 ?a20 ?l20 ?c20 ?k20 ?q20 ?a21 ?a22 ?a23 ?a24 ?a25 ?a26 ?a27 ?a28 ?a29 ?a30 ?a31 ?a32 ?a33 ?a34 ?a35 ?a36 ?a37 ?a38 ?l38 ?c38 ?k38 ?e0 ?e1 ?e2 ?e3 ?e4 ?e5 ?e6 ?e7 ?e8 ?e9 ?ta0 ?tb0 ?tc0 ?ta1 ?tb1 ?tc1 ?z0 ?z1 ?z2 ?z3 ?z4 ?z5 ?z6 ?z7 ?z8 ?z9 ?z10 ?x2 ?x18 ?x19 ?x20 ?xt1 ?xt9 ?xt10 ?xt11 ?xt12 ?xt13 ?xt14 ?xt15 ?xt16 ?xt17 ?xt21 ?xt22 ?xt23 ?xt31 ?xt32 ?xt33 ?xt34 ?xr1 ?xr9 ?xr10 ?xr11 ?xr12 ?xr13 ?xr14 ?xr15 ?xr16 ?xr17 ?xr21 ?xr22 ?xr23 ?xr31 ?xr32 ?xr33 ?xr34
  all_goals first | (refine' K15.W7 ?zza ?zzl ?zzc ?zzk;(case zza=>k_is);(case zzl=>k_is);(case zzc=>k_is);(case zzk=>k_is)) | skip
  (case a20=>k_is)
  (case l20=>k_is)
  (case c20=>k_is)
  (case k20=>k_is)
  (case q20=>kernel_rfl)
  (case a38=>k_is)
  (case l38=>k_is)
  (case c38=>k_is)
  (case k38=>k_is)
  (case e0=>k_is)
  (case e1=>k_is)
  (case e2=>k_is)
  (case e3=>k_is)
  (case e4=>k_is)
  (case e5=>k_is)
  (case e6=>k_is)
  (case e7=>k_is)
  (case e8=>k_is)
  (case e9=>k_is)
  (case ta0=>k_is)
  (case tb0=>kernel_rfl)
  (case tc0=>kernel_rfl)
  (case ta1=>k_is)
  (case tb1=>kernel_rfl)
  (case tc1=>kernel_rfl)
  (case z0=>k_is)
  (case z1=>k_is)
  (case z2=>k_is)
  (case z3=>k_is)
  (case z4=>k_is)
  (case z5=>k_is)
  (case z6=>k_is)
  (case z7=>k_is)
  (case z8=>k_is)
  (case z9=>k_is)
  (case z10=>k_is)
  (case x2=>k_is)
  (case x18=>k_is)
  (case x19=>kernel_rfl)
  (case x20=>k_is)
  (case xt1=>k_is)
  (case xt9=>k_is)
  (case xt10=>k_is)
  (case xt11=>k_is)
  (case xt12=>k_is)
  (case xt13=>k_is)
  (case xt14=>k_is)
  (case xt15=>k_is)
  (case xt16=>k_is)
  (case xt17=>k_is)
  (case xt21=>k_is)
  (case xt22=>k_is)
  (case xt23=>k_is)
  (case xt31=>k_is)
  (case xt32=>kernel_rfl)
  (case xt33=>k_is)
  (case xt34=>k_is)
  (case xr1=>k_is)
  (case xr9=>k_is)
  (case xr10=>k_is)
  (case xr11=>k_is)
  (case xr12=>k_is)
  (case xr13=>k_is)
  (case xr14=>k_is)
  (case xr15=>k_is)
  (case xr16=>k_is)
  (case xr17=>k_is)
  (case xr21=>k_is)
  (case xr22=>k_is)
  (case xr23=>k_is)
  (case xr31=>k_is)
  (case xr32=>kernel_rfl)
  (case xr33=>k_is)
  (case xr34=>k_is)
#print axioms PySem.Challenge.cw_rowsmith_k15_bounds_of_tables_holds