import PyProof.Rows.All
import Wide.All
import OpenK.AllK
import Wide.FinOn
import Lean
import PyProof.EqAt
import PyProof.EqKinds
import PyProof.TupleCall
import PySem.Challenge.RW_rowsmith_k86_exchanges_done
import PyProof.TupleKey
import KE.KRevIter
import PyProof.ListRange
import PyProof.CollectIter
import PyProof.TupleOfGen
import PyProof.EnumMake
import PyProof.Rows.SortWalk
import PyProof.ListMulRoad
import PyProof.AutoListH
import PyProof.ExcInit
import PyProof.InstStoreFacts
import PyProof.RulesAs
import PyProof.NsDelKeeps
import PyProof.ExcBaseAll.ValueError
import PyProof.ExcArgsOwn
import KE.KIsAll
set_option linter.all false
noncomputable section
set_option maxRecDepth 100000
set_option maxHeartbeats 4000000
namespace PySem
open Sem (wp)
section
variable {prog:Program} {w:World} {K:Type} [DecidableEq K] (knd:KeyKind prog w K)
noncomputable def cN (h:Heap) (x:List K × K) (a:Addr):Prop:=∃ o n b v,h.get? a=some o/\o.cls=.type "tuple"/\o.data=.seq #[.ref b,v] n/\IsTupleKey knd h x.1 b/\knd.is x.2 v=true
variable {knd}
theorem cN.typeIs {s:Shared} {x:List K × K} {a:Addr} (p:cN knd s.heap x a):s.TypeIs (.ref a) "tuple":=let ⟨o,_,_,_,ho,hc,_⟩:=p;⟨o,ho,hc⟩
theorem cN.inj {h:Heap} {a:Addr} {x y:List K × K} (hx:cN knd h x a) (hy:cN knd h y a):x=y:=by
 obtain ⟨o,n,b,v,ho,_,hd,h1,h2⟩:=hx
 obtain ⟨o',n',b',v',ho',_,hd',h1',h2'⟩:=hy
 obtain rfl:o=o':=Option.some.inj (ho.symm.trans ho')
 rw [hd] at hd'
 injection hd' with e _
 have e1:(.ref b:Value)=.ref b'/\v=v':=by simpa using e
 obtain ⟨e2,rfl⟩:=e1
 cases e2
 exact Prod.ext (h1.inj h1') (knd.inj _ _ _ h2 h2')
theorem cN.keeps {h h':Heap} {x:List K × K} {a d:Addr} {o:Obj} {es ep} (p:cN knd h x a) (ho:h.get? d=some o) (hd:o.data=.dict es ep) (hs:Heap.SameBut d h h'):cN knd h' x a:=by
 obtain ⟨o',n,b,v,ho',hc,hd',h1,h2⟩:=p
 have hne:a≠d:=by
  rintro rfl
  obtain rfl:o'=o:=Option.some.inj (ho'.symm.trans ho)
  rw [hd] at hd';exact nomatch hd'
 exact ⟨o',n,b,v,(hs.2 a hne).trans ho',hc,hd',h1.keeps ho hd hs,h2⟩
noncomputable def oN (knd:KeyKind prog w K) (x:List K × K):Int:=reduceHash (Builtin.Tuple.tupleHashOf [tupleKeyHash knd x.1,knd.hash x.2])
variable {A:Around} {E:Value->Shared->Prop} {s:Shared}
theorem tV {x:List K × K} {a:Addr} {Q:Int->Shared->Prop} (hu:A.units + 1 < cLine) (hk:cN knd s.heap x a) (h:Q (oN knd x) { s with toks:=s.toks + (x.1.length + 3) }) :
  wpAny (model prog w) A (pyHash (.ref a)) Q E s:=by
 have hT:=hk.typeIs
 obtain ⟨o,n,b,v,ho,_,hd,h1,h2⟩:=hk
 unfold pyHash
 first | unfold pyHashByItsType | skip
 first | refine wpAny_bind (wpAny_cRoomFor_or (.inr (by omega)) ?_) | skip
 refine wpAny_bind (wpAny_specialOf hT F.slot_tuple_hash.lookup ?_)
 show wpAny _ _ (if (some (Value.builtin "tuple.__hash__") == some Value.none)=true then _ else _) Q E s
 rw [if_neg (by rw [beq_builtin_none];exact Bool.false_ne_true)]
 refine wpAny_bind (wpAny_specialOf hT F.slot_tuple_hash.lookup ?_)
 show wpAny _ _ (callSpecialIfBoundUnlessNone? (.ref a) "__hash__" _ >>= _) Q E s
 refine wpAny_bind (wpAny_callSpecialIfBoundUnlessNone?_slot hT F.slot_tuple_hash (wpAny_call_entry F.slot_tuple_hash hT F.entry_tuple_hash ?_ (F.args_tuple_hash_1 _)))
 show wpAny _ _ (Builtin.Tuple.tupleItemsOf (.ref a) >>= _) _ _ s
 refine wpAny_bind (wpAny_tupleItemsOf ho hd ?_)
 refine wpAny_bind ?_
 rw [<- Array.forIn_toList]
 refine wpAny_forIn_list _
  (fun rest (r:Array Int) s'=>(rest=[.ref b,v]/\r.toList=[]/\s'=s)\/(rest=[v]/\r.toList=[tupleKeyHash knd x.1]/\s'={ s with toks:=s.toks + (x.1.length + 1) })\/(rest=[]/\r.toList=[tupleKeyHash knd x.1,knd.hash x.2]/\s'={ s with toks:=s.toks + (x.1.length + 1) + 1 }))
  _ ?_ ?_ _ _ (.inl ⟨rfl,rfl,rfl⟩)
 ·rintro y rest r s' (⟨hr,hb,rfl⟩ | ⟨hr,hb,rfl⟩ | ⟨hr,_⟩)
  ·cases hr
   refine wpAny_bind (wpAny_pyHash_tuple (by first | exact hu | (show A.units + 1 < cLine;exact hu)) h1 ?_)
   first
    | exact wpAny_pure (.inr (.inl ⟨rfl,by simp [hb],rfl⟩))
    | exact wpAny_bind (wpAny_pure (wpAny_pure (.inr (.inl ⟨rfl,by simp [hb],rfl⟩))))
  ·cases hr
   refine wpAny_bind (knd.pyHash h2 ?_)
   first
    | exact wpAny_pure (.inr (.inr ⟨rfl,by simp [hb],rfl⟩))
    | exact wpAny_bind (wpAny_pure (wpAny_pure (.inr (.inr ⟨rfl,by simp [hb],rfl⟩))))
  ·cases hr
 ·rintro r s' (⟨hr,_⟩ | ⟨hr,_⟩ | ⟨_,hb,rfl⟩)
  ·cases hr
  ·cases hr
  ·show wpAny _ _ (retInt (Builtin.Tuple.tupleHashOf r.toList)) _ _ _
   rw [hb]
   refine wpAny_ret_mkInt ?_
   show wpAny _ _ (if (decide (-(2:Int) ^ 63<=Builtin.Tuple.tupleHashOf [tupleKeyHash knd x.1,knd.hash x.2]) && decide (Builtin.Tuple.tupleHashOf [tupleKeyHash knd x.1,knd.hash x.2] < 2 ^ 63))=true then _ else _) Q E _
   unfold oN reduceHash at h
   by_cases hr:(decide (-(2:Int) ^ 63<=Builtin.Tuple.tupleHashOf [tupleKeyHash knd x.1,knd.hash x.2]) && decide (Builtin.Tuple.tupleHashOf [tupleKeyHash knd x.1,knd.hash x.2] < 2 ^ 63))=true
   ·rw [if_pos hr]
    rw [if_pos hr] at h
    exact wpAny_pure (by simpa [Nat.add_assoc] using h)
   ·rw [if_neg hr]
    rw [if_neg hr] at h
    exact wpAny_bind (wpAny_rule (wpAny_pure (by simpa [Nat.add_assoc] using h)))
theorem CS {x y:List K × K} {a b:Addr} {P:Fin->Shared->Prop} (hu:A.units < cLine) (hx:cN knd s.heap x a) (hy:cN knd s.heap y b) (h:P (.done (.ret (.bool (decide (x=y))))) s) :
  wpAny (model prog w) A (Builtin.«tuple.__eq__» ⟨[.ref a,.ref b],[]⟩) P E s:=by
 have hTb:=hy.typeIs
 obtain ⟨oa,na,a1,v1,hoa,_,hda,p1,q1⟩:=hx
 obtain ⟨ob,nb,a2,v2,hob,_,hdb,p2,q2⟩:=hy
 show wpAny _ _ (isInstance (.ref b) (.type "tuple") >>= _) _ _ s
 refine wpAny_bind (wpAny_isInstance hTb isSubtype_tuple_tuple ?_)
 simp only [Bool.not_true,Bool.false_eq_true,if_false]
 refine wpAny_bind (wpAny_tupleItemsOf hoa hda ?_)
 refine wpAny_bind (wpAny_tupleItemsOf hob hdb ?_)
 refine wpAny_bind ?_
 refine wpAny_forIn_list _
  (fun rest r s'=>r.1=none/\s'=s/\((rest=[(.ref a1,.ref a2),(v1,v2)])\/(rest=[(v1,v2)]/\x.1=y.1)\/(rest=[]/\x=y)))
  _ ?_ ?_ _ _ ⟨rfl,rfl,.inl rfl⟩
 ·rintro ⟨u,v⟩ rest r s' ⟨hr,rfl,hz | ⟨hz,e⟩ | ⟨hz,_⟩⟩
  ·cases hz
   refine wpAny_bind (wpAny_eqBool_tuple hu p1 p2 ?_)
   by_cases hk:x.1=y.1
   ·rw [decide_eq_true hk]
    simp only [Bool.not_true,Bool.false_eq_true,if_false]
    exact wpAny_pure ⟨rfl,rfl,by simp [hk]⟩
   ·rw [decide_eq_false hk]
    simp only [Bool.not_false,if_true]
    have hf:decide (x=y)=false:=decide_eq_false fun z=>hk (by rw [z])
    rw [hf] at h
    exact wpAny_bind (wpAny_pure (wpAny_pure (wpAny_pure h)))
  ·cases hz
   refine wpAny_bind (knd.eqBool (a:=x.2) (b:=y.2) q1 q2 ?_)
   by_cases hk:x.2=y.2
   ·rw [decide_eq_true hk]
    simp only [Bool.not_true,Bool.false_eq_true,if_false]
    exact wpAny_pure ⟨rfl,rfl,.inr (.inr ⟨trivial,Prod.ext e hk⟩)⟩
   ·rw [decide_eq_false hk]
    simp only [Bool.not_false,if_true]
    have hf:decide (x=y)=false:=decide_eq_false fun z=>hk (by rw [z])
    rw [hf] at h
    exact wpAny_bind (wpAny_pure (wpAny_pure (wpAny_pure h)))
  ·cases hz
 ·rintro ⟨r1,r2⟩ s' ⟨hr,rfl,hz | ⟨hz,_⟩ | ⟨_,e⟩⟩
  ·cases hz
  ·cases hz
  ·simp only at hr
   subst hr
   refine wpAny_pure ?_
   rw [decide_eq_true e] at h
   exact h
theorem tX {x y:List K × K} {a b:Addr} {Q:Bool->Shared->Prop} (hu:A.units + 1 < cLine) (hx:cN knd s.heap x a) (hy:cN knd s.heap y b) (h:Q (decide (x=y)) s) :
  wpAny (model prog w) A (eqBool (.ref a) (.ref b)) Q E s:=by
 unfold eqBool
 try with_reducible refine wpAny_holding ?_
 show wpAny _ _ (if (Value.ref a == Value.ref b)=true then _ else _) Q E s
 by_cases hab:(Value.ref a == Value.ref b)=true
 ·rw [if_pos hab]
  have e:a=b:=by have:=eq_of_beq hab;injection this
  subst e
  obtain rfl:=hx.inj hy
  exact wpAny_bind (wpAny_rule (wpAny_pure (by simpa using h)))
 ·rw [if_neg hab]
  exact wpAny_bind (wpAny_richCompare_same_room (op:=.Eq) hx.typeIs hy.typeIs F.slot_tuple_eq
   (wpAny_call_entry F.slot_tuple_eq hx.typeIs F.entry_tuple_eq (CS (by first | exact hu | (show A.units + 1 < cLine;exact hu)) hx hy ⟨_,rfl,(fun e=>nomatch e),wpAny_truthy_bool h⟩) (F.args_tuple_eq_2 _ _)) (by omega))
theorem pZ {x:List K × K} {a:Addr} {Q:Bool->Shared->Prop} (hk:cN knd s.heap x a) (h:Q true s):wpAny (model prog w) A (eqIsQuiet 8 (.ref a)) Q E s:=by
 have hT:=hk.typeIs
 obtain ⟨o,n,b,v,ho,_,hd,h1,h2⟩:=hk
 have inner:∀ {Q:Bool->Shared->Prop},Q true s->wpAny (model prog w) A (eqIsQuiet 7 (.ref b)) Q E s:=by
  intro Q h
  have hT:=h1.typeIs
  obtain ⟨o,items,n,ho,_,hd,hi⟩:=h1
  unfold eqIsQuiet
  refine wpAny_bind (wpAny_specialOf hT F.slot_tuple_eq.lookup ?_)
  show wpAny _ _ (isInstance (.ref b) (.type "tuple") >>= _) _ _ s
  refine wpAny_bind (wpAny_isInstance hT isSubtype_tuple_tuple ?_)
  simp only [Bool.not_true,Bool.false_eq_true,if_false]
  refine wpAny_bind (wpAny_seqItems ho hd ?_)
  refine wpAny_bind ?_
  show wpAny _ _ (forIn items _ _) _ _ s
  rw [<- Array.forIn_toList]
  refine wpAny_forIn_list _ (fun rest r s'=>r.1=none/\s'=s/\∀ v∈rest,carriedByValue v=true) _ ?_ ?_ _ _ ⟨rfl,rfl,hi.byValue⟩
  ·rintro v rest r s' ⟨hr,rfl,hall⟩
   rw [eqIsQuiet_byValue _ (hall v List.mem_cons_self)]
   refine wpAny_bind (wpAny_pure ?_)
   simp only [Bool.not_true,Bool.false_eq_true,if_false]
   exact wpAny_pure ⟨rfl,rfl,fun u hu'=>hall u (List.mem_cons_of_mem _ hu')⟩
  ·rintro ⟨r1,r2⟩ s' ⟨hr,rfl,_⟩
   simp only at hr
   subst hr
   exact wpAny_pure h
 unfold eqIsQuiet
 refine wpAny_bind (wpAny_specialOf hT F.slot_tuple_eq.lookup ?_)
 show wpAny _ _ (isInstance (.ref a) (.type "tuple") >>= _) _ _ s
 refine wpAny_bind (wpAny_isInstance hT isSubtype_tuple_tuple ?_)
 simp only [Bool.not_true,Bool.false_eq_true,if_false]
 refine wpAny_bind (wpAny_seqItems ho hd ?_)
 refine wpAny_bind ?_
 show wpAny _ _ (forIn #[Value.ref b,v] _ _) _ _ s
 rw [<- Array.forIn_toList]
 refine wpAny_forIn_list _ (fun rest r s'=>r.1=none/\s'=s/\(rest=[.ref b,v]\/rest=[v]\/rest=[])) _ ?_ ?_ _ _ ⟨rfl,rfl,.inl rfl⟩
 ·rintro u rest r s' ⟨hr,rfl,hz | hz | hz⟩
  ·cases hz
   refine wpAny_bind (inner ?_)
   simp only [Bool.not_true,Bool.false_eq_true,if_false]
   exact wpAny_pure ⟨rfl,rfl,by simp⟩
  ·cases hz
   rw [eqIsQuiet_byValue _ (knd.byValue _ _ h2)]
   refine wpAny_bind (wpAny_pure ?_)
   simp only [Bool.not_true,Bool.false_eq_true,if_false]
   exact wpAny_pure ⟨rfl,rfl,by simp⟩
  ·cases hz
 ·rintro ⟨r1,r2⟩ s' ⟨hr,rfl,_⟩
  simp only at hr
  subst hr
  exact wpAny_pure h
end
noncomputable def NO {prog:Program} {w:World} {K:Type} [DecidableEq K] (knd:KeyKind prog w K):HeapKind prog w (List K × K) where
 is:=cN knd
 hash:=oN knd
 draws:=fun x=>x.1.length + 3
 room:=fun A=>A.units + 1 < cLine
 inj:=fun hx hy=>hx.inj hy
 keeps:=fun x ho hd hs=>x.keeps ho hd hs
 pyHash:=fun hu hk h=>tV hu hk h
 eqBool:=fun hu hx hy h=>tX hu hx hy h
 quiet:=fun hk h=>pZ hk h
end PySem
set_option Elab.async false
namespace L2
open PySem PySem.Spec PyProof.Rows
abbrev Key:=Sum Int Str
noncomputable def QD:Key->Value->Bool
 | .inl k,v=>Value.isInt k v
 | .inr x,v=>Value.isStrOf x v
noncomputable def WN (w:World):Key->Int
 | .inl k=>hashInt k
 | .inr x=>hashStr w x
theorem dX:∀ {k:Key} {v:Value},QD k v=true->(∃ i t,k=Sum.inl i/\v=Value.int i t)\/(∃ x t,k=Sum.inr x/\v=Value.str x t)
 | .inl i,v,h=>by
  obtain ⟨t,e⟩:=Value.isInt_shape (k:=i) (v:=v) h
  exact .inl ⟨i,t,rfl,e⟩
 | .inr x,v,h=>by
  obtain ⟨t,e⟩:=Value.isStrOf_shape (x:=x) (v:=v) h
  exact .inr ⟨x,t,rfl,e⟩
theorem Uk (a b:Int):decide ((Sum.inl a:Key)=Sum.inl b)=(a == b):=by
 by_cases e:a=b
 ·subst e;simp
 ·have h:¬ (Sum.inl a:Key)=Sum.inl b:=fun q=>e (Sum.inl.inj q)
  rw [decide_eq_false h]
  exact (beq_eq_false_iff_ne.mpr e).symm
theorem SO (a b:Str):decide ((Sum.inr a:Key)=Sum.inr b)=decide (a=b):=by
 by_cases e:a=b
 ·subst e;simp
 ·have h:¬ (Sum.inr a:Key)=Sum.inr b:=fun q=>e (Sum.inr.inj q)
  rw [decide_eq_false h,decide_eq_false e]
theorem UJ (a:Int) (b:Str):decide ((Sum.inl a:Key)=Sum.inr b)=false:=decide_eq_false (fun q=>nomatch q)
theorem TL (a:Str) (b:Int):decide ((Sum.inr a:Key)=Sum.inl b)=false:=decide_eq_false (fun q=>nomatch q)
noncomputable def tS (prog:Program) (w:World):PySem.KeyKind prog w Key where
 is:=QD
 hash:=WN w
 inj:=fun v a b ha hb=>by
  rcases dX ha with ⟨i,t,rfl,rfl⟩ | ⟨x,t,rfl,rfl⟩
  ·rcases dX hb with ⟨j,u,rfl,e⟩ | ⟨y,u,rfl,e⟩
   ·injection e with e1 _;rw [e1]
   ·exact nomatch e
  ·rcases dX hb with ⟨j,u,rfl,e⟩ | ⟨y,u,rfl,e⟩
   ·exact nomatch e
   ·injection e with e1 _;rw [e1]
 byValue:=fun k v h=>by
  rcases dX h with ⟨i,t,rfl,rfl⟩ | ⟨x,t,rfl,rfl⟩ <;> rfl
 pyHash:=fun hv h=>by
  rcases dX hv with ⟨i,t,rfl,rfl⟩ | ⟨x,t,rfl,rfl⟩
  ·exact wpAny_pyHash_int h
  ·exact wpAny_pyHash_str h
 eqBool:=fun hu hv h=>by
  rcases dX hu with ⟨i,t,rfl,rfl⟩ | ⟨x,t,rfl,rfl⟩
  ·rcases dX hv with ⟨j,u,rfl,rfl⟩ | ⟨y,u,rfl,rfl⟩
   ·rw [Uk] at h;exact wpAny_eqBool_int h
   ·rw [UJ] at h;exact SeqAt.EqAt.int_str i t y u _ _ _ _ h
  ·rcases dX hv with ⟨j,u,rfl,rfl⟩ | ⟨y,u,rfl,rfl⟩
   ·rw [TL] at h;exact SeqAt.EqAt.str_int x t j u _ _ _ _ h
   ·rw [SO] at h;exact wpAny_eqBool_str h
 «strs»:=fun k x t v h=>by
  rcases dX h with ⟨i,u,rfl,e⟩ | ⟨y,u,rfl,e⟩
  ·exact nomatch e
  ·injection e with e1 _
   subst e1
   cases v <;> rfl
inductive V where
 | non | bl (b:Bool) | int (i:Int) | str (x:Str) | byt (b:Array UInt8) | flt (b:UInt64) | ref (a:Addr) | ty (n:String)
 deriving DecidableEq
noncomputable def RelV:V->Value->Prop
 | .non,u=>u=Value.none
 | .bl b,u=>u=Value.bool b
 | .int i,u=>∃ t,u=Value.int i t
 | .str x,u=>∃ t,u=Value.str x t
 | .byt b,u=>∃ t,u=Value.bytes b t
 | .flt b,u=>∃ t,u=Value.float b t
 | .ref a,u=>u=Value.ref a
 | .ty n,u=>u=Value.type n
abbrev Vals:List V->List Value->Prop:=Paired RelV
theorem Vals.length {xs:List V} {us:List Value} (r:Vals xs us):xs.length=us.length:=Paired.length r
theorem Vals.get:∀ {xs:List V} {us:List Value} {i:Nat} {x:V},Vals xs us->xs[i]?=some x->∃ u,us[i]?=some u/\RelV x u
 | _,_,_,_,.nil,e=>by simp at e
 | _,_,0,_,.cons r _,e=>by simp at e;subst e;exact ⟨_,rfl,r⟩
 | _,_,i + 1,x,.cons _ t,e=>by
  obtain ⟨u,h1,h2⟩:=Vals.get (i:=i) (x:=x) t (by simpa using e)
  exact ⟨u,by simpa using h1,h2⟩
theorem Vals.set {x:V} {u:Value} (r:RelV x u):∀ {xs:List V} {us:List Value} (i:Nat),Vals xs us->Vals (xs.set i x) (us.set i u)
 | _,_,_,.nil=>.nil
 | _,_,0,.cons _ t=>.cons r t
 | _,_,i + 1,.cons q t=>.cons q (Vals.set r i t)
theorem Vals.append:∀ {xs ys:List V} {us ws:List Value},Vals xs us->Vals ys ws->Vals (xs++ys) (us++ws)
 | _,_,_,_,.nil,s=>s
 | _,_,_,_,.cons r t,s=>.cons r (Vals.append t s)
theorem Vals.take:∀ {xs:List V} {us:List Value} (n:Nat),Vals xs us->Vals (xs.take n) (us.take n)
 | _,_,0,_=>.nil
 | _,_,_ + 1,.nil=>.nil
 | _,_,n + 1,.cons r t=>.cons r (Vals.take n t)
theorem Vals.drop:∀ {xs:List V} {us:List Value} (n:Nat),Vals xs us->Vals (xs.drop n) (us.drop n)
 | _,_,0,r=>r
 | _,_,_ + 1,.nil=>.nil
 | _,_,n + 1,.cons _ t=>Vals.drop n t
noncomputable def Cu:Option V->Option Value->Prop
 | some v,some u=>RelV v u
 | none,none=>True
 | _,_=>False
noncomputable def KV {κ:Type}:List (κ × V)->List (κ × Value)->Prop:=Paired fun (p:κ × V) (q:κ × Value)=>p.1=q.1/\RelV p.2 q.2
noncomputable def kV:Key->V
 | .inl i=>.int i
 | .inr x=>.str x
inductive HO where
  | lst (xs:List V)
  | tup (xs:List V)
  | dK (kvs:List (Key × V)) | dT (kvs:List (List Key × V)) | dN (kvs:List ((List Key × Key) × V))
  | set (S:Int->Bool) (n:Nat)
  | ins (C dx:Addr) (fs:List (Str × V))
  | own (x:Addr)
  | xd (fs:List (Str × V))
  | met (f x:Addr)
  | rng (lo hi:Int)
  | frz (o:Obj) (u:HO)
  | tbl (ps:Array Value)
  | ext (φ:Heap->Prop)
abbrev Hp:=Addr->Option HO
noncomputable def upd (H:Hp) (a:Addr) (o:HO):Hp:=fun b=>if b=a then some o else H b
theorem b8 {H:Hp} {a:Addr} {o:HO}:upd H a o a=some o:=by unfold upd;rw [if_pos rfl]
theorem bD {H:Hp} {a b:Addr} {o:HO} (h:b≠a):upd H a o b=H b:=by unfold upd;rw [if_neg h]
theorem W7 {H:Hp} {a b:Addr} {o u:HO} (h:H a=some o) (h':H b=some u) (d:o≠u):a≠b:=by
 intro e;subst e;rw [h] at h';exact d (Option.some.inj h')
theorem bJ {H:Hp} {a b:Addr} {o:HO} (h:H a=some o) (h':H b=none):a≠b:=by
 intro e;subst e;rw [h] at h';cases h'
noncomputable def gW (h:Heap) (a:Addr) (items:Array Value):Prop:=∃ o,h.get? a=some o/\o.cls=.type "tuple"/\o.dict=none/\∃ n,o.data=.seq items n
theorem gW.tup {h:Heap} {a:Addr} {items:Array Value} (x:gW h a items):IsTup h a items:=let ⟨o,h1,h2,_,h3⟩:=x;⟨o,h1,h2,h3⟩
theorem gW.new (h:Heap) (items:Array Value):gW (h.push { cls:=.type "tuple",data:=.seq items }) h.objs.size items:=⟨_,Heap.get?_push_size _ rfl,rfl,rfl,_,rfl⟩
section
variable (P:Program) (w:World)
noncomputable def cW (H:Hp) (h:Heap) (a:Addr):HO->Prop
 | .lst xs=>xs.length<=sizeLine/\∃ (its:List Value) (n:Nat),Vals xs its/\h.get? a=some { cls:=.type "list",data:=.seq its.toArray n }
 | .tup xs=>xs.length<=sizeLine/\∃ its:List Value,Vals xs its/\gW h a its.toArray
 | .dK kvs=>kvs.length<=sizeLine/\(a == sysModules)=false/\∃ vs,KV kvs vs/\h.DictOf (tS P w) a vs
 | .dT kvs=>kvs.length<=sizeLine/\(a == sysModules)=false/\∃ xs:List (List Key × Addr × Value),
   Paired (fun (p:List Key × V) (q:List Key × Addr × Value)=>p.1=q.1/\H q.2.1=some (.tup (p.1.map kV))/\RelV p.2 q.2.2) kvs xs /\
   ∃ o es ep,h.get? a=some o/\o.ExactDict/\o.data=.dict es ep/\es.toList=xs.map (entryOfKey (tupleKind (tS P w)))/\(xs.map (·.1)).Nodup
 | .dN kvs=>kvs.length<=sizeLine/\(a == sysModules)=false/\∃ xs:List ((List Key × Key) × Addr × Value),
   Paired (fun (p:(List Key × Key) × V) (q:(List Key × Key) × Addr × Value)=>p.1=q.1/\(∃ c,H q.2.1=some (.tup [.ref c,kV p.1.2])/\H c=some (.tup (p.1.1.map kV)))/\RelV p.2 q.2.2) kvs xs /\
   ∃ o es ep,h.get? a=some o/\o.ExactDict/\o.data=.dict es ep/\es.toList=xs.map (entryOfKey (NO (tS P w)))/\(xs.map (·.1)).Nodup
 | .set S n=>h.SetOf (intKind P w) a S n
 | .ins C dx fs=>H dx=some (.own a)/\fs.length<=1000/\dx≠a/\h.get? a=some (PySem.W.instObj C dx) /\
   ∃ mA,h.Ns1 dx mA/\(∀ f,Cu (fs.lookup f) (mA f))/\PySem.Within mA (fs.map (·.1))
 | .own _=>∃ o,h.get? a=some o
 | .xd fs=>∃ mA,h.Ns1 a mA/\∀ f,Cu (fs.lookup f) (mA f)
 | .rng lo hi=>∃ t u v,h.get? a=some { cls:=.type "range",data:=.fields #[.int lo t,.int hi u,.int 1 v] }
 | .frz o u=>h.get? a=some o/\cW H h a u
 | .tbl ps=>h.get? a=some { cls:=.none,data:=.fields ps }
 | .met f x=>h.get? a=some (PySem.W.methodObj (.ref f) (.ref x))
 | .ext φ=>φ h/\(∃ o,h.get? a=some o)/\∀ h1 h2:Heap,φ h1->(∀ o,h1.get? a=some o->h2.get? a=some o)->φ h2
noncomputable def dR (H:Hp) (h:Heap):Prop:=∀ a o,H a=some o->cW P w H h a o
end
section
variable {P:Program} {w:World} {H H':Hp} {h h':Heap} {a:Addr} {o:HO}
theorem cW.lt (x:cW P w H h a o):a < h.objs.size:=by
 cases o with
 | lst xs=>obtain ⟨_,_,_,_,e⟩:=x;exact Heap.lt_size e
 | tup xs=>obtain ⟨_,_,_,p⟩:=x;exact IsTup.lt (gW.tup p)
 | dK kvs=>obtain ⟨_,_,_,_,o,_,_,e,_⟩:=x;exact Heap.lt_size e
 | dT kvs=>obtain ⟨_,_,_,_,o,_,_,e,_⟩:=x;exact Heap.lt_size e
 | dN kvs=>obtain ⟨_,_,_,_,o,_,_,e,_⟩:=x;exact Heap.lt_size e
 | set S n=>obtain ⟨o,_,_,_,e,_⟩:=x;exact Heap.lt_size e
 | ins C dx fs=>obtain ⟨_,_,_,e,_⟩:=x;exact Heap.lt_size e
 | own y=>obtain ⟨_,e⟩:=x;exact Heap.lt_size e
 | xd fs=>obtain ⟨_,⟨_,_,_,e,_⟩,_⟩:=x;exact Heap.lt_size e
 | rng lo hi=>obtain ⟨_,_,_,e⟩:=x;exact Heap.lt_size e
 | frz ob u=>obtain ⟨e,_⟩:=x;exact Heap.lt_size e
 | tbl ps=>exact Heap.lt_size (show h.get? a=some _ from x)
 | met f y=>exact Heap.lt_size (show h.get? a=some _ from x)
 | ext φ=>obtain ⟨_,⟨_,e⟩,_⟩:=x;exact Heap.lt_size e
theorem Paired.mapP {α β:Type} {F G:α->β->Prop}:∀ {l₁:List α} {l₂:List β},Paired F l₁ l₂->(∀ a b,F a b->G a b)->Paired G l₁ l₂
 | _,_,.nil,_=>.nil
 | _,_,.cons r t,f=>.cons (f _ _ r) (Paired.mapP t f)
theorem cW.stay (x:cW P w H h a o) (k:∀ b u,(b=a\/H b=some (.own a))->h.get? b=some u->h'.get? b=some u)
  (ho:∀ b,H b=some (.own a)->H' b=some (.own a)) (ht:∀ b xs,H b=some (.tup xs)->H' b=some (.tup xs)):cW P w H' h' a o:=by
 induction o with
 | lst xs=>obtain ⟨z,its,n,r,e⟩:=x;exact ⟨z,its,n,r,k _ _ (.inl rfl) e⟩
 | tup xs=>obtain ⟨z,its,r,ob,e,c⟩:=x;exact ⟨z,its,r,ob,k _ _ (.inl rfl) e,c⟩
 | dK kvs=>obtain ⟨z,y,vs,r,ob,es,ep,e,c⟩:=x;exact ⟨z,y,vs,r,ob,es,ep,k _ _ (.inl rfl) e,c⟩
 | dT kvs =>
  obtain ⟨z,y,xs,r,ob,es,ep,e,c⟩:=x
  exact ⟨z,y,xs,Paired.mapP r fun p q z=>⟨z.1,ht _ _ z.2.1,z.2.2⟩,ob,es,ep,k _ _ (.inl rfl) e,c⟩
 | dN kvs =>
  obtain ⟨z,y,xs,r,ob,es,ep,e,c⟩:=x
  exact ⟨z,y,xs,Paired.mapP r fun p q z=>⟨z.1,let ⟨c,h1,h2⟩:=z.2.1;⟨c,ht _ _ h1,ht _ _ h2⟩,z.2.2⟩,ob,es,ep,k _ _ (.inl rfl) e,c⟩
 | set S n=>obtain ⟨ob,es,ep,t,e,c⟩:=x;exact ⟨ob,es,ep,t,k _ _ (.inl rfl) e,c⟩
 | ins C dx fs =>
  obtain ⟨d,z,ne,e,mA,⟨od,es,ep,e2,c⟩,r⟩:=x
  exact ⟨ho _ d,z,ne,k _ _ (.inl rfl) e,mA,⟨od,es,ep,k _ _ (.inr d) e2,c⟩,r⟩
 | own y=>obtain ⟨ob,e⟩:=x;exact ⟨ob,k _ _ (.inl rfl) e⟩
 | xd fs=>obtain ⟨mA,⟨od,es,ep,e,c⟩,r⟩:=x;exact ⟨mA,⟨od,es,ep,k _ _ (.inl rfl) e,c⟩,r⟩
 | rng lo hi=>obtain ⟨t,u,v,e⟩:=x;exact ⟨t,u,v,k _ _ (.inl rfl) e⟩
 | frz ob u ih=>obtain ⟨e,q⟩:=x;exact ⟨k _ _ (.inl rfl) e,ih q⟩
 | tbl ps =>
  have e:h.get? a=some { cls:=.none,data:=.fields ps }:=x
  show h'.get? a=some { cls:=.none,data:=.fields ps }
  exact k a _ (.inl rfl) e
 | met f y =>
  have e:h.get? a=some (PySem.W.methodObj (.ref f) (.ref y)):=x
  show h'.get? a=some (PySem.W.methodObj (.ref f) (.ref y))
  exact k a _ (.inl rfl) e
 | ext φ=>obtain ⟨p,⟨o,e⟩,st⟩:=x;exact ⟨st _ _ p fun o q=>k _ _ (.inl rfl) q,⟨o,k _ _ (.inl rfl) e⟩,st⟩
theorem dR.lt (x:dR P w H h) (e:H a=some o):a < h.objs.size:=(x a o e).lt
theorem dR.fresh (x:dR P w H h) (e:h.objs.size<=a):H a=none:=by
 cases q:H a with
 | none=>rfl
 | some u=>exact absurd (Nat.lt_of_lt_of_le (x.lt q) e) (Nat.lt_irrefl _)
theorem dR.kept (x:dR P w H h) (k:∀ b u,h.get? b=some u->h'.get? b=some u):dR P w H h':=fun a o e =>
 (x a o e).stay (fun b u _ q=>k b u q) (fun _ q=>q) fun _ _ q=>q
theorem dR.laid (x:dR P w H h) (k:∀ b u,h.get? b=some u->h'.get? b=some u) (hp:h.objs.size<=a) (new:cW P w (upd H a o) h' a o):dR P w (upd H a o) h':=fun b u e=>by
 have hn:=x.fresh hp
 by_cases hb:b=a
 ·subst hb;rw [b8] at e;cases e;exact new
 ·rw [bD hb] at e
  exact (x b u e).stay (fun c v _ q=>k c v q) (fun c q=>by rw [bD (bJ q hn)];exact q) fun c xs q=>by rw [bD (bJ q hn)];exact q
end
noncomputable def Rd (H:Hp) (a:Addr) (u:HO):Prop:=H a=some u\/∃ o,H a=some (.frz o u)
theorem Rd.ok {P:Program} {w:World} {H:Hp} {h:Heap} {a:Addr} {u:HO} (r:Rd H a u) (x:dR P w H h):cW P w H h a u:=by
 rcases r with r | ⟨o,r⟩
 ·exact x a u r
 ·obtain ⟨_,q⟩:=x a _ r
  exact q
noncomputable def K8:Option HO->Prop
 | some (.lst _)=>True
 | some (.dK _)=>True
 | some (.dT _)=>True
 | some (.dN _)=>True
 | some (.set _ _)=>True
 | some (.ins _ _ _)=>True
 | some (.ext _)=>True
 | _=>False
section
variable {P:Program} {w:World} {H:Hp} {h h':Heap} {x e:Addr} {o':HO}
theorem dR.write (ok:dR P w H h) (mu:K8 (H x)) (he:e=x\/H e=some (.own x)) (k:∀ b u,b≠e->h.get? b=some u->h'.get? b=some u) (heo:∃ u,h'.get? e=some u)
  (new:cW P w (upd H x o') h' x o'):dR P w (upd H x o') h':=fun b u q=>by
 have nown:∀ c y,H c=some (.own y)->c≠x:=fun c y r z=>by subst z;rw [r] at mu;exact mu
 have ntup:∀ c xs,H c=some (.tup xs)->c≠x:=fun c xs r z=>by subst z;rw [r] at mu;exact mu
 by_cases hb:b=x
 ·subst hb;rw [b8] at q;cases q;exact new
 ·rw [bD hb] at q
  by_cases hbe:b=e
  ·have q':H b=some (.own x):=by
    rcases he with z | z
    ·exact absurd (hbe.trans z) hb
    ·rw [hbe];exact z
   rw [q] at q';cases q'
   obtain ⟨v,hv⟩:=heo
   exact ⟨v,by rw [hbe];exact hv⟩
  ·refine (ok b u q).stay (fun c v hc r=>k c v ?_ r) (fun c r=>by rw [bD (nown c b r)];exact r) fun c xs r=>by rw [bD (ntup c xs r)];exact r
   rcases hc with rfl | hc
   ·exact hbe
   ·rintro rfl
    rcases he with z | z
    ·exact nown c b hc z
    ·rw [hc] at z;cases z;exact hb rfl
end
structure Un (fs ex:List Addr) (H H':Hp) (h h':Heap):Prop where
 keep:∀ b o,h.get? b=some o->H b=none->b ∉ fs->b ∉ ex->h'.get? b=some o
 slot:∀ b o,h.get? b=some o->H b=none->b∈fs->b ∉ ex->∃ sl,h'.get? b=some { o with slots:=sl }
 free:∀ b o,h.get? b=some o->H b=none->b ∉ ex->H' b=none
 there:∀ b o,h.get? b=some o->b ∉ ex->∃ o',h'.get? b=some o'
 tups:∀ b xs,H b=some (.tup xs)->H' b=some (.tup xs)
 frzs:∀ b o u,H b=some (.frz o u)->H' b=some (.frz o u)
 tbls:∀ b ps,H b=some (.tbl ps)->∃ more,H' b=some (.tbl (ps++more))
section
variable {fs fs' ex ex':List Addr} {H H1 H2:Hp} {h h1 h2 h':Heap} {a x e:Addr} {o:HO}
theorem Un.any (u:Un fs ex H H1 h h1) {b:Addr} {ob:Obj} (q:h.get? b=some ob) (n:H b=none) (hx:b ∉ ex):∃ sl,h1.get? b=some { ob with slots:=sl }:=by
 by_cases hb:b∈fs
 ·exact u.slot b ob q n hb hx
 ·exact ⟨ob.slots,u.keep b ob q n hb hx⟩
theorem Un.kept (k:∀ b u,h.get? b=some u->h'.get? b=some u):Un fs ex H H h h' :=
 ⟨fun b ob q _ _ _=>k b ob q,fun b ob q _ _ _=>⟨ob.slots,k b ob q⟩,fun _ _ _ n _=>n,fun b ob q _=>⟨ob,k b ob q⟩,fun _ _ q=>q,fun _ _ _ q=>q,fun _ ps q=>⟨#[],by rw [q];simp⟩⟩
theorem Un.refl:Un fs ex H H h h:=Un.kept fun _ _ q=>q
theorem Un.laid (k:∀ b u,h.get? b=some u->h'.get? b=some u) (hp:h.objs.size<=a) (hn:H a=none):Un fs ex H (upd H a o) h h' where
 keep:=fun b u q _ _ _=>k b u q
 slot:=fun b u q _ _ _=>⟨u.slots,k b u q⟩
 free:=fun b u q n _=>by rw [bD (Nat.ne_of_lt (Nat.lt_of_lt_of_le (Heap.lt_size q) hp))];exact n
 there:=fun b u q _=>⟨u,k b u q⟩
 tups:=fun b xs q=>by rw [bD (bJ q hn)];exact q
 frzs:=fun b u xs q=>by rw [bD (bJ q hn)];exact q
 tbls:=fun b ps q=>⟨#[],by rw [bD (bJ q hn),q];simp⟩
theorem Un.write (mu:K8 (H x)) (he:e=x\/H e=some (.own x)) (k:∀ b u,b≠e->h.get? b=some u->h'.get? b=some u) (heo:∃ u,h'.get? e=some u):Un fs ex H (upd H x o) h h':=by
 have hx:∀ b,H b=none->b≠x:=fun b n z=>by subst z;rw [n] at mu;exact mu
 have hb:∀ b,H b=none->b≠e:=fun b n z=>by
  subst z
  rcases he with r | r
  ·exact hx b n r
  ·rw [n] at r;cases r
 have hm:∀ b u,H b=some u->¬ K8 (some u)->b≠x:=fun b u q nm z=>by subst z;rw [q] at mu;exact nm mu
 refine ⟨fun b u q n _ _=>k b u (hb b n) q,fun b u q n _ _=>⟨u.slots,k b u (hb b n) q⟩,fun b u q n _=>by rw [bD (hx b n)];exact n,fun b u q _=>?_,
  fun b xs q=>by rw [bD (hm b _ q fun z=>z)];exact q,fun b u xs q=>by rw [bD (hm b _ q fun z=>z)];exact q,fun b ps q=>⟨#[],by rw [bD (hm b _ q fun z=>z),q];simp⟩⟩
 by_cases hbe:b=e
 ·subst hbe;exact heo
 ·exact ⟨u,k b u hbe q⟩
end
noncomputable def QC (h:Heap) (H:Hp):List Addr:=(List.range h.objs.size).filter fun a=>(H a).isSome
noncomputable def qP (h:Heap) (H:Hp):Heap:=PySem.W.hideAll h (QC h H)
theorem My (h:Heap) (H:Hp):(qP h H).objs.size=h.objs.size:=PySem.W.hideAll_size _ _
theorem OM {h:Heap} {H:Hp} {b:Addr} {o:Obj} (e:h.get? b=some o) (n:H b=none):(qP h H).get? b=some o :=
 PySem.W.hideAll_get _ e fun hm=>by
  have q:(H b).isSome=true:=(List.mem_filter.mp hm).2
  rw [n] at q;simp at q
theorem QJ {h:Heap} {H:Hp} {b:Addr} {o:Obj} (e:(qP h H).get? b=some o):h.get? b=some o/\H b=none:=by
 have e':h.get? b=some o:=PySem.W.of_hideAll (QC h H) e
 refine ⟨e',?_⟩
 cases q:H b with
 | none=>rfl
 | some x =>
  have hm:b∈QC h H:=List.mem_filter.mpr ⟨List.mem_range.mpr (Heap.lt_size e'),by simp [q]⟩
  have z:(qP h H).get? b=none:=PySem.W.hideAll_none (QC h H) hm
  rw [z] at e;cases e
structure Mod (K:PySem.W.Frag) (mg:Str->Option Value) (base:Heap):Prop where
 kin:K.In base
 glob:base.Ns mainGlobals mg
 blt:∃ mb,base.Ns builtinsNs mb/\∀ x:Str,x≠"__name__"->mb x=bootBuiltins x
 nolimit:base.NoLimit
structure Cx where
 prog:Program
 w:World
 K:PySem.W.Frag
 mg:Str->Option Value
 base:Heap
 A:Around
 N:List Str
 s₀:Shared
 H₀:Hp
 env:Env
 outer:List Env
 stack:List Env
 ex:List Addr
 fn:Str->Bool
 calm:Bool
 pn:List (Addr × Obj)
 xe:Value->Shared->Prop
noncomputable def kL (l:List Env):List Addr:=l.filterMap (·.frame)
abbrev Cx.fs (X:Cx):List Addr:=kL X.outer
noncomputable def GO (sc:Scope) (x:Str):Prop:=sc.names.lookup x=some .local\/sc.names.lookup x=some .cell\/sc.names.lookup x=some .free
noncomputable def Loc (sc:Scope) (x:Str):Prop:=sc.names.lookup x=some .local\/sc.names.lookup x=some .cell
noncomputable def Look (env:Env) (h:Heap) (m:Str->Option Value) (x:Str) (u:Value):Prop :=
 (env.kindOf x=some .local/\m x=some u)\/((env.kindOf x=some .cell\/env.kindOf x=some .free)/\∃ c,env.cells.lookup x=some c/\h.IsCell c (some u))
structure Cx.Ok (X:Cx):Prop where
 mod:Mod X.K X.mg X.base
 kind:X.env.scope.kind=.function
 glob:X.env.globals=mainGlobals
 blt:X.env.builtins=builtinsNs
 above:X.s₀.heap.objs.size<=X.env.locals
 inj:∀ x y c,X.env.cells.lookup x=some c->X.env.cells.lookup y=some c->x=y
 has:∀ x,(X.env.kindOf x=some .cell\/X.env.kindOf x=some .free)->∃ c,X.env.cells.lookup x=some c
 cab:∀ x c,X.fn x=true->X.env.cells.lookup x=some c->X.s₀.heap.objs.size<=c
 hd:X.calm=true->X.A.handled=none
 frames:X.A.frames=some X.stack
 stk:X.stack=X.outer\/(X.stack=X.env :: X.outer/\X.env.frame=some X.env.locals)
 exf:∀ b∈X.ex,b≠X.env.locals/\∀ x c,X.env.cells.lookup x=some c->c≠b
 bs:∀ b o,X.base.get? b=some o->X.s₀.heap.get? b=some o/\X.H₀ b=none
 bsz:X.base.objs.size<=X.s₀.heap.objs.size
 noex:∀ b o,X.base.get? b=some o->b ∉ X.ex
 exfs:∀ b∈X.ex,b ∉ X.fs
 funs:X.s₀.heap.FunFrames X.base X.outer
 frf:∀ b∈X.fs,X.H₀ b=none
structure Inv (X:Cx) (pins:List (Addr × Obj)) (σ:List (Option V)) (H:Hp) (s:Shared):Prop where
 ok:X.Ok
 os:s.os=X.s₀.os
 bare:AllBare s.gens
 base:Un X.fs X.ex X.H₀ H X.s₀.heap s.heap
 loc:∃ m,s.heap.Ns X.env.locals m/\∀ (i:Nat) (x:Str) (v:V),X.N[i]?=some x->σ[i]?=some (some v)->GO X.env.scope x->∃ u,RelV v u/\Look X.env s.heap m x u
 cell:∀ x c,X.env.cells.lookup x=some c->∃ v,s.heap.IsCell c v
 free:H X.env.locals=none
 freeC:∀ x c,X.env.cells.lookup x=some c->H c=none
 pin:∀ p∈X.pn++pins,s.heap.get? p.1=some p.2/\H p.1=none/\p.1≠X.env.locals/\p.1 ∉ X.fs/\∀ v,p.2.data≠.cell v
 hok:dR X.prog X.w H s.heap
 len:σ.length=X.N.length
section
variable {X:Cx} {pins:List (Addr × Obj)} {σ:List (Option V)} {H H':Hp} {s:Shared} {h':Heap}
theorem Cx.Ok.nofr (ok:X.Ok) {b:Addr} {o:Obj} (e:X.base.get? b=some o):b ∉ X.fs:=fun hb=>by
 have:=(ok.funs.mem hb).1
 rw [e] at this;cases this
theorem Inv.bs (I:Inv X pins σ H s):∀ b o,X.base.get? b=some o->s.heap.get? b=some o/\H b=none:=fun b o e =>
 ⟨I.base.keep b o (I.ok.bs b o e).1 (I.ok.bs b o e).2 (I.ok.nofr e) (I.ok.noex b o e),I.base.free b o (I.ok.bs b o e).1 (I.ok.bs b o e).2 (I.ok.noex b o e)⟩
theorem Inv.bk (I:Inv X pins σ H s):∀ b o,X.base.get? b=some o->s.heap.get? b=some o:=fun b o e=>(I.bs b o e).1
theorem Inv.mod (I:Inv X pins σ H s):Mod X.K X.mg X.base:=I.ok.mod
theorem Inv.kIn (I:Inv X pins σ H s):X.K.In s.heap:=I.ok.mod.kin.keeps I.bk
theorem Inv.fr (I:Inv X pins σ H s):∃ m,Fr X.base X.env.locals s.heap m :=
 let ⟨m,hn,_⟩:=I.loc
 ⟨m,hn,I.bk,Nat.le_trans I.ok.bsz I.ok.above⟩
theorem Inv.lt (I:Inv X pins σ H s):X.env.locals < s.heap.objs.size:=let ⟨_,hn,_⟩:=I.loc;hn.lt
theorem Inv.sz (I:Inv X pins σ H s):X.s₀.heap.objs.size<=s.heap.objs.size:=Nat.le_trans I.ok.above (Nat.le_of_lt I.lt)
theorem Inv.nofs (I:Inv X pins σ H s) {a:Addr} (h:s.heap.objs.size<=a):a ∉ X.fs:=fun hb=>by
 obtain ⟨_,o,ho,_⟩:=I.ok.funs.mem hb
 exact absurd (Nat.lt_of_lt_of_le (Heap.lt_size ho) (Nat.le_trans I.sz h)) (Nat.lt_irrefl _)
theorem Inv.cne (I:Inv X pins σ H s):∀ x c,X.env.cells.lookup x=some c->c≠X.env.locals:=fun x c e z=>by
 obtain ⟨v,o,ho,hd⟩:=I.cell x c e
 obtain ⟨m,⟨o',es,ep,ho',hd',_⟩,_⟩:=I.loc
 rw [z,ho'] at ho;cases ho;rw [hd'] at hd;cases hd
theorem Inv.funs (I:Inv X pins σ H s):s.heap.FunFrames X.base X.outer:=by
 have all:∀ (l:List Env),(∀ b∈kL l,b∈X.fs)->X.s₀.heap.FunFrames X.base l->s.heap.FunFrames X.base l:=by
  intro l
  induction l with
  | nil=>intro _ _;trivial
  | cons env r ih =>
   intro hs hl
   obtain ⟨hk,⟨L,o,hf,hn,ho,hd⟩,hr⟩:=hl
   have hL:L∈X.fs:=hs L (by unfold kL;rw [List.filterMap_cons,hf];exact List.mem_cons_self)
   obtain ⟨sl,e⟩:=I.base.slot L o ho (I.ok.frf L hL) hL fun z=>I.ok.exfs L z hL
   exact ⟨hk,⟨L,_,hf,hn,e,hd⟩,ih (fun b hb=>hs b (by unfold kL;rw [List.filterMap_cons,hf];exact List.mem_cons_of_mem _ hb)) hr⟩
 exact all X.outer (fun _ hb=>hb) I.ok.funs
theorem Inv.stack (I:Inv X pins σ H s):s.heap.FunFrames X.base X.stack:=by
 rcases I.ok.stk with e | ⟨e,hf⟩
 ·rw [e];exact I.funs
 ·rw [e]
  obtain ⟨m,hn,_⟩:=I.loc
  refine .cons (by rw [I.ok.kind];decide) hf hn ?_ I.funs
  exact Heap.get?_none_of_le (Nat.le_trans I.ok.bsz I.ok.above)
theorem Inv.stkSub (I:Inv X pins σ H s):∀ b∈kL X.stack,b∈X.env.locals :: X.fs:=fun b hb=>by
 rcases I.ok.stk with e | ⟨e,hf⟩
 ·rw [e] at hb;exact List.mem_cons_of_mem _ hb
 ·rw [e] at hb
  unfold kL at hb
  rw [List.filterMap_cons,hf] at hb
  exact hb
theorem Inv.stkFree (I:Inv X pins σ H s):∀ b∈kL X.stack,H b=none:=fun b hb=>by
 rcases List.mem_cons.mp (I.stkSub b hb) with e | hb
 ·rw [e];exact I.free
 ·obtain ⟨_,o,ho,_⟩:=I.ok.funs.mem hb
  exact I.base.free b o ho (I.ok.frf b hb) fun z=>I.ok.exfs b z hb
theorem Inv.step {g':Array GenState} {t':Nat} {d':Drawn} {ch:List Addr} (I:Inv X pins σ H s)
  (hch:∀ b∈ch,(b∈X.ex\/X.s₀.heap.objs.size<=b)/\b≠X.env.locals/\(∀ x c,X.env.cells.lookup x=some c->c≠b)/\∀ p∈X.pn++pins,p.1≠b)
  (keep:∀ b o,b≠X.env.locals->b ∉ X.fs->b ∉ ch->s.heap.get? b=some o->H b=none->h'.get? b=some o)
  (slot:∀ b o,b≠X.env.locals->b∈X.fs->b ∉ ch->s.heap.get? b=some o->H b=none->∃ sl,h'.get? b=some { o with slots:=sl }) (free:∀ b o,b ∉ ch->s.heap.get? b=some o->H b=none->H' b=none)
  (there:∀ b o,b ∉ ch->s.heap.get? b=some o->∃ o',h'.get? b=some o')
  (tups:∀ b xs,H b=some (.tup xs)->H' b=some (.tup xs)) (frzs:∀ b o u,H b=some (.frz o u)->H' b=some (.frz o u)) (tbls:∀ b ps,H b=some (.tbl ps)->∃ more,H' b=some (.tbl (ps++more)))
  (ns:∀ m,s.heap.Ns X.env.locals m->h'.Ns X.env.locals m) (hok:dR X.prog X.w H' h') (hg:AllBare g') :
  Inv X pins σ H' { s with heap:=h',gens:=g',drawn:=d',toks:=t' }:=by
 have neL:∀ b o,X.s₀.heap.get? b=some o->b≠X.env.locals:=fun b o e=>Nat.ne_of_lt (Nat.lt_of_lt_of_le (Heap.lt_size e) I.ok.above)
 have neC:∀ b o,X.s₀.heap.get? b=some o->b ∉ X.ex->b ∉ ch:=fun b o e hx hb=>by
  rcases (hch b hb).1 with z | z
  ·exact hx z
  ·exact absurd (Nat.lt_of_lt_of_le (Heap.lt_size e) z) (Nat.lt_irrefl _)
 have cellK:∀ x c,X.env.cells.lookup x=some c->∀ v,s.heap.IsCell c v->h'.IsCell c v:=fun x c e v ⟨o,ho,hd⟩=>by
  have nch:c ∉ ch:=fun z=>(hch c z).2.2.1 x c e rfl
  by_cases hc:c∈X.fs
  ·obtain ⟨sl,q⟩:=slot c o (I.cne x c e) hc nch ho (I.freeC x c e)
   exact ⟨_,q,hd⟩
  ·exact ⟨o,keep c o (I.cne x c e) hc nch ho (I.freeC x c e),hd⟩
 refine ⟨I.ok,I.os,hg,⟨fun b o e n hb hx=>?_,fun b o e n hb hx=>?_,fun b o e n hx=>?_,fun b o e hx=>?_,fun b xs e=>tups b xs (I.base.tups b xs e),fun b o xs e=>frzs b o xs (I.base.frzs b o xs e),fun b ps e=>?_⟩,?_,fun x c e=>?_,?_,fun x c e=>?_,fun p hp=>?_,hok,I.len⟩
 ·exact keep b o (neL b o e) hb (neC b o e hx) (I.base.keep b o e n hb hx) (I.base.free b o e n hx)
 ·obtain ⟨sl,e1⟩:=I.base.slot b o e n hb hx
  obtain ⟨sl',e2⟩:=slot b _ (neL b o e) hb (neC b o e hx) e1 (I.base.free b o e n hx)
  exact ⟨sl',e2⟩
 ·obtain ⟨o',e1⟩:=I.base.there b o e hx
  exact free b o' (neC b o e hx) e1 (I.base.free b o e n hx)
 ·obtain ⟨o',e1⟩:=I.base.there b o e hx
  exact there b o' (neC b o e hx) e1
 ·obtain ⟨m1,e1⟩:=I.base.tbls b ps e
  obtain ⟨m2,e2⟩:=tbls b _ e1
  exact ⟨m1++m2,by rw [e2,Array.append_assoc]⟩
 ·obtain ⟨m,hn,hl⟩:=I.loc
  refine ⟨m,ns m hn,fun i x v e1 e2 e3=>?_⟩
  obtain ⟨u,r,l⟩:=hl i x v e1 e2 e3
  refine ⟨u,r,?_⟩
  rcases l with l | ⟨k,c,e,z⟩
  ·exact .inl l
  ·exact .inr ⟨k,c,e,cellK x c e _ z⟩
 ·obtain ⟨v,z⟩:=I.cell x c e
  exact ⟨v,cellK x c e v z⟩
 ·obtain ⟨m,⟨o,_,_,ho,_⟩,_⟩:=I.loc
  exact free _ o (fun z=>(hch _ z).2.1 rfl) ho I.free
 ·obtain ⟨v,o,ho,hd⟩:=I.cell x c e
  exact free c o (fun z=>(hch c z).2.2.1 x c e rfl) ho (I.freeC x c e)
 ·obtain ⟨e,n,ne,nf,d⟩:=I.pin p hp
  have nch:p.1 ∉ ch:=fun z=>(hch p.1 z).2.2.2 p hp rfl
  exact ⟨keep p.1 p.2 ne nf nch e n,free p.1 p.2 nch e n,ne,nf,d⟩
theorem Inv.un {t':Nat} (I:Inv X pins σ H s) (u:Un X.fs [] H H' s.heap h') (hok:dR X.prog X.w H' h'):Inv X pins σ H' { s with heap:=h',toks:=t' }:=by
 obtain ⟨m,⟨o,es,ep,ho,r⟩,_⟩:=id I.loc
 obtain ⟨sl,hL⟩:=u.any ho I.free (by simp)
 exact I.step (g':=s.gens) (d':=s.drawn) (ch:=[]) (fun _ z=>nomatch z) (fun b o _ hb _ e n=>u.keep b o e n hb (by simp)) (fun b o _ hb _ e n=>u.slot b o e n hb (by simp)) (fun b o _ e n=>u.free b o e n (by simp)) (fun b o _ e=>u.there b o e (by simp)) u.tups u.frzs u.tbls (fun m' hm=>by
  obtain ⟨o',es',ep',ho',r'⟩:=hm
  rw [ho] at ho';cases ho'
  exact ⟨_,es',ep',hL,r'⟩) hok I.bare
theorem Inv.call {g':Array GenState} {t':Nat} {d':Drawn} {ch:List Addr} (I:Inv X pins σ H s) (u:Un (kL X.stack) ch H H' s.heap h') (hok:dR X.prog X.w H' h') (hg:AllBare g')
  (hch:∀ b∈ch,(b∈X.ex\/X.s₀.heap.objs.size<=b)/\b≠X.env.locals/\(∀ x c,X.env.cells.lookup x=some c->c≠b)/\∀ p∈X.pn++pins,p.1≠b) :
  Inv X pins σ H' { s with heap:=h',gens:=g',drawn:=d',toks:=t' }:=by
 obtain ⟨m,⟨o,es,ep,ho,r⟩,_⟩:=id I.loc
 obtain ⟨sl,hL⟩:=u.any ho I.free fun z=>(hch _ z).2.1 rfl
 exact I.step (ch:=ch) hch (fun b o hL hb hc e n=>u.keep b o e n (fun z=>(List.mem_cons.mp (I.stkSub b z)).elim hL hb) hc) (fun b o _ _ hc e n=>u.any e n hc) (fun b o hc e n=>u.free b o e n hc) (fun b o hc e=>u.there b o e hc) u.tups u.frzs u.tbls (fun m' hm=>by
  obtain ⟨o',es',ep',ho',r'⟩:=hm
  rw [ho] at ho';cases ho'
  exact ⟨_,es',ep',hL,r'⟩) hok hg
theorem Inv.turned {t':Nat} {it:Addr} (I:Inv X pins σ H s) (k:∀ b o,b≠it->s.heap.get? b=some o->h'.get? b=some o) (hn:H it=none) (hL:it≠X.env.locals)
  (h1:it∈X.ex\/X.s₀.heap.objs.size<=it) (h2:∀ x c,X.env.cells.lookup x=some c->c≠it) (h3:∀ p∈X.pn++pins,p.1≠it):Inv X pins σ H { s with heap:=h',toks:=t' }:=by
 have nit:∀ b u,H b=some u->b≠it:=fun b u e z=>by rw [z,hn] at e;cases e
 refine I.step (g':=s.gens) (d':=s.drawn) (ch:=[it]) (fun b hb=>?_) (fun b o _ _ hc e _=>k b o (fun z=>hc (by simp [z])) e) (fun b o _ _ hc e _=>⟨o.slots,k b o (fun z=>hc (by simp [z])) e⟩) (fun _ _ _ _ n=>n)
  (fun b o hc e=>⟨o,k b o (fun z=>hc (by simp [z])) e⟩) (fun _ _ e=>e) (fun _ _ _ e=>e) (fun b ps e=>⟨#[],by rw [e];simp⟩) (fun m hm=>?_) (fun b u e=>?_) I.bare
 ·have e:b=it:=by simpa using hb
  subst e
  exact ⟨h1,hL,h2,h3⟩
 ·obtain ⟨o,es,ep,ho,r⟩:=hm
  exact ⟨o,es,ep,k _ o (Ne.symm hL) ho,r⟩
 ·refine (I.hok b u e).stay (fun c v hc q=>k c v ?_ q) (fun _ q=>q) fun _ _ q=>q
  rcases hc with z | z
  ·rw [z];exact nit b u e
  ·exact nit c _ z
theorem Inv.tok (I:Inv X pins σ H s) (t:Nat):Inv X pins σ H { s with toks:=t }:=I.un (h':=s.heap) (t':=t) Un.refl I.hok
theorem Inv.kept {t':Nat} (I:Inv X pins σ H s) (k:∀ b u,s.heap.get? b=some u->h'.get? b=some u):Inv X pins σ H { s with heap:=h',toks:=t' }:=I.un (Un.kept k) (I.hok.kept k)
theorem Inv.laid {a:Addr} {o:HO} {t':Nat} (I:Inv X pins σ H s) (k:∀ b u,s.heap.get? b=some u->h'.get? b=some u) (hp:s.heap.objs.size<=a) (new:cW X.prog X.w (upd H a o) h' a o) :
  Inv X pins σ (upd H a o) { s with heap:=h',toks:=t' }:=I.un (Un.laid k hp (I.hok.fresh hp)) (I.hok.laid k hp new)
theorem Inv.write {x e:Addr} {o:HO} {t':Nat} (I:Inv X pins σ H s) (mu:K8 (H x)) (he:e=x\/H e=some (.own x)) (k:∀ b u,b≠e->s.heap.get? b=some u->h'.get? b=some u) (heo:∃ u,h'.get? e=some u)
  (new:cW X.prog X.w (upd H x o) h' x o):Inv X pins σ (upd H x o) { s with heap:=h',toks:=t' }:=I.un (Un.write mu he k heo) (I.hok.write mu he k heo new)
theorem Inv.weak {σ':List (Option V)} (I:Inv X pins σ H s) (hl:σ'.length=σ.length) (w:∀ (i:Nat) v,σ'[i]?=some (some v)->σ[i]?=some (some v)):Inv X pins σ' H s :=
 ⟨I.ok,I.os,I.bare,I.base,let ⟨m,hn,hl'⟩:=I.loc;⟨m,hn,fun i x v e1 e2 e3=>hl' i x v e1 (w i v e2) e3⟩,I.cell,I.free,I.freeC,I.pin,I.hok,hl.trans I.len⟩
theorem Inv.pins_of {pins':List (Addr × Obj)} (I:Inv X pins σ H s) (h:∀ p∈pins',s.heap.get? p.1=some p.2/\H p.1=none/\p.1≠X.env.locals/\p.1 ∉ X.fs/\∀ v,p.2.data≠.cell v):Inv X pins' σ H s :=
 ⟨I.ok,I.os,I.bare,I.base,I.loc,I.cell,I.free,I.freeC,fun p hp=>(List.mem_append.mp hp).elim (fun z=>I.pin p (List.mem_append_left _ z)) (h p),I.hok,I.len⟩
theorem uZ {N:List Str} (hN:N.Nodup) {i j:Nat} {x:Str} (a:N[i]?=some x) (b:N[j]?=some x):i=j:=by
 obtain ⟨h1,e1⟩:=List.getElem?_eq_some_iff.mp a
 obtain ⟨h2,e2⟩:=List.getElem?_eq_some_iff.mp b
 exact (List.getElem_inj hN).mp (e1.trans e2.symm)
theorem zI {M:Model} {A:Around} {E:Value->Shared->Prop} {i:Nat} {x:Str} {v:V} {u:Value} {Q:Unit->Shared->Prop} (I:Inv X pins σ H s) (hN:X.N.Nodup) (hi:X.N[i]?=some x) (hx:Loc X.env.scope x) (r:RelV v u)
  (h:∀ s',Inv X pins (σ.set i (some v)) H s'->(∃ a,Heap.SameBut a s.heap s'.heap/\(a=X.env.locals\/X.env.cells.lookup x=some a))->Q () s') (hf:X.fn x=true\/X.env.scope.names.lookup x=some .local:=by first | exact .inl rfl | exact .inr rfl | assumption):wpAny M A (storeName X.env x u) Q E s:=by
 obtain ⟨m,hn,hl⟩:=id I.loc
 have hcls:(X.env.scope.kind == .class || (X.env.scope.kind == .module && X.env.locals != X.env.globals))=false:=by rw [I.ok.kind];rfl
 have hiσ:i < σ.length:=by rw [I.len];exact (List.getElem?_eq_some_iff.mp hi).1
 have cne:=I.cne
 have tracked:∀ {a:Addr} {h':Heap},(∃ o,s.heap.get? a=some o/\H a=none)->Heap.SameBut a s.heap h'->dR X.prog X.w H h':=fun {a h'} ha hs b ob e=>by
  obtain ⟨_,_,hfree⟩:=ha
  refine (I.hok b ob e).stay (fun c w' hc q=>(hs.2 c ?_).trans q) (fun _ q=>q) fun _ _ q=>q
  rintro rfl
  rcases hc with rfl | hc
  ·rw [hfree] at e;cases e
  ·rw [hfree] at hc;cases hc
 rcases hx with hk | hk
 ·refine wpAny_storeName_local hk hn (fun h' hn' hs=>?_) hcls
  obtain ⟨oL,_,_,hoL,_⟩:=id hn
  refine h _ ⟨I.ok,I.os,I.bare,⟨fun b o e n hb hx=>?_,fun b o e n hb hx=>?_,I.base.free,fun b o e hx=>?_,I.base.tups,I.base.frzs,I.base.tbls⟩,⟨_,hn',fun j y v' e1 e2 e3=>?_⟩,fun y c e=>?_,I.free,I.freeC,fun p hp=>?_,tracked ⟨oL,hoL,I.free⟩ hs,by simpa using I.len⟩ ⟨_,hs,.inl rfl⟩
  ·exact (hs.2 b (Nat.ne_of_lt (Nat.lt_of_lt_of_le (Heap.lt_size e) I.ok.above))).trans (I.base.keep b o e n hb hx)
  ·obtain ⟨sl,e1⟩:=I.base.slot b o e n hb hx
   exact ⟨sl,(hs.2 b (Nat.ne_of_lt (Nat.lt_of_lt_of_le (Heap.lt_size e) I.ok.above))).trans e1⟩
  ·obtain ⟨o',e1⟩:=I.base.there b o e hx
   exact ⟨o',(hs.2 b (Nat.ne_of_lt (Nat.lt_of_lt_of_le (Heap.lt_size e) I.ok.above))).trans e1⟩
  ·by_cases hj:j=i
   ·subst hj
    rw [hi] at e1;cases e1
    rw [List.getElem?_set_self hiσ] at e2
    cases e2
    exact ⟨u,r,.inl ⟨hk,by simp⟩⟩
   ·rw [List.getElem?_set_ne (Ne.symm hj)] at e2
    obtain ⟨u',r',q⟩:=hl j y v' e1 e2 e3
    refine ⟨u',r',?_⟩
    rcases q with ⟨k,e⟩ | ⟨k,c,e,z⟩
    ·refine .inl ⟨k,?_⟩
     have:y≠x:=fun e=>hj (uZ hN e1 (e ▸ hi))
     simp [this,e]
    ·exact .inr ⟨k,c,e,z.sameBut hs (cne y c e)⟩
  ·obtain ⟨w',z⟩:=I.cell y c e
   exact ⟨w',z.sameBut hs (cne y c e)⟩
  ·obtain ⟨e,n,ne,nf,d⟩:=I.pin p hp
   exact ⟨(hs.2 p.1 ne).trans e,n,ne,nf,d⟩
 ·have hfn:X.fn x=true:=by
   rcases hf with z | z
   ·exact z
   ·rw [z] at hk;cases hk
  obtain ⟨c,hc⟩:=I.ok.has x (.inl hk)
  obtain ⟨w',z⟩:=I.cell x c hc
  refine wpAny_storeName_cell I.ok.kind hk hc z (fun h' hc' hs=>?_)
  obtain ⟨oc,hoc,hocd⟩:=id z
  refine h { s with heap:=h' } ⟨I.ok,I.os,I.bare,⟨fun b o e n hb hx=>?_,fun b o e n hb hx=>?_,I.base.free,fun b o e hx=>?_,I.base.tups,I.base.frzs,I.base.tbls⟩,⟨m,hn.sameBut hs (Ne.symm (cne x c hc)),fun j y v' e1 e2 e3=>?_⟩,fun y c' e=>?_,I.free,I.freeC,fun p hp=>?_,tracked ⟨oc,hoc,I.freeC x c hc⟩ hs,by simpa using I.len⟩ ⟨c,hs,.inr hc⟩
  ·exact (hs.2 b (Nat.ne_of_lt (Nat.lt_of_lt_of_le (Heap.lt_size e) (I.ok.cab x c hfn hc)))).trans (I.base.keep b o e n hb hx)
  ·obtain ⟨sl,e1⟩:=I.base.slot b o e n hb hx
   exact ⟨sl,(hs.2 b (Nat.ne_of_lt (Nat.lt_of_lt_of_le (Heap.lt_size e) (I.ok.cab x c hfn hc)))).trans e1⟩
  ·obtain ⟨o',e1⟩:=I.base.there b o e hx
   exact ⟨o',(hs.2 b (Nat.ne_of_lt (Nat.lt_of_lt_of_le (Heap.lt_size e) (I.ok.cab x c hfn hc)))).trans e1⟩
  ·by_cases hj:j=i
   ·subst hj
    rw [hi] at e1;cases e1
    rw [List.getElem?_set_self hiσ] at e2
    cases e2
    exact ⟨u,r,.inr ⟨.inl hk,c,hc,hc'⟩⟩
   ·rw [List.getElem?_set_ne (Ne.symm hj)] at e2
    obtain ⟨u',r',q⟩:=hl j y v' e1 e2 e3
    refine ⟨u',r',?_⟩
    rcases q with q | ⟨k,c',e,z'⟩
    ·exact .inl q
    ·refine .inr ⟨k,c',e,z'.sameBut hs ?_⟩
     rintro rfl
     exact hj (uZ hN e1 (I.ok.inj _ _ _ e hc ▸ hi))
  ·by_cases hcc:c'=c
   ·subst hcc;exact ⟨_,hc'⟩
   ·obtain ⟨w2,z2⟩:=I.cell y c' e
    exact ⟨w2,z2.sameBut hs hcc⟩
  ·obtain ⟨e,n,ne,nf,d⟩:=I.pin p hp
   refine ⟨(hs.2 p.1 ?_).trans e,n,ne,nf,d⟩
   intro q
   rw [q,hoc] at e
   have q':oc=p.2:=Option.some.inj e
   exact d w' (by rw [<- q'];exact hocd)
theorem pY {M:Model} {A:Around} {E:Value->Shared->Prop} {i:Nat} {x:Str} {v:V} {u:Value} {Q:Unit->Shared->Prop} (I:Inv X pins σ H s) (hN:X.N.Nodup) (hi:X.N[i]?=some x) (hx:Loc X.env.scope x) (r:RelV v u)
  (h:∀ s',Inv X pins (σ.set i (some v)) H s'->Q () s') (hf:X.fn x=true\/X.env.scope.names.lookup x=some .local:=by first | exact .inl rfl | exact .inr rfl | assumption):wpAny M A (storeName X.env x u) Q E s :=
 zI I hN hi hx r (fun s' I' _=>h s' I') hf
theorem Inv.call' {s':Shared} {ch:List Addr} (I:Inv X pins σ H s) (ho:s'.os=s.os) (u:Un (kL X.stack) ch H H' s.heap s'.heap) (hok:dR X.prog X.w H' s'.heap) (hg:AllBare s'.gens)
  (hch:∀ b∈ch,(b∈X.ex\/X.s₀.heap.objs.size<=b)/\b≠X.env.locals/\(∀ x c,X.env.cells.lookup x=some c->c≠b)/\∀ p∈X.pn++pins,p.1≠b):Inv X pins σ H' s':=by
 obtain ⟨h',g',d',t',o'⟩:=s'
 have e:o'=s.os:=ho
 subst e
 exact I.call (g':=g') (t':=t') (d':=d') u hok hg hch
end
abbrev XK:=Value->Option Addr->Hp->Prop
abbrev St:=List (Option V)
abbrev VK:=V->Hp->Prop
abbrev TE:=St->Hp->VK->Prop
abbrev TT:=St->Hp->(Bool->Hp->Prop)->Prop
abbrev TA:=St->Hp->(List V->Hp->Prop)->Prop
structure Ends where
 nx:St->Hp->Prop
 rt:VK
 bk:St->Hp->Prop:=fun _ _=>False
 ct:St->Hp->Prop:=fun _ _=>False
abbrev TS:=Ends->St->Hp->Prop
noncomputable def EP (X:Cx) (pins:List (Addr × Obj)) (σ:St) (Q:VK) (u:Value) (s':Shared):Prop:=∃ v H',Inv X pins σ H' s'/\RelV v u/\Q v H'
noncomputable def TP (X:Cx) (pins:List (Addr × Obj)) (σ:St) (Q:Bool->Hp->Prop) (b:Bool) (s':Shared):Prop:=∃ H',Inv X pins σ H' s'/\Q b H'
noncomputable def AP (X:Cx) (pins:List (Addr × Obj)) (σ:St) (Q:List V->Hp->Prop) (us:List Value) (s':Shared):Prop:=∃ vs H',Inv X pins σ H' s'/\Vals vs us/\Q vs H'
noncomputable def SP (X:Cx) (pins:List (Addr × Obj)) (D:Ends) (f:Flow) (s':Shared):Prop :=
 match f with
 | .next=>∃ σ' H',Inv X pins σ' H' s'/\D.nx σ' H'
 | .brk=>∃ σ' H',Inv X pins σ' H' s'/\D.bk σ' H'
 | .cont=>∃ σ' H',Inv X pins σ' H' s'/\D.ct σ' H'
 | .ret u=>∃ v σ' H',Inv X pins σ' H' s'/\RelV v u/\D.rt v H'
noncomputable def PE (X:Cx) (e:Expr) (t:TE):Prop :=
 ∀ (pins:List (Addr × Obj)) (s:Shared) (σ:St) (H:Hp) (Q:VK),Inv X pins σ H s->t σ H Q->wpAny (model X.prog X.w) X.A (eval e X.env) (EP X pins σ Q) X.xe s
noncomputable def PT (X:Cx) (e:Expr) (t:TT):Prop :=
 ∀ (pins:List (Addr × Obj)) (s:Shared) (σ:St) (H:Hp) (Q:Bool->Hp->Prop),Inv X pins σ H s->t σ H Q->wpAny (model X.prog X.w) X.A (isTrue e X.env (eval e X.env)) (TP X pins σ Q) X.xe s
noncomputable def PW (X:Cx) (e:Expr) (t:TT):Prop :=
 ∀ (whole:Sem Value) (pins:List (Addr × Obj)) (s:Shared) (σ:St) (H:Hp) (Q:Bool->Hp->Prop),Inv X pins σ H s->t σ H Q->wpAny (model X.prog X.w) X.A (isTrue e X.env whole) (TP X pins σ Q) X.xe s
theorem PW.pt {X:Cx} {e:Expr} {t:TT} (h:PW X e t):PT X e t:=h _
noncomputable def PA (X:Cx) (es:List Expr) (t:TA):Prop :=
 ∀ (pos:Pos) (pins:List (Addr × Obj)) (s:Shared) (σ:St) (H:Hp) (Q:List V->Hp->Prop),Inv X pins σ H s->t σ H Q->wpAny (model X.prog X.w) X.A (spliced (backTo pos (starEach es X.env))) (AP X pins σ Q) X.xe s
noncomputable def PS (X:Cx) (st:Stmt) (t:TS):Prop :=
 ∀ (pins:List (Addr × Obj)) (s:Shared) (σ:St) (H:Hp) (D:Ends),Inv X pins σ H s->t D σ H->wpAny (model X.prog X.w) X.A (exec st X.env) (SP X pins D) X.xe s
noncomputable def mF (X:Cx) (st:List Stmt) (t:TS):Prop :=
 ∀ (pins:List (Addr × Obj)) (s:Shared) (σ:St) (H:Hp) (D:Ends),Inv X pins σ H s->t D σ H->wpAny (model X.prog X.w) X.A (execs st X.env) (SP X pins D) X.xe s
theorem bP {α:Type} {t:Sem α} {Q Q':α->Shared->Prop} {M:Model} {A:Around} {E:Value->Shared->Prop} {s:Shared} (h:wpAny M A t Q E s) (hQ:∀ a s,Q a s->Q' a s):wpAny M A t Q' E s:=wpAny_mono h hQ fun _ _ x=>x
section
variable {X:Cx}
theorem bin {a b:Expr} {ta tb:TE} (ha:PE X a ta) (hb:PE X b tb) {pins:List (Addr × Obj)} {s:Shared} {σ:St} {H:Hp} {R:V->V->Hp->Prop} (I:Inv X pins σ H s) (h:ta σ H fun x H1=>tb σ H1 fun y H2=>R x y H2)
  {α:Type} {Q:α->Shared->Prop} {f:Value->Value->Sem α}
  (hf:∀ v u s2 x y H2,Inv X pins σ H2 s2->RelV x v->RelV y u->R x y H2->wpAny (model X.prog X.w) X.A (f v u) Q X.xe s2) :
  wpAny (model X.prog X.w) X.A (eval a X.env) (fun v s₁=>wpAny (model X.prog X.w) X.A (eval b X.env) (fun u s₂=>wpAny (model X.prog X.w) X.A (f v u) Q X.xe s₂) X.xe s₁) X.xe s:=by
 refine bP (ha pins s σ H _ I h) fun v s1 ⟨x,H1,I1,r1,q1⟩=>?_
 refine bP (hb pins s1 σ H1 _ I1 q1) fun u s2 ⟨y,H2,I2,r2,q2⟩=>?_
 exact hf v u s2 x y H2 I2 r1 r2 q2
noncomputable def uX (i:Nat):TE:=fun σ H Q=>∃ v,σ[i]?=some (some v)/\Q v H
noncomputable def tC (v:V):TE:=fun _ H Q=>Q v H
theorem mY {i:Nat} {x:Str} {pos:Pos} (hN:X.N[i]?=some x) (hv:GO X.env.scope x) (hd:(x == ("__debug__":Str))=false:=by decide) (hcd:(x == ("__classdict__":Str))=false:=by decide):PE X (.Name x pos) (uX i):=by
 intro pins s σ H Q I h
 obtain ⟨v,e,h⟩:=h
 obtain ⟨m,hn,hl⟩:=I.loc
 obtain ⟨u,r,l⟩:=hl i x v hN e hv
 have fin:EP X pins σ Q u s:=⟨v,H,I,r,h⟩
 rcases l with ⟨hk,hm⟩ | ⟨hk,c,hc,hcell⟩
 ·exact wpAny_Name (wpAny_loadName_local I.ok.kind hk hn hm fin) hd
 ·rcases hk with hk | hk
  ·exact wpAny_Name (wpAny_loadName_cell I.ok.kind hk hc hcell fin) hd
  ·exact wpAny_Name (wpAny_loadName_free I.ok.kind hk hc hcell fin hcd) hd
theorem Ua {i j pos}:PE X (.Constant (.int i) j pos) (tC (.int i)):=fun _ _ _ H _ I h=>wpAny_Constant_int ⟨.int i,H,I.tok _,⟨_,rfl⟩,h⟩
theorem V6 {b j pos}:PE X (.Constant (.bool b) j pos) (tC (.bl b)):=fun _ _ _ H _ I h=>Constant_bool ⟨.bl b,H,I,rfl,h⟩
theorem Up {j pos}:PE X (.Constant .none j pos) (tC .non):=fun _ _ _ H _ I h=>Constant_none ⟨.non,H,I,rfl,h⟩
theorem SS {x j pos}:PE X (.Constant (.str x) j pos) (tC (.str x)):=fun _ _ _ H _ I h=>Calls.Constant_str ⟨.str x,H,I.tok _,⟨_,rfl⟩,h⟩
noncomputable def Gl (X:Cx) (x:Str):Prop:=X.env.kindOf x=some .globalImplicit
theorem mS {E:Value->Shared->Prop} {pins:List (Addr × Obj)} {s:Shared} {σ:St} {H:Hp} {x:Str} {u:Value} {pos:Pos} {Q:Value->Shared->Prop} (I:Inv X pins σ H s) (hg:Gl X x) (hm:X.mg x=some u) (h:Q u s)
  (hd:(x == ("__debug__":Str))=false:=by decide):wpAny (model X.prog X.w) X.A (eval (.Name x pos) X.env) Q E s :=
 Calls.Name_function_global I.ok.kind hg (Calls.loadGlobal_global (by rw [I.ok.glob];exact I.mod.glob.keeps I.bk) hm h) hd
theorem kX {E:Value->Shared->Prop} {pins:List (Addr × Obj)} {s:Shared} {σ:St} {H:Hp} {x:Str} {u:Value} {pos:Pos} {Q:Value->Shared->Prop} (I:Inv X pins σ H s) (hg:Gl X x) (hm:X.mg x=none) (hv:bootBuiltins x=some u) (h:Q u s)
  (hn:x≠"__name__":=by decide) (hd:(x == ("__debug__":Str))=false:=by decide):wpAny (model X.prog X.w) X.A (eval (.Name x pos) X.env) Q E s:=by
 obtain ⟨mb,h1,h2⟩:=I.mod.blt
 exact Calls.Name_function_global I.ok.kind hg (Calls.loadGlobal_builtin (by rw [I.ok.glob];exact I.mod.glob.keeps I.bk) hm (by rw [I.ok.blt];exact h1.keeps I.bk) ((h2 x hn).trans hv) h) hd
theorem tF {x:Str} {v:V} {u:Value} {pos:Pos} (hg:Gl X x) (hm:X.mg x=some u) (r:RelV v u) (hd:(x == ("__debug__":Str))=false:=by decide):PE X (.Name x pos) (tC v) :=
 fun _ _ _ H _ I h=>mS I hg hm ⟨v,H,I,r,h⟩ hd
theorem F2 {x:Str} {v:V} {u:Value} {pos:Pos} (hg:Gl X x) (hm:X.mg x=none) (hv:bootBuiltins x=some u) (r:RelV v u) (hn:x≠"__name__":=by decide) (hd:(x == ("__debug__":Str))=false:=by decide):PE X (.Name x pos) (tC v) :=
 fun _ _ _ H _ I h=>kX I hg hm hv ⟨v,H,I,r,h⟩ hn hd
noncomputable def W0 (ta tb:TE) (k:Int->Int->Hp->Prop):St->Hp->Prop:=fun σ H=>ta σ H fun x H1=>tb σ H1 fun y H2=>∃ i j,x=.int i/\y=.int j/\k i j H2
variable {a b:Expr} {ta tb:TE} {pos:Pos}
noncomputable def yL (p:Int->Int->Bool) (ta tb:TE):TE:=fun σ H Q=>W0 ta tb (fun i j H2=>Q (.bl (p i j)) H2) σ H
abbrev Xg:TE->TE->TE:=yL fun i j=>decide (i < j)
abbrev Xi:TE->TE->TE:=yL fun i j=>decide (i<=j)
abbrev Xm:TE->TE->TE:=yL fun i j=>decide (j < i)
abbrev Xk:TE->TE->TE:=yL fun i j=>decide (j<=i)
abbrev Xc:TE->TE->TE:=yL fun i j=>decide (i=j)
abbrev Xa:TE->TE->TE:=yL fun i j=>!decide (i=j)
variable {tA tB':TT} {rest:List Expr}
noncomputable def Vn (t u:TT):TT:=fun σ H Q=>t σ H fun c H1=>if c=true then u σ H1 Q else Q false H1
noncomputable def Wq (t u:TT):TT:=fun σ H Q=>t σ H fun c H1=>if c=true then Q true H1 else u σ H1 Q
noncomputable def U7 (t:TT):TT:=fun σ H Q=>t σ H fun c H1=>Q (!c) H1
theorem Sb (ha:PT X a tA):PW X (.BoolOp .And [a] pos) tA:=by
 intro wh pins s σ H Q I h
 refine isTrue_and (bP (ha pins s σ H Q I h) fun c s1 e=>?_)
 cases c with
 | true=>exact isTrue_and_nil e
 | false=>exact e
theorem UR (ha:PT X a tA):PW X (.BoolOp .Or [a] pos) tA:=by
 intro wh pins s σ H Q I h
 refine isTrue_or (bP (ha pins s σ H Q I h) fun c s1 e=>?_)
 cases c with
 | false=>exact isTrue_or_nil e
 | true=>exact e
theorem Uy (ha:PT X a tA) (hb:PW X (.BoolOp .And (b :: rest) pos) tB'):PW X (.BoolOp .And (a :: b :: rest) pos) (Vn tA tB'):=by
 intro wh pins s σ H Q I h
 refine isTrue_and (bP (ha pins s σ H _ I h) fun c s1 ⟨H1,I1,q1⟩=>?_)
 cases c with
 | true=>exact hb wh pins s1 σ H1 Q I1 q1
 | false=>exact ⟨H1,I1,q1⟩
theorem VE (ha:PT X a tA) (hb:PW X (.BoolOp .Or (b :: rest) pos) tB'):PW X (.BoolOp .Or (a :: b :: rest) pos) (Wq tA tB'):=by
 intro wh pins s σ H Q I h
 refine isTrue_or (bP (ha pins s σ H _ I h) fun c s1 ⟨H1,I1,q1⟩=>?_)
 cases c with
 | true=>exact ⟨H1,I1,q1⟩
 | false=>exact hb wh pins s1 σ H1 Q I1 q1
theorem UN (ha:PT X a tA):PT X (.UnaryOp .Not a pos) (U7 tA):=by
 intro pins s σ H Q I h
 exact isTrue_not (ha pins s σ H (fun c H1=>Q (!c) H1) I h)
noncomputable def PV (ta tb:TE):TE:=fun σ H Q=>ta σ H fun x H1=>∃ c,x=.bl c/\if c=true then tb σ H1 Q else Q (.bl false) H1
noncomputable def Qn (ta:TE):TE:=fun σ H Q=>ta σ H fun x H1=>∃ c,x=.bl c/\Q (.bl (!c)) H1
theorem SH {op} {t:TE} (h:PE X a t):PE X (.BoolOp op [a] pos) t:=fun pins s σ H Q I hw=>BoolOp_one (h pins s σ H Q I hw)
theorem Uj (ha:PE X a ta) (hb:PE X (.BoolOp .And (b :: rest) pos) tb):PE X (.BoolOp .And (a :: b :: rest) pos) (PV ta tb):=by
 intro pins s σ H Q I h
 refine BoolOp_and (bP (ha pins s σ H _ I h) fun v s1 ⟨x,H1,I1,r1,q1⟩=>?_)
 obtain ⟨c,rfl,q1⟩:=q1
 cases r1
 refine wpAny_truthy_bool ?_
 cases c with
 | true=>exact hb pins s1 σ H1 Q I1 q1
 | false=>exact ⟨.bl false,H1,I1,rfl,q1⟩
theorem Tc (ha:PE X a ta):PE X (.UnaryOp .Not a pos) (Qn ta):=by
 intro pins s σ H Q I h
 refine UnaryOp_ (bP (ha pins s σ H _ I h) fun v s1 ⟨x,H1,I1,r1,q1⟩=>?_)
 obtain ⟨c,rfl,q1⟩:=q1
 cases r1
 exact not_of (wpAny_truthy_bool ⟨.bl (!c),H1,I1,rfl,q1⟩)
noncomputable def Wh (t:TT) (ta tb:TE):TE:=fun σ H Q=>t σ H fun c H1=>if c=true then ta σ H1 Q else tb σ H1 Q
theorem PD {c:Expr} (hc:PT X c tA) (ha:PE X a ta) (hb:PE X b tb):PE X (.IfExp c a b pos) (Wh tA ta tb):=by
 intro pins s σ H Q I h
 refine wpAny_IfExp (bP (hc pins s σ H _ I h) fun d s1 ⟨H1,I1,q1⟩=>?_)
 cases d with
 | true=>exact ha pins s1 σ H1 Q I1 q1
 | false=>exact hb pins s1 σ H1 Q I1 q1
end
noncomputable def dE (K:PySem.W.Frag) (H:Hp) (a:Addr) (xs:List V):Prop :=
 Rd H a (.lst xs) \/
  ∃ (o:Obj) (its:Array Value) (n:Nat),K.lookup a=some o/\o.cls=.type "list"/\o.dict=none/\o.data=.seq its n/\its.size<=sizeLine/\Vals xs its.toList
noncomputable def eE (K:PySem.W.Frag) (H:Hp) (a:Addr) (xs:List V):Prop :=
 Rd H a (.tup xs) \/
  ∃ (o:Obj) (its:Array Value) (n:Nat),K.lookup a=some o/\o.cls=.type "tuple"/\o.dict=none/\o.data=.seq its n/\its.size<=sizeLine/\Vals xs its.toList
noncomputable def WM:Value->Option V
 | .none=>some .non
 | .bool b=>some (.bl b)
 | .int i _=>some (.int i)
 | .str x _=>some (.str x)
 | .bytes b _=>some (.byt b)
 | .float b _=>some (.flt b)
 | .ref a=>some (.ref a)
 | .type n=>some (.ty n)
 | _=>none
theorem RelV.abs {x:V} {u:Value} (r:RelV x u):WM u=some x:=by
 cases x with
 | non=>cases r;rfl
 | bl _=>cases r;rfl
 | int _=>obtain ⟨t,rfl⟩:=r;rfl
 | str _=>obtain ⟨t,rfl⟩:=r;rfl
 | byt _=>obtain ⟨t,rfl⟩:=r;rfl
 | flt _=>obtain ⟨t,rfl⟩:=r;rfl
 | ref _=>cases r;rfl
 | ty _=>cases r;rfl
theorem RelV.inj {x y:V} {u:Value} (r:RelV x u) (q:RelV y u):x=y:=Option.some.inj (r.abs.symm.trans q.abs)
theorem Vals.inj:∀ {xs ys:List V} {us:List Value},Vals xs us->Vals ys us->xs=ys
 | _,_,_,.nil,.nil=>rfl
 | _,_,_,.cons r t,.cons r' t'=>by rw [r.inj r',Vals.inj t t']
section
variable {X:Cx} {pins:List (Addr × Obj)} {σ:St} {H:Hp} {s:Shared} {a:Addr} {xs ys:List V}
theorem Inv.list (I:Inv X pins σ H s) (h:dE X.K H a xs):∃ its:List Value,Vals xs its/\PlainL s.heap a its.toArray/\xs.length<=sizeLine:=by
 rcases h with h | ⟨o,its,n,hk,hc,hd,hs,hz,r⟩
 ·obtain ⟨z,its,n,r,e⟩:=h.ok I.hok
  exact ⟨its,r,⟨_,n,e,rfl,rfl,rfl⟩,z⟩
 ·refine ⟨its.toList,r,⟨o,n,I.kIn a o hk,hc,hd,by simpa using hs⟩,?_⟩
  have e:=r.length
  simp only [Array.length_toList] at e
  omega
theorem Inv.tupleP (I:Inv X pins σ H s) (h:eE X.K H a xs):∃ its:List Value,Vals xs its/\gW s.heap a its.toArray/\xs.length<=sizeLine:=by
 rcases h with h | ⟨o,its,n,hk,hc,hd,hs,hz,r⟩
 ·obtain ⟨z,its,r,p⟩:=h.ok I.hok
  exact ⟨its,r,p,z⟩
 ·refine ⟨its.toList,r,⟨o,I.kIn a o hk,hc,hd,n,by simpa using hs⟩,?_⟩
  have e:=r.length
  simp only [Array.length_toList] at e
  omega
theorem Inv.tuple (I:Inv X pins σ H s) (h:eE X.K H a xs):∃ its:List Value,Vals xs its/\IsTup s.heap a its.toArray/\xs.length<=sizeLine:=by
 obtain ⟨its,r,p,z⟩:=I.tupleP h
 exact ⟨its,r,p.tup,z⟩
theorem Inv.list_inj (I:Inv X pins σ H s) (h:dE X.K H a xs) (h':dE X.K H a ys):xs=ys:=by
 obtain ⟨its,r,⟨o,n,e,_,_,d⟩,_⟩:=I.list h
 obtain ⟨its',r',⟨o',n',e',_,_,d'⟩,_⟩:=I.list h'
 rw [e] at e';cases e'
 rw [d] at d'
 injection d' with d1 _
 have:its=its':=by simpa using congrArg Array.toList d1
 subst this
 exact r.inj r'
theorem Inv.tuple_inj (I:Inv X pins σ H s) (h:eE X.K H a xs) (h':eE X.K H a ys):xs=ys:=by
 obtain ⟨its,r,⟨o,e,_,n,d⟩,_⟩:=I.tuple h
 obtain ⟨its',r',⟨o',e',_,n',d'⟩,_⟩:=I.tuple h'
 rw [e] at e';cases e'
 rw [d] at d'
 injection d' with d1 _
 have:its=its':=by simpa using congrArg Array.toList d1
 subst this
 exact r.inj r'
end
abbrev Cx.wish (X:Cx) (E:Value->Shared->Prop):Cx:={ X with xe:=E }
abbrev Cx.nox (X:Cx):Cx:=X.wish fun _ _=>False
theorem Cx.Ok.wish {X:Cx} (ok:X.Ok) (E:Value->Shared->Prop):(X.wish E).Ok :=
 ⟨ok.mod,ok.kind,ok.glob,ok.blt,ok.above,ok.inj,ok.has,ok.cab,ok.hd,ok.frames,ok.stk,ok.exf,ok.bs,ok.bsz,ok.noex,ok.exfs,ok.funs,ok.frf⟩
theorem Cx.Ok.unwish {X:Cx} {E:Value->Shared->Prop} (ok:(X.wish E).Ok):X.Ok :=
 ⟨ok.mod,ok.kind,ok.glob,ok.blt,ok.above,ok.inj,ok.has,ok.cab,ok.hd,ok.frames,ok.stk,ok.exf,ok.bs,ok.bsz,ok.noex,ok.exfs,ok.funs,ok.frf⟩
section
variable {X:Cx} {pins:List (Addr × Obj)} {σ:St} {H:Hp} {s:Shared} {E:Value->Shared->Prop}
theorem Inv.wish (I:Inv X pins σ H s) (E:Value->Shared->Prop):Inv (X.wish E) pins σ H s:=⟨I.ok.wish E,I.os,I.bare,I.base,I.loc,I.cell,I.free,I.freeC,I.pin,I.hok,I.len⟩
theorem Inv.unwish (I:Inv (X.wish E) pins σ H s):Inv X pins σ H s:=⟨I.ok.unwish,I.os,I.bare,I.base,I.loc,I.cell,I.free,I.freeC,I.pin,I.hok,I.len⟩
theorem SP.unwish {D:Ends} {f:Flow} {s':Shared} (h:SP (X.wish E) pins D f s'):SP X pins D f s':=by
 cases f with
 | next=>obtain ⟨σ',H',I,q⟩:=h;exact ⟨σ',H',I.unwish,q⟩
 | brk=>obtain ⟨σ',H',I,q⟩:=h;exact ⟨σ',H',I.unwish,q⟩
 | cont=>obtain ⟨σ',H',I,q⟩:=h;exact ⟨σ',H',I.unwish,q⟩
 | ret u=>obtain ⟨v,σ',H',I,r,q⟩:=h;exact ⟨v,σ',H',I.unwish,r,q⟩
theorem mF.nox {st:List Stmt} {t:TS} (h:mF X.nox st t):mF X st t:=fun pins s σ H D I hw =>
 wpAny_mono (h pins s σ H D (I.wish _) hw) (fun _ _ q=>q.unwish) fun _ _ z=>False.elim z
end
section
variable {X:Cx} {st:Stmt} {rest:List Stmt} {t u:TS} {e:Expr} {te:TE} {pos:Pos}
noncomputable def Ql:TS:=fun D σ H=>D.nx σ H
noncomputable def SK (t u:TS):TS:=fun D σ H=>t { D with nx:=u D } σ H
theorem RG:mF X [] Ql:=fun _ _ σ H _ I h=>wpAny_execs_nil ⟨σ,H,I,h⟩
theorem uT (h1:PS X st t) (h2:mF X rest u):mF X (st :: rest) (SK t u):=by
 intro pins s σ H D I h
 refine wpAny_execs_cons (bP (h1 pins s σ H { D with nx:=u D } I h) fun f s1 q=>?_)
 cases f with
 | next =>
  obtain ⟨σ',H',I',q⟩:=q
  exact h2 pins s1 σ' H' D I' q
 | ret v=>exact q
 | brk=>exact q
 | cont=>exact q
theorem xR (h1:PS X st t):mF X [st] t:=by
 intro pins s σ H D I h
 refine wpAny_execs_cons (bP (h1 pins s σ H D I h) fun f s1 q=>?_)
 cases f with
 | next=>exact wpAny_execs_nil q
 | ret v=>exact q
 | brk=>exact q
 | cont=>exact q
theorem Inv.quiet {pins:List (Addr × Obj)} {σ:St} {H:Hp} {s:Shared} (I:Inv X pins σ H s):interactive X.env=false:=by simp [interactive,I.ok.kind]
noncomputable def Qj (te:TE):TS:=fun D σ H=>te σ H fun _ H1=>D.nx σ H1
theorem F9 (he:PE X e te) (hs:swapsWith e none pos.line X.env=pure false:=by rfl):PS X (.Expr e pos) (Qj te):=by
 intro pins s σ H D I h
 exact wpAny_Expr_any (bP (he pins s σ H _ I h) fun v s1 ⟨x,H1,I1,r1,q1⟩=>⟨σ,H1,I1,q1⟩) I.quiet hs
noncomputable def TV (te:TE):TS:=fun D σ H=>te σ H D.rt
theorem Ur (he:PE X e te):PS X (.Return (some e) pos) (TV te):=by
 intro pins s σ H D I h
 exact wpAny_Return_some (bP (he pins s σ H _ I h) fun v s1 ⟨x,H1,I1,r1,q1⟩=>⟨x,σ,H1,I1,r1,q1⟩)
noncomputable def S5 (c:TT) (t u:TS):TS:=fun D σ H=>c σ H fun b H1=>if b=true then t D σ H1 else u D σ H1
theorem VI {c:Expr} {a b:List Stmt} {tc:TT} (hc:PT X c tc) (ha:mF X a t) (hb:mF X b u):PS X (.If c a b pos) (S5 tc t u):=by
 intro pins s σ H D I h
 refine wpAny_If (bP (hc pins s σ H _ I h) fun d s1 ⟨H1,I1,q1⟩=>?_)
 cases d with
 | true=>exact ha pins s1 σ H1 D I1 q1
 | false=>exact hb pins s1 σ H1 D I1 q1
end
abbrev TG:=V->St->Hp->(St->Hp->Prop)->Prop
abbrev m6:=List V->St->Hp->(St->Hp->Prop)->Prop
noncomputable def PG (X:Cx) (target:Expr) (t:TG):Prop :=
 ∀ (pins:List (Addr × Obj)) (s:Shared) (σ:St) (H:Hp) (v:V) (u:Value) (Q:St->Hp->Prop),Inv X pins σ H s->RelV v u->t v σ H Q ->
  wpAny (model X.prog X.w) X.A (assign target X.env u) (fun _ s'=>∃ σ' H',Inv X pins σ' H' s'/\Q σ' H') X.xe s
noncomputable def MG (X:Cx) (ts:List Expr) (t:m6):Prop :=
 ∀ (pins:List (Addr × Obj)) (s:Shared) (σ:St) (H:Hp) (vs:List V) (us:List Value) (Q:St->Hp->Prop),Inv X pins σ H s->Vals vs us->t vs σ H Q ->
  wpAny (model X.prog X.w) X.A (assignInOrder ((assignEach ts X.env).map (·.2)) us) (fun _ s'=>∃ σ' H',Inv X pins σ' H' s'/\Q σ' H') X.xe s
abbrev Pt:=V->V->V->Hp->(Hp->Prop)->Prop
noncomputable def TY (X:Cx) (t:Pt):Prop :=
 ∀ (pins:List (Addr × Obj)) (s:Shared) (σ:St) (H:Hp) (o i v:V) (ov iv u:Value) (Q:Hp->Prop),Inv X pins σ H s->RelV o ov->RelV i iv->RelV v u->t o i v H Q ->
  wpAny (model X.prog X.w) X.A (setItem ov iv u) (fun _ s'=>∃ H',Inv X pins σ H' s'/\Q H') X.xe s
abbrev Xh:=V->V->Hp->VK->Prop
section
variable {X:Cx} {pos:Pos}
noncomputable def qV (i:Nat):TG:=fun v σ H Q=>Q (σ.set i (some v)) H
theorem Rx {i:Nat} {x:Str} (hN:X.N.Nodup) (hi:X.N[i]?=some x) (hx:Loc X.env.scope x) (hf:X.fn x=true\/X.env.scope.names.lookup x=some .local:=by first | exact .inl rfl | exact .inr rfl | assumption):PG X (.Name x pos) (qV i):=by
 intro pins s σ H v u Q I r h
 exact wpAny_assign_Name (pY I hN hi hx r (fun s' I'=>⟨_,H,I',h⟩) hf)
noncomputable def AY:m6:=fun vs σ H Q=>vs=[]/\Q σ H
noncomputable def w9 (t:TG) (u:m6):m6:=fun vs σ H Q=>∃ v r,vs=v :: r/\t v σ H fun σ' H'=>u r σ' H' Q
theorem Rr:MG X [] AY:=by
 intro pins s σ H vs us Q I r h
 obtain ⟨e,h⟩:=h
 subst e
 cases r
 exact assignInOrder_nil ⟨σ,H,I,h⟩
theorem Pg {e:Expr} {es:List Expr} {t:TG} {u:m6} (h1:PG X e t) (h2:MG X es u)
  (hs:(assignEach (e :: es) X.env).map (·.2)=assign e X.env :: (assignEach es X.env).map (·.2):=by rfl):MG X (e :: es) (w9 t u):=by
 intro pins s σ H vs us Q I r h
 obtain ⟨v,vr,e1,h⟩:=h
 subst e1
 cases r with
 | cons r rr =>
  rw [hs]
  refine assignInOrder_cons (bP (h1 pins s σ H _ _ _ I r h) fun _ s1 ⟨σ1,H1,I1,q1⟩=>?_)
  exact h2 pins s1 σ1 H1 _ _ Q I1 rr q1
noncomputable def B4 (K:PySem.W.Frag) (n:Nat) (t:m6):TG:=fun v σ H Q=>∃ a xs,v=.ref a/\eE K H a xs/\xs.length=n/\t xs σ H Q
theorem Vm {es:List Expr} {k:Nat} {t:m6} {n:Nat} (hc:X.calm=true) (h:MG X es t)
  (hn:(assignEach es X.env).length=n:=by rfl) (hst:(assignEach es X.env).findIdx? (·.1)=none:=by rfl):PG X (.Tuple es k pos) (B4 X.K n t):=by
 intro pins s σ H v u Q I r hw
 obtain ⟨a,xs,e1,hq,hl,hw⟩:=hw
 subst e1
 cases r
 obtain ⟨its,rv,ht,hz⟩:=I.tuple hq
 refine assign_Tuple_tuple (I.ok.hd hc) ht (by simp [hn,<- hl,rv.length]) hst fun h' hx=>?_
 have I1:Inv X pins σ H { s with heap:=h' }:=I.kept (t':=s.toks) fun b o e=>hx b o (Nat.ne_of_lt (Heap.lt_size e)) e
 exact h pins _ σ H xs _ Q I1 (by simpa using rv) hw
noncomputable def WI (to ti:TE) (t:Pt):TG:=fun v σ H Q=>to σ H fun o H1=>ti σ H1 fun i H2=>t o i v H2 fun H3=>Q σ H3
theorem Vb {o i:Expr} {to ti:TE} {t:Pt} (ho:PE X o to) (hi:PE X i ti) (hs:TY X t)
  (ha:∀ v,assign (.Subscript o i pos) X.env v=(do
   let ov <- holding [v] (eval o X.env)
   let iv <- holding [v,ov] (eval i X.env)
   standAt pos
   holding [v,ov,iv] (setItem ov iv v)
   release [v,ov,iv] []):=by intro _;rfl):PG X (.Subscript o i pos) (WI to ti t):=by
 intro pins s σ H v u Q I r h
 rw [ha]
 refine wpAny_bind (wpAny_holding (bP (ho pins s σ H _ I h) fun ov s1 ⟨x,H1,I1,r1,q1⟩=>?_))
 refine wpAny_bind (wpAny_holding (bP (hi pins s1 σ H1 _ I1 q1) fun iv s2 ⟨y,H2,I2,r2,q2⟩=>?_))
 refine wpAny_bind (wpAny_standAt (wpAny_bind (wpAny_holding (bP (hs pins s2 σ H2 x y v ov iv u _ I2 r1 r2 r q2) fun _ s3 ⟨H3,I3,q3⟩=>?_))))
 exact wpAny_release ⟨σ,H3,I3,q3⟩
noncomputable def I0 (te:TE) (g:TG):TS:=fun D σ H=>te σ H fun x H1=>g x σ H1 D.nx
theorem Vp {tg e:Expr} {te:TE} {g:TG} (he:PE X e te) (hg:PG X tg g) (hs:swapsWithSole [tg] e pos.line X.env=pure false:=by rfl) (hw:swappedStores [tg] e X.env=pure none:=by rfl)
  (h1:(assignEach [tg] X.env).map (·.2)=[assign tg X.env]:=by rfl):PS X (.Assign [tg] e pos) (I0 te g):=by
 intro pins s σ H D I h
 refine wpAny_Assign_stores (bP (he pins s σ H _ I h) fun v s1 ⟨x,H1,I1,r1,q1⟩=>?_) hs hw
 rw [h1]
 exact bP (hg pins s1 σ H1 x v _ I1 r1 q1) fun _ s2 q=>q
theorem CI {i:Nat} {x:Str} {e:Expr} {te:TE} {pos':Pos} (hN:X.N.Nodup) (hi:X.N[i]?=some x) (hx:Loc X.env.scope x) (he:PE X e te) (hs:swapsWith e (some (.Name x pos')) pos.line X.env=pure false:=by rfl) (hf:X.fn x=true\/X.env.scope.names.lookup x=some .local:=by first | exact .inl rfl | exact .inr rfl | assumption) :
  PS X (.Assign [.Name x pos'] e pos) (I0 te (qV i)):=by
 intro pins s σ H D I h
 refine wpAny_Assign_Name (bP (he pins s σ H _ I h) fun v s1 ⟨y,H1,I1,r1,q1⟩=>?_) hs
 exact pY I1 hN hi hx r1 (fun s2 I2=>⟨_,H1,I2,q1⟩) hf
end
section
variable {X:Cx} {pos:Pos}
noncomputable def Ni (c:TT) (tb:TS):TS:=fun D σ H=>∃ W:Nat->St->Hp->Prop,(∃ m,W m σ H)/\∀ m σ H,W m σ H ->
 c σ H fun b H1=>if b=true then ∃ N:St->Hp->Prop,(∀ σ' H',N σ' H'->∃ m',m' < m/\W m' σ' H')/\tb { D with nx:=N,ct:=N,bk:=D.nx } σ H1 else D.nx σ H1
theorem NJ {c:Expr} {body:List Stmt} {tc:TT} {tb:TS} (hp:PassesOwn (model X.prog X.w) X.A X.env X.xe) (hc:PT X c tc) (hb:mF X body tb):PS X (.While c body [] pos) (Ni tc tb):=by
 intro pins s σ H D I h
 obtain ⟨W,⟨m0,w0⟩,turn⟩:=h
 refine wpAny_While (codeAny_whileLoop (fun n s'=>∃ σ' H',Inv X pins σ' H' s'/\W n σ' H') ?_ m0 ⟨σ,H,I,w0⟩)
 rintro n s1 ⟨σ1,H1,I1,w1⟩
 refine wpAny_passesOwn hp (bP (hc pins s1 σ1 H1 _ I1 (turn n σ1 H1 w1)) fun b s2 ⟨H2,I2,q2⟩=>?_)
 cases b with
 | true =>
  obtain ⟨N,hN,q2⟩:=q2
  rw [if_pos rfl]
  refine wpAny_passesOwn hp (bP (hb pins s2 σ1 H2 _ I2 q2) fun f s3 q3=>?_)
  cases f with
  | next =>
   obtain ⟨σ3,H3,I3,n3⟩:=q3
   obtain ⟨m',hm,w3⟩:=hN σ3 H3 n3
   exact ⟨m',hm,σ3,H3,I3,w3⟩
  | cont =>
   obtain ⟨σ3,H3,I3,n3⟩:=q3
   obtain ⟨m',hm,w3⟩:=hN σ3 H3 n3
   exact ⟨m',hm,σ3,H3,I3,w3⟩
  | brk=>exact q3
  | ret v=>exact q3
 | false =>
  rw [if_neg Bool.false_ne_true]
  exact wpAny_execs_nil ⟨σ1,H2,I2,q2⟩
end
structure It where
 go:Nat->Hp->Prop
 yld:Nat->Hp->V->Hp->Prop
 stop:Nat->Hp->Prop
noncomputable def j8 (X:Cx) (pins:List (Addr × Obj)) (H:Hp) (b:Addr):Prop :=
 H b=none/\b≠X.env.locals/\b ∉ X.fs/\(b∈X.ex\/X.s₀.heap.objs.size<=b)/\(∀ x c,X.env.cells.lookup x=some c->c≠b)/\∀ p∈X.pn++pins,p.1≠b
theorem Inv.fpOk {X:Cx} {pins:List (Addr × Obj)} {σ:St} {H H':Hp} {s:Shared} {b:Addr} (I:Inv X pins σ H s) (hb:s.heap.objs.size<=b) (hn:H' b=none):j8 X pins H' b:=by
 refine ⟨hn,Nat.ne_of_gt (Nat.lt_of_lt_of_le I.lt hb),I.nofs hb,.inr (Nat.le_trans I.sz hb),fun x c e z=>?_,fun p hp z=>?_⟩
 ·obtain ⟨v,q⟩:=I.cell x c e
  exact absurd (Nat.lt_of_lt_of_le q.lt (by rw [z];exact hb)) (Nat.lt_irrefl _)
 ·exact absurd (Nat.lt_of_lt_of_le (Heap.lt_size (I.pin p hp).1) (by rw [z];exact hb)) (Nat.lt_irrefl _)
structure Turn (P:Program) (w:World) (K:PySem.W.Frag) (tg:Expr) (J:It) (fp:List Addr) (it:Addr) (tn:Nat->Heap->Prop):Prop where
 mem:it∈fp
 obj:∀ i h,tn i h->∀ b∈fp,∃ o,h.get? b=some o/\∀ v,o.data≠.cell v
 keep:∀ i h h',tn i h->(∀ b∈fp,∀ o,h.get? b=some o->h'.get? b=some o)->tn i h'
 item:∀ (X:Cx),X.prog=P->X.w=w->X.K=K->X.calm=true->∀ (i:Nat) (pins:List (Addr × Obj)) (s:Shared) (σ:St) (H:Hp) (E:Value->Shared->Prop),Inv X pins σ H s->(∀ b∈fp,j8 X pins H b)->tn i s.heap->J.go i H ->
  wpAny (model P w) X.A (pyNext (.ref it)) (fun r s1=>∃ u,r=some u /\
   wpAny (model P w) X.A (letOwnedTupleGo tg (.ref it) u) (fun _ s2=>∃ x H',Inv X pins σ H' s2/\RelV x u/\J.yld i H x H'/\tn (i + 1) s2.heap/\∀ b∈fp,H' b=none) E s1) E s
 done:∀ (X:Cx),X.prog=P->X.w=w->X.K=K->X.calm=true->∀ (i:Nat) (pins:List (Addr × Obj)) (s:Shared) (σ:St) (H:Hp) (E:Value->Shared->Prop),Inv X pins σ H s->(∀ b∈fp,j8 X pins H b)->tn i s.heap->J.stop i H ->
  wpAny (model P w) X.A (pyNext (.ref it)) (fun r s1=>r=none/\Inv X pins σ H s1) E s
 self:∀ (A:Around) (i:Nat) (s:Shared) (Q:Value->Shared->Prop) (E:Value->Shared->Prop),tn i s.heap->Q (.ref it) s->wpAny (model P w) A (pyIter (.ref it)) Q E s
abbrev TI:=St->Hp->(It->Hp->Prop)->Prop
noncomputable def Wf (X:Cx) (pins:List (Addr × Obj)) (σ:St) (tg:Expr) (R:It->Hp->Prop) (itv:Value) (s2:Shared):Prop :=
 ∃ (it:Addr) (fp:List Addr) (tn:Nat->Heap->Prop) (J:It) (H':Hp),itv=.ref it/\Inv X pins σ H' s2/\Turn X.prog X.w X.K tg J fp it tn/\tn 0 s2.heap/\(∀ b∈fp,j8 X pins H' b)/\R J H'
noncomputable def PI (X:Cx) (tg iter:Expr) (wi:TI):Prop :=
 ∀ (pins:List (Addr × Obj)) (s:Shared) (σ:St) (H:Hp) (R:It->Hp->Prop),Inv X pins σ H s->wi σ H R ->
  wpAny (model X.prog X.w) X.A (eval iter X.env) (fun v s1=>wpAny (model X.prog X.w) X.A (pyIter v) (Wf X pins σ tg R) X.xe s1) X.xe s
theorem tT {M:Model} {A:Around} {E:Value->Shared->Prop} {s:Shared} {tg:Expr} {it:Addr} {u:Value} {o:Obj} {n:String} {vs:Array Value} {Q:Unit->Shared->Prop} (ho:s.heap.get? it=some o) (hc:o.cls=.type n) (hd:o.data=.fields vs)
    (hn:["enumerate","zip","dict_itemiterator","dict_reverseitemiterator","odict_iterator","itertools.zip_longest","itertools.pairwise"].contains n=false) (hQ:Q () s):wpAny M A (letOwnedTupleGo tg (.ref it) u) Q E s:=by
  unfold letOwnedTupleGo
  cases tg <;> first
    | exact wpAny_pure hQ
    | (cases u <;> first
        | exact wpAny_pure hQ
        | (refine wpAny_bind (wpAny_load ho ?_)
           rw [hc,hd]
           show wpAny M A (if (["enumerate","zip","dict_itemiterator","dict_reverseitemiterator","odict_iterator","itertools.zip_longest","itertools.pairwise"].contains n && vs[0]? == some (rawInt _))=true then _ else _) Q E s
           rw [if_neg (by intro h;rw [hn,Bool.false_and] at h;cases h)]
           exact wpAny_pure hQ))
noncomputable def Qw (K:PySem.W.Frag) (a:Addr):It :=
 ⟨fun i H=>∃ xs x,dE K H a xs/\xs[i]?=some x,fun i H x H'=>H'=H/\∀ xs,dE K H a xs->xs[i]?=some x,fun i H=>∃ xs,dE K H a xs/\xs.length<=i⟩
noncomputable def UQ (K:PySem.W.Frag) (a:Addr):It :=
 ⟨fun i H=>∃ xs x,eE K H a xs/\xs[i]?=some x,fun i H x H'=>H'=H/\∀ xs,eE K H a xs->xs[i]?=some x,fun i H=>∃ xs,eE K H a xs/\xs.length<=i⟩
noncomputable def zC (lo:Int) (n:Nat):It:=⟨fun i _=>i < n,fun i H x H'=>H'=H/\x=.int (lo + i),fun i _=>n<=i⟩
theorem Li {P:Program} {w:World} {K:PySem.W.Frag} {tg:Expr} (a it:Addr):Turn P w K tg (Qw K a) [it] it (fun i h=>h.IsListIter it a i) where
 mem:=by simp
 obj:=fun i h st b hb=>by
  have e:b=it:=by simpa using hb
  subst e
  obtain ⟨o,e,c,d⟩:=st
  exact ⟨o,e,fun v z=>by rw [d] at z;cases z⟩
 keep:=fun i h h' st k=>st.at fun o e=>k it (by simp) o e
 item:=by
  intro X hP hw hK hc i pins s σ H E I hf st hg
  subst hP hw hK
  obtain ⟨xs,x,hq,hx⟩:=hg
  obtain ⟨its,rv,p,hz⟩:=I.list hq
  obtain ⟨u,hu,ru⟩:=rv.get hx
  obtain ⟨f0,f1,f2,f3,f4,f5⟩:=hf it (by simp)
  refine wpAny_pyNext_list_item st p.isList (x:=u) (by simpa using hu) fun h' st' sb=>?_
  have I1:Inv X pins σ H { s with heap:=h' }:=I.turned (t':=s.toks) (fun b o hb e=>(sb.2 b hb).trans e) f0 f1 f3 f4 f5
  obtain ⟨o,e,c,d⟩:=id st'
  exact ⟨u,rfl,tT (s:={ s with heap:=h' }) e c d (by decide) ⟨x,H,I1,ru,⟨rfl,fun ys hy=>by rw [I.list_inj hy hq];exact hx⟩,st',fun b hb=>(hf b hb).1⟩⟩
 done:=by
  intro X hP hw hK hc i pins s σ H E I hf st hg
  subst hP hw hK
  obtain ⟨xs,hq,hx⟩:=hg
  obtain ⟨its,rv,p,hz⟩:=I.list hq
  obtain ⟨f0,f1,f2,f3,f4,f5⟩:=hf it (by simp)
  have hl:=rv.length
  exact wpAny_pyNext_list_end (I.ok.hd hc) st p.isList (by simp;omega) fun h' eb=>⟨rfl,I.turned (t':=s.toks) (fun b o hb e=>eb b o hb e) f0 f1 f3 f4 f5⟩
 self:=fun _ _ _ _ _ st h=>wpAny_pyIter_listiter st h
theorem IP {P:Program} {w:World} {K:PySem.W.Frag} {tg:Expr} (a it:Addr):Turn P w K tg (UQ K a) [it] it (fun i h=>h.IsTupleIter it a i) where
 mem:=by simp
 obj:=fun i h st b hb=>by
  have e:b=it:=by simpa using hb
  subst e
  obtain ⟨o,e,c,d⟩:=st
  exact ⟨o,e,fun v z=>by rw [d] at z;cases z⟩
 keep:=fun i h h' st k=>st.at fun o e=>k it (by simp) o e
 item:=by
  intro X hP hw hK hc i pins s σ H E I hf st hg
  subst hP hw hK
  obtain ⟨xs,x,hq,hx⟩:=hg
  obtain ⟨its,rv,p,hz⟩:=I.tuple hq
  obtain ⟨u,hu,ru⟩:=rv.get hx
  obtain ⟨f0,f1,f2,f3,f4,f5⟩:=hf it (by simp)
  refine wpAny_pyNext_tuple_item st (show s.heap.IsTuple a its.toArray from p) (x:=u) (by simpa using hu) fun h' st' sb=>?_
  have I1:Inv X pins σ H { s with heap:=h' }:=I.turned (t':=s.toks) (fun b o hb e=>(sb.2 b hb).trans e) f0 f1 f3 f4 f5
  obtain ⟨o,e,c,d⟩:=id st'
  exact ⟨u,rfl,tT (s:={ s with heap:=h' }) e c d (by decide) ⟨x,H,I1,ru,⟨rfl,fun ys hy=>by rw [I.tuple_inj hy hq];exact hx⟩,st',fun b hb=>(hf b hb).1⟩⟩
 done:=by
  intro X hP hw hK hc i pins s σ H E I hf st hg
  subst hP hw hK
  obtain ⟨xs,hq,hx⟩:=hg
  obtain ⟨its,rv,p,hz⟩:=I.tuple hq
  obtain ⟨f0,f1,f2,f3,f4,f5⟩:=hf it (by simp)
  have hl:=rv.length
  exact wpAny_pyNext_tuple_end (I.ok.hd hc) st (show s.heap.IsTuple a its.toArray from p) (by simp;omega) fun h' eb=>⟨rfl,I.turned (t':=s.toks) (fun b o hb e=>eb b o hb e) f0 f1 f3 f4 f5⟩
 self:=fun _ _ _ _ _ st h=>wpAny_pyIter_tupleiter st h
theorem Jo {P:Program} {w:World} {K:PySem.W.Frag} {tg:Expr} (it:Addr) (lo:Int) (n:Nat):Turn P w K tg (zC lo n) [it] it (fun i h=>IsRangeIter h it (lo + (i:Nat) * 1) ((n:Int) - (i:Nat)) 1) where
 mem:=by simp
 obj:=fun i h st b hb=>by
  have e:b=it:=by simpa using hb
  subst e
  exact ⟨_,st,fun v z=>by
   have z':Data.fields _=Data.cell v:=z
   cases z'⟩
 keep:=fun i h h' st k=>k it (by simp) _ st
 item:=by
  intro X hP hw hK hc i pins s σ H E I hf st hg
  subst hP hw hK
  obtain ⟨f0,f1,f2,f3,f4,f5⟩:=hf it (by simp)
  have W:=Walks.range (prog:=X.prog) (w:=X.w) (I.ok.hd hc) it lo 1 n
  refine W.item i s _ _ hg st fun v h' tk hv st' kk=>?_
  obtain ⟨t,rfl⟩:=hv
  have I1:Inv X pins σ H { s with heap:=h',toks:=tk }:=I.turned (fun b o hb e=>kk b o (by simpa using hb) e) f0 f1 f3 f4 f5
  refine ⟨_,rfl,tT (s:={ s with heap:=h',toks:=tk }) (n:="range_iterator") st' rfl rfl (by decide) ⟨.int (lo + i),H,I1,⟨t,?_⟩,⟨rfl,rfl⟩,st',fun b hb=>(hf b hb).1⟩⟩
  rw [Int.mul_one]
 done:=by
  intro X hP hw hK hc i pins s σ H E I hf st hg
  subst hP hw hK
  obtain ⟨f0,f1,f2,f3,f4,f5⟩:=hf it (by simp)
  exact wpAny_pyNext_range_end (I.ok.hd hc) st (by have:n<=i:=hg;omega) fun h' eb=>⟨rfl,I.turned (t':=s.toks) (fun b o hb e=>eb b o hb e) f0 f1 f3 f4 f5⟩
 self:=fun _ _ _ _ _ st h=>wpAny_pyIter_rangeiter st h
section
variable {X:Cx} {tg:Expr}
theorem PF {pins:List (Addr × Obj)} {σ:St} {H:Hp} {s:Shared} {R:It->Hp->Prop} {E:Value->Shared->Prop} {lo hi:Int} {t u v:Tok} {tk:Nat} (I:Inv X pins σ H s) (h1:-(2 ^ 62)<=lo) (h2:lo < 2 ^ 62) (h3:-(2 ^ 62)<=hi) (h4:hi < 2 ^ 62)
  (q:R (zC lo (hi - lo).toNat) H):wpAny (model X.prog X.w) X.A (pyIter (.ref s.heap.objs.size)) (Wf X pins σ tg R) E { s with heap:=s.heap.push { cls:=.type "range",data:=.fields #[.int lo t,.int hi u,.int 1 v] },toks:=tk }:=by
 refine wpAny_pyIter_range (IsRange.new ..) (small_one h1 h2 h3 h4) ?_
 have I1:Inv X pins σ H { s with heap:=s.heap.push { cls:=.type "range",data:=.fields #[.int lo t,.int hi u,.int 1 v] },toks:=tk }:=I.kept fun b o e=>Heap.get?_push_of_some _ e
 refine ⟨(s.heap.push { cls:=.type "range",data:=.fields #[.int lo t,.int hi u,.int 1 v] }).objs.size,[(s.heap.push { cls:=.type "range",data:=.fields #[.int lo t,.int hi u,.int 1 v] }).objs.size],_,_,H,rfl,
  I1.kept (t':=tk) fun b o e=>Heap.get?_push_of_some _ e,Jo _ lo (hi - lo).toNat,?_,fun b hb=>?_,q⟩
 ·have e1:lo + ((0:Nat):Int) * 1=lo:=by simp
  have e2:(((hi - lo).toNat:Nat):Int) - ((0:Nat):Int)=Builtin.Range.rangeSize lo hi 1:=by rw [rangeSize_one];split <;> omega
  show IsRangeIter _ _ (lo + ((0:Nat):Int) * 1) ((((hi - lo).toNat:Nat):Int) - ((0:Nat):Int)) 1
  rw [e1,e2]
  exact Heap.get?_push_size _ rfl
 ·have e:b=(s.heap.push { cls:=.type "range",data:=.fields #[.int lo t,.int hi u,.int 1 v] }).objs.size:=by simpa using hb
  subst e
  exact I1.fpOk (Nat.le_refl _) (I1.hok.fresh (Nat.le_refl _))
noncomputable def Qe (ta:TA):TI:=fun σ H R=>ta σ H fun vs H1=>∃ j:Int,vs=[.int j]/\-(2 ^ 62)<=j/\j < 2 ^ 62/\R (zC 0 j.toNat) H1
theorem Lr {a:Expr} {ta:TA} {p pos:Pos} (hg:Gl X "range") (hm:X.mg "range"=none) (ha:PA X [a] ta) (hs:starEach [a] X.env=[(false,eval a X.env)]:=by rfl):PI X tg (.Call (.Name "range" p) [a] [] pos) (Qe ta):=by
 intro pins s σ H R I h
 refine Call_ (kX I hg hm boot_range (PyProof.Rows.callWith_type1 (bP (ha pos pins s σ H _ I h) fun us s1 ⟨vs,H1,I1,r1,q1⟩=>?_) hs rfl))
 obtain ⟨j,e,q1,q2,q⟩:=q1
 subst e
 cases r1 with
 | cons r rr =>
  cases rr
  obtain ⟨t,rfl⟩:=r
  exact call_range_1 (PF I1 (by omega) (by omega) q1 q2 (by simpa using q))
noncomputable def U0 (wi:TI) (g:TG) (tb:TS):TS:=fun D σ H=>wi σ H fun J H1=>∃ W:Nat->Nat->St->Hp->Prop,(∃ m,W 0 m σ H1)/\∀ i m σ H,W i m σ H ->
 (J.stop i H/\D.nx σ H)\/(J.go i H/\∃ N:St->Hp->Prop,(∀ σ' H',N σ' H'->∃ m',m' < m/\W (i + 1) m' σ' H')/\∀ x H',J.yld i H x H'->g x σ H' fun σ2 H2=>tb { D with nx:=N,ct:=N,bk:=D.nx } σ2 H2)
noncomputable def sE (fp:List Addr) (h:Heap):List (Addr × Obj):=fp.filterMap fun b=>(h.get? b).map fun o=>(b,o)
theorem mP {fp:List Addr} {h:Heap} {b:Addr} {o:Obj} (hb:b∈fp) (e:h.get? b=some o):(b,o)∈sE fp h:=List.mem_filterMap.mpr ⟨b,hb,by rw [e];rfl⟩
theorem Lx {fp:List Addr} {h:Heap} {p:Addr × Obj} (hp:p∈sE fp h):p.1∈fp/\h.get? p.1=some p.2:=by
 obtain ⟨b,hb,e⟩:=List.mem_filterMap.mp hp
 cases q:h.get? b with
 | none=>rw [q] at e;cases e
 | some o =>
  rw [q] at e
  have e':(b,o)=p:=Option.some.inj e
  subst e'
  exact ⟨hb,q⟩
theorem Inv.pinned {pins:List (Addr × Obj)} {σ:St} {H:Hp} {s:Shared} {fp:List Addr} (I:Inv X pins σ H s) (hf:∀ b∈fp,j8 X pins H b) (ho:∀ b∈fp,∃ o,s.heap.get? b=some o/\∀ v,o.data≠.cell v):Inv X (pins++sE fp s.heap) σ H s :=
 I.pins_of fun p hp=>(List.mem_append.mp hp).elim (fun z=>I.pin p (List.mem_append_right _ z)) fun z=>by
  obtain ⟨hb,e⟩:=Lx z
  obtain ⟨f0,f1,f2,_⟩:=hf p.1 hb
  obtain ⟨o,e',d⟩:=ho p.1 hb
  rw [e] at e';cases e'
  exact ⟨e,f0,f1,f2,d⟩
theorem Inv.unpinned {pins pl:List (Addr × Obj)} {σ:St} {H:Hp} {s:Shared} (I:Inv X (pins++pl) σ H s):Inv X pins σ H s:=I.pins_of fun p hp=>I.pin p (List.mem_append_right _ (List.mem_append_left _ hp))
theorem SG {iter:Expr} {body:List Stmt} {wi:TI} {g:TG} {tb:TS} {pos:Pos} (hp:PassesOwn (model X.prog X.w) X.A X.env X.xe) (hc:X.calm=true) (hi:PI X tg iter wi) (hg:PG X tg g) (hb:mF X body tb)
  (hs:∀ x,foldedSetIterable iter X.env x=pure x:=by intro _;rfl):PS X (.For tg iter body [] pos) (U0 wi g tb):=by
 intro pins s σ H D I h
 refine wpAny_For (bP (hi pins s σ H _ I h) fun v s1 h1=>bP h1 fun itv s2 h2=>?_) hs
 obtain ⟨it,fp,tn,J,H2,e,I2,T,j2,f2,W,⟨m0,w0⟩,turn⟩:=h2
 subst e
 have stat:∀ {H':Hp},(∀ b∈fp,H' b=none)->∀ b∈fp,j8 X pins H' b:=fun hn b hb=>⟨hn b hb,(f2 b hb).2⟩
 refine codeAny_forLoop_any (fun n s'=>∃ i σ' H',Inv X pins σ' H' s'/\tn i s'.heap/\(∀ b∈fp,H' b=none)/\W i n σ' H') ?_ m0 ⟨0,σ,H2,I2,j2,fun b hb=>(f2 b hb).1,w0⟩
 rintro n s3 ⟨i,σ3,H3,I3,st3,fr3,w3⟩
 rcases turn i n σ3 H3 w3 with ⟨stop,qn⟩ | ⟨go,N,hN,step⟩
 ·refine wpAny_passesOwn hp (bP (T.done X rfl rfl rfl hc i pins s3 σ3 H3 X.xe I3 (stat fr3) st3 stop) fun r s4 ⟨hr,I4⟩=>?_)
  subst hr
  exact wpAny_execs_nil ⟨σ3,H3,I4,qn⟩
 ·refine wpAny_passesOwn hp (bP (T.item X rfl rfl rfl hc i pins s3 σ3 H3 X.xe I3 (stat fr3) st3 go) fun r s4 ⟨u,hr,h4⟩=>?_)
  subst hr
  refine wpAny_passesOwn hp (bP h4 fun _ s5 ⟨x,H5,I5,r5,y5,st5,fr5⟩=>?_)
  have I5':=I5.pinned (stat fr5) (T.obj _ _ st5)
  refine wpAny_passesOwn hp (bP (hg _ s5 σ3 H5 x u _ I5' r5 (step x H5 y5)) fun _ s6 ⟨σ6,H6,I6,q6⟩=>?_)
  refine wpAny_passesOwn hp (bP (hb _ s6 σ6 H6 _ I6 q6) fun f s7 q7=>?_)
  have again:∀ {σ7:St} {H7:Hp},Inv X (pins++sE fp s5.heap) σ7 H7 s7->N σ7 H7->∃ m,m < n/\∃ i σ' H',Inv X pins σ' H' s7/\tn i s7.heap/\(∀ b∈fp,H' b=none)/\W i m σ' H':=fun {σ7 H7} I7 n7=>by
   obtain ⟨m',hm,w7⟩:=hN σ7 H7 n7
   refine ⟨m',hm,i + 1,σ7,H7,I7.unpinned,T.keep _ _ _ st5 fun b hb o e=>(I7.pin (b,o) (List.mem_append_right _ (List.mem_append_right _ (mP hb e)))).1,fun b hb=>?_,w7⟩
   obtain ⟨o,e,d⟩:=T.obj _ _ st5 b hb
   exact (I7.pin (b,o) (List.mem_append_right _ (List.mem_append_right _ (mP hb e)))).2.1
  cases f with
  | next=>obtain ⟨σ7,H7,I7,n7⟩:=q7;exact again I7 n7
  | cont=>obtain ⟨σ7,H7,I7,n7⟩:=q7;exact again I7 n7
  | brk=>obtain ⟨σ7,H7,I7,q7⟩:=q7;exact ⟨σ7,H7,I7.unpinned,q7⟩
  | ret v=>obtain ⟨x7,σ7,H7,I7,r7,q7⟩:=q7;exact ⟨x7,σ7,H7,I7.unpinned,r7,q7⟩
end
abbrev R2:=V->V->Hp->VK->Prop
noncomputable def cU (X:Cx) (f:Value->Value->Sem Value) (r:R2):Prop :=
 ∀ (pins:List (Addr × Obj)) (s:Shared) (σ:St) (H:Hp) (x y:V) (v u:Value) (Q:VK),Inv X pins σ H s->RelV x v->RelV y u->r x y H Q ->
  wpAny (model X.prog X.w) X.A (f v u) (EP X pins σ Q) X.xe s
noncomputable def SE (X:Cx) (f:Value->Sem Value) (r:V->Hp->VK->Prop):Prop :=
 ∀ (pins:List (Addr × Obj)) (s:Shared) (σ:St) (H:Hp) (x:V) (v:Value) (Q:VK),Inv X pins σ H s->RelV x v->r x H Q ->
  wpAny (model X.prog X.w) X.A (f v) (EP X pins σ Q) X.xe s
noncomputable def fJ (X:Cx) (f:Value) (r:List V->Hp->VK->Prop):Prop :=
 ∀ (pins:List (Addr × Obj)) (s:Shared) (σ:St) (H:Hp) (xs:List V) (us:List Value) (Q:VK),Inv X pins σ H s->Vals xs us->r xs H Q ->
  wpAny (model X.prog X.w) X.A (call f us) (EP X pins σ Q) X.xe s
noncomputable def WG (X:Cx) (r:V->Hp->(Bool->Hp->Prop)->Prop):Prop :=
 ∀ (pins:List (Addr × Obj)) (s:Shared) (σ:St) (H:Hp) (x:V) (v:Value) (Q:Bool->Hp->Prop),Inv X pins σ H s->RelV x v->r x H Q ->
  wpAny (model X.prog X.w) X.A (truthy v) (TP X pins σ Q) X.xe s
noncomputable def Gz (r:R2) (ta tb:TE):TE:=fun σ H Q=>ta σ H fun x H1=>tb σ H1 fun y H2=>r x y H2 Q
noncomputable def Wx (r:V->Hp->VK->Prop) (ta:TE):TE:=fun σ H Q=>ta σ H fun x H1=>r x H1 Q
noncomputable def rI (C:Int->Int->Prop) (g:Int->Int->V):R2:=fun x y H Q=>∃ i j,x=.int i/\y=.int j/\C i j/\Q (g i j) H
noncomputable def rF (g:Int->Int->V):R2:=fun x y H Q=>∃ i j,x=.int i/\y=.int j/\Q (g i j) H
noncomputable def rU (g:Int->V):V->Hp->VK->Prop:=fun x H Q=>∃ i,x=.int i/\Q (g i) H
section
variable {X:Cx} {a b c:Expr} {ta tb tc:TE} {pos:Pos}
theorem Jc (ha:PE X a ta) (hb:PE X b tb) {pins:List (Addr × Obj)} {s:Shared} {σ:St} {H:Hp} {R:V->V->Hp->Prop} (I:Inv X pins σ H s)
  (h:ta σ H fun x H1=>tb σ H1 fun y H2=>R x y H2) {Q:Value->Shared->Prop} {f:Value->Value->Sem Value}
  (hf:∀ v u s2 x y H2,Inv X pins σ H2 s2->RelV x v->RelV y u->R x y H2->wpAny (model X.prog X.w) X.A (f v u) Q X.xe s2) :
  wpAny (model X.prog X.w) X.A (eval a X.env) (fun v s₁=>wpAny (model X.prog X.w) X.A (eval b X.env) (fun u s₂=>wpAny (model X.prog X.w) X.A (f v u) Q X.xe s₂) X.xe s₁) X.xe s:=by
 refine bP (ha pins s σ H _ I h) fun v s1 ⟨x,H1,I1,r1,q1⟩=>?_
 refine bP (hb pins s1 σ H1 _ I1 q1) fun u s2 ⟨y,H2,I2,r2,q2⟩=>?_
 exact hf v u s2 x y H2 I2 r1 r2 q2
theorem VJ {op:Operator} {r:R2} (ho:cU X (binaryOp op) r) (ha:PE X a ta) (hb:PE X b tb):PE X (.BinOp a op b pos) (Gz r ta tb):=by
 intro pins s σ H Q I h
 exact wpAny_BinOp (Jc ha hb I h fun v u s2 x y H2 I2 rx ry q=>ho pins s2 σ H2 x y v u Q I2 rx ry q)
theorem Wa {op:UnaryOp} {r:V->Hp->VK->Prop} (ho:SE X (unaryOp op) r) (ha:PE X a ta):PE X (.UnaryOp op a pos) (Wx r ta):=by
 intro pins s σ H Q I h
 exact UnaryOp_ (bP (ha pins s σ H _ I h) fun v s1 ⟨x,H1,I1,r1,q1⟩=>ho pins s1 σ H1 x v Q I1 r1 q1)
theorem P4 {f:Value->Value->Sem Value} {C:Int->Int->Prop} {g:Int->Int->Int}
  (rule:∀ (i j:Int) (t u:Tok) (s:Shared) (Q:Value->Shared->Prop) (E:Value->Shared->Prop),C i j->Q (.int (g i j) s.toks) { s with toks:=s.toks + 1 }->wpAny (model X.prog X.w) X.A (f (.int i t) (.int j u)) Q E s) :
  cU X f (rI C fun i j=>.int (g i j)):=by
 intro pins s σ H x y v u Q I rx ry h
 obtain ⟨i,j,rfl,rfl,hc,q⟩:=h
 obtain ⟨t,rfl⟩:=rx
 obtain ⟨t',rfl⟩:=ry
 exact rule i j t t' s _ _ hc ⟨.int (g i j),H,I.tok _,⟨_,rfl⟩,q⟩
theorem S0 {f:Value->Value->Sem Value} {g:Int->Int->Int}
  (rule:∀ (i j:Int) (t u:Tok) (s:Shared) (Q:Value->Shared->Prop) (E:Value->Shared->Prop),Q (.int (g i j) s.toks) { s with toks:=s.toks + 1 }->wpAny (model X.prog X.w) X.A (f (.int i t) (.int j u)) Q E s) :
  cU X f (rF fun i j=>.int (g i j)):=by
 intro pins s σ H x y v u Q I rx ry h
 obtain ⟨i,j,rfl,rfl,q⟩:=h
 obtain ⟨t,rfl⟩:=rx
 obtain ⟨t',rfl⟩:=ry
 exact rule i j t t' s _ _ ⟨.int (g i j),H,I.tok _,⟨_,rfl⟩,q⟩
theorem J2 {f:Value->Value->Sem Value} {g:Int->Int->Bool}
  (rule:∀ (i j:Int) (t u:Tok) (s:Shared) (Q:Value->Shared->Prop) (E:Value->Shared->Prop),Q (.bool (g i j)) s->wpAny (model X.prog X.w) X.A (f (.int i t) (.int j u)) Q E s) :
  cU X f (rF fun i j=>.bl (g i j)):=by
 intro pins s σ H x y v u Q I rx ry h
 obtain ⟨i,j,rfl,rfl,q⟩:=h
 obtain ⟨t,rfl⟩:=rx
 obtain ⟨t',rfl⟩:=ry
 exact rule i j t t' s _ _ ⟨.bl (g i j),H,I,rfl,q⟩
noncomputable def Ul (i j:Int):Prop:=0<=j/\j<=1000000/\i.natAbs < 2 ^ 64
noncomputable def OG (i j:Int):Prop:=(-(2 ^ 64) < i/\i < 2 ^ 64)\/(-(2 ^ 64) < j/\j < 2 ^ 64)
theorem OG.ok {i j:Int} (h:OG i j):IntMulOk i j:=by
 rcases h with ⟨h1,h2⟩ | ⟨h1,h2⟩
 ·exact .of_left (intBits_le_64 h1 h2)
 ·exact .of_right (intBits_le_64 h1 h2)
theorem VN (k:Nat):(0:Int)<=2 ^ k:=by
 rw [two_pow_cast]
 exact Int.natCast_nonneg _
theorem T7:cU X (binaryOp .Add) (rF fun i j=>.int (i + j)):=S0 fun _ _ _ _ _ _ _ q=>add_int q
theorem UH:cU X (binaryOp .Sub) (rF fun i j=>.int (i - j)):=S0 fun _ _ _ _ _ _ _ q=>sub_int q
theorem Ub:cU X (binaryOp .Mod) (rI (fun _ j=>0 < j) fun i j=>.int (i % j)):=P4 fun i j _ _ _ _ _ hc q=>by
 have h1:(0:Int) < j:=hc
 exact mod_int' (by omega) (by rw [Int.fmod_eq_emod_of_nonneg i (by omega)];exact q)
theorem Tf:cU X (binaryOp .Pow) (rI Ul fun i j=>.int (i ^ j.toNat)):=P4 fun _ _ _ _ _ _ _ hc q=>pow_int_small hc.1 hc.2.1 hc.2.2 q
theorem WW {f:Value->Sem Value} {g:Int->Int}
  (rule:∀ (i:Int) (t:Tok) (s:Shared) (Q:Value->Shared->Prop) (E:Value->Shared->Prop),Q (.int (g i) s.toks) { s with toks:=s.toks + 1 }->wpAny (model X.prog X.w) X.A (f (.int i t)) Q E s) :
  SE X f (rU fun i=>.int (g i)):=by
 intro pins s σ H x v Q I rx h
 obtain ⟨i,rfl,q⟩:=h
 obtain ⟨t,rfl⟩:=rx
 exact rule i t s _ _ ⟨.int (g i),H,I.tok _,⟨_,rfl⟩,q⟩
theorem T4:SE X (unaryOp .USub) (rU fun i=>.int (-i)):=WW fun _ _ _ _ _ q=>neg_int q
end
noncomputable def Hq:V->V->Bool
 | .non,.non=>true | .non,.int _=>true | .int _,.non=>true | .non,.bl _=>true | .bl _,.non=>true | .non,.str _=>true | .str _,.non=>true
 | .int _,.int _=>true | .bl _,.bl _=>true | .str _,.str _=>true | .byt _,.byt _=>true
 | .int _,.str _=>true | .str _,.int _=>true | .bl _,.str _=>true | .str _,.bl _=>true
 | _,_=>false
noncomputable def W5:R2:=fun x y H Q=>Hq x y=true/\Q (.bl (decide (x=y))) H
noncomputable def WX:R2:=fun x y H Q=>Hq x y=true/\Q (.bl (!decide (x=y))) H
theorem GU {i j:Int}:decide (V.int i=V.int j)=(i == j):=by
 rw [Bool.eq_iff_iff]
 simp
theorem Mc {i j:Bool}:decide (V.bl i=V.bl j)=(i == j):=by
 rw [Bool.eq_iff_iff]
 simp
theorem GG {i j:Str}:decide (V.str i=V.str j)=(i == j):=by
 rw [Bool.eq_iff_iff]
 simp
theorem GX {i j:Array UInt8}:decide (V.byt i=V.byt j)=(i.toList == j.toList):=by
 rw [Bool.eq_iff_iff]
 cases i
 cases j
 simp
section
variable {X:Cx} {a b c:Expr} {ta tb tc:TE} {pos:Pos}
theorem b0 {pins:List (Addr × Obj)} {σ:St} {H:Hp} {s:Shared} {Q:VK} {k k':Bool} (I:Inv X pins σ H s) (q:Q (.bl k) H) (e:k=k'):EP X pins σ Q (.bool k') s:=by
 subst e
 exact ⟨.bl k,H,I,rfl,q⟩
theorem VY:cU X (compareOp .Eq) W5:=by
 intro pins s σ H x y v u Q I rx ry h
 obtain ⟨hs,q⟩:=h
 cases x with
 | non =>
  cases rx
  cases y with
  | non=>cases ry;exact PySem.EqNone.eq_none_none (b0 I q (by simp))
  | bl j=>cases ry;exact PySem.EqNone.eq_none_bool (b0 I q (by simp))
  | int j=>obtain ⟨t',rfl⟩:=ry;exact PySem.EqNone.eq_none_int (b0 I q (by simp))
  | str j=>obtain ⟨t',rfl⟩:=ry;exact PySem.EqNone.eq_none_str (b0 I q (by simp))
  | _=>exact absurd (show false=true from hs) Bool.false_ne_true
 | bl i =>
  cases rx
  cases y with
  | non=>cases ry;exact PySem.EqNone.eq_bool_none (b0 I q (by simp))
  | bl j=>cases ry;exact eq_bool (b0 I q Mc)
  | str j=>obtain ⟨t',rfl⟩:=ry;exact PySem.EqMixed.eq_bool_str (b0 I q (by simp))
  | _=>exact absurd (show false=true from hs) Bool.false_ne_true
 | int i =>
  obtain ⟨t,rfl⟩:=rx
  cases y with
  | non=>cases ry;exact PySem.EqNone.eq_int_none (b0 I q (by simp))
  | int j=>obtain ⟨t',rfl⟩:=ry;exact eq_int (b0 I q GU)
  | str j=>obtain ⟨t',rfl⟩:=ry;exact PySem.EqMixed.eq_int_str (b0 I q (by simp))
  | _=>exact absurd (show false=true from hs) Bool.false_ne_true
 | str i =>
  obtain ⟨t,rfl⟩:=rx
  cases y with
  | non=>cases ry;exact PySem.EqNone.eq_str_none (b0 I q (by simp))
  | bl j=>cases ry;exact PySem.EqMixed.eq_str_bool (b0 I q (by simp))
  | int j=>obtain ⟨t',rfl⟩:=ry;exact PySem.EqMixed.eq_str_int (b0 I q (by simp))
  | str j=>obtain ⟨t',rfl⟩:=ry;exact eq_str (b0 I q GG)
  | _=>exact absurd (show false=true from hs) Bool.false_ne_true
 | byt i =>
  obtain ⟨t,rfl⟩:=rx
  cases y with
  | byt j=>obtain ⟨t',rfl⟩:=ry;exact PySem.W.eq_bytes (b0 I q GX)
  | _=>exact absurd (show false=true from hs) Bool.false_ne_true
 | _=>cases y <;> exact absurd (show false=true from hs) Bool.false_ne_true
theorem Wb:cU X (compareOp .NotEq) WX:=by
 intro pins s σ H x y v u Q I rx ry h
 obtain ⟨hs,q⟩:=h
 cases x with
 | non =>
  cases rx
  cases y with
  | non=>cases ry;exact PySem.EqNone.ne_none_none (b0 I q (by simp))
  | bl j=>cases ry;exact PySem.EqNone.ne_none_bool (b0 I q (by simp))
  | int j=>obtain ⟨t',rfl⟩:=ry;exact PySem.EqNone.ne_none_int (b0 I q (by simp))
  | str j=>obtain ⟨t',rfl⟩:=ry;exact PySem.EqNone.ne_none_str (b0 I q (by simp))
  | _=>exact absurd (show false=true from hs) Bool.false_ne_true
 | bl i =>
  cases rx
  cases y with
  | non=>cases ry;exact PySem.EqNone.ne_bool_none (b0 I q (by simp))
  | bl j=>cases ry;exact ne_bool (b0 I q (congrArg not Mc))
  | str j=>obtain ⟨t',rfl⟩:=ry;exact PySem.EqMixed.ne_bool_str (b0 I q (by simp))
  | _=>exact absurd (show false=true from hs) Bool.false_ne_true
 | int i =>
  obtain ⟨t,rfl⟩:=rx
  cases y with
  | non=>cases ry;exact PySem.EqNone.ne_int_none (b0 I q (by simp))
  | int j=>obtain ⟨t',rfl⟩:=ry;exact ne_int (b0 I q (congrArg not GU))
  | str j=>obtain ⟨t',rfl⟩:=ry;exact PySem.EqMixed.ne_int_str (b0 I q (by simp))
  | _=>exact absurd (show false=true from hs) Bool.false_ne_true
 | str i =>
  obtain ⟨t,rfl⟩:=rx
  cases y with
  | non=>cases ry;exact PySem.EqNone.ne_str_none (b0 I q (by simp))
  | bl j=>cases ry;exact PySem.EqMixed.ne_str_bool (b0 I q (by simp))
  | int j=>obtain ⟨t',rfl⟩:=ry;exact PySem.EqMixed.ne_str_int (b0 I q (by simp))
  | str j=>obtain ⟨t',rfl⟩:=ry;exact ne_str (b0 I q (congrArg not GG))
  | _=>exact absurd (show false=true from hs) Bool.false_ne_true
 | byt i =>
  obtain ⟨t,rfl⟩:=rx
  cases y with
  | byt j=>obtain ⟨t',rfl⟩:=ry;exact PySem.W.ne_bytes (b0 I q (congrArg not GX))
  | _=>exact absurd (show false=true from hs) Bool.false_ne_true
 | _=>cases y <;> exact absurd (show false=true from hs) Bool.false_ne_true
theorem Vx:cU X (compareOp .Lt) (rF fun i j=>.bl (decide (i < j))):=J2 fun _ _ _ _ _ _ _ q=>lt_int q
theorem V7:cU X (compareOp .LtE) (rF fun i j=>.bl (decide (i<=j))):=J2 fun _ _ _ _ _ _ _ q=>le_int q
theorem Vz:cU X (compareOp .Gt) (rF fun i j=>.bl (decide (j < i))):=J2 fun _ _ _ _ _ _ _ q=>gt_int q
theorem Vv:cU X (compareOp .GtE) (rF fun i j=>.bl (decide (j<=i))):=J2 fun _ _ _ _ _ _ _ q=>ge_int q
theorem ML:cU X (compareOp .In) (fun x y H Q=>∃ i j,x=.str i/\y=.str j/\Q (.bl (!(Builtin.Str.occurrences j i 0 j.length 1).isEmpty)) H):=by
 intro pins s σ H x y v u Q I rx ry h
 obtain ⟨i,j,rfl,rfl,q⟩:=h
 obtain ⟨t,rfl⟩:=rx
 obtain ⟨t',rfl⟩:=ry
 exact in_str (b0 I q rfl)
theorem Uo:cU X (compareOp .Is) (fun x y H Q=>y=.non/\Q (.bl (decide (x=.non))) H):=by
 intro pins s σ H x y v u Q I rx ry h
 obtain ⟨rfl,q⟩:=h
 cases ry
 refine is_none_gen (b0 I q ?_)
 cases x <;> first
  | (cases rx;rfl)
  | (obtain ⟨t,rfl⟩:=rx;rfl)
theorem cU.or {f:Value->Value->Sem Value} {r r':R2} (h:cU X f r) (h':cU X f r'):cU X f (fun x y H Q=>r x y H Q\/r' x y H Q):=by
 intro pins s σ H x y v u Q I rx ry q
 rcases q with q | q
 ·exact h pins s σ H x y v u Q I rx ry q
 ·exact h' pins s σ H x y v u Q I rx ry q
theorem Nz (b:Expr) {op:CmpOp} (h:op≠.In:=by decide) (h2:op≠.NotIn:=by decide):behindInMarks op b=false:=by
 have e1:(op == CmpOp.In)=false:=by cases op <;> first | rfl | exact absurd rfl h
 have e2:(op == CmpOp.NotIn)=false:=by cases op <;> first | rfl | exact absurd rfl h2
 cases b <;> simp [behindInMarks,e1,e2]
theorem RE {op:CmpOp} {r:R2} (ho:cU X (compareOp op) r) (ha:PE X a ta) (hb:PE X b tb) (hm:behindInMarks op b=false):PE X (.Compare a [op] [b] pos) (Gz r ta tb):=by
 intro pins s σ H Q I h
 exact wpAny_Compare1 (Jc ha hb I h fun v u s2 x y H2 I2 rx ry q=>ho pins s2 σ H2 x y v u Q I2 rx ry q) hm
noncomputable def Hn (t:TE):TT:=fun σ H Q=>t σ H fun x H'=>∃ k,x=.bl k/\Q k H'
theorem R9 {op:CmpOp} {r:R2} (ho:cU X (compareOp op) r) (ha:PE X a ta) (hb:PE X b tb) (hm:behindInMarks op b=false):PT X (.Compare a [op] [b] pos) (Hn (Gz r ta tb)):=by
 intro pins s σ H Q I h
 refine wpAny_isTrue_Compare1 (bP (ha pins s σ H _ I h) fun v s1 ⟨x,H1,I1,r1,q1⟩=>bP (hb pins s1 σ H1 _ I1 q1) fun u s2 ⟨y,H2,I2,r2,q2⟩ =>
  bP (ho pins s2 σ H2 x y v u _ I2 r1 r2 q2) fun c s3 ⟨z,H3,I3,r3,k,e,q3⟩=>?_) hm
 subst e
 cases r3
 exact wpAny_truthy_bool ⟨H3,I3,q3⟩
noncomputable def Bk (r r':R2) (ta tb tc:TE):TE:=fun σ H Q=>ta σ H fun x H1=>tb σ H1 fun y H2=>r x y H2 fun z H3=>∃ k,z=.bl k /\
 (if k=true then tc σ H3 fun w' H4=>r' y w' H4 Q else Q (.bl false) H3)
theorem NW {op op':CmpOp} {r r':R2} (ho:cU X (compareOp op) r) (ho':cU X (compareOp op') r') (ha:PE X a ta) (hb:PE X b tb) (hc:PE X c tc)
  (hm:lastMarks [op,op'] [b,c]=false:=by with_unfolding_all rfl):PE X (.Compare a [op,op'] [b,c] pos) (Bk r r' ta tb tc):=by
 intro pins s σ H Q I h
 refine Compare_chain (bP (ha pins s σ H _ I h) fun v s1 ⟨x,H1,I1,r1,q1⟩=>chain_link (bP (hb pins s1 σ H1 _ I1 q1) fun u s2 ⟨y,H2,I2,r2,q2⟩ =>
  bP (ho pins s2 σ H2 x y v u _ I2 r1 r2 q2) fun d s3 ⟨z,H3,I3,r3,k,e,q3⟩=>?_)) hm
 subst e
 cases r3
 refine wpAny_truthy_bool ?_
 cases k with
 | false=>exact ite_ff ⟨.bl false,H3,I3,rfl,q3⟩
 | true=>exact ite_tt (chain_last (bP (hc pins s3 σ H3 _ I3 q3) fun w' s4 ⟨z',H4,I4,r4,q4⟩=>ho' pins s4 σ H4 y z' u w' Q I4 r2 r4 q4))
theorem Ow {op op':CmpOp} {r r':R2} (ho:cU X (compareOp op) r) (ho':cU X (compareOp op') r') (ha:PE X a ta) (hb:PE X b tb) (hc:PE X c tc)
  (hm:lastMarks [op,op'] [b,c]=false:=by with_unfolding_all rfl):PT X (.Compare a [op,op'] [b,c] pos) (Hn (Bk r r' ta tb tc)):=by
 intro pins s σ H Q I h
 refine isTrue_chain (bP (ha pins s σ H _ I h) fun v s1 ⟨x,H1,I1,r1,q1⟩=>test_link (bP (hb pins s1 σ H1 _ I1 q1) fun u s2 ⟨y,H2,I2,r2,q2⟩ =>
  bP (ho pins s2 σ H2 x y v u _ I2 r1 r2 q2) fun d s3 ⟨z,H3,I3,r3,k,e,q3⟩=>?_)) hm
 subst e
 cases r3
 refine wpAny_truthy_bool ?_
 cases k with
 | false =>
  obtain ⟨k',e',q'⟩:=q3
  cases e'
  exact ite_ff ⟨H3,I3,q'⟩
 | true =>
  refine ite_tt (test_last (bP (hc pins s3 σ H3 _ I3 q3) fun w' s4 ⟨z',H4,I4,r4,q4⟩=>bP (ho' pins s4 σ H4 y z' u w' _ I4 r2 r4 q4) fun d' s5 ⟨z2,H5,I5,r5,k2,e2,q5⟩=>?_))
  subst e2
  cases r5
  exact wpAny_truthy_bool ⟨H5,I5,q5⟩
noncomputable def Pm (K:PySem.W.Frag) (x:V) (H:Hp) (k:Bool):Prop :=
 match x with
 | .non=>k=false
 | .bl b=>k=b
 | .int i=>k=(i != 0)
 | .str y=>y.length<=sizeLine/\k=((y.length:Int) != 0)
 | .byt y=>y.size<=sizeLine/\k=((y.size:Int) != 0)
 | .ref p=>(∃ xs,dE K H p xs/\k=!xs.isEmpty)\/(∃ xs,eE K H p xs/\k=!xs.isEmpty)\/∃ kvs,H p=some (.dK kvs)/\k=!kvs.isEmpty
 | _=>False
theorem Iy {κ:Type} {kvs:List (κ × V)} {vs:List (κ × Value)} (r:KV kvs vs):(!vs.isEmpty)=!kvs.isEmpty:=by
 cases r <;> rfl
theorem wI {xs:List V} {its:List Value} (r:Vals xs its):(!its.toArray.isEmpty)=!xs.isEmpty:=by
 cases r <;> simp
theorem pD:(sizeLine:Nat) < 2 ^ 63:=by rw [sizeLine_eq];decide
theorem TZ:WG X (fun x H Q=>∃ k,Pm X.K x H k/\Q k H):=by
 intro pins s σ H x v Q I rx h
 obtain ⟨k,e,q⟩:=h
 have hl:=pD
 have hs:sizeLine=16777216:=sizeLine_eq
 cases x with
 | non =>
  cases rx
  have e':k=false:=e
  subst e'
  exact truthy_none ⟨H,I,q⟩
 | bl b =>
  cases rx
  have e':k=b:=e
  subst e'
  exact wpAny_truthy_bool ⟨H,I,q⟩
 | int i =>
  obtain ⟨t,rfl⟩:=rx
  have e':k=(i != 0):=e
  subst e'
  exact PySem.P.truthy_int ⟨H,I,q⟩
 | str y =>
  obtain ⟨t,rfl⟩:=rx
  obtain ⟨hy,e'⟩:y.length<=sizeLine/\k=((y.length:Int) != 0):=e
  subst e'
  exact PySem.P.truthy_str (by omega) ⟨H,I.tok _,q⟩
 | byt y =>
  obtain ⟨t,rfl⟩:=rx
  obtain ⟨hy,e'⟩:y.size<=sizeLine/\k=((y.size:Int) != 0):=e
  subst e'
  exact PySem.W.truthy_bytes (by omega) ⟨H,I.tok _,q⟩
 | ref p =>
  cases rx
  have e':(∃ xs,dE X.K H p xs/\k=!xs.isEmpty)\/(∃ xs,eE X.K H p xs/\k=!xs.isEmpty)\/∃ kvs,H p=some (.dK kvs)/\k=!kvs.isEmpty:=e
  rcases e' with ⟨xs,hx,e'⟩ | ⟨xs,hx,e'⟩ | ⟨kvs,hx,e'⟩
  ·subst e'
   obtain ⟨its,r,pl,hz⟩:=I.list hx
   have hlen:=r.length
   exact wpAny_truthy_list pl.isList (by simp only [List.size_toArray];omega) ⟨H,I.tok _,by rw [wI r];exact q⟩
  ·subst e'
   obtain ⟨its,r,pl,hz⟩:=I.tuple hx
   have hlen:=r.length
   exact truthy_tuple pl (by simp only [List.size_toArray];omega) ⟨H,I.tok _,by rw [wI r];exact q⟩
  ·subst e'
   obtain ⟨hz,hS,vs,r,m⟩:kvs.length<=sizeLine/\(p == sysModules)=false/\∃ vs,KV kvs vs/\s.heap.DictOf (tS X.prog X.w) p vs:=I.hok p _ hx
   have hlen:kvs.length=vs.length:=Paired.length r
   exact wpAny_truthy_dict hS m (by omega) ⟨H,I.tok _,by rw [Iy r];exact q⟩
 | _=>exact (show False from e).elim
theorem PM (ha:PE X a ta) (he:∀ whole,isTrue a X.env whole=(do let v <- whole;standAt a.pos;holding [v] (truthy v))) :
  PT X a (fun σ H Q=>ta σ H fun x H'=>∃ k,Pm X.K x H' k/\Q k H'):=by
 intro pins s σ H Q I h
 exact isTrue_plain (bP (ha pins s σ H _ I h) fun v s1 ⟨x,H1,I1,r1,q1⟩=>TZ pins s1 σ H1 x v Q I1 r1 q1) (he _)
theorem JO:cU X (binaryOp .Add) (fun x y H Q=>∃ i j,x=.str i/\y=.str j/\i.length + j.length<=sizeLine/\Q (.str (i++j)) H):=by
 intro pins s σ H x y v u Q I rx ry h
 obtain ⟨i,j,rfl,rfl,hz,q⟩:=h
 obtain ⟨t,rfl⟩:=rx
 obtain ⟨t',rfl⟩:=ry
 exact add_str (fun t' tk=>⟨.str (i++j),H,I.tok _,⟨_,rfl⟩,q⟩) hz
theorem vals1 {x:V} {us:List Value} (r:Vals [x] us):∃ u,us=[u]/\RelV x u:=by
 cases r with
 | cons r1 r2=>cases r2;exact ⟨_,rfl,r1⟩
theorem vals2 {x y:V} {us:List Value} (r:Vals [x,y] us):∃ u w',us=[u,w']/\RelV x u/\RelV y w':=by
 cases r with
 | cons r1 r2 =>
  cases r2 with
  | cons r3 r4=>cases r4;exact ⟨_,_,rfl,r1,r3⟩
theorem Lf (hc:X.calm=true):fJ X (.builtin "max") (fun xs H Q=>∃ i j,xs=[.int i,.int j]/\Q (.int (if j > i then j else i)) H):=by
 intro pins s σ H xs us Q I r h
 obtain ⟨i,j,rfl,q⟩:=h
 obtain ⟨u,w',rfl,⟨t,rfl⟩,⟨t',rfl⟩⟩:=vals2 r
 refine max_two_ints (I.ok.hd hc) fun h' tk k=>⟨_,H,I.kept k,?_,q⟩
 by_cases hj:j > i
 ·rw [if_pos hj,if_pos hj];exact ⟨_,rfl⟩
 ·rw [if_neg hj,if_neg hj];exact ⟨_,rfl⟩
theorem LS (hc:X.calm=true):fJ X (.builtin "min") (fun xs H Q=>∃ i j,xs=[.int i,.int j]/\Q (.int (if j < i then j else i)) H):=by
 intro pins s σ H xs us Q I r h
 obtain ⟨i,j,rfl,q⟩:=h
 obtain ⟨u,w',rfl,⟨t,rfl⟩,⟨t',rfl⟩⟩:=vals2 r
 refine min_two_ints (I.ok.hd hc) fun h' tk k=>⟨_,H,I.kept k,?_,q⟩
 by_cases hj:j < i
 ·rw [if_pos hj,if_pos hj];exact ⟨_,rfl⟩
 ·rw [if_neg hj,if_neg hj];exact ⟨_,rfl⟩
noncomputable def Tq (K:PySem.W.Frag) (x:V) (H:Hp) (n:Nat):Prop :=
 match x with
 | .str y=>y.length<=sizeLine/\n=y.length
 | .byt y=>y.size<=sizeLine/\n=y.size
 | .ref p=>(∃ xs,dE K H p xs/\n=xs.length)\/∃ xs,eE K H p xs/\n=xs.length
 | _=>False
theorem Od:fJ X (.builtin "len") (fun xs H Q=>∃ x n,xs=[x]/\Tq X.K x H n/\Q (.int n) H):=by
 intro pins s σ H xs us Q I r h
 obtain ⟨x,n,rfl,e,q⟩:=h
 obtain ⟨u,rfl,rx⟩:=vals1 r
 have hl:=pD
 have hs:sizeLine=16777216:=sizeLine_eq
 cases x with
 | str y =>
  obtain ⟨t,rfl⟩:=rx
  obtain ⟨hy,e'⟩:y.length<=sizeLine/\n=y.length:=e
  subst e'
  exact len_str (by omega) ⟨.int _,H,I.tok _,⟨_,rfl⟩,q⟩
 | byt y =>
  obtain ⟨t,rfl⟩:=rx
  obtain ⟨hy,e'⟩:y.size<=sizeLine/\n=y.size:=e
  subst e'
  exact PySem.W.len_bytes (by omega) ⟨.int _,H,I.tok _,⟨_,rfl⟩,q⟩
 | ref p =>
  cases rx
  have e':(∃ xs,dE X.K H p xs/\n=xs.length)\/∃ xs,eE X.K H p xs/\n=xs.length:=e
  rcases e' with ⟨xs,hx,e'⟩ | ⟨xs,hx,e'⟩
  ·subst e'
   obtain ⟨its,r',pl,hz⟩:=I.list hx
   have hlen:=r'.length
   exact Calls.call_len_list pl.isList (by simp only [List.size_toArray];omega) ⟨.int xs.length,H,I.tok _,⟨_,by simp only [List.size_toArray];rw [hlen]⟩,q⟩
  ·subst e'
   obtain ⟨its,r',pl,hz⟩:=I.tuple hx
   have hlen:=r'.length
   exact len_tuple pl (by simp only [List.size_toArray];omega) ⟨.int xs.length,H,I.tok _,⟨_,by simp only [List.size_toArray];rw [hlen]⟩,q⟩
 | _=>exact (show False from e).elim
end
structure NT (h:Heap) (x dx C:Addr) (mA:Str->Option Value):Prop where
 obj:h.get? x=some (PySem.W.instObj C dx)
 ns:h.Ns1 dx mA
 ne:dx≠x
theorem Lq {h:Heap} {dx:Addr} {mA:Str->Option Value} (n:h.Ns1 dx mA):∃ od,h.get? dx=some od/\∀ name,PySem.W.lookIn name od=some (mA name):=by
 obtain ⟨o,es,ep,ho,hd,hk,_,hm⟩:=n
 refine ⟨o,ho,fun name=>?_⟩
 have e:=hm name
 unfold nsFind findBy at e
 rw [<- Array.find?_toList] at e
 unfold PySem.W.lookIn
 rw [hd]
 dsimp only
 split
 ·rename_i y q
  rw [q] at e
  exact congrArg some e
 ·rename_i q
  rw [q] at e
  have a:es.toList.any (·.refKey)=false:=by
   rw [List.any_eq_false]
   intro y hy
   obtain ⟨z,t,hkey⟩:=hk y (Array.mem_toList_iff.mp hy)
   simp [DictEntry.refKey,hkey]
  have a':¬ es.toList.any (·.refKey)=true:=by rw [a];exact Bool.false_ne_true
  rw [if_neg a']
  exact congrArg some e
theorem NT.look {h:Heap} {x dx C:Addr} {mA:Str->Option Value} (I:NT h x dx C mA):∃ od,PySem.W.InstAt h x (PySem.W.instObj C dx) C (some od)/\∀ name,PySem.W.lookIn name od=some (mA name) :=
 let ⟨od,ho,hl⟩:=Lq I.ns
 ⟨od,⟨I.obj,rfl,rfl,ho⟩,hl⟩
section
variable {prog:Program} {w:World} {A:Around} {E:Value->Shared->Prop} {s:Shared} {K:PySem.W.Frag} {x dx C f:Addr} {mA:Str->Option Value} {name:Str} {v:Value}
end
noncomputable def bY (f:Str) (v:V):List (Str × V)->List (Str × V)
 | []=>[(f,v)]
 | (g,x) :: r=>if g=f then (g,v) :: r else (g,x) :: bY f v r
theorem Fy (f g:Str) (v:V):∀ fs:List (Str × V),(bY f v fs).lookup g=if g=f then some v else fs.lookup g
 | []=>by
  show List.lookup g [(f,v)]=_
  by_cases h:g=f
  ·have hb:(g == f)=true:=beq_iff_eq.mpr h
   simp only [List.lookup,hb,if_pos h]
  ·have hb:(g == f)=false:=beq_eq_false_iff_ne.mpr h
   simp only [List.lookup,hb,if_neg h]
 | (k,x) :: r=>by
  have ih:=Fy f g v r
  rw [show bY f v ((k,x) :: r)=(if k=f then (k,v) :: r else (k,x) :: bY f v r) from rfl]
  by_cases hk:k=f
  ·rw [if_pos hk]
   by_cases h:g=k
   ·have hb:(g == k)=true:=beq_iff_eq.mpr h
    simp only [List.lookup,hb,if_pos (h.trans hk)]
   ·have hb:(g == k)=false:=beq_eq_false_iff_ne.mpr h
    simp only [List.lookup,hb,if_neg (fun e:g=f=>h (e.trans hk.symm))]
  ·rw [if_neg hk]
   by_cases h:g=k
   ·have hb:(g == k)=true:=beq_iff_eq.mpr h
    simp only [List.lookup,hb,if_neg (fun e:g=f=>hk (h.symm.trans e))]
   ·have hb:(g == k)=false:=beq_eq_false_iff_ne.mpr h
    simp only [List.lookup,hb]
    exact ih
section
variable {P:Program} {w:World} {H H':Hp} {h h':Heap} {a C dx:Addr} {fs fs':List (Str × V)}
theorem Sj (hok:dR P w H h) (e:H a=some (.ins C dx fs)):∃ mA,NT h a dx C mA/\(∀ f,Cu (fs.lookup f) (mA f))/\PySem.Within mA (fs.map (·.1))/\fs.length<=1000/\H dx=some (.own a):=by
 obtain ⟨d,z,ne,ob,mA,n,r,q⟩:=(show cW P w H h a (.ins C dx fs) from hok a _ e)
 exact ⟨mA,⟨ob,n,ne⟩,r,q,z,d⟩
end
structure Ui (K:PySem.W.Frag) (C:Addr):Prop where
 pg:PySem.W.plainGet K C Str.empty=true
 hd:PySem.W.hasDictIn K C=true
 po:PySem.W.plainOver K C=true
 sa:PySem.W.findIn K (.ref C) "__setattr__"=some (some (.builtin "object.__setattr__"))
theorem Ui.get {K:PySem.W.Frag} {C:Addr} (c:Ui K C) (f:Str):PySem.W.plainGet K C f=true:=c.pg
noncomputable def wH (K:PySem.W.Frag) (C:Addr) (f:Str):Prop:=PySem.W.findIn K (.ref C) f=some none
section
variable {X:Cx} {pins:List (Addr × Obj)} {σ:St} {H:Hp} {s:Shared} {a C dx:Addr} {fs:List (Str × V)} {f:Str} {v:V} {A:Around} {E:Value->Shared->Prop}
end
section
variable {X:Cx} {o e value:Expr} {f:Str} {pos pos' tpos:Pos} {ta tv:TE}
end
section
variable {X:Cx} {pins:List (Addr × Obj)} {σ:St} {H:Hp} {s:Shared} {A:Around} {E:Value->Shared->Prop} {Q:Value->Shared->Prop} {c:Value} {b:Bool}
inductive lM (K:PySem.W.Frag) (H:Hp):V->Value->Prop where
 | non:lM K H .non (.type "NoneType")
 | bl (x:Bool):lM K H (.bl x) (.type "bool")
 | int (i:Int):lM K H (.int i) (.type "int")
 | str (x:Str):lM K H (.str x) (.type "str")
 | flt (x:UInt64):lM K H (.flt x) (.type "float")
 | lst {a:Addr} {xs:List V} (e:H a=some (.lst xs)):lM K H (.ref a) (.type "list")
 | frz {a:Addr} {o:Obj} {xs:List V} (e:H a=some (.frz o (.lst xs))):lM K H (.ref a) (.type "list")
 | tup {a:Addr} {xs:List V} (e:H a=some (.tup xs)):lM K H (.ref a) (.type "tuple")
 | dK {a:Addr} {kvs:List (Key × V)} (e:H a=some (.dK kvs)):lM K H (.ref a) (.type "dict")
 | dT {a:Addr} {kvs:List (List Key × V)} (e:H a=some (.dT kvs)):lM K H (.ref a) (.type "dict")
 | ins {a C dx:Addr} {fs:List (Str × V)} (e:H a=some (.ins C dx fs)) (cl:Ui K C) (ha:PySem.W.findIn K (.ref C) "__class__"=some (some (.builtin "object.__class__")))
   (hn:PySem.W.specialIn K (.builtin "object.__class__") "__get__"=some (some (.builtin "getset_descriptor.__get__"))) (htk:PySem.W.takesIn K (.builtin "object.__class__")=some true)
   (hm:PySem.W.mroIn K C (.type "object")=some true):lM K H (.ref a) (.ref C)
theorem NC {x:V} {u t:Value} (I:Inv X pins σ H s) (rx:RelV x u) (ty:lM X.K H x t) (e:PySem.W.kitOne X.K t c=some b) (h:∀ tk,Q (.bool b) { s with toks:=tk }) :
  wpAny (model X.prog X.w) A (call (.builtin "isinstance") [u,c]) Q E s:=by
 cases ty with
 | non=>cases (show u=Value.none from rx);exact PySem.W.kia_one PySem.W.kitx_none I.kIn True.intro e (fun z=>nomatch z) h
 | bl y=>cases (show u=Value.bool y from rx);exact PySem.W.kia_one PySem.W.kitx_bool I.kIn True.intro e (fun z=>nomatch z) h
 | int i=>obtain ⟨t,q⟩:=(show ∃ t,u=Value.int i t from rx);cases q;exact PySem.W.kia_one PySem.W.kitx_int I.kIn True.intro e (fun z=>nomatch z) h
 | str y=>obtain ⟨t,q⟩:=(show ∃ t,u=Value.str y t from rx);cases q;exact PySem.W.kia_one PySem.W.kitx_str I.kIn True.intro e (fun z=>nomatch z) h
 | flt y=>obtain ⟨t,q⟩:=(show ∃ t,u=Value.float y t from rx);cases q;exact PySem.W.kia_one PySem.W.kitx_float I.kIn True.intro e (fun z=>nomatch z) h
 | @lst a xs ea =>
  cases (show u=Value.ref a from rx)
  obtain ⟨_,_,n,_,h1⟩:=(show cW X.prog X.w H s.heap a (.lst xs) from I.hok a _ ea)
  exact PySem.W.kia_one PySem.W.kitx_list I.kIn ⟨_,h1,rfl⟩ e (fun z=>nomatch z) h
 | @frz a ob xs ea =>
  cases (show u=Value.ref a from rx)
  obtain ⟨_,_,_,n,_,h1⟩:=(show cW X.prog X.w H s.heap a (.frz ob (.lst xs)) from I.hok a _ ea)
  exact PySem.W.kia_one PySem.W.kitx_list I.kIn ⟨_,h1,rfl⟩ e (fun z=>nomatch z) h
 | @tup a xs ea =>
  cases (show u=Value.ref a from rx)
  obtain ⟨_,_,_,p⟩:=(show cW X.prog X.w H s.heap a (.tup xs) from I.hok a _ ea)
  obtain ⟨o,h1,h2,_⟩:=p
  exact PySem.W.kia_one PySem.W.kitx_tuple I.kIn ⟨o,h1,h2⟩ e (fun z=>nomatch z) h
 | @dK a kvs ea =>
  cases (show u=Value.ref a from rx)
  obtain ⟨_,_,vs,_,p⟩:=(show cW X.prog X.w H s.heap a (.dK kvs) from I.hok a _ ea)
  obtain ⟨o,es,ep,h1,h2,_⟩:=p
  exact PySem.W.kia_one PySem.W.kitx_dict I.kIn ⟨o,h1,h2.1⟩ e (fun z=>nomatch z) h
 | @dT a kvs ea =>
  cases (show u=Value.ref a from rx)
  obtain ⟨_,_,xs,_,o,es,ep,h1,h2,_⟩:=(show cW X.prog X.w H s.heap a (.dT kvs) from I.hok a _ ea)
  exact PySem.W.kia_one PySem.W.kitx_dict I.kIn ⟨o,h1,h2.1⟩ e (fun z=>nomatch z) h
 | @ins a C dx fs ea cl ha hn htk hm =>
  cases (show u=Value.ref a from rx)
  obtain ⟨mA,O,_⟩:=Sj I.hok ea
  obtain ⟨od,J,_⟩:=O.look
  exact PySem.W.kia_one (PySem.W.kitx_own (cl.get _) cl.hd ha hn htk hm) I.kIn J e (fun z=>nomatch z) h
end
structure cS (k:Nat) (A:Around):Prop where
 hd:A.handled=none
 dp:A.depth + 3 * k + 5 < recursionLimit
 un:A.units + 16 * k + 200 < cLine
theorem cS.mono {j k:Nat} {A:Around} (r:cS k A) (h:j<=k):cS j A:=⟨r.hd,by have:=r.dp;omega,by have:=r.un;omega⟩
theorem cS.deeper {k:Nat} {A:Around} (r:cS (k + 1) A) (env:Env):cS k (A.deeper env) :=
 ⟨r.hd,by have:=r.dp;show A.depth + 1 + 3 * k + 5 < _;omega,by have:=r.un;show A.units + 3 + 16 * k + 200 < _;omega⟩
theorem Kj {A:Around} {C:Addr} {us:List Value} {kw:List (Str × Value)}:(A.under (.builtin "type.__call__" ⟨.ref C :: us,kw⟩)).depth=A.depth + 1:=by
 first | rfl | simp [Around.under,Code.weight,Code.isCreation,Code.isGuard,Code.isCaller,Code.frames,Code.isFrame,guardIds]
theorem G7 {A:Around} {C:Addr} {us:List Value} {kw:List (Str × Value)}:(A.under (.builtin "type.__call__" ⟨.ref C :: us,kw⟩)).units=A.units + 1:=by
 first | rfl | simp [Around.under,Code.cUnits,Code.frames,Code.isFrame]
theorem cS.make {k:Nat} {A:Around} (r:cS (k + 1) A) (C:Addr) (us:List Value) (kw:List (Str × Value)):cS k (A.under (.builtin "type.__call__" ⟨.ref C :: us,kw⟩)) :=
 ⟨r.hd,by have:=r.dp;rw [Kj];omega,by have:=r.un;rw [G7];omega⟩
theorem cS.depth {k:Nat} {A:Around} (r:cS k A):A.depth < recursionLimit:=by have:=r.dp;omega
theorem cS.units {k:Nat} {A:Around} (r:cS k A):A.units + 64 < cLine:=by have:=r.un;omega
theorem cS.units0 {k:Nat} {A:Around} (r:cS k A):A.units < cLine:=by have:=r.un;omega
noncomputable def TX:TA:=fun _ H Q=>Q [] H
noncomputable def Qc (ta:TE) (tr:TA):TA:=fun σ H Q=>ta σ H fun x H1=>tr σ H1 fun xs H2=>Q (x :: xs) H2
section
variable {X:Cx} {e:Expr} {es:List Expr} {te:TE} {t:TA} {pos:Pos}
theorem wW:PA X [] TX:=fun _ _ _ _ H Q I h=>Calls.spliced_nil ⟨[],H,I,.nil,h⟩
theorem oV (ha:PE X e te) (hr:PA X es t) (hs:starEach (e :: es) X.env=(false,eval e X.env) :: starEach es X.env:=by rfl):PA X (e :: es) (Qc te t):=by
 intro pos pins s σ H Q I h
 rw [hs]
 show wpAny _ _ (spliced ((false,eval e X.env) :: backTo pos (starEach es X.env))) _ _ s
 refine Calls.spliced_cons (bP (ha pins s σ H _ I h) fun u s1 ⟨x,H1,I1,r1,q1⟩=>?_)
 exact bP (hr pos pins s1 σ H1 _ I1 q1) fun us s2 ⟨xs,H2,I2,r2,q2⟩=>⟨x :: xs,H2,I2,.cons r1 r2,q2⟩
noncomputable def Um (t:TA):TE:=fun σ H Q=>t σ H fun xs H1=>xs.length<=sizeLine/\∀ p,H1 p=none->Q (.ref p) (upd H1 p (.tup xs))
noncomputable def TQ (t:TA):TE:=fun σ H Q=>t σ H fun xs H1=>xs.length<=sizeLine/\∀ p,H1 p=none->Q (.ref p) (upd H1 p (.lst xs))
theorem MQ {x1} (h:PA X es t):PE X (.Tuple es x1 pos) (Um t):=by
 intro pins s σ H Q I hq
 refine wpAny_Tuple_spliced (bP (h pos pins s σ H _ I hq) fun us s1 ⟨xs,H1,I1,r,z,q⟩=>⟨by rw [<- r.length];exact z,?_⟩)
 have hf:H1 s1.heap.objs.size=none:=I1.hok.fresh (Nat.le_refl _)
 refine ⟨.ref s1.heap.objs.size,upd H1 s1.heap.objs.size (.tup xs),I1.laid (t':=s1.toks) (fun b u e=>Heap.get?_push_of_some _ e) (Nat.le_refl _) ?_,rfl,q _ hf⟩
 exact ⟨z,us,r,⟨_,Heap.get?_push_size _ rfl,rfl,rfl,_,rfl⟩⟩
theorem Nc (h:PA X es t):PE X (.List es pos) (TQ t):=by
 intro pins s σ H Q I hq
 refine wpAny_List_spliced (bP (h pos pins s σ H _ I hq) fun us s1 ⟨xs,H1,I1,r,z,q⟩=>⟨by rw [<- r.length];exact z,?_⟩)
 have hf:H1 s1.heap.objs.size=none:=I1.hok.fresh (Nat.le_refl _)
 refine ⟨.ref s1.heap.objs.size,upd H1 s1.heap.objs.size (.lst xs),I1.laid (t':=s1.toks) (fun b u e=>Heap.get?_push_of_some _ e) (Nat.le_refl _) ?_,rfl,q _ hf⟩
 exact ⟨z,us,0,r,Heap.get?_push_size _ rfl⟩
end
abbrev Sp:=List V->Hp->VK->XK->Prop
abbrev rE:=List Env->Hp->Shared->XK->Value->Shared->Prop
structure u9 (P:Program) (w:World) (K:PySem.W.Frag) (mg:Str->Option Value) (base:Heap) (A:Around) (outer:List Env) (s:Shared) (H:Hp):Prop where
 frames:A.frames=some outer
 mod:Mod K mg base
 bs:∀ b o,base.get? b=some o->s.heap.get? b=some o/\H b=none
 bsz:base.objs.size<=s.heap.objs.size
 funs:s.heap.FunFrames base outer
 frf:∀ b∈kL outer,H b=none
 hok:dR P w H s.heap
 bare:AllBare s.gens
noncomputable def CE (outer:List Env) (P:Program) (w:World) (H:Hp) (s:Shared) (Q:VK) (u:Value) (s':Shared):Prop :=
 ∃ v H',s'.os=s.os/\AllBare s'.gens/\Un (kL outer) [] H H' s.heap s'.heap/\dR P w H' s'.heap/\RelV v u/\Q v H'
noncomputable def CR (CX:rE) (outer:List Env) (P:Program) (w:World) (H:Hp) (s:Shared) (Q:VK) (E:XK) (r:Result) (s':Shared):Prop :=
 match r with
 | .ok (.ret u)=>CE outer P w H s Q u s'
 | .ok _=>False
 | .error e=>CX outer H s E e s'
structure dJ (P:Program) (w:World) (K:PySem.W.Frag) (mg:Str->Option Value) (base:Heap) (CX:rE) (k:Nat) (f:Addr) (fd:FuncData) (ps:List Str) (sp:Sp):Prop where
 len:∀ vs H Q E,sp vs H Q E->vs.length=ps.length
 run:∀ (A:Around) (outer:List Env) (s:Shared) (H:Hp) (args:Args) (us:List Value) (vs:List V) (Q:VK) (E:XK),cS k A->u9 P w K mg base A outer s H->BindsTo s fd args (ps.zip us)->Vals vs us->sp vs H Q E ->
  codeAny (model P w) A (.call (.ref f) args) (CR CX outer P w H s Q E) s
theorem u9.make {P:Program} {w:World} {K:PySem.W.Frag} {mg:Str->Option Value} {base:Heap} {A:Around} {outer:List Env} {s:Shared} {H:Hp} (e:u9 P w K mg base A outer s H) (C:Addr) (us:List Value) (kw:List (Str × Value)) :
  u9 P w K mg base (A.under (.builtin "type.__call__" ⟨.ref C :: us,kw⟩)) outer s H:=⟨by first | exact e.frames | (simpa [Around.under,Code.envs,Code.isFrame,pushEnvs] using e.frames),e.mod,e.bs,e.bsz,e.funs,e.frf,e.hok,e.bare⟩
section
variable {X:Cx} {pins:List (Addr × Obj)} {σ:St} {H:Hp} {s s':Shared}
theorem Inv.env0 (I:Inv X pins σ H s):u9 X.prog X.w X.K X.mg X.base X.A X.stack s H :=
 ⟨I.ok.frames,I.ok.mod,I.bs,Nat.le_trans I.ok.bsz I.sz,I.stack,I.stkFree,I.hok,I.bare⟩
theorem Inv.after {Q:VK} {u:Value} (I:Inv X pins σ H s) (h:CE X.stack X.prog X.w H s Q u s'):EP X pins σ Q u s':=by
 obtain ⟨v,H',os,bare,un,hok,r,q⟩:=h
 obtain ⟨hh,g,d,t,os'⟩:=s'
 obtain rfl:os'=s.os:=os
 exact ⟨v,H',I.call (h':=hh) (g':=g) (d':=d) (t':=t) (ch:=[]) un hok bare (fun b z=>absurd z (by simp)),r,q⟩
end
noncomputable def JJ (sp:Sp) (dvs:List V) (E:XK) (t:TA):TE:=fun σ H Q=>t σ H fun vs H1=>sp (vs++dvs) H1 Q E
noncomputable def Binds (K:PySem.W.Frag) (fd:FuncData) (ps:List Str) (ds:List Value):Prop :=
 ∀ (s:Shared) (us:List Value),K.In s.heap->(us++ds).length=ps.length->BindsTo s fd ⟨us,[]⟩ (ps.zip (us++ds))
theorem Binds.all {K:PySem.W.Frag} {fd:FuncData} {ps:List Str} (h:∀ us:List Value,us.length=ps.length->bindArgs fd ⟨us,[]⟩=pure (ps.zip us)):Binds K fd ps []:=fun s us _ hl=>by
 rw [List.append_nil] at hl ⊢
 exact .of_eq (h us hl)
noncomputable def Passes (CX:rE) (X:Cx) (E:XK):Prop:=∀ (pins:List (Addr × Obj)) (σ:St) (H:Hp) (s:Shared) (e:Value) (s':Shared),Inv X pins σ H s->CX X.stack H s E e s'->X.xe e s'
section
variable {X:Cx} {CX:rE} {k:Nat} {f C:Addr} {fd:FuncData} {ps:List Str} {sp:Sp} {dvs:List V} {ds:List Value} {E:XK} {x m:Str} {p pos apos:Pos} {e o:Expr} {es:List Expr} {ta:TE} {t:TA}
theorem Mx {pins:List (Addr × Obj)} {σ:St} {H:Hp} {s:Shared} {Q:VK} {us:List Value} {vs:List V} (F:dJ X.prog X.w X.K X.mg X.base CX k f fd ps sp) (hr:cS k X.A) (hb:Binds X.K fd ps ds) (hd:Vals dvs ds) (hx:Passes CX X E)
  (I:Inv X pins σ H s) (r:Vals vs us) (h:sp (vs++dvs) H Q E):wpAny (model X.prog X.w) X.A (call (.ref f) us) (EP X pins σ Q) X.xe s:=by
 have r2:Vals (vs++dvs) (us++ds):=r.append hd
 have hl:(us++ds).length=ps.length:=by rw [<- r2.length];exact F.len _ _ _ _ h
 refine wpAny_call (codeAny_mono (F.run X.A X.stack s H ⟨us,[]⟩ (us++ds) (vs++dvs) Q E hr I.env0 (hb s us I.kIn hl) r2 h) fun r s' hq=>?_)
 cases r with
 | error e=>exact hx pins σ H s e s' I hq
 | ok fl =>
  cases fl with
  | ret u=>exact I.after hq
  | next=>exact False.elim hq
  | brk=>exact False.elim hq
  | cont=>exact False.elim hq
theorem QK (F:dJ X.prog X.w X.K X.mg X.base CX k f fd ps sp) (hr:cS k X.A) (hg:Gl X x) (hm:X.mg x=some (.ref f)) (hk:PySem.W.keepIn X.K (.ref f)=true) (hb:Binds X.K fd ps ds) (hd:Vals dvs ds) (hx:Passes CX X E)
  (ha:PA X (e :: es) t) (hdb:(x == ("__debug__":Str))=false:=by decide) (he:starEach (e :: es) X.env=(false,eval e X.env) :: starEach es X.env:=by rfl) (hpl:(backTo pos (starEach es X.env)).any (·.1)=false:=by rfl) :
  PE X (.Call (.Name x p) (e :: es) [] pos) (JJ sp dvs E t):=by
 intro pins s σ H Q I h
 refine wpAny_Call_Name_kw (mS I hg hm ?_ hdb)
 refine PySem.W.callWith_K (h₀:=X.base) I.ok.mod.kin hk (bP (ha pos pins s σ H _ I h) fun us s1 ⟨vs,H1,I1,r,q⟩=>⟨I1.kIn,?_⟩) he hpl
 exact Mx F hr hb hd hx I1 r q
end
section
variable {X:Cx} {CX:rE} {k:Nat} {f C:Addr} {fd:FuncData} {ps ks:List Str} {sp:Sp} {E:XK} {x m:Str} {p pos apos kpos:Pos} {e o:Expr} {es:List Expr} {kws:List Keyword} {te ta:TE} {t tk:TA} {nm:Option Str}
variable {g:List Value->List Value->List Value} {gV:List V->List V->List V}
end
structure bB (N P:List Str) (sc:Scope):Prop where
 kind:sc.kind=.function
 co:sc.isCoroutine=false
 gen:sc.isGenerator=false
 nd:N.Nodup
 pre:N.take P.length=P
 par:∀ x∈P,sc.names.lookup x=some .local\/sc.names.lookup x=some .cell
 nofree:∀ y∈sc.names,y.2≠.free
theorem Aa {kindOf:Str->Option NameKind} {x:Str}:∀ {binds:List (Str × Value)} {m:Str->Option Value},(∀ v,(x,v) ∉ binds)->bindL kindOf binds m x=m x
 | [],_,_=>rfl
 | (n,v) :: r,m,h=>by
  unfold bindL
  rw [Aa fun w hw=>h w (List.mem_cons_of_mem _ hw)]
  split
  ·have:x≠n:=by rintro rfl;exact h v List.mem_cons_self
   simp [this]
  ·rfl
theorem zN {kindOf:Str->Option NameKind} {x:Str}:∀ {binds:List (Str × Value)} {m:Str->Option Value},(∀ v,(x,v) ∉ binds)->bindC kindOf binds m x=m x
 | [],_,_=>rfl
 | (n,v) :: r,m,h=>by
  unfold bindC
  rw [zN fun w hw=>h w (List.mem_cons_of_mem _ hw)]
  split
  ·rfl
  ·have:x≠n:=by rintro rfl;exact h v List.mem_cons_self
   simp [this]
theorem zB {kindOf:Str->Option NameKind} {x:Str} {v:Value}:∀ {P:List Str} {vs:List Value} {i:Nat} {m:Str->Option Value},P.Nodup->P[i]?=some x->vs[i]?=some v->kindOf x=some .local ->
  bindL kindOf (P.zip vs) m x=some v
 | [],_,_,_,_,h,_,_=>by simp at h
 | _ :: _,[],_,_,_,_,h,_=>by simp at h
 | p :: P,w :: vs,0,m,nd,h1,h2,hk=>by
  simp at h1 h2;subst h1;subst h2
  show bindL kindOf ((p,w) :: P.zip vs) m p=_
  unfold bindL
  rw [Aa fun v hv=>(List.nodup_cons.mp nd).1 (List.of_mem_zip hv).1,if_pos hk]
  simp
 | p :: P,w :: vs,i + 1,m,nd,h1,h2,hk=>by
  show bindL kindOf ((p,w) :: P.zip vs) m x=_
  unfold bindL
  exact zB (i:=i) (List.nodup_cons.mp nd).2 (by simpa using h1) (by simpa using h2) hk
theorem y6 {kindOf:Str->Option NameKind} {x:Str} {v:Value}:∀ {P:List Str} {vs:List Value} {i:Nat} {m:Str->Option Value},P.Nodup->P[i]?=some x->vs[i]?=some v->kindOf x≠some .local ->
  bindC kindOf (P.zip vs) m x=some v
 | [],_,_,_,_,h,_,_=>by simp at h
 | _ :: _,[],_,_,_,_,h,_=>by simp at h
 | p :: P,w :: vs,0,m,nd,h1,h2,hk=>by
  simp at h1 h2;subst h1;subst h2
  show bindC kindOf ((p,w) :: P.zip vs) m p=_
  unfold bindC
  rw [zN fun v hv=>(List.nodup_cons.mp nd).1 (List.of_mem_zip hv).1,if_neg hk]
  simp
 | p :: P,w :: vs,i + 1,m,nd,h1,h2,hk=>by
  show bindC kindOf ((p,w) :: P.zip vs) m x=_
  unfold bindC
  exact y6 (i:=i) (List.nodup_cons.mp nd).2 (by simpa using h1) (by simpa using h2) hk
noncomputable def start (N:List Str) (vs:List V):St:=vs.map some++List.replicate (N.length - vs.length) none
noncomputable def mG (CX:rE) (P:Program) (w:World) (K:PySem.W.Frag) (mg:Str->Option Value) (base:Heap) (N:List Str) (qual:Str) (scope:Scope) (f:Addr) (cd:Value) (A:Around) (outer:List Env) (s:Shared) (H:Hp) (E:XK):Cx where
 prog:=P
 w:=w
 K:=K
 mg:=mg
 base:=base
 A:=A.deeper (envOfC qual scope s.heap.objs.size f cd)
 N:=N
 s₀:=s
 H₀:=H
 env:=envOfC qual scope s.heap.objs.size f cd
 outer:=outer
 stack:=envOfC qual scope s.heap.objs.size f cd :: outer
 ex:=[]
 calm:=true
 fn:=fun _=>true
 pn:=[]
 xe:=fun e s'=>wpAny (model P w) (A.deeper (envOfC qual scope s.heap.objs.size f cd)) (leaving (envOfC qual scope s.heap.objs.size f cd) e) (fun _ s''=>CX outer H s E e s'') (fun e' s''=>CX outer H s E e' s'') s'
theorem BF {sc:Scope} {n:Nat} {x:Str} (h:sc.names.lookup x=some .cell):∃ c,(cellsFrom n sc.names []).lookup x=some c:=by
 have q:=PySem.W.cellsFrom_some sc.names n [] (.inl h)
 exact Option.isSome_iff_exists.mp q
theorem zV {CX:rE} {P:Program} {w:World} {K:PySem.W.Frag} {mg:Str->Option Value} {base:Heap} {N ps:List Str} {qual:Str} {scope:Scope} {f:Addr} {cd:Value} {A:Around} {outer:List Env} {s s1:Shared} {H:Hp} {E:XK} {us:List Value} {vs:List V}
  (S:bB N ps scope) (hd:A.handled=none) (e0:u9 P w K mg base A outer s H) (hl:vs.length=ps.length) (r:Vals vs us)
  (x:InCallC s s.heap.objs.size (bindL (envOfC qual scope s.heap.objs.size f cd).kindOf (ps.zip us) fun _=>none) (cellsFrom (s.heap.objs.size + 1) scope.names []) (bindC (envOfC qual scope s.heap.objs.size f cd).kindOf (ps.zip us) fun _=>none) s1) :
  Inv (mG CX P w K mg base N qual scope f cd A outer s H E) [] (start N vs) H s1:=by
 have hpl:ps.length<=N.length:=by have:=congrArg List.length S.pre;rw [List.length_take] at this;omega
 obtain ⟨h1,tk,rfl,hk⟩:=x.done
 have noA:∀ b:Addr,b ∉ (mG CX P w K mg base N qual scope f cd A outer s H E).ex:=fun b z=>absurd (show b∈([]:List Addr) from z) (by simp)
 refine ⟨⟨e0.mod,S.kind,rfl,rfl,Nat.le_refl _,fun y z c h1 h2=>?_,fun y hy=>?_,fun y c _ h=>?_,fun _=>hd,Around.frames_deeper e0.frames,.inr ⟨rfl,rfl⟩,fun b z=>absurd z (noA b),e0.bs,e0.bsz,fun b _ _=>noA b,fun b z=>absurd z (noA b),e0.funs,e0.frf⟩,
  rfl,e0.bare,Un.kept hk,⟨_,x.toInCall.ns,fun i y v h1 h2 h3=>?_⟩,fun y c h=>⟨_,x.cell y c h⟩,e0.hok.fresh (Nat.le_refl _),fun y c h=>?_,fun p hp=>absurd (show p∈([]:List (Addr × Obj)) from hp) (by simp),e0.hok.kept hk,?_⟩
 ·exact name_of_addr x.apart (PySem.mem_of_lookup h1) (PySem.mem_of_lookup h2)
 ·have hy:scope.names.lookup y=some .cell\/scope.names.lookup y=some .free:=hy
  rcases hy with hy | hy
  ·exact BF hy
  ·exact absurd rfl (S.nofree _ (PySem.mem_of_lookup hy))
 ·exact Nat.le_of_lt (x.above y c (PySem.mem_of_lookup h))
 ·have hi:i < vs.length:=by
   unfold start at h2
   by_cases hi:i < vs.length
   ·exact hi
   ·rw [List.getElem?_append_right (by simpa using hi)] at h2
    rw [List.getElem?_replicate] at h2
    split at h2 <;> cases h2
  have ha:vs[i]?=some v:=by
   unfold start at h2
   rw [List.getElem?_append_left (by simpa using hi),List.getElem?_map] at h2
   cases e:vs[i]? with
   | none=>rw [e] at h2;cases h2
   | some a=>rw [e] at h2;cases h2;rfl
  obtain ⟨u,hu,rv⟩:=r.get ha
  have hp:ps[i]?=some y:=by
   rw [<- S.pre,List.getElem?_take_of_lt (by omega)];exact h1
  have ndP:ps.Nodup:=by rw [<- S.pre];exact S.nd.sublist (List.take_sublist _ _)
  refine ⟨u,rv,?_⟩
  rcases S.par y (List.mem_of_getElem? hp) with k | k
  ·exact .inl ⟨k,zB ndP hp hu k⟩
  ·obtain ⟨c,e⟩:=BF (n:=s.heap.objs.size + 1) k
   refine .inr ⟨.inl k,c,e,?_⟩
   have q:=x.cell y c e
   rw [y6 ndP hp hu (by show scope.names.lookup y≠_;rw [k];decide)] at q
   exact q
 ·exact e0.hok.fresh (Nat.le_of_lt (x.above y c (PySem.mem_of_lookup h)))
 ·unfold start
  show _=N.length
  rw [List.length_append,List.length_map,List.length_replicate]
  omega
theorem V9 {CX:rE} {P:Program} {w:World} {K:PySem.W.Frag} {mg:Str->Option Value} {base:Heap} {k:Nat} {f:Addr} {name qual:Str} {params:Arguments} {body:List Stmt} {scope:Scope} {dV kV doc pm cdv ct oc:Value} {an od:Option Addr}
  {osl:Array (Option Value)} {N ps:List Str} {sp:Sp} (lk:K.lookup f=some ⟨oc,od,.func (PySem.W.fnOf name qual params body scope dV kV doc pm an cdv ct),osl⟩) (hcd:PySem.W.codeIn K cdv qual=true) (S:bB N ps scope)
  (len:∀ vs H Q E,sp vs H Q E->vs.length=ps.length)
  (hbody:∀ (A:Around) (outer:List Env) (s:Shared) (H:Hp) (vs:List V) (Q:VK) (E:XK),cS k (A.deeper (envOfC qual scope s.heap.objs.size f cdv))->sp vs H Q E ->
   ∃ t,mF (mG CX P w K mg base N qual scope f cdv A outer s H E) body t/\t { nx:=fun _ H'=>Q .non H',rt:=Q } (start N vs) H) :
  dJ P w K mg base CX (k + 1) f (PySem.W.fnOf name qual params body scope dV kV doc pm an cdv ct) ps sp:=by
 refine ⟨len,fun A outer s H args us vs Q E hr e0 hb r hsp=>?_⟩
 have hl:=len _ _ _ _ hsp
 have KX:K.In s.heap:=e0.mod.kin.keeps fun b o e=>(e0.bs b o e).1
 have lim:s.heap.NoLimit:=e0.mod.nolimit.keeps fun b o e=>(e0.bs b o e).1
 have hkind:∀ y∈ps.zip us,scope.names.lookup y.1=some .local\/(scope.names.lookup y.1=some .cell/\((cellsFrom (s.heap.objs.size + 1) scope.names []).lookup y.1).isSome=true):=fun ⟨n,v⟩ hy=>by
  rcases S.par n (List.of_mem_zip hy).1 with q | q
  ·exact .inl q
  ·exact .inr ⟨q,PySem.W.cellsFrom_some _ _ _ (.inl q)⟩
 refine codeAny_call_function hr.depth (KX _ _ lk) rfl S.co S.gen rfl (PySem.W.codeRec_of KX hcd) (hb _ _ _ _ ?_)
 refine wpAny_newFunctionEnv_cells S.kind hkind fun env he s1 x=>?_
 subst he
 refine ⟨lim.keeps x.toInCall.keep,codeAny_func ?_⟩
 obtain ⟨t,ht,hq⟩:=hbody A outer s H vs Q E (hr.deeper _) hsp
 have I:Inv (mG CX P w K mg base N qual scope f cdv A outer s H E) [] (start N vs) H s1:=zV S hr.hd e0 hl r x
 refine wpAny_mono (ht [] s1 (start N vs) H _ I hq) (fun fl s' hs=>?_) fun e s' hs=>hs
 have fin:∀ {σ':St} {H':Hp} {v:V} {u:Value},Inv (mG CX P w K mg base N qual scope f cdv A outer s H E) [] σ' H' s'->RelV v u->Q v H'->CE outer P w H s Q u s' :=
  fun {σ' H' v u} J rv q=>⟨v,H',J.os,J.bare,J.base,J.hok,rv,q⟩
 cases fl with
 | ret u =>
  obtain ⟨v,σ',H',J,rv,q⟩:=hs
  exact fin J rv q
 | next =>
  obtain ⟨σ',H',J,q⟩:=hs
  exact fin (v:=V.non) (u:=Value.none) J rfl q
 | brk =>
  obtain ⟨_,_,_,q⟩:=hs
  exact False.elim q
 | cont =>
  obtain ⟨_,_,_,q⟩:=hs
  exact False.elim q
section
variable {X:Cx} {x:Str} {p pos:Pos} {e:Expr} {es:List Expr} {t:TA} {id T:String} {r:List V->Hp->VK->Prop}
noncomputable def Ue (r:List V->Hp->VK->Prop) (t:TA):TE:=fun σ H Q=>t σ H fun vs H1=>r vs H1 Q
theorem B8 (hc:fJ X (.builtin id) r) (hg:Gl X x) (hm:X.mg x=none) (hv:bootBuiltins x=some (.builtin id)) (ha:PA X (e :: es) t) (hn:x≠"__name__":=by decide) (hdb:(x == ("__debug__":Str))=false:=by decide)
  (he:starEach (e :: es) X.env=(false,eval e X.env) :: starEach es X.env:=by rfl) (hpl:(backTo pos (starEach es X.env)).any (·.1)=false:=by rfl):PE X (.Call (.Name x p) (e :: es) [] pos) (Ue r t):=by
 intro pins s σ H Q I h
 refine wpAny_Call_Name_kw (kX I hg hm hv ?_ hn hdb)
 exact PyProof.Rows.callWith_builtin1 (bP (ha pos pins s σ H _ I h) fun us s1 ⟨vs,H1,I1,r1,q1⟩=>hc pins s1 σ H1 vs us Q I1 r1 q1) he hpl
theorem Mn (hc:fJ X (.type T) r) (hg:Gl X x) (hm:X.mg x=none) (hv:bootBuiltins x=some (.type T)) (ha:PA X (e :: es) t) (hn:x≠"__name__":=by decide) (hdb:(x == ("__debug__":Str))=false:=by decide)
  (he:starEach (e :: es) X.env=(false,eval e X.env) :: starEach es X.env:=by rfl) (hpl:(backTo pos (starEach es X.env)).any (·.1)=false:=by rfl):PE X (.Call (.Name x p) (e :: es) [] pos) (Ue r t):=by
 intro pins s σ H Q I h
 refine wpAny_Call_Name_kw (kX I hg hm hv ?_ hn hdb)
 exact PyProof.Rows.callWith_type1 (bP (ha pos pins s σ H _ I h) fun us s1 ⟨vs,H1,I1,r1,q1⟩=>hc pins s1 σ H1 vs us Q I1 r1 q1) he hpl
end
end L2
namespace HT
open PySem PyProof.Rows
noncomputable def lexLt:List Int->List Int->Bool
 | [],[]=>false
 | [],_ :: _=>true
 | _ :: _,[]=>false
 | x :: xs,y :: ys=>if x=y then lexLt xs ys else decide (x < y)
theorem Hj (x y:Int) (xs ys:List Int):lexLt (x :: xs) (y :: ys)=if x=y then lexLt xs ys else decide (x < y):=rfl
theorem Ae:lexLt [] []=false:=rfl
theorem yF (y:Int) (ys:List Int):lexLt [] (y :: ys)=true:=rfl
theorem yA (x:Int) (xs:List Int):lexLt (x :: xs) []=false:=rfl
theorem OB (A:Around) (s:Shared) (a:Int) (t:Tok) (c:Int) (u:Tok):∃ e,SeqAt.EqAt A s (.int a t) (.int c u) e/\(e=true ↔ a=c) :=
 ⟨(a == c),SeqAt.EqAt.int_int a t c u,by simp⟩
theorem OC (A:Around) (s:Shared) (a:Int) (t:Tok) (c:Int) (u:Tok) (prog:Program) (w:World) (E:Value->Shared->Prop) (Q:Value->Shared->Prop) (h:Q (.bool (decide (a < c))) s) :
  wpAny (model prog w) A (richCompare .Lt (.int a t) (.int c u)) Q E s :=
 (PyProof.Rows.lt_int h:wpAny (model prog w) A (compareOp .Lt (.int a t) (.int c u)) Q E s)
section
open PySem.SeqAt
open PySem.AutoSeq1 (wpAny_loadPart')
open PySem.MeetsSeq PySem.MeetsSeq2 PySem.MeetsSeq3
theorem Al (l b:Addr) (items items2:Array Value) (n n2:Nat) (dd dd2:Option Addr) (sl sl2:Array (Option Value)) (ns ms:List Int) (hi:IntsAre items.toList ns) (hj:IntsAre items2.toList ms) :
  Meets (Builtin.«tuple.__lt__» ⟨[.ref l,.ref b],[]⟩)
   (fun _ R s=>s.heap.get? l=some { cls:=.type "tuple",dict:=dd,data:=.seq items n,slots:=sl }/\s.heap.get? b=some { cls:=.type "tuple",dict:=dd2,data:=.seq items2 n2,slots:=sl2 } /\
    R (.ok (.ret (.bool (lexLt ns ms)))) s) :=
 .of_wp fun prog w A R s h=>by
  obtain ⟨hp,g,d,tk,os⟩:=s;obtain ⟨hl,hb,h⟩:=h
  have f2:=AutoSeq1.sub_tuple_tuple
  have z1:items.size=ns.length:=by rw [<- hi.length];simp
  have z2:items2.size=ms.length:=by rw [<- hj.length];simp
  wp_walk using wpAny_loadPart' hl,wpAny_loadPart' hb,wpAny_forIn_list _ (fun rest b s'=>b.1=none/\s'=⟨hp,g,d,tk,os⟩/\∃ (vs ws:List Value) (ns' ms':List Int),rest=vs.zip ws /\
   IntsAre vs ns'/\IntsAre ws ms'/\ns'.length + items2.size=ms'.length + items.size/\R (.ok (.ret (.bool (lexLt ns' ms')))) ⟨hp,g,d,tk,os⟩) _
  case turn =>
   rintro ⟨y,x⟩ rest b s' ⟨hb',rfl,vs,ws,ns',ms',hz,hvi,hwi,hlen,hR⟩
   cases hvi with
   | nil=>rw [List.zip_nil_left] at hz;cases hz
   | cons a t hvi' =>
    cases hwi with
    | nil=>rw [List.zip_nil_right] at hz;cases hz
    | cons c u hwi' =>
     rw [List.zip_cons_cons] at hz
     injection hz with hyx hrest
     injection hyx with hy hx
     subst hy hx
     rw [Hj] at hR
     simp only [List.length_cons] at hlen
     obtain ⟨e,he,hiff⟩:=OB A.in1 ⟨hp,g,d,tk,os⟩ a t c u
     refine wpAny_bind (he prog w _ _ ?_)
     cases e with
     | true =>
      rw [if_pos (hiff.mp rfl)] at hR
      wp_walk
      exact ⟨rfl,rfl,_,_,_,_,hrest,hvi',hwi',by omega,hR⟩
     | false =>
      rw [if_neg (fun q=>absurd (hiff.mpr q) Bool.false_ne_true)] at hR
      have hri:=OC A.in1 ⟨hp,g,d,tk,os⟩ a t c u prog w
      wp_walk using hri
      exact ⟨_,rfl,by simpa using hR⟩
  case fin =>
   rintro ⟨b1,b2⟩ s' ⟨hb',rfl,vs,ws,ns',ms',hz,hvi,hwi,hlen,hR⟩
   simp only at hb'
   subst hb'
   have hv:lexLt ns' ms'=decide (items.size < items2.size):=by
    cases hvi with
    | nil =>
     cases hwi with
     | nil =>
      simp only [List.length_nil] at hlen
      rw [Ae]
      exact (decide_eq_false (by omega)).symm
     | cons c u hw =>
      simp only [List.length_nil,List.length_cons] at hlen
      rw [yF]
      exact (decide_eq_true (by omega)).symm
    | cons a t hv =>
     cases hwi with
     | nil =>
      simp only [List.length_nil,List.length_cons] at hlen
      rw [yA]
      exact (decide_eq_false (by omega)).symm
     | cons c u hw =>
      rw [List.zip_cons_cons] at hz
      cases hz
   rw [hv] at hR
   wp_walk
   exact ⟨_,rfl,by simpa [Builtin.Tuple.tupleCompareSizes] using hR⟩
  case h =>
   exact ⟨rfl,rfl,items.toList,items2.toList,ns,ms,rfl,hi,hj,by omega,h⟩
end
section
variable {prog:Program} {w:World} {A:Around} {E:Value->Shared->Prop} {s:Shared}
theorem G8 {l b:Addr} {items items2:Array Value} {ns ms:List Int} {Q:Value->Shared->Prop} (hl:IsTup s.heap l items) (hb:IsTup s.heap b items2) (hi:IntsAre items.toList ns) (hj:IntsAre items2.toList ms)
  (hu:A.units < cLine) (h:Q (.bool (lexLt ns ms)) s):wpAny (model prog w) A (compareOp .Lt (.ref l) (.ref b)) Q E s:=by
 obtain ⟨⟨cls,dd,data,sl⟩,ho,hc,n,hd⟩:=id hl
 obtain ⟨⟨cls2,dd2,data2,sl2⟩,ho2,hc2,n2,hd2⟩:=id hb
 simp only at hc hd hc2 hd2
 subst hc hd hc2 hd2
 exact richCompare_meets_room (op:=.Lt) ⟨_,ho,rfl⟩ ⟨_,ho2,rfl⟩ PySem.F.slot_tuple_lt PySem.F.entry_tuple_lt (PySem.F.args_tuple_lt_2 _ _) (Al l b items items2 n n2 dd dd2 sl sl2 ns ms hi hj)
  ⟨ho,ho2,show Value.bool (lexLt ns ms)≠Value.notImplemented/\Q (.bool (lexLt ns ms)) s from ⟨(fun x=>nomatch x),h⟩⟩ hu
theorem Si {t b:Addr} {vs ws:List Value} {Q:Value->Shared->Prop} (ht:IsTup s.heap t vs.toArray) (hb:IsTup s.heap b ws.toArray) (hv:vs≠[])
  (h1:ws=[]->Q (.ref t) s) (h2:ws≠[]->Q (.ref s.heap.objs.size) { s with heap:=s.heap.push { cls:=.type "tuple",data:=.seq (vs++ws).toArray } })
  (hsz:vs.length + ws.length<=sizeLine):wpAny (model prog w) A (binaryOp .Add (.ref t) (.ref b)) Q E s:=by
 obtain ⟨⟨cls,dd,data,sl⟩,ho,hc,n,hd⟩:=id ht
 obtain ⟨⟨cls2,dd2,data2,sl2⟩,ho2,hc2,n2,hd2⟩:=id hb
 simp only at hc hd hc2 hd2
 subst hc hd hc2 hd2
 have e:vs.toArray++ws.toArray=(vs++ws).toArray:=by simp
 by_cases hw:ws=[]
 ·exact concat_meets ⟨_,ho,rfl⟩ ⟨_,ho2,rfl⟩ noFill_tuple_add seq_tuple_add PySem.F.slot_tuple_add PySem.F.entry_tuple_add (PySem.F.args_tuple_add_2 _ _)
   (tuple_addW1 t b vs.toArray ws.toArray n n2 dd dd2 sl sl2 (by simpa using hv) (by simp [hw])) ⟨ho,ho2,h1 hw⟩
 ·refine concat_meets ⟨_,ho,rfl⟩ ⟨_,ho2,rfl⟩ noFill_tuple_add seq_tuple_add PySem.F.slot_tuple_add PySem.F.entry_tuple_add (PySem.F.args_tuple_add_2 _ _)
   (tuple_addW2 t b vs.toArray ws.toArray n n2 dd dd2 sl sl2 (by simpa using hv) (by simpa using hw) (by rw [List.size_toArray,List.size_toArray];exact hsz)) ⟨ho,ho2,?_⟩
  rw [e]
  exact h2 hw
noncomputable def bS (n d:Nat):Option Int->Nat
 | none=>d
 | some v=>if v < 0 then (v + (n:Int)).toNat else min v.toNat n
theorem Tp (n d:Nat) (hd:d<=n) (o:Option Int):bS n d o<=n:=by
 cases o with
 | none=>exact hd
 | some v =>
  show (if v < 0 then (v + (n:Int)).toNat else min v.toNat n)<=n
  by_cases hv:v < 0
  ·rw [if_pos hv];omega
  ·rw [if_neg hv];exact Nat.min_le_right _ _
theorem Gf (v:Int) (n d:Nat):(if v < 0 then max (v + (n:Int)) 0 else min v (n:Int))=((bS n d (some v):Nat):Int):=by
 show (if v < 0 then max (v + (n:Int)) 0 else min v (n:Int))=(((if v < 0 then (v + (n:Int)).toNat else min v.toNat n):Nat):Int)
 by_cases hv:v < 0
 ·simp only [if_pos hv];omega
 ·simp only [if_neg hv];omega
theorem IH (lo hi:Option Int) (n:Nat):Builtin.Slice.sliceAdjust lo hi 1 (n:Int)=(((bS n 0 lo:Nat):Int),((bS n n hi:Nat):Int)):=by
 have h1:¬ ((1:Int) < 0):=by omega
 unfold Builtin.Slice.sliceAdjust
 simp only [h1,if_false]
 refine Prod.ext ?_ ?_
 ·cases lo with
  | none=>rfl
  | some v=>exact Gf v n 0
 ·cases hi with
  | none=>rfl
  | some v=>exact Gf v n n
theorem HM (i j:Nat):Builtin.Slice.slicePlaces (i:Int) (j:Int) 1=j - i:=by
 unfold Builtin.Slice.slicePlaces
 have h1:(1:Int) > 0:=by omega
 simp only [h1,if_true,Int.ediv_one]
 split <;> omega
theorem vT {v:Value} {o:Option Int} {Q:Option Int->Shared->Prop} (p:IsPart v o) (h:Q o s):wpAny (model prog w) A (Builtin.Slice.slicePartIndex v) Q E s:=by
 cases p with
 | none=>exact slicePart_none h
 | int i t=>exact slicePart_int h
theorem m7 {sl:Addr} {vl vu:Value} {lo hi:Option Int} {n:Nat} {Q:Int × Int × Nat->Shared->Prop} (hs:s.heap.IsSliceOf sl vl vu .none) (pl:IsPart vl lo) (pu:IsPart vu hi)
  (h:Q (((bS n 0 lo:Nat):Int),1,bS n n hi - bS n 0 lo) s):wpAny (model prog w) A (Builtin.Slice.sliceApplied (.ref sl) (pure (n:Int))) Q E s:=by
 obtain ⟨os,hos,hcs,hds⟩:=id hs
 unfold Builtin.Slice.sliceApplied Builtin.Slice.sliceFields
 refine wpAny_bind (wpAny_bind (wpAny_field hos hds (x:=vl) rfl (wpAny_bind (wpAny_field hos hds (x:=vu) rfl (wpAny_bind (wpAny_field hos hds (x:=.none) rfl (wpAny_pure ?_)))))))
 refine wpAny_bind (slicePart_none ?_)
 show wpAny _ _ (if ((1:Int) == 0)=true then _ else _) _ _ s
 rw [if_neg (by decide)]
 refine wpAny_bind (vT pl (wpAny_bind (vT pu (wpAny_bind (wpAny_pure ?_)))))
 show wpAny _ _ (match Builtin.Slice.sliceAdjust lo hi 1 (n:Int) with | (lo,hi)=>pure (lo,(1:Int),Builtin.Slice.slicePlaces lo hi 1)) _ _ s
 rw [IH lo hi n]
 show wpAny _ _ (pure (((bS n 0 lo:Nat):Int),(1:Int),Builtin.Slice.slicePlaces ((bS n 0 lo:Nat):Int) ((bS n n hi:Nat):Int) 1)) _ _ s
 rw [HM]
 exact wpAny_pure h
theorem Oe (xs:Array Value) (i k:Nat):((List.range k).filterMap fun (m:Nat)=>xs[((i:Int) + (m:Int) * 1).toNat]?).toArray=((xs.toList.drop i).take k).toArray:=by
 have e:(fun (m:Nat)=>xs[((i:Int) + (m:Int) * 1).toNat]?)=fun m=>xs[i + m]?:=by
  funext m
  have:((i:Int) + (m:Int) * 1).toNat=i + m:=by omega
  rw [this]
 rw [e]
 have:=pick_run xs i k
 rw [List.filterMap_map] at this
 have e2:((fun x=>xs[x]?) ∘ fun x=>i + x)=fun m=>xs[i + m]?:=rfl
 rw [e2] at this
 rw [this]
theorem tY {t sl:Addr} {items:Array Value} {vl vu:Value} {lo hi:Option Int} {Q:Value->Shared->Prop} (ht:IsTup s.heap t items) (hs:s.heap.IsSliceOf sl vl vu .none) (pl:IsPart vl lo) (pu:IsPart vu hi)
  (hw:¬ (bS items.size 0 lo=0/\bS items.size items.size hi=items.size))
  (h:Q (.ref s.heap.objs.size) { s with heap:=s.heap.push { cls:=.type "tuple",data:=.seq ((items.toList.drop (bS items.size 0 lo)).take (bS items.size items.size hi - bS items.size 0 lo)).toArray } })
  (hsz:items.size<=sizeLine):wpAny (model prog w) A (getItem (.ref t) (.ref sl)) Q E s:=by
 have htake:sizeOk (.seq ((items.toList.drop (bS items.size 0 lo)).take (bS items.size items.size hi - bS items.size 0 lo)).toArray):=by
  show ((items.toList.drop (bS items.size 0 lo)).take (bS items.size items.size hi - bS items.size 0 lo)).toArray.size<=sizeLine
  rw [List.size_toArray,List.length_take,List.length_drop,Array.length_toList]
  omega
 have hj:bS items.size items.size hi<=items.size:=Tp _ _ (Nat.le_refl _) hi
 obtain ⟨os,hos,hcs,hds⟩:=id hs
 have hTs:s.TypeIs (.ref sl) "slice":=⟨os,hos,hcs⟩
 unfold getItem
 try with_reducible refine wpAny_holding ?_
 first | refine wpAny_bind (wpAny_pure ?_) | skip
 refine wpAny_bind (wpAny_sequenceKey ht.typeIs (by decide) ?_)
 refine wpAny_bind (wpAny_callSpecial?_slot (name:=Str.ofString "__getitem__") ht.typeIs PyProof.Rows.slot_tuple_getitem
  (wpAny_call_entry PyProof.Rows.slot_tuple_getitem ht.typeIs entry_tuple_getitem ?_ (args_tuple_getitem _ _)))
 show wpAny _ _ (Builtin.Tuple.tupleItemsOf (.ref t) >>= _) _ _ s
 refine wpAny_bind (tupleItemsOf_ ht ?_)
 refine wpAny_bind (wpAny_typeOf hTs ?_)
 rw [if_pos (by decide)]
 refine wpAny_bind (m7 hs pl pu ?_)
 have hno:¬ ((((bS items.size 0 lo:Nat):Int) == 0 && (1:Int) == 1 && (bS items.size items.size hi - bS items.size 0 lo) == items.size)=true):=by
  intro q
  rw [Bool.and_eq_true,Bool.and_eq_true] at q
  have q1:((bS items.size 0 lo:Nat):Int)=0:=eq_of_beq q.1.1
  have q2:bS items.size items.size hi - bS items.size 0 lo=items.size:=eq_of_beq q.2
  exact hw ⟨by omega,by omega⟩
 show wpAny _ _ (if (((bS items.size 0 lo:Nat):Int) == 0 && (1:Int) == 1 && (bS items.size items.size hi - bS items.size 0 lo) == items.size)=true then _ else _) _ _ s
 rw [if_neg hno,Oe]
 first
  | exact wpAny_bind (m:=Builtin.Tuple.tupleExact _) (wpAny_newObj_type (wpAny_pure ⟨_,rfl,wpAny_pure h⟩) htake)
  | exact wpAny_bind (m:=Builtin.Tuple.tupleExact _) (wpAny_newObj_type (wpAny_bind (wpAny_pure (wpAny_pure ⟨_,rfl,wpAny_pure h⟩))) htake)
  | exact wpAny_bind (wpAny_bind (m:=Builtin.Tuple.tupleExact _) (wpAny_newObj_type (wpAny_pure (wpAny_pure ⟨_,rfl,wpAny_pure h⟩)) htake))
  | exact wpAny_bind (wpAny_bind (m:=Builtin.Tuple.tupleExact _) (wpAny_newObj_type (wpAny_pure ⟨_,rfl,wpAny_pure h⟩) htake))
end
end HT
namespace L2
open PySem PySem.Spec PyProof.Rows
abbrev TO:=St->Hp->(Option Int->Hp->Prop)->Prop
noncomputable def PO (X:Cx) (e:Option Expr) (t:TO):Prop :=
 ∀ (pins:List (Addr × Obj)) (s:Shared) (σ:St) (H:Hp) (Q:Option Int->Hp->Prop),Inv X pins σ H s->t σ H Q ->
  wpAny (model X.prog X.w) X.A (evalPart e X.env) (fun u s'=>∃ o H',Inv X pins σ H' s'/\IsPart u o/\Q o H') X.xe s
noncomputable def Gn:TO:=fun _ H Q=>Q none H
noncomputable def QE (t:TE):TO:=fun σ H Q=>t σ H fun x H1=>∃ i,x=.int i/\Q (some i) H1
theorem intsAre_of {ns:List Int}:∀ {us:List Value},Vals (ns.map V.int) us->IntsAre us ns:=by
 induction ns with
 | nil=>intro us r;rw [List.map_nil] at r;cases r;exact .nil
 | cons n ns ih =>
  intro us r
  rw [List.map_cons] at r
  cases r with
  | cons r1 r2 =>
   obtain ⟨t,e⟩:=r1
   subst e
   exact .cons n t (ih r2)
section
variable {X:Cx} {e:Expr} {te:TE} {lo hi:Option Expr} {tl th:TO} {pos p2:Pos}
theorem QV:PO X none Gn:=by
 intro pins s σ H Q I h
 rw [evalPart_none]
 exact wpAny_pure ⟨none,H,I,.none,h⟩
theorem Sf (h:PE X e te):PO X (some e) (QE te):=by
 intro pins s σ H Q I hw
 rw [evalPart_some]
 refine bP (h pins s σ H _ I hw) fun u s1 ⟨x,H1,I1,r1,q1⟩=>?_
 obtain ⟨i,rfl,q⟩:=q1
 obtain ⟨t,rfl⟩:=r1
 exact ⟨some i,H1,I1,.int i t,q⟩
noncomputable def uG (X:Cx) (r:V->Option Int->Option Int->Hp->VK->Prop):Prop :=
 ∀ (pins:List (Addr × Obj)) (s:Shared) (σ:St) (H:Hp) (x:V) (v vl vu:Value) (lo hi:Option Int) (sl:Addr) (Q:VK),Inv X pins σ H s->RelV x v->s.heap.IsSliceOf sl vl vu .none->IsPart vl lo->IsPart vu hi->r x lo hi H Q ->
  ∃ T id,typeLookup (.type T) "__getitem__"=pure (some (.builtin id))/\s.TypeIs v T/\wpAny (model X.prog X.w) X.A (getItem v (.ref sl)) (EP X pins σ Q) X.xe s
theorem uG.or {r r':V->Option Int->Option Int->Hp->VK->Prop} (h:uG X r) (h':uG X r'):uG X (fun x lo hi H Q=>r x lo hi H Q\/r' x lo hi H Q):=by
 intro pins s σ H x v vl vu lo hi sl Q I rx hs pl pu q
 rcases q with q | q
 ·exact h pins s σ H x v vl vu lo hi sl Q I rx hs pl pu q
 ·exact h' pins s σ H x v vl vu lo hi sl Q I rx hs pl pu q
noncomputable def Wg (r:V->Option Int->Option Int->Hp->VK->Prop) (te:TE) (tl th:TO):TE:=fun σ H Q=>te σ H fun x H1=>tl σ H1 fun l H2=>th σ H2 fun u H3=>r x l u H3 Q
theorem Oo {r:V->Option Int->Option Int->Hp->VK->Prop} (hr:uG X r) (he:PE X e te) (hl:PO X lo tl) (hu:PO X hi th):PE X (.Subscript e (.Slice lo hi none p2) pos) (Wg r te tl th):=by
 intro pins s σ H Q I h
 refine Subscript_ (bP (he pins s σ H _ I h) fun v s1 ⟨x,H1,I1,r1,q1⟩=>?_)
 refine wpAny_Slice (bP (hl pins s1 σ H1 _ I1 q1) fun vl s2 ⟨l,H2,I2,pl,q2⟩=>bP (hu pins s2 σ H2 _ I2 q2) fun vu s3 ⟨u,H3,I3,pu,q3⟩=>?_)
 rw [evalPart_none]
 refine wpAny_pure ?_
 have I4:Inv X pins σ H3 { s3 with heap:=s3.heap.push { cls:=.type "slice",data:=.fields #[vl,vu,.none] } }:=I3.kept (t':=s3.toks) fun b ob q=>Heap.get?_push_of_some _ q
 obtain ⟨T,id,hT,ht,hg⟩:=hr pins { s3 with heap:=s3.heap.push { cls:=.type "slice",data:=.fields #[vl,vu,.none] } } σ H3 x v vl vu l u s3.heap.objs.size Q I4 r1 (Heap.IsSliceOf.new ..) pl pu q3
 show wpAny (model X.prog X.w) X.A (subscriptTail e (.Slice lo hi none p2) v (.ref s3.heap.objs.size)) (EP X pins σ Q) X.xe { s3 with heap:=s3.heap.push { cls:=.type "slice",data:=.fields #[vl,vu,.none] } }
 exact tail_any (ops:=[.ref s3.heap.objs.size,v]) ht hT hg (by with_unfolding_all rfl)
noncomputable def oQ (xs:List V) (lo hi:Option Int):List V:=(xs.drop (HT.bS xs.length 0 lo)).take (HT.bS xs.length xs.length hi - HT.bS xs.length 0 lo)
theorem uD (xs:List V) (lo hi:Option Int):(oQ xs lo hi).length<=xs.length:=by
 unfold oQ
 rw [List.length_take,List.length_drop]
 omega
noncomputable def WJ (K:PySem.W.Frag):V->Option Int->Option Int->Hp->VK->Prop:=fun x lo hi H Q=>∃ a xs,x=.ref a/\eE K H a xs /\
 ¬ (HT.bS xs.length 0 lo=0/\HT.bS xs.length xs.length hi=xs.length)/\∀ p,H p=none->Q (.ref p) (upd H p (.tup (oQ xs lo hi)))
theorem TC:uG X (WJ X.K):=by
 intro pins s σ H x v vl vu lo hi sl Q I rx hs pl pu h
 obtain ⟨a,xs,rfl,hx,hw,q⟩:=h
 cases rx
 obtain ⟨its,r,ht,hz⟩:=I.tuple hx
 have hlen:its.toArray.size=xs.length:=by rw [List.size_toArray];exact r.length.symm
 refine ⟨"tuple",_,PyProof.Rows.slot_tuple_getitem.lookup,ht.typeIs,?_⟩
 refine HT.tY ht hs pl pu (by rw [hlen];exact hw) ?_ (by rw [hlen];exact hz)
 rw [hlen]
 refine ⟨.ref s.heap.objs.size,_,I.laid (t':=s.toks) (o:=.tup (oQ xs lo hi)) (fun b ob q=>Heap.get?_push_of_some _ q) (Nat.le_refl _) ?_,rfl,q _ (I.hok.fresh (Nat.le_refl _))⟩
 exact ⟨Nat.le_trans (uD xs lo hi) hz,_,(r.drop (HT.bS xs.length 0 lo)).take (HT.bS xs.length xs.length hi - HT.bS xs.length 0 lo),gW.new _ _⟩
noncomputable def WO (K:PySem.W.Frag):R2:=fun x y H Q=>∃ a b ns ms,x=.ref a/\y=.ref b/\eE K H a (ns.map V.int)/\eE K H b (ms.map V.int)/\Q (.bl (HT.lexLt ns ms)) H
theorem UU (hu:X.A.units < cLine):cU X (compareOp .Lt) (WO X.K):=by
 intro pins s σ H x y v u Q I rx ry h
 obtain ⟨a,b,ns,ms,rfl,rfl,ha,hb,q⟩:=h
 cases rx
 cases ry
 obtain ⟨its,r1,p1,_⟩:=I.tuple ha
 obtain ⟨its2,r2,p2,_⟩:=I.tuple hb
 have i1:IntsAre its.toArray.toList ns:=intsAre_of r1
 have i2:IntsAre its2.toArray.toList ms:=intsAre_of r2
 exact HT.G8 p1 p2 i1 i2 hu ⟨.bl (HT.lexLt ns ms),H,I,rfl,q⟩
noncomputable def Vu (K:PySem.W.Frag):R2:=fun x y H Q=>∃ a b xs ys,x=.ref a/\y=.ref b/\eE K H a xs/\eE K H b ys/\xs≠[]/\xs.length + ys.length<=sizeLine /\
 (ys=[]->Q (.ref a) H)/\(ys≠[]->∀ p,H p=none->Q (.ref p) (upd H p (.tup (xs++ys))))
theorem Vals.nil_iff {xs:List V} {us:List Value} (r:Vals xs us):us=[] ↔ xs=[]:=by
 cases r with
 | nil=>simp
 | cons _ _=>simp
theorem Sn:cU X (binaryOp .Add) (Vu X.K):=by
 intro pins s σ H x y v u Q I rx ry h
 obtain ⟨a,b,xs,ys,rfl,rfl,ha,hb,hx,hz,q1,q2⟩:=h
 cases rx
 cases ry
 obtain ⟨its,r1,p1,_⟩:=I.tuple ha
 obtain ⟨its2,r2,p2,_⟩:=I.tuple hb
 refine HT.Si p1 p2 (fun z=>hx (r1.nil_iff.mp z)) (fun z=>⟨.ref a,H,I,rfl,q1 (r2.nil_iff.mp z)⟩) (fun z=>?_) (by rw [<- r1.length,<- r2.length];exact hz)
 refine ⟨.ref s.heap.objs.size,_,I.laid (t':=s.toks) (o:=.tup (xs++ys)) (fun b ob q=>Heap.get?_push_of_some _ q) (Nat.le_refl _) ?_,rfl,q2 (fun w=>z (r2.nil_iff.mpr w)) _ (I.hok.fresh (Nat.le_refl _))⟩
 exact ⟨by rw [List.length_append];exact hz,_,r1.append r2,gW.new _ _⟩
end
noncomputable def uB (n:Nat) (i:Int):Option Nat:=if 0<=i then (if i < n then some i.toNat else none) else if -(n:Int)<=i then some (i + n).toNat else none
noncomputable def dS {α:Type} (xs:List α) (i:Int):Option α:=(uB xs.length i).bind fun j=>xs[j]?
theorem GD {n:Nat} {i:Int} {j:Nat} (h:uB n i=some j):seqIndex? i n=some j/\j < n/\-(n:Int)<=i/\i < n:=by
 unfold uB at h
 by_cases h0:0<=i
 ·rw [if_pos h0] at h
  by_cases h1:i < n
  ·rw [if_pos h1] at h
   have e:i.toNat=j:=Option.some.inj h
   exact ⟨by rw [seqIndex_of h0 h1,e],by omega,by omega,h1⟩
  ·rw [if_neg h1] at h;cases h
 ·rw [if_neg h0] at h
  by_cases h1:-(n:Int)<=i
  ·rw [if_pos h1] at h
   have e:(i + n).toNat=j:=Option.some.inj h
   exact ⟨by rw [seqIndex_neg (by omega) h1,e],by omega,h1,by omega⟩
  ·rw [if_neg h1] at h;cases h
theorem yP {α:Type} {xs:List α} {i:Int} {v:α} (h:dS xs i=some v):∃ j,seqIndex? i xs.length=some j/\xs[j]?=some v/\j < xs.length/\-(xs.length:Int)<=i/\i < xs.length:=by
 unfold dS at h
 cases e:uB xs.length i with
 | none=>rw [e] at h;cases h
 | some j =>
  rw [e] at h
  obtain ⟨h1,h2,h3,h4⟩:=GD e
  exact ⟨j,h1,h,h2,h3,h4⟩
theorem dP {α:Type} {xs:List α} {j:Nat} {v:α} (h:xs[j]?=some v):dS xs (j:Int)=some v:=by
 have hj:j < xs.length:=(List.getElem?_eq_some_iff.mp h).1
 have e:uB xs.length (j:Int)=some j:=by
  unfold uB
  rw [if_pos (by omega),if_pos (by omega)];simp
 unfold dS;rw [e];exact h
noncomputable def tH (b:Expr):Prop:=∀ o i,subscripted b false o i=operate [o,i] (getItem o i)
noncomputable def xM (X:Cx) (r:R2):Prop :=
 ∀ (value slice:Expr) (pins:List (Addr × Obj)) (s:Shared) (σ:St) (H:Hp) (x y:V) (v u:Value) (Q:VK),Inv X pins σ H s->RelV x v->RelV y u->r x y H Q ->
  subscripted slice false v u=operate [v,u] (getItem v u)->wpAny (model X.prog X.w) X.A (subscriptTail value slice v u) (EP X pins σ Q) X.xe s
noncomputable def Wt (X:Cx) (id:String) (r:V->List V->Hp->VK->Prop):Prop :=
 ∀ (pins:List (Addr × Obj)) (s:Shared) (σ:St) (H:Hp) (x:V) (xs:List V) (v:Value) (us:List Value) (Q:VK),Inv X pins σ H s->RelV x v->Vals xs us->r x xs H Q ->
  wpAny (model X.prog X.w) X.A (call (.builtin id) (v :: us)) (EP X pins σ Q) X.xe s
section
variable {X:Cx} {a b:Expr} {ta tb:TE} {pos:Pos}
theorem xM.or {r r':R2} (h:xM X r) (h':xM X r'):xM X (fun x y H Q=>r x y H Q\/r' x y H Q):=by
 intro value slice pins s σ H x y v u Q I rx ry q hs
 rcases q with q | q
 ·exact h value slice pins s σ H x y v u Q I rx ry q hs
 ·exact h' value slice pins s σ H x y v u Q I rx ry q hs
theorem VA {r:R2} (hr:xM X r) (ha:PE X a ta) (hb:PE X b tb) (hs:tH b):PE X (.Subscript a b pos) (Gz r ta tb):=by
 intro pins s σ H Q I h
 exact Subscript_ (Jc ha hb I h fun v u s2 x y H2 I2 rx ry q=>hr a b pins s2 σ H2 x y v u Q I2 rx ry q (hs _ _))
noncomputable def Tz (K:PySem.W.Frag):R2:=fun x y H Q=>∃ p xs i v,x=.ref p/\y=.int i/\dE K H p xs/\dS xs i=some v/\Q v H
noncomputable def T9 (K:PySem.W.Frag):R2:=fun x y H Q=>∃ p xs i v,x=.ref p/\y=.int i/\eE K H p xs/\dS xs i=some v/\Q v H
noncomputable def Vs:R2:=fun x y H Q=>∃ z i c,x=.str z/\y=.int i/\z.length<=sizeLine/\dS z.cps.toList i=some c/\Q (.str ⟨#[c]⟩) H
theorem R1:xM X (Tz X.K):=by
 intro value slice pins s σ H x y v u Q I rx ry h hs
 obtain ⟨p,xs,i,z,rfl,rfl,hq,he,q⟩:=h
 cases rx
 obtain ⟨t,rfl⟩:=ry
 obtain ⟨its,r,pl,hz⟩:=I.list hq
 obtain ⟨j,h1,h2,h3,h4,h5⟩:=yP he
 obtain ⟨w,ew,rw'⟩:=r.get h2
 have hl:=r.length
 have hn:=pD
 have fin:EP X pins σ Q w s:=⟨z,H,I,rw',q⟩
 by_cases h0:0<=i
 ·have hj:i.toNat=j:=by
   rw [seqIndex_of h0 h5] at h1
   exact Option.some.inj h1
  exact item_listR pl.isList h0 (by omega) (by rw [hj];simpa using ew) fin hs
 ·have hj:(i + (its.toArray.size:Int)).toNat=j:=by
   rw [seqIndex_neg (by omega) h4] at h1
   rw [List.size_toArray,<- hl]
   exact Option.some.inj h1
  exact subscriptTail_builtinR (x:=w) pl.isList.typeIs slot_list_getitem.lookup
   (wpAny_getItem_list_neg (Q:=fun r s'=>r=w/\EP X pins σ Q r s') pl.isList (by omega) (by rw [List.size_toArray] <;> omega) (by omega) (by rw [hj];simpa using ew) ⟨rfl,fin⟩) hs
theorem UM:xM X (T9 X.K):=by
 intro value slice pins s σ H x y v u Q I rx ry h hs
 obtain ⟨p,xs,i,z,rfl,rfl,hq,he,q⟩:=h
 cases rx
 obtain ⟨t,rfl⟩:=ry
 obtain ⟨its,r,pl,hz⟩:=I.tuple hq
 obtain ⟨j,h1,h2,h3,h4,h5⟩:=yP he
 obtain ⟨w,ew,rw'⟩:=r.get h2
 have hl:=r.length
 have hn:=pD
 have fin:EP X pins σ Q w s:=⟨z,H,I,rw',q⟩
 exact subscriptTail_builtinR (x:=w) pl.typeIs slot_tuple_getitem.lookup
  (getItem_tuple (j:=j) (Q:=fun r s'=>r=w/\EP X pins σ Q r s') pl (by omega) (by omega) (by rw [List.size_toArray,<- hl];exact h1) (by simpa using ew) ⟨rfl,fin⟩) hs
theorem TH:xM X Vs:=by
 intro value slice pins s σ H x y v u Q I rx ry h hs
 obtain ⟨z,i,c,rfl,rfl,hz,he,q⟩:=h
 obtain ⟨t,rfl⟩:=rx
 obtain ⟨t',rfl⟩:=ry
 obtain ⟨j,h1,h2,h3,h4,h5⟩:=yP he
 have hl:z.cps.toList.length=z.length:=by simp [Str.length]
 rw [hl] at h1 h4 h5
 have hn:=pD
 exact tail_any (typeIs_str s z t) slot_str_getitem.lookup (getItem_str (c:=c) (by
  have e1:decide (i < -(2 ^ 63:Int))=false:=decide_eq_false (by omega)
  have e2:decide (i ≥ 2 ^ 63)=false:=decide_eq_false (by omega)
  rw [e1,e2,Bool.or_false]) (by rw [h1];simpa using h2) ⟨.str ⟨#[c]⟩,H,I.tok _,⟨_,rfl⟩,q⟩) hs
noncomputable def Wu (K:PySem.W.Frag):R2:=fun x y H Q=>Tz K x y H Q\/T9 K x y H Q\/Vs x y H Q
theorem U4:xM X (Wu X.K):=R1.or (UM.or TH)
theorem Iq (its:List Value) (n j:Nat) (u:Value):Obj.mapSeq (·.setIfInBounds j u) { cls:=.type "list",data:=.seq its.toArray n }={ cls:=.type "list",data:=.seq (its.set j u).toArray n }:=by
 simp [Obj.mapSeq]
theorem Inv.lst {pins:List (Addr × Obj)} {σ:St} {H:Hp} {s:Shared} {p:Addr} {xs:List V} (I:Inv X pins σ H s) (h:H p=some (.lst xs)) :
  ∃ (its:List Value) (n:Nat),Vals xs its/\s.heap.get? p=some { cls:=.type "list",data:=.seq its.toArray n }/\xs.length<=sizeLine:=by
 obtain ⟨z,its,n,r,e⟩:=I.hok p _ h
 exact ⟨its,n,r,e,z⟩
theorem Inv.lstUpd {pins:List (Addr × Obj)} {σ:St} {H:Hp} {s:Shared} {p:Addr} {xs ys:List V} {its its':List Value} {n n':Nat} {f:Obj->Obj} (I:Inv X pins σ H s) (h:H p=some (.lst xs))
  (ho:s.heap.get? p=some { cls:=.type "list",data:=.seq its.toArray n }) (hf:f { cls:=.type "list",data:=.seq its.toArray n }={ cls:=.type "list",data:=.seq its'.toArray n' }) (r:Vals ys its') (hz:ys.length<=sizeLine) (t:Nat) :
  Inv X pins σ (upd H p (.lst ys)) { s with heap:=s.heap.update p f,toks:=t }:=by
 have e:(s.heap.update p f).get? p=some { cls:=.type "list",data:=.seq its'.toArray n' }:=by
  rw [Heap.get?_update_self f ho (by rw [hf] <;> rfl),hf]
 refine I.write (x:=p) (e:=p) (by rw [h];trivial) (.inl rfl) (fun b u hb q=>(Heap.get?_update_other _ _ (Ne.symm hb)).trans q) ⟨_,e⟩ ?_
 exact ⟨hz,its',n',r,e⟩
noncomputable def V0:V->V->V->Hp->(Hp->Prop)->Prop:=fun o i v H Q=>∃ p xs k j,o=.ref p/\i=.int k/\H p=some (.lst xs)/\uB xs.length k=some j/\Q (upd H p (.lst (xs.set j v)))
theorem set_list:TY X V0:=by
 intro pins s σ H o i v ov iv u Q I ro ri rv h
 obtain ⟨p,xs,k,j,rfl,rfl,hp,hj,q⟩:=h
 cases ro
 obtain ⟨t,rfl⟩:=ri
 obtain ⟨its,n,r,ho,hz⟩:=I.lst hp
 obtain ⟨h1,h2,h3,h4⟩:=GD hj
 have hl:=r.length
 have hn:=pD
 have I':Inv X pins σ (upd H p (.lst (xs.set j v))) { s with heap:=s.heap.update p (Obj.mapSeq (·.setIfInBounds j u)) } :=
  I.lstUpd hp ho (Iq its n j u) (r.set rv j) (by rw [List.length_set];exact hz) s.toks
 by_cases h0:0<=k
 ·have hk:k.toNat=j:=by
   rw [seqIndex_of h0 h4] at h1
   exact Option.some.inj h1
  exact PySem.W.ki_setAt ho h0 (by omega) (by rw [List.size_toArray,<- hl];exact h4) (by rw [hk];exact ⟨_,I',q⟩)
 ·have hk:(k + (its.toArray.size:Int)).toNat=j:=by
   rw [seqIndex_neg (by omega) h3] at h1
   rw [List.size_toArray,<- hl]
   exact Option.some.inj h1
  exact PySem.W.ki_setBack ho (by omega) (by rw [List.size_toArray,<- hl];exact h3) (by omega) (by rw [hk];exact ⟨_,I',q⟩)
theorem CN (lo hi:Option Int) (n:Nat):(sliceBounds lo hi none n).1=((HT.bS n 0 lo:Nat):Int)/\(sliceBounds lo hi none n).2.1=((HT.bS n n hi:Nat):Int)/\(sliceBounds lo hi none n).2.2=1:=by
 refine ⟨?_,?_,rfl⟩
 ·cases lo with
  | none=>simp [sliceBounds,HT.bS]
  | some i =>
   simp only [sliceBounds,HT.bS,Option.getD_none,show (1:Int) > 0 by decide,if_true]
   by_cases h:i < 0
   ·simp only [h,if_true] <;> omega
   ·simp only [h,if_false] <;> omega
 ·cases hi with
  | none=>simp [sliceBounds,HT.bS]
  | some i =>
   simp only [sliceBounds,HT.bS,Option.getD_none,show (1:Int) > 0 by decide,if_true]
   by_cases h:i < 0
   ·simp only [h,if_true] <;> omega
   ·simp only [h,if_false] <;> omega
theorem Ap (its:List Value) (lo hi:Option Int):slicePick its.toArray lo hi none=((its.drop (HT.bS its.length 0 lo)).take (HT.bS its.length its.length hi - HT.bS its.length 0 lo)).toArray:=by
 obtain ⟨h1,h2,h3⟩:=CN lo hi its.toArray.size
 unfold slicePick
 rw [h1,h2,h3]
 simp only [sliceRange_one,pick_run,List.size_toArray] <;> rfl
noncomputable def WB (K:PySem.W.Frag):V->Option Int->Option Int->Hp->VK->Prop:=fun x lo hi H Q=>∃ a xs,x=.ref a/\dE K H a xs/\∀ p,H p=none->Q (.ref p) (upd H p (.lst (oQ xs lo hi)))
theorem Rg:uG X (WB X.K):=by
 intro pins s σ H x v vl vu lo hi sl Q I rx hs pl pu h
 obtain ⟨a,xs,rfl,hx,q⟩:=h
 cases rx
 obtain ⟨its,r,ht,hz⟩:=I.list hx
 have hlen:=r.length
 refine ⟨"list",_,slot_list_getitem.lookup,ht.isList.typeIs,?_⟩
 refine wpAny_getItem_list_slice ht.isList hs pl pu .none (by simp) ?_ (by rw [List.size_toArray] <;> omega)
 rw [Ap,<- hlen]
 refine ⟨.ref s.heap.objs.size,_,I.laid (t':=s.toks) (o:=.lst (oQ xs lo hi)) (fun b ob q=>Heap.get?_push_of_some _ q) (Nat.le_refl _) ?_,rfl,q _ (I.hok.fresh (Nat.le_refl _))⟩
 exact ⟨Nat.le_trans (uD xs lo hi) hz,_,0,(r.drop (HT.bS xs.length 0 lo)).take (HT.bS xs.length xs.length hi - HT.bS xs.length 0 lo),Heap.get?_push_size _ rfl⟩
noncomputable def gE:V->Bool
 | .non=>true
 | .bl _=>true
 | .int _=>true
 | .str _=>true
 | _=>false
noncomputable def wG:V->V->Bool
 | .non,.non=>true
 | .bl a,.bl b=>a == b
 | .bl a,.int b=>(if a then 1 else 0) == b
 | .int a,.bl b=>a == (if b then 1 else 0)
 | .int a,.int b=>a == b
 | .str a,.str b=>a == b
 | _,_=>false
theorem T5 {A:Around} {s:Shared} {y x:V} {u v:Value} (ry:RelV y u) (rx:RelV x v) (fy:gE y=true) (fx:gE x=true):SeqAt.EqAt A s u v (wG y x):=by
 cases y with
 | non =>
  cases ry
  cases x with
  | non=>cases rx;exact SeqAt.EqAt.same _
  | bl b=>cases rx;exact SeqAt.EqAt.none_bool b
  | int b=>obtain ⟨t,rfl⟩:=rx;exact SeqAt.EqAt.none_int b t
  | str b=>obtain ⟨t,rfl⟩:=rx;exact SeqAt.EqAt.none_str b t
  | _=>exact absurd (show false=true from fx) Bool.false_ne_true
 | bl a =>
  cases ry
  cases x with
  | non=>cases rx;exact SeqAt.EqAt.bool_none a
  | bl b=>cases rx;exact SeqAt.EqAt.bool_bool a b
  | int b=>obtain ⟨t,rfl⟩:=rx;exact SeqAt.EqAt.bool_int a b t
  | str b=>obtain ⟨t,rfl⟩:=rx;exact SeqAt.EqAt.bool_str a b t
  | _=>exact absurd (show false=true from fx) Bool.false_ne_true
 | int a =>
  obtain ⟨t',rfl⟩:=ry
  cases x with
  | non=>cases rx;exact SeqAt.EqAt.int_none a t'
  | bl b=>cases rx;exact SeqAt.EqAt.int_bool a t' b
  | int b=>obtain ⟨t,rfl⟩:=rx;exact SeqAt.EqAt.int_int a t' b t
  | str b=>obtain ⟨t,rfl⟩:=rx;exact SeqAt.EqAt.int_str a t' b t
  | _=>exact absurd (show false=true from fx) Bool.false_ne_true
 | str a =>
  obtain ⟨t',rfl⟩:=ry
  cases x with
  | non=>cases rx;exact SeqAt.EqAt.str_none a t'
  | bl b=>cases rx;exact SeqAt.EqAt.str_bool a t' b
  | int b=>obtain ⟨t,rfl⟩:=rx;exact SeqAt.EqAt.str_int a t' b t
  | str b=>obtain ⟨t,rfl⟩:=rx;exact SeqAt.EqAt.str_str a t' b t
  | _=>exact absurd (show false=true from fx) Bool.false_ne_true
 | _=>exact absurd (show false=true from fy) Bool.false_ne_true
noncomputable def mW (x:V) (u:Value):Bool:=match u with
 | .none=>wG .non x
 | .bool b=>wG (.bl b) x
 | .int i _=>wG (.int i) x
 | .str z _=>wG (.str z) x
 | _=>false
theorem Lw {x y:V} {u:Value} (r:RelV y u) (f:gE y=true):mW x u=wG y x:=by
 cases y with
 | non=>cases r;rfl
 | bl b=>cases r;rfl
 | int i=>obtain ⟨t,rfl⟩:=r;rfl
 | str z=>obtain ⟨t,rfl⟩:=r;rfl
 | _=>exact absurd (show false=true from f) Bool.false_ne_true
theorem o6 {x:V}:∀ {xs:List V} {us:List Value},Vals xs us->xs.all gE=true->us.any (mW x)=xs.any fun y=>wG y x
 | _,_,.nil,_=>rfl
 | y :: xs,u :: us,.cons r t,f=>by
  rw [List.all_cons,Bool.and_eq_true] at f
  rw [List.any_cons,List.any_cons,Lw r f.1,o6 t f.2]
theorem nN {A:Around} {s:Shared} {x:V} {v:Value} (rx:RelV x v) (fx:gE x=true):∀ {xs:List V} {us:List Value},Vals xs us->xs.all gE=true->∀ u∈us,SeqAt.EqAt A s u v (mW x u)
 | _,_,.nil,_=>fun u hu=>by cases hu
 | y :: xs,u :: us,.cons r t,f=>fun u' hu=>by
  rw [List.all_cons,Bool.and_eq_true] at f
  rcases List.mem_cons.mp hu with rfl | hu
  ·rw [Lw r f.1];exact T5 r rx f.1 fx
  ·exact nN rx fx t f.2 u' hu
noncomputable def P6 (x:V) (xs:List V):Bool:=xs.any fun y=>wG y x
noncomputable def QB (K:PySem.W.Frag) (neg:Bool):R2:=fun x y H Q=>∃ p xs,y=.ref p/\(dE K H p xs\/eE K H p xs)/\gE x=true/\xs.all gE=true/\Q (.bl (if neg then !P6 x xs else P6 x xs)) H
theorem Nu:cU X (compareOp .In) (QB X.K false):=by
 intro pins s σ H x y v u Q I rx ry h
 obtain ⟨p,xs,rfl,hq,fx,fs,q⟩:=h
 cases ry
 rcases hq with hq | hq
 ·obtain ⟨its,r,pl,hz⟩:=I.list hq
  refine SeqAt.in_listAt (mW x) pl.isList (fun w hw=>nN rx fx r fs w (by simpa using hw)) ⟨.bl _,H,I,rfl,?_⟩
  rw [show its.toArray.any (mW x)=its.any (mW x) by simp,o6 r fs]
  exact q
 ·obtain ⟨its,r,pl,hz⟩:=I.tuple hq
  refine SeqAt.in_tupleAt (mW x) pl (fun w hw=>nN rx fx r fs w (by simpa using hw)) ⟨.bl _,H,I,rfl,?_⟩
  rw [show its.toArray.any (mW x)=its.any (mW x) by simp,o6 r fs]
  exact q
theorem rO:cU X (compareOp .NotIn) (QB X.K true):=by
 intro pins s σ H x y v u Q I rx ry h
 obtain ⟨p,xs,rfl,hq,fx,fs,q⟩:=h
 cases ry
 rcases hq with hq | hq
 ·obtain ⟨its,r,pl,hz⟩:=I.list hq
  refine SeqAt.notIn_listAt (mW x) pl.isList (fun w hw=>nN rx fx r fs w (by simpa using hw)) ⟨.bl _,H,I,rfl,?_⟩
  rw [show its.toArray.any (mW x)=its.any (mW x) by simp,o6 r fs]
  exact q
 ·obtain ⟨its,r,pl,hz⟩:=I.tuple hq
  refine SeqAt.notIn_tupleAt (mW x) pl (fun w hw=>nN rx fx r fs w (by simpa using hw)) ⟨.bl _,H,I,rfl,?_⟩
  rw [show its.toArray.any (mW x)=its.any (mW x) by simp,o6 r fs]
  exact q
theorem fJ.or {f:Value} {r r':List V->Hp->VK->Prop} (h:fJ X f r) (h':fJ X f r'):fJ X f (fun xs H Q=>r xs H Q\/r' xs H Q):=by
 intro pins s σ H xs us Q I rs q
 rcases q with q | q
 ·exact h pins s σ H xs us Q I rs q
 ·exact h' pins s σ H xs us Q I rs q
theorem Am:fJ X (.type "tuple") (fun xs H Q=>∃ p ys,xs=[.ref p]/\((dE X.K H p ys/\∀ l,H l=none->Q (.ref l) (upd H l (.tup ys)))\/(eE X.K H p ys/\Q (.ref p) H))):=by
 intro pins s σ H xs us Q I r h
 obtain ⟨p,ys,rfl,h⟩:=h
 obtain ⟨u,rfl,rx⟩:=vals1 r
 cases rx
 rcases h with ⟨hq,q⟩ | ⟨hq,q⟩
 ·obtain ⟨its,r',pl,hz⟩:=I.list hq
  have hlen:=r'.length
  refine call_tuple_list pl.isList (fun h' kp=>?_) (by simp only [List.size_toArray] <;> omega)
  have I1:Inv X pins σ H { s with heap:=h' }:=I.kept (t':=s.toks) kp
  have I2:Inv X pins σ (upd H h'.objs.size (.tup ys)) { s with heap:=h'.push { cls:=.type "tuple",data:=.seq its.toArray } } :=
   I1.laid (t':=s.toks) (fun b o e=>Heap.get?_push_of_some _ e) (Nat.le_refl _) (show cW X.prog X.w _ _ _ (.tup ys) from ⟨hz,its,r',gW.new _ _⟩)
  exact ⟨.ref h'.objs.size,_,I2,rfl,q _ (I1.hok.fresh (Nat.le_refl _))⟩
 ·obtain ⟨its,r',pl,hz⟩:=I.tuple hq
  exact call_tuple_same pl ⟨.ref p,H,I,rfl,q⟩
noncomputable def P0 (K:PySem.W.Frag) (T:String) (x:V) (H:Hp):Prop:=match x with
 | .str _=>T="str"
 | .int _=>T="int"
 | .ref p=>(T="list"/\∃ xs,dE K H p xs)\/(T="tuple"/\∃ o,K.lookup p=some o/\o.cls=.type "tuple"/\o.dict=none) \/
   (T="dict"/\((∃ kvs,H p=some (.dK kvs))\/∃ kvs,H p=some (.dT kvs)))\/(T="set"/\∃ S n,H p=some (.set S n))
 | _=>False
theorem Mo {pins:List (Addr × Obj)} {σ:St} {H:Hp} {s:Shared} {T:String} {x:V} {v:Value} (I:Inv X pins σ H s) (r:RelV x v) (ty:P0 X.K T x H) :
  s.TypeIs v T/\∀ a,v=.ref a->∃ ob,s.heap.get? a=some ob/\ob.dict=none:=by
 cases x with
 | str z =>
  obtain ⟨t,rfl⟩:=r
  cases (show T="str" from ty)
  exact ⟨typeIs_str s z t,fun _ e=>nomatch e⟩
 | int i =>
  obtain ⟨t,rfl⟩:=r
  cases (show T="int" from ty)
  exact ⟨typeIs_int s i t,fun _ e=>nomatch e⟩
 | ref p =>
  cases r
  rcases ty with ⟨rfl,xs,hq⟩ | ⟨rfl,o,hk,hc,hd⟩ | ⟨rfl,hk⟩ | ⟨rfl,S,n,hk⟩
  ·obtain ⟨its,_,pl,_⟩:=I.list hq
   refine ⟨pl.isList.typeIs,fun a e=>?_⟩
   cases e
   obtain ⟨o,n,e,c,hd,_⟩:=pl
   exact ⟨o,e,hd⟩
  ·refine ⟨⟨o,I.kIn p o hk,hc⟩,fun a e=>?_⟩
   cases e
   exact ⟨o,I.kIn _ o hk,hd⟩
  ·have z:∃ o,s.heap.get? p=some o/\o.ExactDict:=by
    rcases hk with ⟨kvs,hk⟩ | ⟨kvs,hk⟩
    ·obtain ⟨_,_,_,_,o,_,_,e,ex,_⟩:=I.hok p _ hk
     exact ⟨o,e,ex⟩
    ·obtain ⟨_,_,_,_,o,_,_,e,ex,_⟩:=I.hok p _ hk
     exact ⟨o,e,ex⟩
   obtain ⟨o,e,ex⟩:=z
   refine ⟨⟨o,e,ex.1⟩,fun a e2=>?_⟩
   cases e2
   exact ⟨o,e,ex.2.1⟩
  ·obtain ⟨o,_,_,_,e,ex,_⟩:=I.hok p _ hk
   refine ⟨⟨o,e,ex.1⟩,fun a e2=>?_⟩
   cases e2
   exact ⟨o,e,ex.2.1⟩
 | _=>exact False.elim ty
noncomputable def SD (K:PySem.W.Frag) (T:String) (r:V->List V->Hp->VK->Prop) (to:TE):TE:=fun σ H Q=>to σ H fun x H1=>P0 K T x H1/\r x [] H1 Q
noncomputable def Wk (K:PySem.W.Frag) (T:String) (r:V->List V->Hp->VK->Prop) (to:TE) (t:TA):TE:=fun σ H Q=>to σ H fun x H1=>P0 K T x H1/\t σ H1 fun xs H2=>r x xs H2 Q
variable {o e:Expr} {es:List Expr} {to:TE} {t:TA} {name:Str} {apos cpos:Pos} {T id:String} {r:V->List V->Hp->VK->Prop}
theorem SA (pa:PlainAttrs T) (slot:Slot T name id) (hty:typeOf (.builtin id)=pure (.type "method_descriptor")) (hm:Wt X id r) (ho:PE X o to)
  (hbase:attributeBase o name X.env (eval o X.env)=eval o X.env:=by rfl) (hline:(apos.endLine == cpos.line)=true:=by rfl):PE X (.Call (.Attribute o name apos) [] [] cpos) (SD X.K T r to):=by
 intro pins s σ H Q I h
 refine wpAny_Call_method0_late hbase hline (bP (ho pins s σ H _ I h) fun v s1 ⟨x,H1,I1,r1,ty,q1⟩=>?_)
 obtain ⟨h1,h2⟩:=Mo I1 r1 ty
 exact ⟨T,id,pa,slot,hty,h1,h2,Calls.callWith_builtin rfl (PySem.evalArgs_none (hm pins s1 σ H1 x [] v [] Q I1 r1 .nil q1))⟩
theorem Qt (pa:PlainAttrs T) (slot:Slot T name id) (hty:typeOf (.builtin id)=pure (.type "method_descriptor")) (hm:Wt X id r) (ho:PE X o to) (ha:PA X (e :: es) t)
  (hbase:attributeBase o name X.env (eval o X.env)=eval o X.env:=by rfl)
  (hfew:((backTo cpos (starEach (e :: es) X.env)).all (fun x=>!x.1) && (backToKw cpos (keywordEach [] X.env)).all (fun x=>x.1.isSome)
   && decide ((e :: es).length + ([]:List Keyword).length + (if ([]:List Keyword).isEmpty then 0 else 1) < 30))=true:=by rfl)
  (hline:(apos.endLine == cpos.line)=true:=by rfl) (hs:starEach (e :: es) X.env=(false,eval e X.env) :: starEach es X.env:=by rfl) (hplain:(backTo cpos (starEach es X.env)).any (·.1)=false:=by rfl) :
  PE X (.Call (.Attribute o name apos) (e :: es) [] cpos) (Wk X.K T r to t):=by
 intro pins s σ H Q I h
 refine wpAny_Call_method_late hbase hfew hline rfl (bP (ho pins s σ H _ I h) fun v s1 ⟨x,H1,I1,r1,ty,q1⟩=>?_)
 obtain ⟨h1,h2⟩:=Mo I1 r1 ty
 refine ⟨T,id,pa,slot,hty,h1,h2,?_⟩
 have hA:=ha cpos pins s1 σ H1 _ I1 q1
 rw [hs] at hA ⊢
 refine Calls.callWith_builtin (by show (false || (backTo cpos (starEach es X.env)).any (·.1))=false;rw [hplain] <;> rfl) (Calls.evalArgs_plain ?_)
 exact bP hA fun us s2 ⟨vs,H2,I2,r2,q2⟩=>hm pins s2 σ H2 x vs v us Q I2 r1 r2 q2
end
noncomputable def Us (X:Cx) (id:String) (r:V->List V->Hp->VK->Prop):Prop :=
 ∀ (pins:List (Addr × Obj)) (s:Shared) (σ:St) (H:Hp) (x:V) (xs:List V) (v:Value) (us:List Value) (Q:VK),Inv X pins σ H s->RelV x v->Vals xs us->r x xs H Q ->
  wpAny (model X.prog X.w) X.A (call (.builtin id) (v :: us)) (EP X pins σ Q) X.xe s
theorem Vals.one:∀ {x:V} {us:List Value},Vals [x] us->∃ u,us=[u]/\RelV x u
 | _,_,.cons r .nil=>⟨_,rfl,r⟩
theorem Vals.zero:∀ {us:List Value},Vals [] us->us=[]
 | _,.nil=>rfl
theorem Vals.dropLast {xs:List V} {us:List Value} (h:Vals xs us):Vals xs.dropLast us.dropLast:=by
 induction h with
 | nil=>exact .nil
 | cons r t ih =>
  cases t with
  | nil=>exact .nil
  | cons q t'=>exact .cons r ih
theorem Vals.rep {xs:List V} {us:List Value} (h:Vals xs us):∀ k:Nat,Vals (List.replicate k xs).flatten (List.replicate k us).flatten
 | 0=>.nil
 | k + 1=>by
  rw [List.replicate_succ,List.replicate_succ,List.flatten_cons,List.flatten_cons]
  exact Vals.append h (Vals.rep h k)
theorem Hv {α:Type} (l:List α):l.eraseIdx (l.length - 1)=l.dropLast:=by
 induction l with
 | nil=>rfl
 | cons a r ih =>
  cases r with
  | nil=>rfl
  | cons b r =>
   have e:(a :: b :: r).length - 1=((b :: r).length - 1) + 1:=by
    have h1:(a :: b :: r).length=r.length + 2:=rfl
    have h2:(b :: r).length=r.length + 1:=rfl
    omega
   rw [e,List.eraseIdx_cons_succ,ih]
   all_goals rfl
theorem foldl_rep (its:List Value):∀ (k:Nat) (acc:List Value),
  List.foldl (fun x1 x2=>x1++x2) acc.toArray (List.replicate k its.toArray)=(acc++(List.replicate k its).flatten).toArray
 | 0,acc=>by simp
 | k + 1,acc=>by
  have e:acc.toArray++its.toArray=(acc++its).toArray:=by simp
  have e2:(acc++its)++(List.replicate k its).flatten=acc++(List.replicate (k + 1) its).flatten:=by
   rw [List.replicate_succ,List.flatten_cons,List.append_assoc]
  rw [<- e2,<- foldl_rep its k (acc++its),<- e,List.replicate_succ,List.foldl_cons]
section
variable {X:Cx} {pins:List (Addr × Obj)} {σ:St} {H:Hp} {s:Shared} {l b:Addr} {xs ys zs:List V}
theorem Inv.lset {its its':List Value} {n:Nat} {f:Array Value->Array Value} {t':Nat} (I:Inv X pins σ H s) (hH:H l=some (.lst xs))
  (e:s.heap.get? l=some { cls:=.type "list",data:=.seq its.toArray n }) (hf:f its.toArray=its'.toArray) (hv:Vals ys its') (hz:ys.length<=sizeLine) :
  Inv X pins σ (upd H l (.lst ys)) { s with heap:=s.heap.update l (Obj.mapSeq f),toks:=t' }:=by
 have q:=PySem.IsL.update e f
 rw [hf] at q
 refine I.write (x:=l) (e:=l) (by rw [hH];exact trivial) (.inl rfl) (fun b' u hb hu=>(Heap.get?_update_other s.heap (Obj.mapSeq f) (Ne.symm hb)).trans hu) ⟨_,q⟩ ?_
 exact ⟨hz,its',_,hv,q⟩
theorem Inv.lnew {its:List Value} {t':Nat} (I:Inv X pins σ H s) (hv:Vals ys its) (hz:ys.length<=sizeLine) :
  Inv X pins σ (upd H s.heap.objs.size (.lst ys)) { s with heap:=s.heap.push { cls:=.type "list",data:=.seq its.toArray },toks:=t' } :=
 I.laid (fun _ _ q=>Heap.get?_push_of_some _ q) (Nat.le_refl _) ⟨hz,its,0,hv,Heap.get?_push_size _ rfl⟩
theorem Inv.fresh (I:Inv X pins σ H s):H s.heap.objs.size=none:=I.hok.fresh (Nat.le_refl _)
theorem Inv.lstM (I:Inv X pins σ H s) (hH:H l=some (.lst xs)):xs.length<=sizeLine/\∃ (its:List Value) (n:Nat),Vals xs its/\xs.length=its.length/\s.heap.get? l=some { cls:=.type "list",data:=.seq its.toArray n }:=by
 obtain ⟨z,its,n,r,e⟩:=I.hok l _ hH
 exact ⟨z,its,n,r,r.length,e⟩
theorem Bj {n:Nat} (h:n<=sizeLine):Builtin.List.listTooLong n=false:=by
 unfold Builtin.List.listTooLong
 exact decide_eq_false (by omega)
end
section
variable {X:Cx}
noncomputable def GL:V->List V->Hp->VK->Prop:=fun x vs H Q=>∃ l xs y,x=.ref l/\vs=[y]/\H l=some (.lst xs)/\xs.length < sizeLine/\Q .non (upd H l (.lst (xs++[y])))
theorem zU:Us X "list.append" GL:=by
 intro pins s σ H x vs v us Q I rx rv h
 obtain ⟨l,xs,y,rfl,rfl,hH,hz,q⟩:=h
 cases rx
 obtain ⟨u,rfl,ru⟩:=rv.one
 obtain ⟨z,its,n,r,hl,e⟩:=I.lstM hH
 refine call_meets F.slot_list_append ⟨_,e,rfl⟩ F.entry_list_append (F.args_list_append_2 _ _) (PySem.list_append l its.toArray n u (by rw [List.size_toArray];omega)) ⟨e,?_⟩
 refine ⟨.non,_,I.lset (its':=its++[u]) hH e (by simp) (r.append (.cons ru .nil)) ?_,rfl,q⟩
 rw [List.length_append,List.length_singleton]
 omega
noncomputable def S8:V->List V->Hp->VK->Prop:=fun x vs H Q=>∃ l xs y,x=.ref l/\vs=[]/\H l=some (.lst xs)/\xs[xs.length - 1]?=some y/\Q y (upd H l (.lst xs.dropLast))
theorem Ud:Us X "list.pop" S8:=by
 intro pins s σ H x vs v us Q I rx rv h
 obtain ⟨l,xs,y,rfl,rfl,hH,hy,q⟩:=h
 cases rx
 have hus:=rv.zero
 subst hus
 obtain ⟨z,its,n,r,hl,e⟩:=I.lstM hH
 obtain ⟨u,hu,ru⟩:=r.get hy
 have hy':its.toArray[its.toArray.size - 1]?=some u:=by
  show its.toArray[its.length - 1]?=some u
  rw [<- Array.getElem?_toList,<- hl]
  exact hu
 refine call_meets F.slot_list_pop ⟨_,e,rfl⟩ F.entry_list_pop (F.args_list_pop_1 _) (MeetsSeq.list_pop_last l its.toArray n u hy' (by rw [List.size_toArray];omega)) ⟨e,?_⟩
 refine ⟨y,_,I.lset (its':=its.dropLast) hH e ?_ r.dropLast ?_,ru,q⟩
 ·show its.toArray.eraseIdxIfInBounds (its.toArray.size - 1)=its.dropLast.toArray
  rw [List.size_toArray,List.eraseIdxIfInBounds_toArray,Hv]
 ·rw [List.length_dropLast]
  omega
noncomputable def Vd:R2:=fun x y H Q=>∃ l k xs,x=.ref l/\y=.int k/\H l=some (.lst xs)/\-(2 ^ 63)<=k/\k < 2 ^ 63/\xs.length * k.toNat<=sizeLine /\
 ∀ p,H p=none->Q (.ref p) (upd H p (.lst (List.replicate k.toNat xs).flatten))
theorem len_rep {α:Type} (xs:List α) (k:Nat):(List.replicate k xs).flatten.length=k * xs.length:=by
 induction k with
 | zero=>simp
 | succ k ih=>rw [List.replicate_succ,List.flatten_cons,List.length_append,ih,Nat.succ_mul,Nat.add_comm]
theorem Tu:cU X (binaryOp .Mult) Vd:=by
 intro pins s σ H x y v u Q I rx ry h
 obtain ⟨l,k,xs,rfl,rfl,hH,h1,h2,hz,q⟩:=h
 cases rx
 obtain ⟨t,rfl⟩:=ry
 obtain ⟨z,its,n,r,hl,e⟩:=I.lstM hH
 have hlen:its.toArray.size * k.toNat<=sizeLine:=by rw [List.size_toArray,<- hl];exact hz
 have hcap:¬ its.toArray.size * k.toNat > (2 ^ 63 - 1) / 8:=by
  have:(sizeLine:Nat)<=(2 ^ 63 - 1) / 8:=by decide
  omega
 have hfit:¬ (!Builtin.List.listFitsIndex k)=true:=by
  rw [fitsIndex_both h1 h2]
  exact Bool.false_ne_true
 have hlong:¬ Builtin.List.listTooLong (its.toArray.size * k.toNat)=true:=by
  rw [Bj hlen]
  exact Bool.false_ne_true
 have hnew:List.foldl (fun x1 x2=>x1++x2) #[] (List.replicate (if its.toArray.isEmpty=true then 0 else k.toNat) its.toArray)=(List.replicate k.toNat its).flatten.toArray:=by
  have f0:∀ m:Nat,List.foldl (fun x1 x2=>x1++x2) #[] (List.replicate m its.toArray)=(List.replicate m its).flatten.toArray:=fun m=>by
   have:=foldl_rep its m []
   rw [List.nil_append] at this
   exact this
  rw [f0]
  cases its with
  | nil=>simp
  | cons a r'=>rw [if_neg (by simp)]
 refine wpAny_binaryOp_repeat_ref (T:="list") (U:="int") (by decide) ⟨_,e,rfl⟩ (fun s'=>typeIs_int s' k t) noFill_list_mul F.fills_int_mul F.slot_int_rmul repeat_list F.slot_int_index.lookup
  (call_meets F.slot_int_rmul (typeIs_int s k t) F.entry_int_rmul (F.args_int_rmul_2 _ _) (int___rmul___int_list k t l its.toArray n)
   ⟨e,rfl,⟨_,e,rfl⟩,call_meets F.slot_list_mul ⟨_,e,rfl⟩ F.entry_list_mul (F.args_list_mul_2 _ _) (AutoListH.list___mul___list_int_3 l its.toArray n k t hfit hcap hlong) ⟨e,?_⟩⟩)
 rw [hnew]
 exact ⟨.ref _,_,I.lnew (t':=s.toks) (r.rep k.toNat) (by rw [len_rep,Nat.mul_comm];exact hz),rfl,q _ I.fresh⟩
end
section
variable {prog:Program} {w:World} {A:Around} {E:Value->Shared->Prop} {s:Shared}
end
section
variable {X:Cx}
end
end L2
namespace Att
open PySem PySem.W PySem.Calls PyProof.Rows
theorem wA {P:Params} {h:Heap}:∀ (ns:List Int) (vs:List Value),WellAll P h vs (ns.map WData.int)->IntsAre vs ns:=by
 intro ns
 induction ns with
 | nil =>
  intro vs w
  rw [List.map_nil] at w
  cases w
  exact .nil
 | cons n ns ih =>
  intro vs w
  rw [List.map_cons] at w
  cases w with
  | cons a b =>
   cases a
   exact .cons _ _ (ih _ b)
theorem K7 {l:OpenLaw} {n:Nat} (hn:l.most=some n) {P:Params} {h:Heap} {args:List WData} {vals:List Value}
  (hpre:l.row.toRowW.claim.pre args=true) (hwl:WellAll P h vals args) :
  ∃ a vs ns,vals=[Value.ref a]/\args=[WData.list (ns.map WData.int)]/\h.get? a=some { cls:=.type "list",data:=.seq vs.toArray }/\IntsAre vs ns/\ns.length<=n:=by
 have hsh:WShape.hasAll [] args [.list .int]=true:=(pre_splitW hpre).1
 have hc:l.pre.holds [] { args:=args }=true:=(pre_splitW hpre).2
 obtain ⟨d,r,rfl,h1,h2⟩:=hasAllW_cons hsh
 obtain rfl:=hasAllW_nil h2
 obtain ⟨xs,rfl,h3⟩:=hasW_list h1
 obtain ⟨ns,rfl⟩:=items_int h3
 have hlen:ns.length<=n:=by
  unfold OpenLaw.pre at hc
  have h4:(WTm.not (.lt (.lit (.int (n:Int))) (.len (.arg 0)))).holds [] { args:=[.list (ns.map .int)] }=true:=by
   have h4:=(holds_andW hc).1
   rw [hn] at h4
   exact h4
  have h5:=condW_of h4 (w_not (w_lt w_lit (w_len_list (w_arg rfl))))
  rw [List.length_map] at h5
  refine Nat.le_of_not_lt fun q=>?_
  have q':(n:Int) < ((ns.length:Nat):Int):=by omega
  first
   | (rw [decide_eq_true q'] at h5;exact absurd h5 (by decide))
   | (simp at h5;omega)
 cases hwl with
 | cons w1 w2 =>
  cases w2
  cases w1 with
  | list ho hall=>exact ⟨_,_,ns,rfl,rfl,ho,wA ns _ hall,hlen⟩
theorem Le (l:OpenLaw) (args:List WData):l.row.toRowW.claim.post args (.bool true) args=true :=
 postW_of (r:=l.row.toRowW) (X:=(true == true))
  (show WShape.has [] (.bool true) .bool=true by first | rfl | decide | simp [WShape.has,WShape.arms,WShape.armsAll])
  (show (WTm.eq .res (.lit (.bool true))).value [] { args:=args,res:=some (.bool true),after:=args }=some (.bool (true == true)) from w_eq_bool (w_res rfl) w_lit) rfl
theorem attach_call {l:OpenLaw} {n:Nat} {q:Program} {loose:List Str} {XP:(Str->Option Value)->Heap->Prop} {YP:World->Heap->Prop} {d:DefRec}
  (hn:l.most=some n) (hdf:d.params.defaults=[])
  (call:∀ (w:World) (s₀ s₁:Shared) (mg mb:Str->Option Value) (fa:Addr) (o:Obj) (pm cd doc:Value) (a:Addr) (vs:List Value) (ns:List Int),
   Ground q loose [] XP w s₀ mg mb s₁.heap->YP w s₁.heap ->
   s₁.heap.get? fa=some o->o.data=.func (docDef d.name d.params d.body d.scope pm cd doc)->s₁.heap.CodeRec cd d.name->mg d.name=some (.ref fa) ->
   s₁.heap.get? a=some { cls:=.type "list",data:=.seq vs.toArray }->IntsAre vs ns->ns.length<=n->s₁.gens=#[] ->
   codeAny (model l.prog w) callerA (.call (.ref fa) ⟨[.ref a],[]⟩) (fun r s'=>r=.ok (.ret (.bool true))/\OldK s₁.heap s'.heap/\s'.os=s₁.os/\AllBare s'.gens) s₁) :
  WalkO q loose XP YP l.row.toRowW d [] (fun f vs=>PySem.call f vs):=by
 intro w s₀ s₁ mg mb G Y fa o pm cd doc dV kV ho hd hcd hD hmg hg args vals as hpre hlay hrd hwl hlo
 obtain rfl:dV=.none:=Dflts.none hD hdf
 obtain rfl:kV=.none:=Dflts.noKw hD
 obtain ⟨a,vs,ns,rfl,rfl,hobj,hints,hlen⟩:=K7 hn hpre hwl
 refine enter_call (codeAny_mono (call w s₀ s₁ mg mb fa o pm cd doc a vs ns G Y ho (fd_plain hd) hcd hmg hobj hints hlen hg) fun r s' hq=>?_)
 obtain ⟨rfl,h2,h3,h4⟩:=hq
 exact ⟨.inl ⟨.bool true,.bool true,[],rfl,fun _=>rfl,.bool true,Le l _,fun _=>⟨List.Pairwise.nil,fun _ hm=>(nomatch hm)⟩⟩,h2,h3,h4⟩
section
variable {prog:Program} {w:World} {A:Around} {E:Value->Shared->Prop} {s:Shared} {K:Frag}
end
end Att
namespace L2
open PySem PySem.Spec PyProof.Rows
theorem zO:∀ {vs:List Value} {ns:List Int},IntsAre vs ns->Vals (ns.map V.int) vs
 | _,_,.nil=>.nil
 | _,_,.cons n t h=>.cons ⟨t,rfl⟩ (zO h)
noncomputable def NY (H:Hp):Prop:=∀ b,H b=none\/∃ o xs,H b=some (.frz o (.lst xs))
theorem NM {P:Program} {w:World} {K:PySem.W.Frag} {mg mb:Str->Option Value} {CX:rE} {k:Nat} {fa a:Addr} {fd:FuncData} {x:Str} {sp:Sp} {s₁:Shared} {vs:List Value} {ns:List Int}
  (KX:K.In s₁.heap) (hns:s₁.heap.Ns mainGlobals mg) (hb:s₁.heap.Ns builtinsNs mb) (hbb:∀ x:Str,x≠"__name__"->mb x=bootBuiltins x) (hlim:s₁.heap.NoLimit) (hg:s₁.gens=#[])
  (ha:s₁.heap.get? a=some { cls:=.type "list",data:=.seq vs.toArray }) (hi:IntsAre vs ns) (hl:ns.length<=sizeLine) (hr:cS k callerA)
  (F:∀ base:Heap,K.In base->base.Ns mainGlobals mg->dJ P w K mg base CX k fa fd [x] sp) (hbind:∀ (s:Shared) (u:Value),BindsTo s fd ⟨[u],[]⟩ [(x,u)])
  (hsp:∀ H:Hp,NY H->dE K H a (ns.map V.int)->sp [.ref a] H (fun v _=>v=.bl true) fun _ _ _=>False)
  (hCX:∀ H e s',CX [] H s₁ (fun _ _ _=>False) e s'->False) :
  codeAny (model P w) callerA (.call (.ref fa) ⟨[.ref a],[]⟩) (fun r s'=>r=.ok (.ret (.bool true))/\OldK s₁.heap s'.heap/\s'.os=s₁.os/\AllBare s'.gens) s₁:=by
 have rv:=zO hi
 have lenV:=hi.length
 have core:∀ H:Hp,NY H->dE K H a (ns.map V.int)->dR P w H s₁.heap->(∀ b,H b≠none->b=a)->(H a≠none->K.lookup a=none) ->
   codeAny (model P w) callerA (.call (.ref fa) ⟨[.ref a],[]⟩) (fun r s'=>r=.ok (.ret (.bool true))/\OldK s₁.heap s'.heap/\s'.os=s₁.os/\AllBare s'.gens) s₁:=by
  intro H hO hS hok hA hK
  have base_of:∀ {b:Addr} {o:Obj},s₁.heap.get? b=some o->H b=none->(qP s₁.heap H).get? b=some o:=fun e n=>OM e n
  have noA:∀ {b:Addr} {o:Obj} {es:Array DictEntry} {ep:Nat},s₁.heap.get? b=some o->o.data=.dict es ep->H b=none:=fun {b o es ep} e d=>by
   cases q:H b with
   | none=>rfl
   | some u =>
    have e':b=a:=hA b (by rw [q];simp)
    subst e'
    rw [ha] at e;cases e
    have d':Data.seq vs.toArray _=Data.dict es ep:=d
    cases d'
  have nsK:∀ {b:Addr} {m:Str->Option Value},s₁.heap.Ns b m->(qP s₁.heap H).Ns b m:=fun {b m} ⟨o,es,ep,e,d,r⟩=>⟨o,es,ep,base_of e (noA e d),d,r⟩
  have hKb:K.In (qP s₁.heap H):=fun b o e=>base_of (KX b o e) (by
   cases q:H b with
   | none=>rfl
   | some u =>
    have e':b=a:=hA b (by rw [q];simp)
    subst e'
    rw [hK (by rw [q];simp)] at e;cases e)
  have hM:Mod K mg (qP s₁.heap H):=⟨hKb,nsK hns,⟨mb,nsK hb,hbb⟩,let ⟨mc,h1,h2⟩:=hlim;⟨mc,nsK h1,h2⟩⟩
  have e0:u9 P w K mg (qP s₁.heap H) callerA [] s₁ H:=⟨rfl,hM,fun b o e=>QJ e,Nat.le_of_eq (My _ _),trivial,fun b hb=>absurd (show b∈([]:List Addr) from hb) (by simp),hok,.of_eq hg⟩
  refine codeAny_mono ((F _ hKb (nsK hns)).run callerA [] s₁ H ⟨[.ref a],[]⟩ [.ref a] [.ref a] _ _ hr e0 (hbind s₁ (.ref a)) (.cons rfl .nil) (hsp H hO hS)) fun r s' h=>?_
  cases r with
  | error e=>exact (hCX H e s' h).elim
  | ok fl =>
   cases fl with
   | next=>exact False.elim h
   | brk=>exact False.elim h
   | cont=>exact False.elim h
   | ret u =>
    obtain ⟨v,H',os,bare,un,hok',r',q⟩:=h
    have q':v=.bl true:=q
    subst q'
    obtain rfl:u=Value.bool true:=r'
    refine ⟨rfl,OldK.of_keep fun b o e=>?_,os,bare⟩
    cases q:H b with
    | none=>exact un.keep b o e q (by intro z;exact absurd (show b∈([]:List Addr) from z) (by simp)) (by simp)
    | some u =>
     rcases hO b with z | ⟨ob,xs,z⟩
     ·rw [q] at z;cases z
     ·have z2:=un.frzs b ob _ z
      obtain ⟨e1,_⟩:=hok b _ z
      obtain ⟨e2,_⟩:=hok' b _ z2
      rw [e] at e1;cases e1
      exact e2
 cases hk:K.lookup a with
 | some o =>
  have e:=KX a o hk
  rw [ha] at e
  cases e
  refine core (fun _=>none) (fun _=>.inl rfl) (.inr ⟨_,vs.toArray,_,hk,rfl,rfl,rfl,by rw [List.size_toArray,lenV];exact hl,by simpa using rv⟩) (fun b u z=>by have z':(none:Option HO)=some u:=z;cases z') (fun b z=>absurd rfl z) fun z=>absurd rfl z
 | none =>
  refine core (fun b=>if b=a then some (.frz { cls:=.type "list",data:=.seq vs.toArray } (.lst (ns.map V.int))) else none) (fun b=>?_) (.inl (.inr ⟨{ cls:=.type "list",data:=.seq vs.toArray },if_pos rfl⟩)) (fun b u z=>?_) (fun b z=>?_) fun _=>hk
  ·by_cases hb:b=a
   ·exact .inr ⟨_,_,if_pos hb⟩
   ·exact .inl (if_neg hb)
  ·by_cases hb:b=a
   ·have z':=(if_pos hb).symm.trans z
    cases z'
    subst hb
    exact ⟨ha,by rw [List.length_map];exact hl,vs,_,rv,ha⟩
   ·have z':=(if_neg hb).symm.trans z
    cases z'
  ·by_cases hb:b=a
   ·exact hb
   ·exact absurd (if_neg hb) z
theorem Rq {l:PySem.W.OpenLaw} {n k:Nat} {q:Program} {loose:List Str} {XP:(Str->Option Value)->Heap->Prop} {YP:World->Heap->Prop} {d:DefRec} {K:Params->PySem.W.Frag} {CX:World->rE} {sp:World->Sp} {x:Str}
  (hn:l.most=some n) (hn2:n<=sizeLine) (hdf:d.params.defaults=[]) (hr:cS k callerA)
  (hY:∀ (w:World) (h:Heap),YP w h->(K w.params).In h)
  (F:∀ (w:World) (mg:Str->Option Value) (fa:Addr) (h:Heap),(K w.params).In h->h.Ns mainGlobals mg->mg d.name=some (.ref fa) ->
   ∃ fd:FuncData,(∀ (s:Shared) (u:Value),BindsTo s fd ⟨[u],[]⟩ [(x,u)]) /\
    ∀ base:Heap,(K w.params).In base->base.Ns mainGlobals mg->dJ l.prog w (K w.params) mg base (CX w) k fa fd [x] (sp w))
  (hsp:∀ (w:World) (H:Hp) (a:Addr) (ns:List Int),ns.length<=n->NY H->dE (K w.params) H a (ns.map V.int)->sp w [.ref a] H (fun v _=>v=.bl true) fun _ _ _=>False)
  (hCX:∀ (w:World) (H:Hp) (s:Shared) (e:Value) (s':Shared),CX w [] H s (fun _ _ _=>False) e s'->False) :
  PySem.W.WalkO q loose XP YP l.row.toRowW d [] (fun f vs=>PySem.call f vs):=by
 refine Att.attach_call hn hdf fun w s₀ s₁ mg mb fa o pm cd doc a vs ns G Y ho hd hcd hmg hobj hints hlen hg=>?_
 have KX:=hY w _ Y
 obtain ⟨fd,hb,hF⟩:=F w mg fa _ KX G.T.g hmg
 exact NM KX G.T.g G.T.b G.T.builtins G.T.nolimit hg hobj hints (Nat.le_trans hlen hn2) hr hF hb (fun H hO hS=>hsp w H a ns hlen hO hS) fun H e s'=>hCX w H s₁ e s'
end L2
namespace L2
open PySem PySem.Spec PyProof.Rows
noncomputable def bC (s:Stmt):Arguments:=match s with
 | .FunctionDef _ a _ _ _ _ _ _ _ _=>a
 | _=>{ posonlyargs:=[],args:=[],vararg:=none,kwonlyargs:=[],kw_defaults:=[],kwarg:=none,defaults:=[] }
noncomputable def bA (s:Stmt):List Stmt:=match s with
 | .FunctionDef _ _ b _ _ _ _ _ _ _=>b
 | _=>[]
noncomputable def aF (s:Stmt):Scope:=match s with
 | .FunctionDef _ _ _ _ _ _ sc _ _ _=>sc
 | _=>{ kind:=.function,names:=[],isGenerator:=false,isCoroutine:=false }
abbrev j4:rE:=fun _ _ _ _ _ _=>False
abbrev E0:XK:=fun _ _ _=>False
theorem P9 {X:Cx}:Passes j4 X E0:=fun _ _ _ _ _ _ _ h=>h.elim
structure b9 (K:PySem.W.Frag) (x qual:Str) (st:Stmt) (f:Addr) (fd:FuncData):Prop where
 ex:∃ (oc:Value) (od:Option Addr) (kV doc pm:Value) (an:Option Addr) (cdv ct:Value) (osl:Array (Option Value)),
  fd=PySem.W.fnOf x qual (bC st) (bA st) (aF st) .none kV doc pm an cdv ct/\K.lookup f=some ⟨oc,od,.func fd,osl⟩/\PySem.W.codeIn K cdv qual=true
 kp:PySem.W.keepIn K (.ref f)=true
section
variable {P:Program} {w:World} {K:PySem.W.Frag} {mg:Str->Option Value} {base:Heap}
theorem b9.ok {x qual:Str} {st:Stmt} {f:Addr} {fd:FuncData} {N ps:List Str} {k:Nat} {sp:Sp} (F:b9 K x qual st f fd) (S:bB N ps (aF st)) (len:∀ vs H Q E,sp vs H Q E->vs.length=ps.length)
  (hbody:∀ (cdv:Value) (A:Around) (outer:List Env) (s:Shared) (H:Hp) (vs:List V) (Q:VK) (E:XK),cS k (A.deeper (envOfC qual (aF st) s.heap.objs.size f cdv))->sp vs H Q E ->
   ∃ t,mF (mG j4 P w K mg base N qual (aF st) f cdv A outer s H E).nox (bA st) t/\t { nx:=fun _ H'=>Q .non H',rt:=Q } (start N vs) H):dJ P w K mg base j4 (k + 1) f fd ps sp:=by
 obtain ⟨oc,od,kV,doc,pm,an,cdv,ct,osl,rfl,lk,hcd⟩:=F.ex
 refine V9 lk hcd S len fun A outer s H vs Q E hr hsp=>?_
 obtain ⟨t,h,q⟩:=hbody cdv A outer s H vs Q E hr hsp
 exact ⟨t,h.nox,q⟩
theorem b9.binds {x qual:Str} {st:Stmt} {f:Addr} {fd:FuncData} {ps:List Str} (F:b9 K x qual st f fd)
  (h:∀ (kV doc pm:Value) (an:Option Addr) (cdv ct:Value) (us:List Value),us.length=ps.length->bindArgs (PySem.W.fnOf x qual (bC st) (bA st) (aF st) .none kV doc pm an cdv ct) ⟨us,[]⟩=pure (ps.zip us)):Binds K fd ps []:=by
 obtain ⟨oc,od,kV,doc,pm,an,cdv,ct,osl,rfl,lk,hcd⟩:=F.ex
 exact .all (h kV doc pm an cdv ct)
theorem bO {x qual:Str} {st:Stmt} {f:Addr} {oc:Value} {od an:Option Addr} {osl:Array (Option Value)} {kV doc pm cdv ct:Value} (l:K.lookup f=some ⟨oc,od,.func (PySem.W.fnOf x qual (bC st) (bA st) (aF st) .none kV doc pm an cdv ct),osl⟩)
  (c:PySem.W.codeIn K cdv qual=true) (k:PySem.W.keepIn K (.ref f)=true):b9 K x qual st f (PySem.W.fnOf x qual (bC st) (bA st) (aF st) .none kV doc pm an cdv ct):=⟨⟨oc,od,kV,doc,pm,an,cdv,ct,osl,rfl,l,c⟩,k⟩
end
section
variable {X:Cx}
end
theorem fU {c A B:Prop} [Decidable c] (h1:c->A) (h2:¬ c->B):if c then A else B:=by
 by_cases h:c
 ·rw [if_pos h]
  exact h1 h
 ·rw [if_neg h]
  exact h2 h
end L2
namespace U2
open PySem L2
inductive U where
 | non | bl (b:Bool) | int (i:Int) | str (x:Str) | tup (us:List U) | lst (us:List U) | ref (a:Addr) | ty (n:String) | dic (ks:List (List Key)) (tk:Bool) (us:List U)
inductive MO where
 | lst (us:List U) | dK (kvs:List (Key × U)) | dT (kvs:List (List Key × U)) | dN (kvs:List ((List Key × Key) × U)) | tbl (q:Str)
abbrev aI:=Addr->Option MO
noncomputable def mup (M:aI) (a:Addr) (o:MO):aI:=fun b=>if b=a then some o else M b
theorem aX {M:aI} {a:Addr} {o:MO}:mup M a o a=some o:=by unfold mup;rw [if_pos rfl]
theorem cB {M:aI} {a b:Addr} {o:MO} (h:b≠a):mup M a o b=M b:=by unfold mup;rw [if_neg h]
theorem bZ {M:aI} {a:Addr} {o u:MO}:mup (mup M a o) a u=mup M a u:=by
 funext b;unfold mup;split <;> rfl
noncomputable def KT (K:PySem.W.Frag) (a:Addr) (xs:List V):Prop :=
 ∃ (o:Obj) (its:Array Value) (n:Nat),K.lookup a=some o/\o.cls=.type "tuple"/\o.dict=none/\o.data=.seq its n/\its.size<=sizeLine/\Vals xs its.toList
noncomputable def KL (K:PySem.W.Frag) (a:Addr) (xs:List V):Prop :=
 ∃ (o:Obj) (its:Array Value) (n:Nat),K.lookup a=some o/\o.cls=.type "list"/\o.dict=none/\o.data=.seq its n/\its.size<=sizeLine/\Vals xs its.toList
noncomputable def vW (H:Hp) (a:Addr) (ks:List (List Key)) (tk:Bool) (vs:List V):Prop:=match tk with
 | true=>∃ ws,Rd H a (.dT ws)/\ks=ws.map (·.1)/\vs=ws.map (·.2)
 | false=>∃ ws,Rd H a (.dK ws)/\ks=ws.map (fun p=>[p.1])/\vs=ws.map (·.2)
mutual
noncomputable def aY (K:PySem.W.Frag) (H:Hp) (M:aI):U->V->Prop
 | .non,v=>v=.non
 | .bl b,v=>v=.bl b
 | .int i,v=>v=.int i
 | .str x,v=>v=.str x
 | .ty n,v=>v=.ty n
 | .ref a,v=>v=.ref a
 | .tup us,v=>∃ a vs,v=.ref a/\(M a=none/\H a=some (.tup vs))/\aS K H M us vs
 | .dic ks tk us,v=>∃ a vs,v=.ref a/\M a=none/\vW H a ks tk vs/\aS K H M us vs
 | .lst us,v=>∃ a vs,v=.ref a/\((M a=none/\Rd H a (.lst vs))\/KL K a vs)/\aS K H M us vs
noncomputable def aS (K:PySem.W.Frag) (H:Hp) (M:aI):List U->List V->Prop
 | [],vs=>vs=[]
 | u :: us,vs=>∃ v vs',vs=v :: vs'/\aY K H M u v/\aS K H M us vs'
end
noncomputable def Ou:HO->Bool
 | .dK _=>true
 | .dT _=>true
 | _=>false
noncomputable def bE (H:Hp) (M:aI) (H1:Hp) (M1:aI):Prop:=∀ b o,H b=some o->M b=none->(H1 b=some o\/(Ou o=true/\∃ ob,H1 b=some (.frz ob o)))/\M1 b=none
theorem bE.by' {H H1:Hp} {M M1:aI} (h:∀ b o,H b=some o->M b=none->H1 b=some o/\M1 b=none):bE H M H1 M1:=fun b o e m=>⟨.inl (h b o e m).1,(h b o e m).2⟩
theorem bE.to {H H1:Hp} {M M1:aI} (st:bE H M H1 M1) {b:Addr} {o:HO} (e:H b=some o) (m:M b=none) (n:Ou o=false:=by rfl):H1 b=some o/\M1 b=none:=by
 obtain ⟨h | ⟨h,_⟩,m1⟩:=st b o e m
 ·exact ⟨h,m1⟩
 ·rw [n] at h;cases h
theorem bE.refl (H:Hp) (M:aI):bE H M H M:=.by' fun _ _ h m=>⟨h,m⟩
theorem bE.trans {H H1 H2:Hp} {M M1 M2:aI} (a:bE H M H1 M1) (b:bE H1 M1 H2 M2):bE H M H2 M2:=fun c o h m=>by
 obtain ⟨h1 | ⟨d,ob,h1⟩,m1⟩:=a c o h m
 ·exact b c o h1 m1
 ·obtain ⟨h2,m2⟩:=b.to h1 m1
  exact ⟨.inr ⟨d,ob,h2⟩,m2⟩
theorem Rd.stp {H H1:Hp} {M M1:aI} {a:Addr} {u:HO} (st:bE H M H1 M1) (m:M a=none) (h:Rd H a u):M1 a=none/\Rd H1 a u:=by
 rcases h with h | ⟨o,h⟩
 ·obtain ⟨x | ⟨_,ob,x⟩,y⟩:=st a _ h m
  ·exact ⟨y,.inl x⟩
  ·exact ⟨y,.inr ⟨ob,x⟩⟩
 ·obtain ⟨x,y⟩:=st.to h m;exact ⟨y,.inr ⟨o,x⟩⟩
theorem vW.stp {H H1:Hp} {M M1:aI} {a:Addr} {ks:List (List Key)} {tk:Bool} {vs:List V} (st:bE H M H1 M1) (m:M a=none) (h:vW H a ks tk vs):M1 a=none/\vW H1 a ks tk vs:=by
 cases tk with
 | true=>obtain ⟨ws,e,r⟩:=h;exact ⟨(Rd.stp st m e).1,ws,(Rd.stp st m e).2,r⟩
 | false=>obtain ⟨ws,e,r⟩:=h;exact ⟨(Rd.stp st m e).1,ws,(Rd.stp st m e).2,r⟩
mutual
theorem aY.stp {K:PySem.W.Frag} {H H1:Hp} {M M1:aI} (st:bE H M H1 M1):∀ {u:U} {v:V},aY K H M u v->aY K H1 M1 u v
 | .non,_,h=>by simpa only [aY] using h
 | .bl _,_,h=>by simpa only [aY] using h
 | .int _,_,h=>by simpa only [aY] using h
 | .str _,_,h=>by simpa only [aY] using h
 | .ty _,_,h=>by simpa only [aY] using h
 | .ref _,_,h=>by simpa only [aY] using h
 | .tup us,_,h=>by
  simp only [aY] at h ⊢
  obtain ⟨a,vs,e,h1,h2⟩:=h
  refine ⟨a,vs,e,?_,aS.stp st h2⟩
  obtain ⟨m,r⟩:=h1
  exact ⟨(st.to r m).2,(st.to r m).1⟩
 | .dic ks tk us,_,h=>by
  simp only [aY] at h ⊢
  obtain ⟨a,vs,e,m,h1,h2⟩:=h
  have q:=vW.stp st m h1
  exact ⟨a,vs,e,q.1,q.2,aS.stp st h2⟩
 | .lst us,_,h=>by
  simp only [aY] at h ⊢
  obtain ⟨a,vs,e,h1,h2⟩:=h
  refine ⟨a,vs,e,?_,aS.stp st h2⟩
  rcases h1 with ⟨m,r⟩ | k
  ·exact .inl (Rd.stp st m r)
  ·exact .inr k
theorem aS.stp {K:PySem.W.Frag} {H H1:Hp} {M M1:aI} (st:bE H M H1 M1):∀ {us:List U} {vs:List V},aS K H M us vs->aS K H1 M1 us vs
 | [],_,h=>by simpa only [aS] using h
 | u :: us,_,h=>by
  simp only [aS] at h ⊢
  obtain ⟨v,vs',e,h1,h2⟩:=h
  exact ⟨v,vs',e,aY.stp st h1,aS.stp st h2⟩
end
theorem bE.less {H:Hp} {M M1:aI} (h:∀ b,M b=none->M1 b=none):bE H M H M1:=.by' fun b o e m=>⟨e,h b m⟩
noncomputable def qI {κ:Type} (K:PySem.W.Frag) (H:Hp) (M:aI):List (κ × U)->List (κ × V)->Prop:=Paired fun p q=>p.1=q.1/\aY K H M p.2 q.2
theorem qI.stp {κ:Type} {K:PySem.W.Frag} {H H1:Hp} {M M1:aI} (st:bE H M H1 M1):∀ {us:List (κ × U)} {vs:List (κ × V)},qI K H M us vs->qI K H1 M1 us vs
 | _,_,.nil=>.nil
 | _,_,.cons h t=>.cons ⟨h.1,h.2.stp st⟩ (qI.stp st t)
noncomputable def vO (K:PySem.W.Frag) (H:Hp) (M:aI) (a:Addr):MO->Prop
 | .lst us=>∃ vs,H a=some (.lst vs)/\aS K H M us vs
 | .dK kvs=>∃ ws,H a=some (.dK ws)/\qI K H M kvs ws
 | .dT kvs=>∃ ws,H a=some (.dT ws)/\qI K H M kvs ws
 | .dN kvs=>∃ ws,H a=some (.dN ws)/\qI K H M kvs ws
 | .tbl q=>(∀ b,M b=some (.tbl q)->b=a)/\∃ ps,H a=some (.tbl ps)/\TriplesOk ps.toList/\∀ pos c,codeAmong pos ps.toList=some c->∃ c' oc vs t,c=.ref c'/\H c'=some (.frz oc (.own 0))/\M c'=none/\oc.data=.fields vs/\vs[1]?=some (.str q t)
noncomputable def RelM (K:PySem.W.Frag) (H:Hp) (M:aI):Prop:=∀ a mo,M a=some mo->vO K H M a mo
theorem vO.stp {K:PySem.W.Frag} {H H1:Hp} {M M1:aI} {a:Addr} {mo:MO} (hu:∀ b q,M1 b=some (.tbl q)->M b=some (.tbl q)) (st:bE H M H1 M1) (e:H1 a=H a) (h:vO K H M a mo):vO K H1 M1 a mo:=by
 cases mo with
 | lst us=>obtain ⟨vs,x,y⟩:=h;exact ⟨vs,e.trans x,y.stp st⟩
 | dK us=>obtain ⟨vs,x,y⟩:=h;exact ⟨vs,e.trans x,y.stp st⟩
 | dT us=>obtain ⟨vs,x,y⟩:=h;exact ⟨vs,e.trans x,y.stp st⟩
 | dN us=>obtain ⟨vs,x,y⟩:=h;exact ⟨vs,e.trans x,y.stp st⟩
 | tbl q =>
  obtain ⟨un,ps,x,y,z⟩:=h
  refine ⟨fun b hb=>un b (hu b q hb),ps,e.trans x,y,fun pos c hc=>?_⟩
  obtain ⟨c',oc,vs,t,h1,h2,h3,h4⟩:=z pos c hc
  exact ⟨c',oc,vs,t,h1,(st.to h2 h3).1,(st.to h2 h3).2,h4⟩
theorem RelM.ex {K:PySem.W.Frag} {H:Hp} {M:aI} (r:RelM K H M) {a:Addr} {mo:MO} (h:M a=some mo):∃ o,H a=some o:=by
 have:=r a mo h
 cases mo with
 | lst us=>obtain ⟨vs,x,y⟩:=this;exact ⟨_,x⟩
 | dK us=>obtain ⟨vs,x,y⟩:=this;exact ⟨_,x⟩
 | dT us=>obtain ⟨vs,x,y⟩:=this;exact ⟨_,x⟩
 | dN us=>obtain ⟨vs,x,y⟩:=this;exact ⟨_,x⟩
 | tbl q=>obtain ⟨_,ps,x,_⟩:=this;exact ⟨_,x⟩
theorem RelM.no {K:PySem.W.Frag} {H:Hp} {M:aI} (r:RelM K H M) {a:Addr} (h:H a=none):M a=none:=by
 cases e:M a with
 | none=>rfl
 | some mo=>obtain ⟨o,q⟩:=r.ex e;rw [h] at q;cases q
theorem bE.laid {K:PySem.W.Frag} {H:Hp} {M:aI} {p:Addr} {o:HO} (r:RelM K H M) (h:H p=none):bE H M (upd H p o) M:=.by' fun b u e m=>⟨by rw [bD (bJ e h)];exact e,m⟩
theorem RelM.laid {K:PySem.W.Frag} {H:Hp} {M:aI} {p:Addr} {o:HO} (r:RelM K H M) (h:H p=none):RelM K (upd H p o) M:=fun a mo e=>by
 obtain ⟨u,q⟩:=r.ex e
 exact (r a mo e).stp (fun _ _ z=>z) (bE.laid r h) (bD (bJ q h))
theorem bE.own {K:PySem.W.Frag} {H:Hp} {M:aI} {p:Addr} {o:HO} {mo:MO} (r:RelM K H M) (h:H p=none):bE H M (upd H p o) (mup M p mo):=.by' fun b u e m=>by
 have n:=bJ e h
 exact ⟨by rw [bD n];exact e,by rw [cB n];exact m⟩
theorem RelM.put {K:PySem.W.Frag} {H:Hp} {M:aI} {p:Addr} {o:HO} {mo:MO} (r:RelM K H M) (st:bE H M (upd H p o) (mup M p mo)) (new:vO K (upd H p o) (mup M p mo) p mo) (hm:∀ q,mo≠.tbl q:=by intro q z;cases z):RelM K (upd H p o) (mup M p mo):=fun a m e=>by
 by_cases ha:a=p
 ·subst ha;rw [aX] at e;cases e;exact new
 ·rw [cB ha] at e
  refine (r a m e).stp (fun b q z=>?_) st (bD ha)
  by_cases hb:b=p
  ·subst hb;rw [aX] at z;exact absurd (Option.some.inj z) (hm q)
  ·rw [cB hb] at z;exact z
theorem bE.write {H:Hp} {M:aI} {p:Addr} {o:HO} {mo m0:MO} (h:M p=some m0):bE H M (upd H p o) (mup M p mo):=.by' fun b u e m=>by
 have n:b≠p:=fun z=>by subst z;rw [h] at m;cases m
 exact ⟨by rw [bD n];exact e,by rw [cB n];exact m⟩
section
variable {K:PySem.W.Frag} {H:Hp} {M:aI}
theorem aS.nil:aS K H M [] []:=by simp only [aS]
theorem aS.cons {u:U} {v:V} {us:List U} {vs:List V} (h:aY K H M u v) (t:aS K H M us vs):aS K H M (u :: us) (v :: vs):=by simp only [aS];exact ⟨v,vs,rfl,h,t⟩
theorem aS.length:∀ {us:List U} {vs:List V},aS K H M us vs->us.length=vs.length
 | [],_,h=>by simp only [aS] at h;subst h;rfl
 | u :: us,_,h=>by
  simp only [aS] at h
  obtain ⟨v,vs',rfl,_,t⟩:=h
  simp [aS.length t]
theorem aS.inv_cons {u:U} {us:List U} {vs:List V} (h:aS K H M (u :: us) vs):∃ v vs',vs=v :: vs'/\aY K H M u v/\aS K H M us vs':=by simpa only [aS] using h
theorem aS.inv_nil {vs:List V} (h:aS K H M [] vs):vs=[]:=by simpa only [aS] using h
theorem aS.append:∀ {us ws:List U} {vs zs:List V},aS K H M us vs->aS K H M ws zs->aS K H M (us++ws) (vs++zs)
 | [],_,_,_,h,t=>by cases h.inv_nil;exact t
 | u :: us,_,_,_,h,t=>by
  obtain ⟨v,vs',rfl,a,b⟩:=h.inv_cons
  exact .cons a (aS.append b t)
theorem aS.get:∀ {us:List U} {vs:List V} {i:Nat} {u:U},aS K H M us vs->us[i]?=some u->∃ v,vs[i]?=some v/\aY K H M u v
 | [],_,_,_,_,e=>by simp at e
 | u :: us,_,0,_,h,e=>by
  obtain ⟨v,vs',rfl,a,b⟩:=h.inv_cons
  simp at e;subst e;exact ⟨v,rfl,a⟩
 | u :: us,_,i + 1,_,h,e=>by
  obtain ⟨v,vs',rfl,a,b⟩:=h.inv_cons
  simp at e
  obtain ⟨w,x,y⟩:=aS.get b e
  exact ⟨w,by simpa using x,y⟩
theorem aS.drop:∀ {us:List U} {vs:List V} (n:Nat),aS K H M us vs->aS K H M (us.drop n) (vs.drop n)
 | _,_,0,h=>h
 | [],_,_ + 1,h=>by cases h.inv_nil;exact .nil
 | u :: us,_,n + 1,h=>by
  obtain ⟨v,vs',rfl,a,b⟩:=h.inv_cons
  exact aS.drop n b
theorem aS.take:∀ {us:List U} {vs:List V} (n:Nat),aS K H M us vs->aS K H M (us.take n) (vs.take n)
 | _,_,0,_=>by simp only [List.take_zero];exact .nil
 | [],_,_ + 1,h=>by cases h.inv_nil;exact .nil
 | u :: us,_,n + 1,h=>by
  obtain ⟨v,vs',rfl,a,b⟩:=h.inv_cons
  exact .cons a (aS.take n b)
theorem aS.set {u:U} {v:V} (r:aY K H M u v):∀ {us:List U} {vs:List V} (i:Nat),aS K H M us vs->aS K H M (us.set i u) (vs.set i v)
 | [],_,_,h=>by cases h.inv_nil;exact .nil
 | w :: us,_,0,h=>by
  obtain ⟨z,vs',rfl,a,b⟩:=h.inv_cons
  exact .cons r b
 | w :: us,_,i + 1,h=>by
  obtain ⟨z,vs',rfl,a,b⟩:=h.inv_cons
  exact .cons a (aS.set r i b)
theorem aS.dropLast {us:List U} {vs:List V} (h:aS K H M us vs):aS K H M us.dropLast vs.dropLast:=by
 rw [List.dropLast_eq_take,List.dropLast_eq_take,h.length];exact h.take _
end
abbrev SU:=List (Option U)
abbrev UK:=U->aI->Prop
abbrev UE:=SU->aI->UK->Prop
abbrev UT:=SU->aI->(Bool->aI->Prop)->Prop
abbrev UA:=SU->aI->(List U->aI->Prop)->Prop
structure kW where
 nx:SU->aI->Prop
 rt:UK
 bk:SU->aI->Prop:=fun _ _=>False
 ct:SU->aI->Prop:=fun _ _=>False
abbrev US:=kW->SU->aI->Prop
noncomputable def cV (K:PySem.W.Frag) (H:Hp) (M:aI) (σ:St) (τ:SU):Prop:=τ.length=σ.length/\∀ (i:Nat) u,τ[i]?=some (some u)->∃ v,σ[i]?=some (some v)/\aY K H M u v
theorem cV.stp {K:PySem.W.Frag} {H H1:Hp} {M M1:aI} {σ:St} {τ:SU} (st:bE H M H1 M1) (r:cV K H M σ τ):cV K H1 M1 σ τ:=⟨r.1,fun i u e=>let ⟨v,a,b⟩:=r.2 i u e;⟨v,a,b.stp st⟩⟩
theorem cV.set {K:PySem.W.Frag} {H:Hp} {M:aI} {σ:St} {τ:SU} {i:Nat} {u:U} {v:V} (r:cV K H M σ τ) (h:aY K H M u v):cV K H M (σ.set i (some v)) (τ.set i (some u)):=by
 refine ⟨by simp [r.1],fun j w e=>?_⟩
 rw [List.getElem?_set] at e ⊢
 split at e
 ·rename_i hij
  subst hij
  split at e
  ·rename_i hl
   cases e
   rw [if_pos rfl,if_pos (by rw [<- r.1];exact hl)]
   exact ⟨v,rfl,h⟩
  ·cases e
 ·rename_i hij
  rw [if_neg hij]
  exact r.2 j w e
noncomputable def b6 (K:PySem.W.Frag) (t:TE) (t':UE):Prop:=∀ (σ:St) (τ:SU) (H:Hp) (M:aI) (Q':UK),cV K H M σ τ->RelM K H M->t' τ M Q' ->
 ∀ Q:VK,(∀ u v M1 H1,bE H M H1 M1->RelM K H1 M1->aY K H1 M1 u v->Q' u M1->Q v H1)->t σ H Q
noncomputable def iS (K:PySem.W.Frag) (t:TT) (t':UT):Prop:=∀ (σ:St) (τ:SU) (H:Hp) (M:aI) (Q':Bool->aI->Prop),cV K H M σ τ->RelM K H M->t' τ M Q' ->
 ∀ Q:Bool->Hp->Prop,(∀ b M1 H1,bE H M H1 M1->RelM K H1 M1->Q' b M1->Q b H1)->t σ H Q
noncomputable def j6 (K:PySem.W.Frag) (t:TA) (t':UA):Prop:=∀ (σ:St) (τ:SU) (H:Hp) (M:aI) (Q':List U->aI->Prop),cV K H M σ τ->RelM K H M->t' τ M Q' ->
 ∀ Q:List V->Hp->Prop,(∀ us vs M1 H1,bE H M H1 M1->RelM K H1 M1->aS K H1 M1 us vs->Q' us M1->Q vs H1)->t σ H Q
structure Cw (K:PySem.W.Frag) (H:Hp) (M:aI) (D:Ends) (D':kW):Prop where
 nx:∀ σ τ H1 M1,bE H M H1 M1->RelM K H1 M1->cV K H1 M1 σ τ->D'.nx τ M1->D.nx σ H1
 rt:∀ u v H1 M1,bE H M H1 M1->RelM K H1 M1->aY K H1 M1 u v->D'.rt u M1->D.rt v H1
 bk:∀ σ τ H1 M1,bE H M H1 M1->RelM K H1 M1->cV K H1 M1 σ τ->D'.bk τ M1->D.bk σ H1
 ct:∀ σ τ H1 M1,bE H M H1 M1->RelM K H1 M1->cV K H1 M1 σ τ->D'.ct τ M1->D.ct σ H1
theorem Cw.stp {K:PySem.W.Frag} {H H1:Hp} {M M1:aI} {D:Ends} {D':kW} (d:Cw K H M D D') (st:bE H M H1 M1):Cw K H1 M1 D D' :=
 ⟨fun σ τ H2 M2 s=>d.nx σ τ H2 M2 (st.trans s),fun u v H2 M2 s=>d.rt u v H2 M2 (st.trans s),fun σ τ H2 M2 s=>d.bk σ τ H2 M2 (st.trans s),fun σ τ H2 M2 s=>d.ct σ τ H2 M2 (st.trans s)⟩
noncomputable def iG (K:PySem.W.Frag) (t:TS) (t':US):Prop:=∀ (σ:St) (τ:SU) (H:Hp) (M:aI) (D':kW),cV K H M σ τ->RelM K H M->t' D' τ M->∀ D:Ends,Cw K H M D D'->t D σ H
end U2
namespace U2
open PySem L2
abbrev dI:=U->U->aI->UK->Prop
noncomputable def cP (K:PySem.W.Frag) (H:Hp) (M:aI) (Q':UK) (Q:VK):Prop:=∀ u v M1 H1,bE H M H1 M1->RelM K H1 M1->aY K H1 M1 u v->Q' u M1->Q v H1
theorem cP.stp {K:PySem.W.Frag} {H H1:Hp} {M M1:aI} {Q':UK} {Q:VK} (c:cP K H M Q' Q) (st:bE H M H1 M1):cP K H1 M1 Q' Q:=fun u v M2 H2 s=>c u v M2 H2 (st.trans s)
theorem cP.here {K:PySem.W.Frag} {H:Hp} {M:aI} {Q':UK} {Q:VK} {u:U} {v:V} (c:cP K H M Q' Q) (rm:RelM K H M) (r:aY K H M u v) (q:Q' u M):Q v H:=c u v M H (bE.refl H M) rm r q
noncomputable def dG (K:PySem.W.Frag) (r:R2) (r':dI):Prop:=∀ (x y:V) (u w:U) (H:Hp) (M:aI) (Q':UK),RelM K H M->aY K H M u x->aY K H M w y->r' u w M Q'->∀ Q:VK,cP K H M Q' Q->r x y H Q
noncomputable def VU (K:PySem.W.Frag) (r:V->Hp->VK->Prop) (r':U->aI->UK->Prop):Prop:=∀ (x:V) (u:U) (H:Hp) (M:aI) (Q':UK),RelM K H M->aY K H M u x->r' u M Q'->∀ Q:VK,cP K H M Q' Q->r x H Q
noncomputable def qF (K:PySem.W.Frag) (r:List V->Hp->VK->Prop) (r':List U->aI->UK->Prop):Prop:=∀ (xs:List V) (us:List U) (H:Hp) (M:aI) (Q':UK),RelM K H M->aS K H M us xs->r' us M Q'->∀ Q:VK,cP K H M Q' Q->r xs H Q
noncomputable def xF (K:PySem.W.Frag) (r:V->List V->Hp->VK->Prop) (r':U->List U->aI->UK->Prop):Prop:=∀ (x:V) (xs:List V) (u:U) (us:List U) (H:Hp) (M:aI) (Q':UK),RelM K H M->aY K H M u x->aS K H M us xs->r' u us M Q'->∀ Q:VK,cP K H M Q' Q->r x xs H Q
section
variable {K:PySem.W.Frag} {H:Hp} {M:aI} {v:V}
theorem aY.non (h:aY K H M .non v):v=.non:=by simpa only [aY] using h
theorem aY.bl {b:Bool} (h:aY K H M (.bl b) v):v=.bl b:=by simpa only [aY] using h
theorem aY.int {i:Int} (h:aY K H M (.int i) v):v=.int i:=by simpa only [aY] using h
theorem aY.str {x:Str} (h:aY K H M (.str x) v):v=.str x:=by simpa only [aY] using h
theorem aY.ty {n:String} (h:aY K H M (.ty n) v):v=.ty n:=by simpa only [aY] using h
theorem aY.ref {a:Addr} (h:aY K H M (.ref a) v):v=.ref a:=by simpa only [aY] using h
theorem aY.tup {us:List U} (h:aY K H M (.tup us) v):∃ a vs,v=.ref a/\eE K H a vs/\aS K H M us vs:=by
 simp only [aY] at h
 obtain ⟨a,vs,e,h1,h2⟩:=h
 refine ⟨a,vs,e,?_,h2⟩
 exact .inl (.inl h1.2)
theorem aY.lst {us:List U} (h:aY K H M (.lst us) v):∃ a vs,v=.ref a/\dE K H a vs/\aS K H M us vs:=by
 simp only [aY] at h
 obtain ⟨a,vs,e,h1,h2⟩:=h
 refine ⟨a,vs,e,?_,h2⟩
 rcases h1 with ⟨_,r⟩ | k
 ·exact .inl r
 ·exact .inr k
theorem j7:aY K H M .non .non:=by simp only [aY]
theorem cL {b:Bool}:aY K H M (.bl b) (.bl b):=by simp only [aY]
theorem cO {i:Int}:aY K H M (.int i) (.int i):=by simp only [aY]
theorem gA {x:Str}:aY K H M (.str x) (.str x):=by simp only [aY]
theorem QR {n:String}:aY K H M (.ty n) (.ty n):=by simp only [aY]
theorem pM {a:Addr}:aY K H M (.ref a) (.ref a):=by simp only [aY]
theorem vG {a:Addr} {us:List U} {vs:List V} (m:M a=none) (h:H a=some (.tup vs)) (r:aS K H M us vs):aY K H M (.tup us) (.ref a):=by
 simp only [aY];exact ⟨a,vs,rfl,⟨m,h⟩,r⟩
theorem uV {a:Addr} {us:List U} {vs:List V} (m:M a=none) (h:H a=some (.lst vs)) (r:aS K H M us vs):aY K H M (.lst us) (.ref a):=by
 simp only [aY];exact ⟨a,vs,rfl,.inl ⟨m,.inl h⟩,r⟩
theorem cP.tup {Q':UK} {Q:VK} {us:List U} {vs:List V} {p:Addr} (c:cP K H M Q' Q) (rm:RelM K H M) (r:aS K H M us vs) (hp:H p=none) (q:Q' (.tup us) M):Q (.ref p) (upd H p (.tup vs)) :=
 c _ _ M _ (bE.laid rm hp) (rm.laid hp) (vG (rm.no hp) b8 (r.stp (bE.laid rm hp))) q
noncomputable def kQ (o:Bool) (us:List U) (M:aI) (Q:UK):Prop:=match o with
 | true=>∀ p,M p=none->Q (.ref p) (mup M p (.lst us))
 | false=>Q (.lst us) M
theorem cP.lst {o:Bool} {Q':UK} {Q:VK} {us:List U} {vs:List V} {p:Addr} (c:cP K H M Q' Q) (rm:RelM K H M) (r:aS K H M us vs) (hp:H p=none) (q:kQ o us M Q'):Q (.ref p) (upd H p (.lst vs)):=by
 cases o with
 | false=>exact c _ _ M _ (bE.laid rm hp) (rm.laid hp) (uV (rm.no hp) b8 (r.stp (bE.laid rm hp))) q
 | true =>
  have st:bE H M (upd H p (.lst vs)) (mup M p (.lst us)):=bE.own rm hp
  exact c (.ref p) _ _ _ st (rm.put st ⟨vs,b8,r.stp st⟩) pM (q p (rm.no hp))
end
noncomputable def view (M:aI):U->U
 | .ref a=>match M a with
  | some (.lst us)=>.lst us
  | _=>.ref a
 | u=>u
theorem iM {M:aI} {a:Addr} {us:List U} (h:M a=some (.lst us)):view M (.ref a)=.lst us:=by simp only [view,h]
theorem dM {K:PySem.W.Frag} {H:Hp} {M:aI} {u:U} {v:V} {us:List U} (rm:RelM K H M) (r:aY K H M u v) (h:view M u=.lst us):∃ a vs,v=.ref a/\dE K H a vs/\aS K H M us vs:=by
 cases u with
 | lst ws=>simp only [view] at h;cases h;exact r.lst
 | ref a =>
  simp only [view] at h
  split at h
  ·rename_i ws e
   cases h
   obtain ⟨vs,h1,h2⟩:=rm a _ e
   exact ⟨a,vs,r.ref,.inl (.inl h1),h2⟩
  ·cases h
 | _=>simp [view] at h
section
variable {K:PySem.W.Frag} {t ta tb tc:TE} {t' ta' tb' tc':UE}
noncomputable def jR (i:Nat):UE:=fun τ M Q=>match τ[i]? with
 | some (some u)=>Q u M
 | _=>False
theorem yX (i:Nat):b6 K (uX i) (jR i):=fun σ τ H M Q' rs rm h Q c=>by
 unfold jR at h
 split at h
 ·rename_i u e
  obtain ⟨v,e2,r⟩:=rs.2 i u e
  exact ⟨v,e2,c u v M H (bE.refl _ _) rm r h⟩
 ·exact h.elim
noncomputable def uC (u:U):UE:=fun _ M Q=>Q u M
theorem tJ {u:U} {v:V} (h:∀ H M,aY K H M u v):b6 K (tC v) (uC u):=fun σ τ H M Q' rs rm q Q c=>c u v M H (bE.refl _ _) rm (h H M) q
theorem GF {i:Int}:b6 K (tC (.int i)) (uC (.int i)):=tJ fun _ _=>cO
theorem Vj {i:Bool}:b6 K (tC (.bl i)) (uC (.bl i)):=tJ fun _ _=>cL
theorem GC {i:Str}:b6 K (tC (.str i)) (uC (.str i)):=tJ fun _ _=>gA
theorem RD:b6 K (tC .non) (uC .non):=tJ fun _ _=>j7
theorem Nw {n:String}:b6 K (tC (.ty n)) (uC (.ty n)):=tJ fun _ _=>QR
theorem Gy {a:Addr}:b6 K (tC (.ref a)) (uC (.ref a)):=tJ fun _ _=>pM
noncomputable def eQ (r:dI) (ta tb:UE):UE:=fun τ M Q=>ta τ M fun x M1=>tb τ M1 fun y M2=>r x y M2 Q
theorem rW {r:R2} {r':dI} (hr:dG K r r') (ha:b6 K ta ta') (hb:b6 K tb tb'):b6 K (Gz r ta tb) (eQ r' ta' tb'):=fun σ τ H M Q' rs rm h Q c =>
 ha σ τ H M _ rs rm h _ fun u v M1 H1 s1 rm1 ru h1=>hb σ τ H1 M1 _ (rs.stp s1) rm1 h1 _ fun w x M2 H2 s2 rm2 rw h2=>hr v x u w H2 M2 Q' rm2 (ru.stp s2) rw h2 Q (cP.stp c (s1.trans s2))
noncomputable def CA (r:U->aI->UK->Prop) (ta:UE):UE:=fun τ M Q=>ta τ M fun x M1=>r x M1 Q
theorem S6 {r:V->Hp->VK->Prop} {r':U->aI->UK->Prop} (hr:VU K r r') (ha:b6 K ta ta'):b6 K (Wx r ta) (CA r' ta'):=fun σ τ H M Q' rs rm h Q c =>
 ha σ τ H M _ rs rm h _ fun u v M1 H1 s1 rm1 ru h1=>hr v u H1 M1 Q' rm1 ru h1 Q (cP.stp c s1)
noncomputable def mQ (t:UE):UT:=fun τ M Q=>t τ M fun u M1=>match u with
 | .bl b=>Q b M1
 | _=>False
theorem Cm (h:b6 K t t'):iS K (Hn t) (mQ t'):=fun σ τ H M Q' rs rm q Q c=>h σ τ H M _ rs rm q _ fun u v M1 H1 s1 rm1 ru h1=>by
 cases u with
 | bl b=>exact ⟨b,ru.bl,c b M1 H1 s1 rm1 h1⟩
 | _=>exact h1.elim
noncomputable def u4 (t:UE):UT:=fun τ M Q=>t τ M fun u M1=>match view M1 u with
 | .non=>Q false M1
 | .bl b=>Q b M1
 | .int i=>Q (i != 0) M1
 | .str x=>x.length<=sizeLine/\Q ((x.length:Int) != 0) M1
 | .tup us=>Q (!us.isEmpty) M1
 | .lst us=>Q (!us.isEmpty) M1
 | _=>False
theorem uA {H:Hp} {M:aI} {us:List U} {vs:List V} (r:aS K H M us vs):us.isEmpty=vs.isEmpty:=by
 have:=r.length
 cases us <;> cases vs <;> simp_all
theorem QY (h:b6 K t t'):iS K (fun σ H Q=>t σ H fun x H'=>∃ k,Pm K x H' k/\Q k H') (u4 t'):=fun σ τ H M Q' rs rm q Q c=>h σ τ H M _ rs rm q _ fun u v M1 H1 s1 rm1 ru h1=>by
 split at h1
 ·rename_i e
  cases u with
  | non=>exact ⟨false,by rw [ru.non];rfl,c _ M1 H1 s1 rm1 h1⟩
  | ref a=>simp only [view] at e;split at e <;> cases e
  | _=>simp [view] at e
 ·rename_i b e
  cases u with
  | bl b'=>simp only [view] at e;cases e;exact ⟨b,by rw [ru.bl];rfl,c _ M1 H1 s1 rm1 h1⟩
  | ref a=>simp only [view] at e;split at e <;> cases e
  | _=>simp [view] at e
 ·rename_i b e
  cases u with
  | int b'=>simp only [view] at e;cases e;exact ⟨b != 0,by rw [ru.int];rfl,c _ M1 H1 s1 rm1 h1⟩
  | ref a=>simp only [view] at e;split at e <;> cases e
  | _=>simp [view] at e
 ·rename_i b e
  cases u with
  | str b'=>simp only [view] at e;cases e;exact ⟨(b.length:Int) != 0,by rw [ru.str];exact ⟨h1.1,rfl⟩,c _ M1 H1 s1 rm1 h1.2⟩
  | ref a=>simp only [view] at e;split at e <;> cases e
  | _=>simp [view] at e
 ·rename_i us e
  cases u with
  | tup us' =>
   simp only [view] at e;cases e
   obtain ⟨a,vs,rfl,r1,r2⟩:=ru.tup
   exact ⟨!vs.isEmpty,.inr (.inl ⟨vs,r1,rfl⟩),c _ M1 H1 s1 rm1 (by rw [<- uA r2];exact h1)⟩
  | ref a=>simp only [view] at e;split at e <;> cases e
  | _=>simp [view] at e
 ·rename_i us e
  obtain ⟨a,vs,rfl,r1,r2⟩:=dM rm1 ru e
  exact ⟨!vs.isEmpty,.inl ⟨vs,r1,rfl⟩,c _ M1 H1 s1 rm1 (by rw [<- uA r2];exact h1)⟩
 ·exact h1.elim
noncomputable def vH (t u:UT):UT:=fun τ M Q=>t τ M fun c M1=>if c=true then u τ M1 Q else Q false M1
noncomputable def CH (t u:UT):UT:=fun τ M Q=>t τ M fun c M1=>if c=true then Q true M1 else u τ M1 Q
noncomputable def vE (t:UT):UT:=fun τ M Q=>t τ M fun c M1=>Q (!c) M1
theorem Sr {t u:TT} {t' u':UT} (h:iS K t t') (k:iS K u u'):iS K (Vn t u) (vH t' u'):=fun σ τ H M Q' rs rm q Q c=>h σ τ H M _ rs rm q _ fun b M1 H1 s1 rm1 h1=>by
 cases b with
 | true=>exact k σ τ H1 M1 Q' (rs.stp s1) rm1 h1 Q fun b M2 H2 s2=>c b M2 H2 (s1.trans s2)
 | false=>exact c _ M1 H1 s1 rm1 h1
theorem TR {t u:TT} {t' u':UT} (h:iS K t t') (k:iS K u u'):iS K (Wq t u) (CH t' u'):=fun σ τ H M Q' rs rm q Q c=>h σ τ H M _ rs rm q _ fun b M1 H1 s1 rm1 h1=>by
 cases b with
 | false=>exact k σ τ H1 M1 Q' (rs.stp s1) rm1 h1 Q fun b M2 H2 s2=>c b M2 H2 (s1.trans s2)
 | true=>exact c _ M1 H1 s1 rm1 h1
theorem Rp {t:TT} {t':UT} (h:iS K t t'):iS K (U7 t) (vE t'):=fun σ τ H M Q' rs rm q Q c=>h σ τ H M _ rs rm q _ fun b M1 H1 s1 rm1 h1=>c _ M1 H1 s1 rm1 h1
noncomputable def fE (ta tb:UE):UE:=fun τ M Q=>ta τ M fun x M1=>match x with
 | .bl c=>if c=true then tb τ M1 Q else Q (.bl false) M1
 | _=>False
noncomputable def B6 (ta tb:UE):UE:=fun τ M Q=>ta τ M fun x M1=>match x with
 | .bl c=>if c=true then Q (.bl true) M1 else tb τ M1 Q
 | _=>False
noncomputable def q8 (ta:UE):UE:=fun τ M Q=>ta τ M fun x M1=>match x with
 | .bl c=>Q (.bl (!c)) M1
 | _=>False
theorem NP (h:b6 K ta ta') (k:b6 K tb tb'):b6 K (PV ta tb) (fE ta' tb'):=fun σ τ H M Q' rs rm q Q c=>h σ τ H M _ rs rm q _ fun u v M1 H1 s1 rm1 ru h1=>by
 cases u with
 | bl b =>
  refine ⟨b,ru.bl,?_⟩
  cases b with
  | true=>exact k σ τ H1 M1 Q' (rs.stp s1) rm1 h1 Q (cP.stp c s1)
  | false=>exact c _ _ M1 H1 s1 rm1 cL h1
 | _=>exact h1.elim
theorem OH (h:b6 K ta ta'):b6 K (Qn ta) (q8 ta'):=fun σ τ H M Q' rs rm q Q c=>h σ τ H M _ rs rm q _ fun u v M1 H1 s1 rm1 ru h1=>by
 cases u with
 | bl b=>exact ⟨b,ru.bl,c _ _ M1 H1 s1 rm1 cL h1⟩
 | _=>exact h1.elim
noncomputable def BZ (t:UT) (ta tb:UE):UE:=fun τ M Q=>t τ M fun c M1=>if c=true then ta τ M1 Q else tb τ M1 Q
theorem Ux {t:TT} {t':UT} (h:iS K t t') (k:b6 K ta ta') (l:b6 K tb tb'):b6 K (Wh t ta tb) (BZ t' ta' tb'):=fun σ τ H M Q' rs rm q Q c=>h σ τ H M _ rs rm q _ fun b M1 H1 s1 rm1 h1=>by
 cases b with
 | true=>exact k σ τ H1 M1 Q' (rs.stp s1) rm1 h1 Q (cP.stp c s1)
 | false=>exact l σ τ H1 M1 Q' (rs.stp s1) rm1 h1 Q (cP.stp c s1)
noncomputable def lV (r r':dI) (ta tb tc:UE):UE:=fun τ M Q=>ta τ M fun x M1=>tb τ M1 fun y M2=>r x y M2 fun z M3=>match z with
 | .bl k=>if k=true then tc τ M3 fun w M4=>r' y w M4 Q else Q (.bl false) M3
 | _=>False
theorem zA {r r':R2} {s s':dI} (hr:dG K r s) (hr':dG K r' s') (ha:b6 K ta ta') (hb:b6 K tb tb') (hc:b6 K tc tc'):b6 K (Bk r r' ta tb tc) (lV s s' ta' tb' tc'):=fun σ τ H M Q' rs rm h Q c =>
 ha σ τ H M _ rs rm h _ fun u v M1 H1 s1 rm1 ru h1=>hb σ τ H1 M1 _ (rs.stp s1) rm1 h1 _ fun w x M2 H2 s2 rm2 rw h2 =>
  hr v x u w H2 M2 _ rm2 (ru.stp s2) rw h2 _ fun z zv M3 H3 s3 rm3 rz h3=>by
   cases z with
   | bl k =>
    refine ⟨k,rz.bl,?_⟩
    cases k with
    | true=>exact hc σ τ H3 M3 _ ((rs.stp s1).stp (s2.trans s3)) rm3 h3 _ fun w2 x2 M4 H4 s4 rm4 rw4 h4=>hr' x x2 w w2 H4 M4 Q' rm4 (rw.stp (s3.trans s4)) rw4 h4 Q (cP.stp c (((s1.trans s2).trans s3).trans s4))
    | false=>exact c _ _ M3 H3 ((s1.trans s2).trans s3) rm3 cL h3
   | _=>exact h3.elim
noncomputable def oP:UA:=fun _ M Q=>Q [] M
noncomputable def lR (ta:UE) (tr:UA):UA:=fun τ M Q=>ta τ M fun x M1=>tr τ M1 fun xs M2=>Q (x :: xs) M2
theorem Gs:j6 K TX oP:=fun σ τ H M Q' rs rm q Q c=>c [] [] M H (bE.refl _ _) rm .nil q
theorem B2 {tr:TA} {tr':UA} (ha:b6 K ta ta') (hr:j6 K tr tr'):j6 K (Qc ta tr) (lR ta' tr'):=fun σ τ H M Q' rs rm h Q c =>
 ha σ τ H M _ rs rm h _ fun u v M1 H1 s1 rm1 ru h1=>hr σ τ H1 M1 _ (rs.stp s1) rm1 h1 _ fun us vs M2 H2 s2 rm2 rus h2=>c (u :: us) (v :: vs) M2 H2 (s1.trans s2) rm2 (.cons (ru.stp s2) rus) h2
noncomputable def sF (t:UA):UE:=fun τ M Q=>t τ M fun us M1=>us.length<=sizeLine/\Q (.tup us) M1
noncomputable def sQ (o:Bool) (t:UA):UE:=fun τ M Q=>t τ M fun us M1=>us.length<=sizeLine/\kQ o us M1 Q
theorem Ge {t:TA} {t':UA} (h:j6 K t t'):b6 K (Um t) (sF t'):=fun σ τ H M Q' rs rm q Q c =>
 h σ τ H M _ rs rm q _ fun us vs M1 H1 s1 rm1 r h1=>⟨by rw [<- r.length];exact h1.1,fun p hp=>(cP.stp c s1).tup rm1 r hp h1.2⟩
theorem Gm {o:Bool} {t:TA} {t':UA} (h:j6 K t t'):b6 K (TQ t) (sQ o t'):=fun σ τ H M Q' rs rm q Q c =>
 h σ τ H M _ rs rm q _ fun us vs M1 H1 s1 rm1 r h1=>⟨by rw [<- r.length];exact h1.1,fun p hp=>(cP.stp c s1).lst rm1 r hp h1.2⟩
noncomputable def sR (r:List U->aI->UK->Prop) (t:UA):UE:=fun τ M Q=>t τ M fun us M1=>r us M1 Q
theorem BV {r:List V->Hp->VK->Prop} {r':List U->aI->UK->Prop} {t:TA} {t':UA} (hr:qF K r r') (h:j6 K t t'):b6 K (Ue r t) (sR r' t'):=fun σ τ H M Q' rs rm q Q c =>
 h σ τ H M _ rs rm q _ fun us vs M1 H1 s1 rm1 ru h1=>hr vs us H1 M1 Q' rm1 ru h1 Q (cP.stp c s1)
end
end U2
namespace U2
open PySem L2
section
variable {K:PySem.W.Frag}
noncomputable def oY (g:Int->Int->U):dI:=fun x y M Q=>match x,y with
 | .int i,.int j=>Q (g i j) M
 | _,_=>False
noncomputable def uI (C:Int->Int->Prop) (g:Int->Int->U):dI:=fun x y M Q=>match x,y with
 | .int i,.int j=>C i j/\Q (g i j) M
 | _,_=>False
theorem L8 {g:Int->Int->V} {g':Int->Int->U} (hg:∀ H M i j,aY K H M (g' i j) (g i j)):dG K (rF g) (oY g'):=fun x y u w H M Q' rm ru rw h Q c=>by
 cases u with
 | int i=>cases w with
  | int j=>exact ⟨i,j,ru.int,rw.int,c _ _ M H (bE.refl _ _) rm (hg H M i j) h⟩
  | _=>exact h.elim
 | _=>exact h.elim
theorem VZ {C:Int->Int->Prop} {g:Int->Int->V} {g':Int->Int->U} (hg:∀ H M i j,aY K H M (g' i j) (g i j)):dG K (rI C g) (uI C g'):=fun x y u w H M Q' rm ru rw h Q c=>by
 cases u with
 | int i=>cases w with
  | int j=>exact ⟨i,j,ru.int,rw.int,h.1,c _ _ M H (bE.refl _ _) rm (hg H M i j) h.2⟩
  | _=>exact h.elim
 | _=>exact h.elim
theorem Cq {f:Int->Int->Int}:dG K (rF fun i j=>.int (f i j)) (oY fun i j=>.int (f i j)):=L8 fun _ _ _ _=>cO
theorem n8 {f:Int->Int->Bool}:dG K (rF fun i j=>.bl (f i j)) (oY fun i j=>.bl (f i j)):=L8 fun _ _ _ _=>cL
theorem nU {C:Int->Int->Prop} {f:Int->Int->Int}:dG K (rI C fun i j=>.int (f i j)) (uI C fun i j=>.int (f i j)):=VZ fun _ _ _ _=>cO
noncomputable def VR:dI:=fun x y M Q=>match x,y with
 | .str i,.str j=>i.length + j.length<=sizeLine/\Q (.str (i++j)) M
 | _,_=>False
theorem OT:dG K (fun x y H Q=>∃ i j,x=.str i/\y=.str j/\i.length + j.length<=sizeLine/\Q (.str (i++j)) H) VR:=fun x y u w H M Q' rm ru rw h Q c=>by
 cases u with
 | str i=>cases w with
  | str j=>exact ⟨i,j,ru.str,rw.str,h.1,c _ _ M H (bE.refl _ _) rm gA h.2⟩
  | _=>exact h.elim
 | _=>exact h.elim
noncomputable def Bx (K:PySem.W.Frag):R2:=fun x y H Q=>∃ a b xs ys,x=.ref a/\y=.ref b/\eE K H a xs/\eE K H b ys/\xs.length + ys.length<=sizeLine /\
 (xs=[]->Q (.ref b) H)/\(xs≠[]->ys=[]->Q (.ref a) H)/\(xs≠[]->ys≠[]->∀ p,H p=none->Q (.ref p) (upd H p (.tup (xs++ys))))
noncomputable def VF:dI:=fun x y M Q=>match x,y with
 | .tup us,.tup ws=>us.length + ws.length<=sizeLine/\Q (.tup (us++ws)) M
 | _,_=>False
theorem Pl:dG K (Bx K) VF:=fun x y u w H M Q' rm ru rw h Q c=>by
 cases u with
 | tup us=>cases w with
  | tup ws =>
   obtain ⟨h2,h3⟩:=h
   obtain ⟨a,xs,rfl,s1,r1⟩:=ru.tup
   obtain ⟨b,ys,rfl,s2,r2⟩:=rw.tup
   refine ⟨a,b,xs,ys,rfl,rfl,s1,s2,by rw [<- r1.length,<- r2.length];exact h2,fun e=>?_,fun _ e=>?_,fun _ _ p hp=>c.tup rm (r1.append r2) hp h3⟩
   ·subst e
    have e2:us=[]:=List.length_eq_zero_iff.mp r1.length
    subst e2
    exact c _ _ M H (bE.refl _ _) rm rw h3
   ·subst e
    have e2:ws=[]:=List.length_eq_zero_iff.mp r2.length
    subst e2
    exact c _ _ M H (bE.refl _ _) rm ru (by rw [List.append_nil] at h3;exact h3)
  | _=>exact h.elim
 | _=>exact h.elim
noncomputable def nW (o:Bool):dI:=fun x y M Q=>match view M x,view M y with
 | .lst us,.lst ws=>us.length + ws.length<=sizeLine/\kQ o (us++ws) M Q
 | _,_=>False
noncomputable def HC (K:PySem.W.Frag):R2:=fun x y H Q=>∃ l b xs zs,x=.ref l/\y=.ref b/\dE K H l xs/\dE K H b zs/\xs.length + zs.length<=sizeLine/\∀ p,H p=none->Q (.ref p) (upd H p (.lst (xs++zs)))
theorem O7 {o:Bool}:dG K (HC K) (nW o):=fun x y u w H M Q' rm ru rw h Q c=>by
 unfold nW at h
 split at h
 ·rename_i us ws e1 e2
  obtain ⟨a,xs,rfl,s1,r1⟩:=dM rm ru e1
  obtain ⟨b,ys,rfl,s2,r2⟩:=dM rm rw e2
  exact ⟨a,b,xs,ys,rfl,rfl,s1,s2,by rw [<- r1.length,<- r2.length];exact h.1,fun p hp=>c.lst rm (r1.append r2) hp h.2⟩
 ·exact h.elim
theorem GP {H:Hp} {M:aI} {us:List U} {vs:List V} {i:Int} {u:U} (r:aS K H M us vs) (h:dS us i=some u):∃ v,dS vs i=some v/\aY K H M u v:=by
 unfold dS at h ⊢
 rw [<- r.length]
 cases e:uB us.length i with
 | none=>rw [e] at h;cases h
 | some j=>rw [e] at h;exact r.get h
noncomputable def rB:dI:=fun x y M Q=>match view M x,y with
 | .lst us,.int i=>∃ u,dS us i=some u/\Q u M
 | .tup us,.int i=>∃ u,dS us i=some u/\Q u M
 | .str z,.int i=>z.length<=sizeLine/\∃ c,dS z.cps.toList i=some c/\Q (.str ⟨#[c]⟩) M
 | _,_=>False
theorem qG {M:aI} {u:U} {us:List U} (h:view M u=.tup us):u=.tup us:=by
 cases u with
 | ref a=>simp only [view] at h;split at h <;> cases h
 | _=>simpa [view] using h
theorem uP {M:aI} {u:U} {x:Str} (h:view M u=.str x):u=.str x:=by
 cases u with
 | ref a=>simp only [view] at h;split at h <;> cases h
 | _=>simpa [view] using h
theorem TK:dG K (Wu K) rB:=fun x y u w H M Q' rm ru rw h Q c=>by
 unfold rB at h
 split at h
 ·rename_i us i e
  obtain ⟨z,h1,h2⟩:=h
  obtain ⟨a,xs,rfl,s1,r1⟩:=dM rm ru e
  obtain ⟨v,h3,h4⟩:=GP r1 h1
  exact .inl ⟨a,xs,i,v,rfl,rw.int,s1,h3,c _ _ M H (bE.refl _ _) rm h4 h2⟩
 ·rename_i us i e
  obtain ⟨z,h1,h2⟩:=h
  have e':=qG e
  subst e'
  obtain ⟨a,xs,rfl,s1,r1⟩:=ru.tup
  obtain ⟨v,h3,h4⟩:=GP r1 h1
  exact .inr (.inl ⟨a,xs,i,v,rfl,rw.int,s1,h3,c _ _ M H (bE.refl _ _) rm h4 h2⟩)
 ·rename_i z i e
  obtain ⟨h0,d,h1,h2⟩:=h
  have e':=uP e
  subst e'
  exact .inr (.inr ⟨z,i,d,ru.str,rw.int,h0,h1,c _ _ M H (bE.refl _ _) rm gA h2⟩)
 ·exact h.elim
abbrev UO:=SU->aI->(Option Int->aI->Prop)->Prop
noncomputable def BU (K:PySem.W.Frag) (t:TO) (t':UO):Prop:=∀ (σ:St) (τ:SU) (H:Hp) (M:aI) (Q':Option Int->aI->Prop),cV K H M σ τ->RelM K H M->t' τ M Q' ->
 ∀ Q:Option Int->Hp->Prop,(∀ o M1 H1,bE H M H1 M1->RelM K H1 M1->Q' o M1->Q o H1)->t σ H Q
noncomputable def lJ:UO:=fun _ M Q=>Q none M
noncomputable def qK (t:UE):UO:=fun τ M Q=>t τ M fun x M1=>match x with
 | .int i=>Q (some i) M1
 | _=>False
theorem J7:BU K Gn lJ:=fun σ τ H M Q' rs rm q Q c=>c none M H (bE.refl _ _) rm q
theorem Oc {t:TE} {t':UE} (h:b6 K t t'):BU K (QE t) (qK t'):=fun σ τ H M Q' rs rm q Q c=>h σ τ H M _ rs rm q _ fun u v M1 H1 s1 rm1 ru h1=>by
 cases u with
 | int i=>exact ⟨i,ru.int,c _ M1 H1 s1 rm1 h1⟩
 | _=>exact h1.elim
noncomputable def dO {α:Type} (xs:List α) (lo hi:Option Int):List α:=(xs.drop (HT.bS xs.length 0 lo)).take (HT.bS xs.length xs.length hi - HT.bS xs.length 0 lo)
theorem GY {H:Hp} {M:aI} {us:List U} {vs:List V} (r:aS K H M us vs) (lo hi:Option Int):aS K H M (dO us lo hi) (oQ vs lo hi):=by
 unfold dO oQ
 rw [r.length]
 exact (r.drop _).take _
noncomputable def Tx (K:PySem.W.Frag):V->Option Int->Option Int->Hp->VK->Prop:=fun x lo hi H Q =>
 (∃ a xs,x=.ref a/\dE K H a xs/\∀ p,H p=none->Q (.ref p) (upd H p (.lst (oQ xs lo hi)))) \/
 (∃ a xs,x=.ref a/\eE K H a xs/\¬ (HT.bS xs.length 0 lo=0/\HT.bS xs.length xs.length hi=xs.length)/\∀ p,H p=none->Q (.ref p) (upd H p (.tup (oQ xs lo hi)))) \/
 (∃ z:Str,x=.str z/\z.length<=sizeLine/\Q (.str (Txt.slice z lo hi)) H)
noncomputable def Xe (o:Bool) (te:UE) (tl th:UO):UE:=fun τ M Q=>te τ M fun x M1=>tl τ M1 fun l M2=>th τ M2 fun h M3=>match view M3 x with
 | .lst us=>kQ o (dO us l h) M3 Q
 | .tup us=>¬ (HT.bS us.length 0 l=0/\HT.bS us.length us.length h=us.length)/\Q (.tup (dO us l h)) M3
 | .str z=>z.length<=sizeLine/\Q (.str (Txt.slice z l h)) M3
 | _=>False
end
section
variable {K:PySem.W.Frag} {t u:TS} {t' u':US} {te:TE} {te':UE}
noncomputable def b7:US:=fun D τ M=>D.nx τ M
noncomputable def qX (t u:US):US:=fun D τ M=>t { D with nx:=u D } τ M
noncomputable def vM:US:=fun D τ M=>D.bk τ M
noncomputable def AB:US:=fun D τ M=>D.ct τ M
noncomputable def gH (te:UE):US:=fun D τ M=>te τ M fun _ M1=>D.nx τ M1
noncomputable def cE (te:UE):US:=fun D τ M=>te τ M D.rt
noncomputable def Ay:US:=fun D _ M=>D.rt .non M
noncomputable def uL (c:UT) (t u:US):US:=fun D τ M=>c τ M fun b M1=>if b=true then t D τ M1 else u D τ M1
theorem OQ:iG K Ql b7:=fun σ τ H M D' rs rm h D d=>d.nx σ τ H M (bE.refl _ _) rm rs h
theorem F6 (h1:iG K t t') (h2:iG K u u'):iG K (SK t u) (qX t' u'):=fun σ τ H M D' rs rm h D d =>
 h1 σ τ H M _ rs rm h _ ⟨fun σ1 τ1 H1 M1 s rm1 rs1 q=>h2 σ1 τ1 H1 M1 D' rs1 rm1 q D (d.stp s),d.rt,d.bk,d.ct⟩
theorem OF (h1:b6 K te te'):iG K (Qj te) (gH te'):=fun σ τ H M D' rs rm h D d=>h1 σ τ H M _ rs rm h _ fun u v M1 H1 s rm1 ru q=>d.nx σ τ H1 M1 s rm1 (rs.stp s) q
theorem Sq (h1:b6 K te te'):iG K (TV te) (cE te'):=fun σ τ H M D' rs rm h D d=>h1 σ τ H M _ rs rm h _ fun u v M1 H1 s rm1 ru q=>d.rt u v H1 M1 s rm1 ru q
theorem R7 {c:TT} {c':UT} (hc:iS K c c') (h1:iG K t t') (h2:iG K u u'):iG K (S5 c t u) (uL c' t' u'):=fun σ τ H M D' rs rm h D d=>hc σ τ H M _ rs rm h _ fun b M1 H1 s rm1 q=>by
 cases b with
 | true=>exact h1 σ τ H1 M1 D' (rs.stp s) rm1 q D (d.stp s)
 | false=>exact h2 σ τ H1 M1 D' (rs.stp s) rm1 q D (d.stp s)
abbrev UG:=U->SU->aI->(SU->aI->Prop)->Prop
abbrev v7:=List U->SU->aI->(SU->aI->Prop)->Prop
noncomputable def u6 (K:PySem.W.Frag) (g:TG) (g':UG):Prop:=∀ (u:U) (v:V) (σ:St) (τ:SU) (H:Hp) (M:aI) (Q':SU->aI->Prop),aY K H M u v->cV K H M σ τ->RelM K H M->g' u τ M Q' ->
 ∀ Q:St->Hp->Prop,(∀ σ1 τ1 H1 M1,bE H M H1 M1->RelM K H1 M1->cV K H1 M1 σ1 τ1->Q' τ1 M1->Q σ1 H1)->g v σ H Q
noncomputable def xE (K:PySem.W.Frag) (g:m6) (g':v7):Prop:=∀ (us:List U) (vs:List V) (σ:St) (τ:SU) (H:Hp) (M:aI) (Q':SU->aI->Prop),aS K H M us vs->cV K H M σ τ->RelM K H M->g' us τ M Q' ->
 ∀ Q:St->Hp->Prop,(∀ σ1 τ1 H1 M1,bE H M H1 M1->RelM K H1 M1->cV K H1 M1 σ1 τ1->Q' τ1 M1->Q σ1 H1)->g vs σ H Q
noncomputable def hName (i:Nat):UG:=fun u τ M Q=>Q (τ.set i (some u)) M
theorem mC (i:Nat):u6 K (qV i) (hName i):=fun u v σ τ H M Q' ru rs rm h Q c=>c _ _ H M (bE.refl _ _) rm (rs.set ru) h
noncomputable def oF:v7:=fun us τ M Q=>match us with
 | []=>Q τ M
 | _=>False
noncomputable def lQ (g:UG) (r:v7):v7:=fun us τ M Q=>match us with
 | u :: us=>g u τ M fun τ1 M1=>r us τ1 M1 Q
 | _=>False
theorem O9:xE K AY oF:=fun us vs σ τ H M Q' ru rs rm h Q c=>by
 cases us with
 | nil=>exact ⟨ru.inv_nil,c σ τ H M (bE.refl _ _) rm rs h⟩
 | cons _ _=>exact h.elim
theorem ME {g:TG} {g':UG} {r:m6} {r':v7} (h1:u6 K g g') (h2:xE K r r'):xE K (w9 g r) (lQ g' r'):=fun us vs σ τ H M Q' ru rs rm h Q c=>by
 cases us with
 | nil=>exact h.elim
 | cons u us =>
  obtain ⟨v,vs',rfl,a,b⟩:=ru.inv_cons
  exact ⟨v,vs',rfl,h1 u v σ τ H M _ a rs rm h _ fun σ1 τ1 H1 M1 s rm1 rs1 q=>h2 us vs' σ1 τ1 H1 M1 Q' (b.stp s) rs1 rm1 q Q fun σ2 τ2 H2 M2 s2=>c σ2 τ2 H2 M2 (s.trans s2)⟩
noncomputable def lK (n:Nat) (r:v7):UG:=fun u τ M Q=>match u with
 | .tup us=>us.length=n/\r us τ M Q
 | _=>False
theorem Of {n:Nat} {r:m6} {r':v7} (h2:xE K r r'):u6 K (B4 K n r) (lK n r'):=fun u v σ τ H M Q' ru rs rm h Q c=>by
 cases u with
 | tup us =>
  obtain ⟨a,vs,rfl,s1,r1⟩:=ru.tup
  exact ⟨a,vs,rfl,s1,by rw [<- r1.length];exact h.1,h2 us vs σ τ H M Q' r1 rs rm h.2 Q c⟩
 | _=>exact h.elim
noncomputable def bQ (te:UE) (g:UG):US:=fun D τ M=>te τ M fun x M1=>g x τ M1 D.nx
theorem tR {g:TG} {g':UG} (h1:b6 K te te') (h2:u6 K g g'):iG K (I0 te g) (bQ te' g'):=fun σ τ H M D' rs rm h D d =>
 h1 σ τ H M _ rs rm h _ fun u v M1 H1 s rm1 ru q=>h2 u v σ τ H1 M1 _ ru (rs.stp s) rm1 q _ fun σ1 τ1 H2 M2 s2 rm2 rs2 q2=>d.nx σ1 τ1 H2 M2 (s.trans s2) rm2 rs2 q2
noncomputable def Ck (c:UT) (tb:US):US:=fun D τ M=>∃ (P:SU->aI->Prop) (μ:SU->aI->Nat),P τ M/\∀ τ M,P τ M->c τ M fun b M1=>if b=true then tb { D with nx:=fun τ' M'=>P τ' M'/\μ τ' M' < μ τ M,ct:=fun τ' M'=>P τ' M'/\μ τ' M' < μ τ M,bk:=D.nx } τ M1 else D.nx τ M1
theorem LO {c:TT} {c':UT} (hc:iS K c c') (h1:iG K t t'):iG K (Ni c t) (Ck c' t'):=fun σ τ H M D' rs rm h D d=>by
 obtain ⟨P,μ,p0,turn⟩:=h
 refine ⟨fun m σ1 H1=>∃ τ1 M1,bE H M H1 M1/\RelM K H1 M1/\cV K H1 M1 σ1 τ1/\P τ1 M1/\m=μ τ1 M1,⟨_,τ,M,bE.refl _ _,rm,rs,p0,rfl⟩,?_⟩
 rintro m σ1 H1 ⟨τ1,M1,s1,rm1,rs1,p1,rfl⟩
 refine hc σ1 τ1 H1 M1 _ rs1 rm1 (turn τ1 M1 p1) _ fun b M2 H2 s2 rm2 q=>?_
 cases b with
 | true =>
  refine ⟨fun σ3 H3=>∃ τ3 M3,bE H M H3 M3/\RelM K H3 M3/\cV K H3 M3 σ3 τ3/\P τ3 M3/\μ τ3 M3 < μ τ1 M1,?_,?_⟩
  ·rintro σ3 H3 ⟨τ3,M3,s3,rm3,rs3,p3,lt⟩
   exact ⟨_,lt,τ3,M3,s3,rm3,rs3,p3,rfl⟩
  ·have d2:=d.stp (s1.trans s2)
   exact h1 σ1 τ1 H2 M2 _ (rs1.stp s2) rm2 q _ ⟨fun σ3 τ3 H3 M3 s3 rm3 rs3 q3=>⟨τ3,M3,(s1.trans s2).trans s3,rm3,rs3,q3.1,q3.2⟩,d2.rt,d2.nx,fun σ3 τ3 H3 M3 s3 rm3 rs3 q3=>⟨τ3,M3,(s1.trans s2).trans s3,rm3,rs3,q3.1,q3.2⟩⟩
 | false=>exact d.nx σ1 τ1 H2 M2 (s1.trans s2) rm2 (rs1.stp s2) q
structure Src where
 own:Option Addr
 xs:List U
noncomputable def Src.ok (S:Src) (M:aI):Prop:=∀ a,S.own=some a->M a=some (.lst S.xs)
structure Walk (K:PySem.W.Frag) (J:It) (S:Src) (H:Hp) (M:aI):Prop where
 step:∀ H1 M1,bE H M H1 M1->RelM K H1 M1->S.ok M1->∀ (i:Nat) u,S.xs[i]?=some u->J.go i H1/\∀ x H2,J.yld i H1 x H2->bE H1 M1 H2 M1/\RelM K H2 M1/\aY K H2 M1 u x
 stop:∀ H1 M1,bE H M H1 M1->RelM K H1 M1->S.ok M1->J.stop S.xs.length H1
abbrev UI:=SU->aI->(Src->aI->Prop)->Prop
noncomputable def rR (K:PySem.W.Frag) (t:TI) (t':UI):Prop:=∀ (σ:St) (τ:SU) (H:Hp) (M:aI) (R':Src->aI->Prop),cV K H M σ τ->RelM K H M->t' τ M R' ->
 ∀ R:It->Hp->Prop,(∀ J S M1 H1,bE H M H1 M1->RelM K H1 M1->Walk K J S H1 M1->R' S M1->R J H1)->t σ H R
noncomputable def Jt (wi:UI) (g:UG) (tb:US):US:=fun D τ M=>wi τ M fun S M1=>∃ P:Nat->SU->aI->Prop,P 0 τ M1/\(∀ i τ M,P i τ M->S.ok M) /\
 (∀ i x τ M,S.xs[i]?=some x->P i τ M->g x τ M fun τ2 M2=>tb { D with nx:=P (i + 1),ct:=P (i + 1),bk:=D.nx } τ2 M2)/\∀ τ M,P S.xs.length τ M->D.nx τ M
theorem Sw {wi:TI} {wi':UI} {g:TG} {g':UG} (hi:rR K wi wi') (hg:u6 K g g') (h1:iG K t t'):iG K (U0 wi g t) (Jt wi' g' t'):=fun σ τ H M D' rs rm h D d=>by
 refine hi σ τ H M _ rs rm h _ fun J S M0 H0 s0 rm0 w h=>?_
 obtain ⟨P,p0,hok,turn,fin⟩:=h
 refine ⟨fun i m σ1 H1=>∃ τ1 M1,bE H0 M0 H1 M1/\RelM K H1 M1/\cV K H1 M1 σ1 τ1/\P i τ1 M1/\i<=S.xs.length/\m=S.xs.length - i,⟨_,τ,M0,bE.refl _ _,rm0,rs.stp s0,p0,Nat.zero_le _,rfl⟩,?_⟩
 rintro i m σ1 H1 ⟨τ1,M1,s1,rm1,rs1,p1,hle,rfl⟩
 have ok1:=hok i τ1 M1 p1
 by_cases hlt:i < S.xs.length
 ·obtain ⟨go,yl⟩:=w.step H1 M1 s1 rm1 ok1 i S.xs[i] (by simp [hlt])
  refine .inr ⟨go,fun σ3 H3=>∃ τ3 M3,bE H0 M0 H3 M3/\RelM K H3 M3/\cV K H3 M3 σ3 τ3/\P (i + 1) τ3 M3,?_,fun x H2 y=>?_⟩
  ·rintro σ3 H3 ⟨τ3,M3,s3,rm3,rs3,p3⟩
   exact ⟨S.xs.length - (i + 1),by omega,τ3,M3,s3,rm3,rs3,p3,hlt,rfl⟩
  ·obtain ⟨s2,rm2,ru⟩:=yl x H2 y
   refine hg _ x σ1 τ1 H2 M1 _ ru (rs1.stp s2) rm2 (turn i S.xs[i] τ1 M1 (by simp [hlt]) p1) _ fun σ3 τ3 H3 M3 s3 rm3 rs3 q3=>?_
   have d3:=d.stp (((s0.trans s1).trans s2).trans s3)
   exact h1 σ3 τ3 H3 M3 _ rs3 rm3 q3 _ ⟨fun σ4 τ4 H4 M4 s4 rm4 rs4 q4=>⟨τ4,M4,((s1.trans s2).trans s3).trans s4,rm4,rs4,q4⟩,d3.rt,d3.nx,fun σ4 τ4 H4 M4 s4 rm4 rs4 q4=>⟨τ4,M4,((s1.trans s2).trans s3).trans s4,rm4,rs4,q4⟩⟩
 ·have e:i=S.xs.length:=by omega
  subst e
  exact .inl ⟨w.stop H1 M1 s1 rm1 ok1,d.nx σ1 τ1 H1 M1 (s0.trans s1) rm1 rs1 (fin τ1 M1 p1)⟩
end
end U2
namespace U2
open PySem L2
section
variable {K:PySem.W.Frag}
theorem KZ {a:Addr} {us:List U} {vs:List V} {H:Hp} {M:aI} (m:(M a=none/\Rd H a (.lst vs))\/KL K a vs) (r:aS K H M us vs):Walk K (Qw K a) ⟨none,us⟩ H M:=by
 have sq:∀ H1 M1,bE H M H1 M1->dE K H1 a vs:=fun H1 M1 s=>by
  rcases m with ⟨m,h⟩ | k
  ·exact .inl (Rd.stp s m h).2
  ·exact .inr k
 refine ⟨fun H1 M1 s rm _ i u e=>?_,fun H1 M1 s rm _=>⟨vs,sq H1 M1 s,by rw [r.length];exact Nat.le_refl _⟩⟩
 obtain ⟨v,e2,ru⟩:=r.get e
 refine ⟨⟨vs,v,sq H1 M1 s,e2⟩,fun x H2 y=>?_⟩
 obtain ⟨rfl,y⟩:=y
 have:=y vs (sq _ M1 s)
 rw [e2] at this;cases this
 exact ⟨bE.refl _ _,rm,ru.stp s⟩
theorem O2 {a:Addr} {us:List U} {vs:List V} {H:Hp} {M:aI} (m:M a=none/\H a=some (.tup vs)) (r:aS K H M us vs):Walk K (UQ K a) ⟨none,us⟩ H M:=by
 have sq:∀ H1 M1,bE H M H1 M1->eE K H1 a vs:=fun H1 M1 s=>by
  exact .inl (.inl (s.to m.2 m.1).1)
 refine ⟨fun H1 M1 s rm _ i u e=>?_,fun H1 M1 s rm _=>⟨vs,sq H1 M1 s,by rw [r.length];exact Nat.le_refl _⟩⟩
 obtain ⟨v,e2,ru⟩:=r.get e
 refine ⟨⟨vs,v,sq H1 M1 s,e2⟩,fun x H2 y=>?_⟩
 obtain ⟨rfl,y⟩:=y
 have:=y vs (sq _ M1 s)
 rw [e2] at this;cases this
 exact ⟨bE.refl _ _,rm,ru.stp s⟩
theorem Pk {a:Addr} {us:List U} {H:Hp} {M:aI}:Walk K (Qw K a) ⟨some a,us⟩ H M:=by
 refine ⟨fun H1 M1 s rm ok i u e=>?_,fun H1 M1 s rm ok=>?_⟩
 ·obtain ⟨vs,h1,r⟩:=rm a _ (ok a rfl)
  obtain ⟨v,e2,ru⟩:=r.get e
  refine ⟨⟨vs,v,.inl (.inl h1),e2⟩,fun x H2 y=>?_⟩
  obtain ⟨rfl,y⟩:=y
  have:=y vs (.inl (.inl h1))
  rw [e2] at this;cases this
  exact ⟨bE.refl _ _,rm,ru⟩
 ·obtain ⟨vs,h1,r⟩:=rm a _ (ok a rfl)
  exact ⟨vs,.inl (.inl h1),by rw [r.length];exact Nat.le_refl _⟩
noncomputable def Ti (z:Str):It:=⟨fun i _=>i < z.cps.size,fun i H x H'=>H'=H/\∃ c,z.cps[i]?=some c/\x=.str ⟨#[c]⟩,fun i _=>i=z.cps.size⟩
noncomputable def chars (z:Str):List U:=z.cps.toList.map fun c=>.str ⟨#[c]⟩
theorem N8 {z:Str} {H:Hp} {M:aI}:Walk K (Ti z) ⟨none,chars z⟩ H M:=by
 refine ⟨fun H1 M1 s rm _ i u e=>?_,fun H1 M1 s rm _=>?_⟩
 ·have hi:i < z.cps.size:=by
   have:=(List.getElem?_eq_some_iff.mp e).1
   simpa [chars] using this
  refine ⟨hi,fun x H2 y=>?_⟩
  obtain ⟨rfl,c,h1,rfl⟩:=y
  have:u=.str ⟨#[c]⟩:=by
   simp only [chars,List.getElem?_map,Array.getElem?_toList,h1,Option.map_some] at e
   exact (Option.some.inj e).symm
  subst this
  exact ⟨bE.refl _ _,rm,gA⟩
 ·show (chars z).length=z.cps.size
  simp [chars]
noncomputable def SM (K:PySem.W.Frag) (tl:TE):TI:=fun σ H R=>tl σ H fun x H1 =>
 (∃ a,x=.ref a/\(∃ xs,dE K H1 a xs)/\R (Qw K a) H1)\/(∃ a,x=.ref a/\(∃ xs,eE K H1 a xs)/\R (UQ K a) H1)\/(∃ z,x=.str z/\R (Ti z) H1)
noncomputable def qD (te:UE):UI:=fun τ M R=>te τ M fun u M1=>match u with
 | .lst us=>R ⟨none,us⟩ M1
 | .tup us=>R ⟨none,us⟩ M1
 | .str z=>R ⟨none,chars z⟩ M1
 | .ref a=>match M1 a with
  | some (.lst us)=>R ⟨some a,us⟩ M1
  | _=>False
 | _=>False
theorem NN {te:TE} {te':UE} (h:b6 K te te'):rR K (SM K te) (qD te'):=fun σ τ H M R' rs rm q R c=>h σ τ H M _ rs rm q _ fun u v M1 H1 s1 rm1 ru h1=>by
 cases u with
 | lst us =>
  simp only [aY] at ru
  obtain ⟨a,vs,rfl,m,r⟩:=ru
  refine .inl ⟨a,rfl,⟨vs,?_⟩,c _ _ M1 H1 s1 rm1 (KZ m r) h1⟩
  rcases m with ⟨_,m⟩ | k
  ·exact .inl m
  ·exact .inr k
 | tup us =>
  simp only [aY] at ru
  obtain ⟨a,vs,rfl,m,r⟩:=ru
  refine .inr (.inl ⟨a,rfl,⟨vs,?_⟩,c _ _ M1 H1 s1 rm1 (O2 m r) h1⟩)
  exact .inl (.inl m.2)
 | str z=>exact .inr (.inr ⟨z,ru.str,c _ _ M1 H1 s1 rm1 N8 h1⟩)
 | ref a =>
  dsimp only at h1
  split at h1
  ·rename_i us e
   obtain ⟨vs,h2,r⟩:=rm1 a _ e
   exact .inl ⟨a,ru.ref,⟨vs,.inl (.inl h2)⟩,c _ _ M1 H1 s1 rm1 Pk h1⟩
  ·exact h1.elim
 | _=>exact h1.elim
noncomputable def cA (lo:Int) (n:Nat):List U:=(List.range n).map fun (k:Nat)=>U.int (lo + (k:Int))
theorem G4 {lo:Int} {n:Nat} {H:Hp} {M:aI}:Walk K (zC lo n) ⟨none,cA lo n⟩ H M:=by
 refine ⟨fun H1 M1 s rm _ i u e=>?_,fun H1 M1 s rm _=>?_⟩
 ·have hi:i < n:=by
   have:=(List.getElem?_eq_some_iff.mp e).1
   simpa [cA] using this
  refine ⟨hi,fun x H2 y=>?_⟩
  obtain ⟨rfl,rfl⟩:=y
  have:u=.int (lo + i):=by
   simp only [cA,List.getElem?_map,List.getElem?_range hi,Option.map_some] at e
   exact (Option.some.inj e).symm
  subst this
  exact ⟨bE.refl _ _,rm,cO⟩
 ·show n<=(cA lo n).length
  simp [cA]
noncomputable def qZ (ta:UA):UI:=fun τ M R=>ta τ M fun us M1=>match us with
 | [.int j]=>-(2 ^ 62)<=j/\j < 2 ^ 62/\R ⟨none,cA 0 j.toNat⟩ M1
 | _=>False
noncomputable def vZ (ta:UA):UI:=fun τ M R=>ta τ M fun us M1=>match us with
 | [.int i,.int j]=>(-(2 ^ 62)<=i/\i < 2 ^ 62/\-(2 ^ 62)<=j/\j < 2 ^ 62)/\R ⟨none,cA i (j - i).toNat⟩ M1
 | _=>False
theorem Og {ta:TA} {ta':UA} (h:j6 K ta ta'):rR K (Qe ta) (qZ ta'):=fun σ τ H M R' rs rm q R c=>h σ τ H M _ rs rm q _ fun us vs M1 H1 s1 rm1 ru h1=>by
 split at h1
 ·rename_i j
  obtain ⟨v,vs',rfl,a,b⟩:=ru.inv_cons
  cases b.inv_nil
  cases a.int
  exact ⟨j,rfl,h1.1,h1.2.1,c _ _ M1 H1 s1 rm1 G4 h1.2.2⟩
 ·exact h1.elim
abbrev cX:=List U->aI->UK->Prop
noncomputable def fB (K:PySem.W.Frag) (sp:cX):Sp:=fun vs H Q _=>∃ us M Q',RelM K H M/\aS K H M us vs/\sp us M Q'/\cP K H M Q' Q
noncomputable def qW (sp:cX) (dus:List U) (t:UA):UE:=fun τ M Q=>t τ M fun us M1=>sp (us++dus) M1 Q
theorem Pz {sp:cX} {dus:List U} {dvs:List V} {E:XK} {t:TA} {t':UA} (hd:∀ H M,aS K H M dus dvs) (h:j6 K t t'):b6 K (JJ (fB K sp) dvs E t) (qW sp dus t'):=fun σ τ H M Q' rs rm q Q c =>
 h σ τ H M _ rs rm q _ fun us vs M1 H1 s1 rm1 ru h1=>⟨us++dus,M1,Q',rm1,ru.append (hd _ _),h1,cP.stp c s1⟩
noncomputable def Sub (M' M1:aI):Prop:=∀ b mo,M' b=some mo->M1 b=some mo
theorem Sub.refl (M:aI):Sub M M:=fun _ _ h=>h
theorem Sub.mup {M M1:aI} {p:Addr} {o:MO} (h:Sub M M1) (hp:M p=none):Sub M (mup M1 p o):=fun b mo e=>by
 have:b≠p:=fun z=>by subst z;rw [hp] at e;cases e
 rw [cB this];exact h b mo e
theorem Sub.less {M M1:aI} (h:Sub M M1) {H:Hp}:bE H M1 H M:=bE.less fun b e=>by
 cases q:M b with
 | none=>rfl
 | some mo=>rw [h b mo q] at e;cases e
theorem RelM.sub {H:Hp} {M M1:aI} (rm:RelM K H M1) (h:Sub M M1):RelM K H M:=fun a mo e=>(rm a mo (h a mo e)).stp (fun b q z=>h b _ z) (h.less) rfl
noncomputable def Out (M1 M':aI) (u u':U):Prop:=u'=u\/∃ a us,u=.ref a/\M1 a=some (.lst us)/\M' a=none/\u'=.lst us
noncomputable def iY (Q:UK):UK:=fun u M1=>∃ u' M',Sub M' M1/\Out M1 M' u u'/\Q u' M'
theorem iY.ok {H H1:Hp} {M M1:aI} {Q':UK} {Q:VK} {u:U} {v:V} (c:cP K H M Q' Q) (s:bE H M H1 M1) (rm:RelM K H1 M1) (ru:aY K H1 M1 u v) (h:iY Q' u M1):Q v H1:=by
 obtain ⟨u',M',sb,o,q⟩:=h
 have s':bE H1 M1 H1 M':=sb.less
 refine c u' v M' H1 (s.trans s') (rm.sub sb) ?_ q
 rcases o with rfl | ⟨a,us,rfl,h1,h2,rfl⟩
 ·exact ru.stp s'
 ·obtain ⟨vs,h3,h4⟩:=rm a _ h1
  cases ru.ref
  exact uV h2 h3 (h4.stp s')
noncomputable def eP (N:List Str) (us:List U):SU:=us.map some++List.replicate (N.length - us.length) none
noncomputable def KI (M:aI) (x:U):Prop:=∃ us,view M x=.lst us
noncomputable def y8 (r:U->List U->aI->UK->Prop) (to:UE) (t:UA):UE:=fun τ M Q=>to τ M fun x M1=>KI M1 x/\t τ M1 fun xs M2=>r x xs M2 Q
noncomputable def vI (r:U->List U->aI->UK->Prop) (to:UE):UE:=fun τ M Q=>to τ M fun x M1=>KI M1 x/\r x [] M1 Q
theorem KI.ty {H:Hp} {M:aI} {u:U} {v:V} (rm:RelM K H M) (ru:aY K H M u v) (h:KI M u):P0 K "list" v H:=by
 obtain ⟨us,h⟩:=h
 obtain ⟨a,vs,rfl,s,_⟩:=dM rm ru h
 exact .inl ⟨rfl,vs,s⟩
theorem MJ {r:V->List V->Hp->VK->Prop} {r':U->List U->aI->UK->Prop} {to:TE} {to':UE} {t:TA} {t':UA} (hr:xF K r r') (ho:b6 K to to') (h:j6 K t t') :
  b6 K (Wk K "list" r to t) (y8 r' to' t'):=fun σ τ H M Q' rs rm q Q c =>
 ho σ τ H M _ rs rm q _ fun u v M1 H1 s1 rm1 ru h1=>⟨h1.1.ty rm1 ru,h σ τ H1 M1 _ (rs.stp s1) rm1 h1.2 _ fun us vs M2 H2 s2 rm2 rus h2=>hr v vs u us H2 M2 Q' rm2 (ru.stp s2) rus h2 Q (cP.stp c (s1.trans s2))⟩
theorem Rn {r:V->List V->Hp->VK->Prop} {r':U->List U->aI->UK->Prop} {to:TE} {to':UE} (hr:xF K r r') (ho:b6 K to to') :
  b6 K (SD K "list" r to) (vI r' to'):=fun σ τ H M Q' rs rm q Q c =>
 ho σ τ H M _ rs rm q _ fun u v M1 H1 s1 rm1 ru h1=>⟨h1.1.ty rm1 ru,hr v [] u [] H1 M1 Q' rm1 ru .nil h1.2 Q (cP.stp c s1)⟩
theorem cP.write {H:Hp} {M:aI} {Q':UK} {Q:VK} {a:Addr} {us us':List U} {xs':List V} {r:U} {v:V} (c:cP K H M Q' Q) (rm:RelM K H M) (e:M a=some (.lst us)) (r1:aS K H M us' xs') (r2:aY K H M r v) (q:Q' r (mup M a (.lst us'))):Q v (upd H a (.lst xs')):=by
 have st:bE H M (upd H a (.lst xs')) (mup M a (.lst us')):=bE.write e
 exact c _ _ _ _ st (rm.put st ⟨xs',b8,r1.stp st⟩) (r2.stp st) q
noncomputable def kI:U->List U->aI->UK->Prop:=fun x ws M Q=>match x,ws with
 | .ref a,[w]=>match M a with
  | some (.lst us)=>us.length < sizeLine/\Q .non (mup M a (.lst (us++[w])))
  | _=>False
 | _,_=>False
theorem HN:xF K GL kI:=fun x xs u us H M Q' rm ru rus h Q c=>by
 unfold kI at h
 split at h
 ·rename_i a w
  split at h
  ·rename_i ws e
   obtain ⟨vs,h1,r⟩:=rm a _ e
   obtain ⟨v,vs',rfl,a1,b⟩:=rus.inv_cons
   cases b.inv_nil
   cases ru.ref
   exact ⟨a,vs,v,rfl,rfl,h1,by rw [<- r.length];exact h.1,c.write rm e (r.append (.cons a1 .nil)) j7 h.2⟩
  ·exact h.elim
 ·exact h.elim
noncomputable def sN:U->List U->aI->UK->Prop:=fun x ws M Q=>match x,ws with
 | .ref a,[]=>match M a with
  | some (.lst us)=>match us.getLast? with
   | some w=>Q w (mup M a (.lst us.dropLast))
   | none=>False
  | _=>False
 | _,_=>False
theorem Q8:xF K S8 sN:=fun x xs u us H M Q' rm ru rus h Q c=>by
 unfold sN at h
 split at h
 ·rename_i a
  split at h
  ·rename_i ws e
   split at h
   ·rename_i w e2
    obtain ⟨vs,h1,r⟩:=rm a _ e
    cases rus.inv_nil
    cases ru.ref
    rw [List.getLast?_eq_getElem?] at e2
    obtain ⟨v,h3,h4⟩:=r.get e2
    exact ⟨a,vs,v,rfl,rfl,h1,by rw [<- r.length];exact h3,c.write rm e r.dropLast h4 h⟩
   ·exact h.elim
  ·exact h.elim
 ·exact h.elim
noncomputable def Dd (K:PySem.W.Frag):V->List V->Hp->VK->Prop:=fun x vs H Q=>∃ l b xs zs,x=.ref l/\vs=[.ref b]/\H l=some (.lst xs)/\dE K H b zs/\xs.length + zs.length<=sizeLine/\Q .non (upd H l (.lst (xs++zs)))
noncomputable def kH:U->List U->aI->UK->Prop:=fun x ws M Q=>match x,ws with
 | .ref a,[w]=>match M a,view M w with
  | some (.lst us),.lst zs=>us.length + zs.length<=sizeLine/\Q .non (mup M a (.lst (us++zs)))
  | _,_=>False
 | _,_=>False
theorem Hr:xF K (Dd K) kH:=fun x xs u us H M Q' rm ru rus h Q c=>by
 unfold kH at h
 split at h
 ·rename_i a w
  split at h
  ·rename_i ws zs e e2
   obtain ⟨vs,h1,r⟩:=rm a _ e
   obtain ⟨v,vs',rfl,a1,b⟩:=rus.inv_cons
   cases b.inv_nil
   cases ru.ref
   obtain ⟨b,zvs,rfl,s2,r2⟩:=dM rm a1 e2
   exact ⟨a,b,vs,zvs,rfl,rfl,h1,s2,by rw [<- r.length,<- r2.length];exact h.1,c.write rm e (r.append r2) j7 h.2⟩
  ·exact h.elim
 ·exact h.elim
noncomputable def r0:U->List U->aI->UK->Prop:=fun x ws M Q=>match x,ws with
 | .ref a,[]=>match M a with
  | some (.lst us)=>Q .non (mup M a (.lst []))
  | _=>False
 | _,_=>False
noncomputable def oK:List U->aI->UK->Prop:=fun us M Q=>match us with
 | [x]=>match view M x with
  | .lst ws=>Q (.int ws.length) M
  | .tup ws=>Q (.int ws.length) M
  | .str z=>z.length<=sizeLine/\Q (.int z.length) M
  | _=>False
 | _=>False
theorem QP:qF K (fun xs H Q=>∃ x n,xs=[x]/\Tq K x H n/\Q (.int n) H) oK:=fun xs us H M Q' rm rus h Q c=>by
 unfold oK at h
 split at h
 ·rename_i x
  obtain ⟨v,vs',rfl,a1,b⟩:=rus.inv_cons
  cases b.inv_nil
  split at h
  ·rename_i ws e
   obtain ⟨b,zvs,rfl,s2,r2⟩:=dM rm a1 e
   exact ⟨_,zvs.length,rfl,.inl ⟨zvs,s2,rfl⟩,c.here rm cO (by rw [<- r2.length];exact h)⟩
  ·rename_i ws e
   have e':=qG e
   subst e'
   obtain ⟨b,zvs,rfl,s2,r2⟩:=a1.tup
   exact ⟨_,zvs.length,rfl,.inr ⟨zvs,s2,rfl⟩,c.here rm cO (by rw [<- r2.length];exact h)⟩
  ·rename_i z e
   have e':=uP e
   subst e'
   cases a1.str
   exact ⟨_,z.length,rfl,⟨h.1,rfl⟩,c.here rm cO h.2⟩
  ·exact h.elim
 ·exact h.elim
noncomputable def wZ (C:Int->Prop) (g:Int->U):List U->aI->UK->Prop:=fun us M Q=>match us with
 | [.int i]=>C i/\Q (g i) M
 | _=>False
noncomputable def oE (g:Int->Int->U):List U->aI->UK->Prop:=fun us M Q=>match us with
 | [.int i,.int j]=>Q (g i j) M
 | _=>False
theorem aS.one {H:Hp} {M:aI} {u:U} {vs:List V} (h:aS K H M [u] vs):∃ v,vs=[v]/\aY K H M u v:=by
 obtain ⟨v,vs',rfl,a1,b⟩:=h.inv_cons
 cases b.inv_nil
 exact ⟨v,rfl,a1⟩
theorem aS.two {H:Hp} {M:aI} {u w:U} {vs:List V} (h:aS K H M [u,w] vs):∃ v z,vs=[v,z]/\aY K H M u v/\aY K H M w z:=by
 obtain ⟨v,vs',rfl,a1,b⟩:=h.inv_cons
 obtain ⟨z,rfl,b1⟩:=b.one
 exact ⟨v,z,rfl,a1,b1⟩
theorem Pn:qF K (fun xs H Q=>∃ i j,xs=[.int i,.int j]/\Q (.int (if j < i then j else i)) H) (oE fun i j=>.int (if j < i then j else i)):=fun xs us H M Q' rm rus h Q c=>by
 unfold oE at h
 split at h
 ·rename_i i j
  obtain ⟨v,z,rfl,a,b⟩:=rus.two
  cases a.int
  cases b.int
  exact ⟨i,j,rfl,c.here rm cO h⟩
 ·exact h.elim
noncomputable def vY (o:Bool):List U->aI->UK->Prop:=fun us M Q=>match us with
 | [x]=>match view M x with
  | .lst ws=>kQ o ws M Q
  | .tup ws=>kQ o ws M Q
  | _=>False
 | _=>False
noncomputable def mD:List U->aI->UK->Prop:=fun us M Q=>match us with
 | [x]=>match view M x with
  | .lst ws=>Q (.tup ws) M
  | .tup ws=>Q (.tup ws) M
  | _=>False
 | _=>False
theorem Nr:qF K (fun xs H Q=>∃ p ys,xs=[.ref p]/\((dE K H p ys/\∀ l,H l=none->Q (.ref l) (upd H l (.tup ys)))\/(eE K H p ys/\Q (.ref p) H))) mD:=fun xs us H M Q' rm rus h Q c=>by
 unfold mD at h
 split at h
 ·rename_i x
  obtain ⟨v,rfl,a1⟩:=rus.one
  split at h
  ·rename_i ws e
   obtain ⟨b,zvs,rfl,s2,r2⟩:=dM rm a1 e
   exact ⟨b,zvs,rfl,.inl ⟨s2,fun l hl=>c.tup rm r2 hl h⟩⟩
  ·rename_i ws e
   have e':=qG e
   subst e'
   have a2:=a1
   obtain ⟨b,zvs,rfl,s2,r2⟩:=a1.tup
   exact ⟨b,zvs,rfl,.inr ⟨s2,c.here rm a2 h⟩⟩
  ·exact h.elim
 ·exact h.elim
noncomputable def aE (M:aI) (x:U):Option String:=match x with
 | .non=>some "NoneType"
 | .bl _=>some "bool"
 | .int _=>some "int"
 | .str _=>some "str"
 | .tup _=>some "tuple"
 | .lst _=>some "list"
 | .ref a=>match M a with
  | some (.lst _)=>some "list"
  | some (.dK _)=>some "dict"
  | some (.dT _)=>some "dict"
  | _=>none
 | .dic _ _ _=>some "dict"
 | .ty _=>none
noncomputable def zD:U->U->Option Bool
 | .non,.non=>some true
 | .non,.int _=>some false | .int _,.non=>some false | .non,.bl _=>some false | .bl _,.non=>some false | .non,.str _=>some false | .str _,.non=>some false
 | .int i,.int j=>some (decide (i=j))
 | .bl i,.bl j=>some (decide (i=j))
 | .str i,.str j=>some (decide (i=j))
 | .int _,.str _=>some false | .str _,.int _=>some false | .bl _,.str _=>some false | .str _,.bl _=>some false
 | _,_=>none
noncomputable def BE:dI:=fun x y M Q=>match zD x y with
 | some b=>Q (.bl b) M
 | none=>False
noncomputable def A4:dI:=fun x y M Q=>match zD x y with
 | some b=>Q (.bl (!b)) M
 | none=>False
theorem GQ {H:Hp} {M:aI} {x y:V} {u w:U} {b:Bool} (ru:aY K H M u x) (rw:aY K H M w y) (h:zD u w=some b):Hq x y=true/\decide (x=y)=b:=by
 cases u <;> cases w <;> simp only [zD,Option.some.injEq,reduceCtorEq] at h <;> subst h <;>
  (first
   | (cases ru.non) | (cases ru.bl) | (cases ru.int) | (cases ru.str)) <;>
  (first
   | (cases rw.non) | (cases rw.bl) | (cases rw.int) | (cases rw.str)) <;> simp [Hq]
noncomputable def aD:U->Bool
 | .non=>true
 | _=>false
noncomputable def rV:dI:=fun x y M Q=>match y with
 | .non=>Q (.bl (aD x)) M
 | _=>False
noncomputable def v9:dI:=fun x y M Q=>match y with
 | .non=>Q (.bl (!aD x)) M
 | _=>False
theorem Rm {H:Hp} {M:aI} {x:V} {u:U} (ru:aY K H M u x):decide (x=.non)=aD u:=by
 cases u with
 | non=>cases ru.non;simp [aD]
 | bl b=>cases ru.bl;simp [aD]
 | int b=>cases ru.int;simp [aD]
 | str b=>cases ru.str;simp [aD]
 | ty b=>cases ru.ty;simp [aD]
 | ref b=>cases ru.ref;simp [aD]
 | tup b=>obtain ⟨a,vs,rfl,_⟩:=ru.tup;simp [aD]
 | lst b=>obtain ⟨a,vs,rfl,_⟩:=ru.lst;simp [aD]
 | dic ks tk us=>simp only [aY] at ru;obtain ⟨a,vs,rfl,_⟩:=ru;simp [aD]
theorem RT:dG K (fun x y H Q=>y=.non/\Q (.bl (decide (x=.non))) H) rV:=fun x y u w H M Q' rm ru rw h Q c=>by
 unfold rV at h
 split at h
 ·exact ⟨rw.non,c.here rm (by rw [Rm ru];exact cL) h⟩
 ·exact h.elim
end
end U2
namespace U2
open PySem L2
noncomputable def dQ {α:Type} (k:Nat) (ix:List Nat) (σ:List (Option α)):List (Option α):=List.replicate k none++ix.map fun i=>(σ[i]?).getD none
noncomputable def Ax (k:Nat) (ix:List Nat) (wi:TI) (g:TG) (tc:TT) (te:TE):TE:=fun σ H Q=>wi σ H fun J H1=>∀ D,H1 D=none->∃ W:Nat->Nat->Hp->Prop,(∃ m,W 0 m (upd H1 D (.lst [])))/\∀ i m H,W i m H ->
 (J.stop i H/\Q (.ref D) H)\/(J.go i H/\∀ x H',J.yld i H x H'->g x (dQ k ix σ) H' fun σ2 H2=>tc σ2 H2 fun ok H3 =>
  if ok=true then te σ2 H3 fun y H4=>∃ ys,H4 D=some (.lst ys)/\ys.length < sizeLine/\∃ m',m' < m/\W (i + 1) m' (upd H4 D (.lst (ys++[y]))) else ∃ m',m' < m/\W (i + 1) m' H3)
noncomputable def UB (o:Bool) (Q:UK) (D:Addr) (ys:List U) (M:aI):Prop:=match o with
 | true=>Q (.ref D) M
 | false=>∃ M',Sub M' M/\M' D=none/\Q (.lst ys) M'
noncomputable def sV (o:Bool) (k:Nat) (ix:List Nat) (wi:UI) (g:UG) (tc:UT) (te:UE):UE:=fun τ M Q=>wi τ M fun S M1=>S.xs.length<=sizeLine/\∀ D,M1 D=none->∃ P:Nat->List U->aI->Prop,P 0 [] (mup M1 D (.lst [])) /\
 (∀ i ys M,P i ys M->S.ok M/\M D=some (.lst ys)/\ys.length<=i) /\
 (∀ i x ys M,S.xs[i]?=some x->P i ys M->g x (dQ k ix τ) M fun τ2 M2=>tc τ2 M2 fun ok M3=>if ok=true then te τ2 M3 fun y M4=>M4 D=some (.lst ys)/\P (i + 1) (ys++[y]) (mup M4 D (.lst (ys++[y]))) else P (i + 1) ys M3) /\
 ∀ ys M,P S.xs.length ys M->UB o Q D ys M
section
variable {K:PySem.W.Frag}
theorem Oq {H:Hp} {M:aI} {σ:St} {τ:SU} (k:Nat) (ix:List Nat) (r:cV K H M σ τ):cV K H M (dQ k ix σ) (dQ k ix τ):=by
 refine ⟨by simp [dQ],fun i u e=>?_⟩
 unfold dQ at e ⊢
 by_cases hi:i < k
 ·rw [List.getElem?_append_left (by simpa using hi),List.getElem?_replicate] at e
  split at e <;> cases e
 ·rw [List.getElem?_append_right (by simpa using Nat.le_of_not_lt hi),List.getElem?_map] at e ⊢
  simp only [List.length_replicate] at e ⊢
  cases q:ix[i - k]? with
  | none=>rw [q] at e;cases e
  | some j =>
   rw [q] at e
   simp only [Option.map_some,Option.some.injEq] at e ⊢
   cases z:τ[j]? with
   | none=>rw [z] at e;cases e
   | some w =>
    rw [z] at e
    simp only [Option.getD_some] at e
    subst e
    obtain ⟨v,h1,h2⟩:=r.2 j u z
    exact ⟨v,by rw [h1];rfl,h2⟩
theorem BG {o:Bool} {k:Nat} {ix:List Nat} {wi:TI} {wi':UI} {g:TG} {g':UG} {tc:TT} {tc':UT} {te:TE} {te':UE} (hi:rR K wi wi') (hg:u6 K g g') (hc:iS K tc tc') (he:b6 K te te') :
  b6 K (Ax k ix wi g tc te) (sV o k ix wi' g' tc' te'):=fun σ τ H M Q' rs rm h Q c=>by
 refine hi σ τ H M _ rs rm h _ fun J S M1 H1 s1 rm1 w h=>?_
 obtain ⟨hz,h⟩:=h
 intro D hD
 obtain ⟨P,p0,inv,turn,fin⟩:=h D (rm1.no hD)
 have sD:bE H1 M1 (upd H1 D (.lst [])) (mup M1 D (.lst [])):=bE.own rm1 hD
 have rmD:RelM K (upd H1 D (.lst [])) (mup M1 D (.lst [])):=rm1.put sD ⟨[],b8,.nil⟩
 refine ⟨fun i m H2=>∃ M2 ys,bE H1 M1 H2 M2/\RelM K H2 M2/\P i ys M2/\i<=S.xs.length/\m=S.xs.length - i,⟨_,_,[],sD,rmD,p0,Nat.zero_le _,rfl⟩,?_⟩
 rintro i m H2 ⟨M2,ys,s2,rm2,p2,hle,rfl⟩
 obtain ⟨ok2,d2,l2⟩:=inv i ys M2 p2
 by_cases hlt:i < S.xs.length
 ·obtain ⟨go,yl⟩:=w.step H2 M2 s2 rm2 ok2 i S.xs[i] (by simp [hlt])
  refine .inr ⟨go,fun x H3 y=>?_⟩
  obtain ⟨s3,rm3,ru⟩:=yl x H3 y
  have rs3:cV K H3 M2 (dQ k ix σ) (dQ k ix τ):=Oq k ix (((rs.stp s1).stp s2).stp s3)
  refine hg _ x _ _ H3 M2 _ ru rs3 rm3 (turn i S.xs[i] ys M2 (by simp [hlt]) p2) _ fun σ4 τ4 H4 M4 s4 rm4 rs4 q4=>?_
  refine hc σ4 τ4 H4 M4 _ rs4 rm4 q4 _ fun b M5 H5 s5 rm5 q5=>?_
  have s25:bE H1 M1 H5 M5:=((s2.trans s3).trans s4).trans s5
  cases b with
  | false =>
   exact ⟨S.xs.length - (i + 1),by omega,M5,ys,s25,rm5,q5,hlt,rfl⟩
  | true =>
   refine he σ4 τ4 H5 M5 _ (rs4.stp s5) rm5 q5 _ fun u v M6 H6 s6 rm6 ru6 q6=>?_
   obtain ⟨d6,p6⟩:=q6
   obtain ⟨vs,h6,r6⟩:=rm6 D _ d6
   have l6:vs.length < sizeLine:=by rw [<- r6.length];omega
   have s7:bE H6 M6 (upd H6 D (.lst (vs++[v]))) (mup M6 D (.lst (ys++[u]))):=bE.write d6
   exact ⟨vs,h6,l6,S.xs.length - (i + 1),by omega,_,ys++[u],(s25.trans s6).trans s7,rm6.put s7 ⟨_,b8,(r6.append (.cons ru6 .nil)).stp s7⟩,p6,hlt,rfl⟩
 ·have e:i=S.xs.length:=by omega
  subst e
  refine .inl ⟨w.stop H2 M2 s2 rm2 ok2,?_⟩
  have q:=fin ys M2 p2
  cases o with
  | true=>exact c _ _ M2 H2 (s1.trans s2) rm2 pM q
  | false =>
   obtain ⟨M',sb,n,q⟩:=q
   obtain ⟨vs,h6,r6⟩:=rm2 D _ d2
   have s':bE H2 M2 H2 M':=sb.less
   exact c _ _ M' H2 ((s1.trans s2).trans s') (rm2.sub sb) (uV n h6 (r6.stp s')) q
end
theorem MI {o:Bool} {k:Nat} {ix:List Nat} {wi:UI} {g:UG} {tc:UT} {te:UE} {τ:SU} {M1:aI} {Q:UK} {S:Src} (f:U->Option U) (hz:S.xs.length<=sizeLine) (hs:S.ok M1)
  (h:∀ x∈S.xs,∀ M,Sub M1 M->∀ R:Option U->aI->Prop,R (f x) M->g x (dQ k ix τ) M fun τ2 M2=>tc τ2 M2 fun ok M3=>if ok=true then te τ2 M3 fun y M4=>R (some y) M4 else R none M3)
  (q:kQ o (S.xs.filterMap f) M1 Q):S.xs.length<=sizeLine/\∀ D,M1 D=none->∃ P:Nat->List U->aI->Prop,P 0 [] (mup M1 D (.lst [])) /\
 (∀ i ys M,P i ys M->S.ok M/\M D=some (.lst ys)/\ys.length<=i) /\
 (∀ i x ys M,S.xs[i]?=some x->P i ys M->g x (dQ k ix τ) M fun τ2 M2=>tc τ2 M2 fun ok M3=>if ok=true then te τ2 M3 fun y M4=>M4 D=some (.lst ys)/\P (i + 1) (ys++[y]) (mup M4 D (.lst (ys++[y]))) else P (i + 1) ys M3) /\
 ∀ ys M,P S.xs.length ys M->UB o Q D ys M:=by
 refine ⟨hz,fun D hD=>⟨fun i ys M=>ys=(S.xs.take i).filterMap f/\M=mup M1 D (.lst ys)/\i<=S.xs.length,⟨by simp,rfl,Nat.zero_le _⟩,?_,?_,?_⟩⟩
 ·rintro i ys M ⟨rfl,rfl,hi⟩
  refine ⟨fun a e=>?_,aX,?_⟩
  ·have:=hs a e
   rw [cB (fun z=>by subst z;rw [hD] at this;cases this)]
   exact this
  ·refine Nat.le_trans (List.length_filterMap_le _ _) ?_
   rw [List.length_take];omega
 ·rintro i x ys M e ⟨rfl,rfl,hi⟩
  have hlt:i < S.xs.length:=(List.getElem?_eq_some_iff.mp e).1
  have hx:x∈S.xs:=List.mem_of_getElem? e
  have tk:(S.xs.take (i + 1)).filterMap f=(S.xs.take i).filterMap f++(f x).toList:=by
   rw [List.take_add_one,e,List.filterMap_append]
   cases q:f x <;> simp [q]
  refine h x hx (mup M1 D (.lst ((S.xs.take i).filterMap f))) ((Sub.refl M1).mup hD) (fun r M4=>match r with
   | some y=>M4 D=some (.lst ((S.xs.take i).filterMap f))/\((S.xs.take i).filterMap f++[y]=(S.xs.take (i + 1)).filterMap f/\mup M4 D (.lst ((S.xs.take i).filterMap f++[y]))=mup M1 D (.lst ((S.xs.take i).filterMap f++[y]))/\i + 1<=S.xs.length)
   | none=>(S.xs.take i).filterMap f=(S.xs.take (i + 1)).filterMap f/\M4=mup M1 D (.lst ((S.xs.take i).filterMap f))/\i + 1<=S.xs.length) ?_
  rw [tk]
  cases f x with
  | none=>exact ⟨by simp,rfl,hlt⟩
  | some y=>exact ⟨aX,rfl,bZ,hlt⟩
 ·rintro ys M ⟨rfl,rfl,hi⟩
  rw [List.take_length]
  cases o with
  | true=>exact q D hD
  | false=>exact ⟨M1,(Sub.refl M1).mup hD,hD,q⟩
end U2
namespace U2
open PySem PySem.Spec PyProof.Rows L2
theorem BB {P:Program} {w:World} {K:PySem.W.Frag} {tg:Expr} {ty:String} (z:Str) (t:Tok) (it:Addr)
  (W:∀ A':Around,A'.handled=none->Walks P w A' it [it] [it] z.cps.size (SignAt z) (fun i h=>h.IsStrIter it ty z t i))
  (hty:["enumerate","zip","dict_itemiterator","dict_reverseitemiterator","odict_iterator","itertools.zip_longest","itertools.pairwise"].contains ty=false)
  (self:∀ (A:Around) (i:Nat) (s:Shared) (Q:Value->Shared->Prop) (E:Value->Shared->Prop),s.heap.IsStrIter it ty z t i->Q (.ref it) s->wpAny (model P w) A (pyIter (.ref it)) Q E s) :
  Turn P w K tg (Ti z) [it] it (fun i h=>h.IsStrIter it ty z t i) where
 mem:=by simp
 obj:=fun i h st b hb=>by
  have e:b=it:=by simpa using hb
  subst e
  obtain ⟨o,e,c,d⟩:=st
  exact ⟨o,e,fun v z=>by rw [d] at z;cases z⟩
 keep:=fun i h h' st k=>let ⟨o,ho,r⟩:=st;⟨o,k it (by simp) o ho,r⟩
 item:=by
  intro X hP hw hK hc i pins s σ H E I hf st hg
  subst hP hw hK
  obtain ⟨f0,f1,f2,f3,f4,f5⟩:=hf it (by simp)
  refine (W X.A (I.ok.hd hc)).item i s _ E hg st fun v h' tk hv st' k=>?_
  obtain ⟨c,u,hc',rfl⟩:=hv
  have I1:Inv X pins σ H { s with heap:=h',toks:=tk }:=I.turned (t':=tk) (fun b o hb e=>k b o (by simpa using hb) e) f0 f1 f3 f4 f5
  obtain ⟨o,e,cl,d⟩:=id st'
  exact ⟨_,rfl,tT (s:={ s with heap:=h',toks:=tk }) e cl d hty ⟨.str ⟨#[c]⟩,H,I1,⟨_,rfl⟩,⟨rfl,c,hc',rfl⟩,st',fun b hb=>(hf b hb).1⟩⟩
 done:=by
  intro X hP hw hK hc i pins s σ H E I hf st hg
  subst hP hw hK
  have hg':i=z.cps.size:=hg
  subst hg'
  obtain ⟨f0,f1,f2,f3,f4,f5⟩:=hf it (by simp)
  exact (W X.A (I.ok.hd hc)).done s _ E st fun h' tk k=>⟨rfl,I.turned (t':=tk) (fun b o hb e=>k b o (by simpa using hb) e) f0 f1 f3 f4 f5⟩
 self:=self
section
variable {X:Cx} {tg:Expr}
theorem Ve {l:Expr} {tl:TE} (hl:PE X l tl):PI X tg l (SM X.K tl):=by
 intro pins s σ H R I h
 refine bP (hl pins s σ H _ I h) fun v s1 ⟨x,H1,I1,r1,q1⟩=>?_
 have fp:∀ b∈[s1.heap.objs.size],j8 X pins H1 b:=fun b hb=>by
  have e:b=s1.heap.objs.size:=by simpa using hb
  subst e
  exact I1.fpOk (Nat.le_refl _) (I1.hok.fresh (Nat.le_refl _))
 rcases q1 with ⟨a,rfl,⟨xs,hq⟩,q⟩ | ⟨a,rfl,⟨xs,hq⟩,q⟩ | ⟨z,rfl,q⟩
 ·cases r1
  obtain ⟨its,rv,p,hz⟩:=I1.list hq
  refine wpAny_pyIter_list p.isList ?_
  exact ⟨s1.heap.objs.size,[s1.heap.objs.size],_,_,H1,rfl,I1.kept (t':=s1.toks) fun b o e=>Heap.get?_push_of_some _ e,Li a _,⟨_,Heap.get?_push_size _ rfl,rfl,rfl⟩,fp,q⟩
 ·cases r1
  obtain ⟨its,rv,p,hz⟩:=I1.tuple hq
  refine wpAny_pyIter_tuple (show s1.heap.IsTuple a its.toArray from p) ?_
  exact ⟨s1.heap.objs.size,[s1.heap.objs.size],_,_,H1,rfl,I1.kept (t':=s1.toks) fun b o e=>Heap.get?_push_of_some _ e,IP a _,⟨_,Heap.get?_push_size _ rfl,rfl,rfl⟩,fp,q⟩
 ·obtain ⟨t,rfl⟩:=r1
  cases ha:z.cps.all (· < 128)
  ·refine wpAny_pyIter_wide ha ?_
   exact ⟨s1.heap.objs.size,[s1.heap.objs.size],_,_,H1,rfl,I1.kept (t':=s1.toks) fun b o e=>Heap.get?_push_of_some _ e,
    BB z t _ (fun A' hA=>Walks.strWide hA _ z t) (by decide) (fun A i s Q E st h=>wpAny_pyIter_striter_wide st h),⟨_,Heap.get?_push_size _ rfl,rfl,rfl⟩,fp,q⟩
  ·refine wpAny_pyIter_ascii ha ?_
   exact ⟨s1.heap.objs.size,[s1.heap.objs.size],_,_,H1,rfl,I1.kept (t':=s1.toks) fun b o e=>Heap.get?_push_of_some _ e,
    BB z t _ (fun A' hA=>Walks.strAscii hA _ z t) (by decide) (fun A i s Q E st h=>wpAny_pyIter_striter_ascii st h),⟨_,Heap.get?_push_size _ rfl,rfl,rfl⟩,fp,q⟩
end
section
variable {prog:Program} {w:World} {A:Around} {R:Result->Shared->Prop} {s:Shared}
theorem Eg {elt target iter:Expr} {ifs:List Expr} {scope:Scope} {pos:Pos} {it acc:Value} {env:Env} (I:Nat->Shared->Prop)
  (turn:∀ n s,I n s->wpAny (model prog w) A (pyNext it) (fun r s₁=>match r with
   | none=>R (.ok .next) s₁
   | some v=>wpAny (model prog w) A (letOwnedTupleGo target it v) (fun _ s₀=>wpAny (model prog w) A (assign target env v) (fun _ s₂ =>
     wpAny (model prog w) A (forIn ifs true fun c r=>if r=true then do let ok <- isTrue c env (eval c env);pure (ForInStep.yield ok) else pure (ForInStep.yield r)) (fun ok s₃ =>
      if ok=true then wpAny (model prog w) A (eval elt env) (fun x s₄ =>
       wpAny (model prog w) A (call (.builtin "list.append") [acc,x]) (fun _ s₅=>∃ m,m < n/\I m s₅) (fun _ _=>False) s₄) (fun _ _=>False) s₃
      else ∃ m,m < n/\I m s₃) (fun _ _=>False) s₂) (fun _ _=>False) s₀) (fun _ _=>False) s₁) (fun _ _=>False) s)
  (n:Nat) (h:I n s) :
  codeAny (model prog w) A (.compLoop (.ListComp elt [⟨target,iter,ifs,0⟩] scope pos) 0 it acc env) R s:=by
 refine codeAny_loop rfl I (fun n s hI=>?_) n h
 show wpAny _ A ((compTurn (.ListComp elt [⟨target,iter,ifs,0⟩] scope pos) 0 it acc env).onRaise (fun x=>do noteFrame x env;theTreesLotGoes x)) _ _ s
 refine wpAny_noted ?_
 rw [compTurn_list]
 refine wpAny_bind (wpAny_standAt (wpAny_bind (wpAny_mono (turn n s hI) (fun r s₁ h₁=>?_) fun _ _ h'=>h'.elim)))
 cases r with
 | none=>exact wpAny_pure h₁
 | some v =>
  refine wpAny_bind (wpAny_mono h₁ (fun _ s₀ h₀=>?_) fun _ _ h'=>h'.elim)
  refine wpAny_bind (wpAny_mono h₀ (fun _ s₂ h₂=>wpAny_bind (wpAny_mono h₂ (fun ok s₃ h₃=>?_) fun _ _ h'=>h'.elim)) fun _ _ h'=>h'.elim)
  cases ok with
  | false=>exact wpAny_pure ⟨rfl,h₃⟩
  | true =>
   exact wpAny_bind (wpAny_bind (wpAny_mono h₃ (fun x s₄ h₄=>wpAny_bind (wpAny_mono h₄ (fun _ s₅ h₅=>wpAny_pure (wpAny_pure ⟨rfl,h₅⟩)) fun _ _ h'=>h'.elim)) fun _ _ h'=>h'.elim))
theorem pV {env:Env}:∀ (names:List (Str × NameKind)) (cs:List (Str × Addr)),(∀ x∈names,x.2=.free->∃ c,env.cells.lookup x.1=some c) ->
  (∀ x c,cs.lookup x=some c->env.cells.lookup x=some c) ->
  ∃ cl,(forIn names cs fun (x:Str × NameKind) (cs:List (Str × Addr))=>(if (x.2 == NameKind.free)=true then do let c <- cellOf env x.1;pure (ForInStep.yield ((x.1,c) :: cs)) else pure (ForInStep.yield cs):Sem (ForInStep (List (Str × Addr)))))=pure cl /\
   (∀ x c,cl.lookup x=some c->env.cells.lookup x=some c)/\(∀ x,(∃ c,cs.lookup x=some c)\/(x,NameKind.free)∈names->∃ c,cl.lookup x=some c)
 | [],cs,_,h=>⟨cs,rfl,h,fun x hx=>by rcases hx with hx | hx;exact hx;cases hx⟩
 | (n,k) :: r,cs,hf,h=>by
  rw [List.forIn_cons]
  by_cases hk:k=.free
  ·subst hk
   obtain ⟨c,hc⟩:=hf (n,.free) List.mem_cons_self rfl
   have e:cellOf env n=pure c:=by unfold cellOf;rw [hc]
   simp only [beq_self_eq_true,if_true,e,pure_bind]
   obtain ⟨cl,h1,h2,h3⟩:=pV r ((n,c) :: cs) (fun x hx=>hf x (List.mem_cons_of_mem _ hx)) (fun x d q=>by
    rw [List.lookup_cons] at q
    split at q
    ·rename_i e;cases q;rw [beq_iff_eq.mp e];exact hc
    ·exact h x d q)
   refine ⟨cl,h1,h2,fun x hx=>h3 x ?_⟩
   rcases hx with ⟨d,hd⟩ | hx
   ·left
    rw [List.lookup_cons]
    split
    ·exact ⟨_,rfl⟩
    ·exact ⟨d,hd⟩
   ·rcases List.mem_cons.mp hx with e | hx
    ·left;cases e;exact ⟨c,by simp [List.lookup_cons]⟩
    ·exact .inr hx
  ·have hb:(k == NameKind.free)=false:=by simpa using hk
   simp only [hb,Bool.false_eq_true,if_false,pure_bind]
   obtain ⟨cl,h1,h2,h3⟩:=pV r cs (fun x hx=>hf x (List.mem_cons_of_mem _ hx)) h
   refine ⟨cl,h1,h2,fun x hx=>h3 x ?_⟩
   rcases hx with hx | hx
   ·exact .inl hx
   ·rcases List.mem_cons.mp hx with e | hx
    ·cases e;exact absurd rfl hk
    ·exact .inr hx
theorem Ja {env:Env} {scope:Scope} (hf:∀ x∈scope.names,x.2=.free->∃ c,env.cells.lookup x.1=some c) :
  ∃ cl,closureFor scope env=pure cl/\(∀ x c,cl.lookup x=some c->env.cells.lookup x=some c)/\(∀ x,(x,NameKind.free)∈scope.names->∃ c,cl.lookup x=some c):=by
 obtain ⟨cl,h1,h2,h3⟩:=pV (env:=env) scope.names [] hf (fun x c h=>by cases h)
 refine ⟨cl,?_,h2,fun x hx=>h3 x (.inr hx)⟩
 unfold closureFor
 first
  | exact h1
  | (have:_:=h1;simpa using this)
end
noncomputable def dF (X:Cx) (N:List Str) (scope:Scope) (cl:List (Str × Addr)) (C:Addr) (s:Shared) (H:Hp) (fp:List Addr):Cx where
 prog:=X.prog
 w:=X.w
 K:=X.K
 mg:=X.mg
 base:=X.base
 A:=X.A
 N:=N
 s₀:=s
 H₀:=H
 env:=compEnvC scope cl C X.env
 outer:=X.stack
 stack:=X.stack
 ex:=fp
 fn:=fun _=>false
 calm:=X.calm
 pn:=[]
 xe:=fun _ _=>False
noncomputable def Gv (X:Cx) (ifs:List Expr) (t:TT):Prop :=
 ∀ (pins:List (Addr × Obj)) (s:Shared) (σ:L2.St) (H:Hp) (Q:Bool->Hp->Prop),Inv X pins σ H s->t σ H Q ->
  wpAny (model X.prog X.w) X.A (forIn ifs true fun c r=>if r=true then do let ok <- isTrue c X.env (eval c X.env);pure (ForInStep.yield ok) else pure (ForInStep.yield r)) (TP X pins σ Q) X.xe s
noncomputable def Uc:TT:=fun _ H Q=>Q true H
theorem Sl {X:Cx}:Gv X [] Uc:=fun pins s σ H Q I h=>wpAny_tests_nil ⟨H,I,h⟩
theorem RM {X:Cx} {c:Expr} {t:TT} (h:PT X c t):Gv X [c] t:=fun pins s σ H Q I q=>wpAny_tests_one (h pins s σ H Q I q)
noncomputable def GK (k:Nat) (g:TG):Prop:=∀ x σ H Q,g x σ H Q->g x σ H (fun σ2 H2=>(∀ j,k<=j->σ2[j]?=σ[j]?)/\Q σ2 H2)
noncomputable def KD (k:Nat) (g:m6):Prop:=∀ xs σ H Q,g xs σ H Q->g xs σ H (fun σ2 H2=>(∀ j,k<=j->σ2[j]?=σ[j]?)/\Q σ2 H2)
theorem QN {k i:Nat} (h:i < k):GK k (qV i):=fun x σ H Q q=>⟨fun j hj=>by rw [List.getElem?_set,if_neg (by omega)],q⟩
theorem Tg {k:Nat}:KD k AY:=fun xs σ H Q q=>⟨q.1,fun j _=>rfl,q.2⟩
theorem Rv {k:Nat} {g:TG} {r:m6} (h1:GK k g) (h2:KD k r) (m2:∀ xs σ H Q Q',(∀ σ2 H2,Q σ2 H2->Q' σ2 H2)->r xs σ H Q->r xs σ H Q') (m1:∀ x σ H Q Q',(∀ σ2 H2,Q σ2 H2->Q' σ2 H2)->g x σ H Q->g x σ H Q'):KD k (w9 g r):=fun xs σ H Q q=>by
 obtain ⟨v,r',rfl,q⟩:=q
 refine ⟨v,r',rfl,m1 _ _ _ _ _ (fun σ2 H2 z=>?_) (h1 _ _ _ _ q)⟩
 exact m2 _ _ _ _ _ (fun σ3 H3 y=>⟨fun j hj=>(y.1 j hj).trans (z.1 j hj),y.2⟩) (h2 _ _ _ _ z.2)
theorem Vl {i:Nat}:∀ x σ H (Q Q':L2.St->Hp->Prop),(∀ σ2 H2,Q σ2 H2->Q' σ2 H2)->qV i x σ H Q->qV i x σ H Q':=fun x σ H Q Q' h q=>h _ _ q
theorem VO:∀ xs σ H (Q Q':L2.St->Hp->Prop),(∀ σ2 H2,Q σ2 H2->Q' σ2 H2)->AY xs σ H Q->AY xs σ H Q':=fun x σ H Q Q' h q=>⟨q.1,h _ _ q.2⟩
theorem Uv {g:TG} {r:m6} (m1:∀ x σ H Q Q',(∀ σ2 H2,Q σ2 H2->Q' σ2 H2)->g x σ H Q->g x σ H Q') (m2:∀ xs σ H Q Q',(∀ σ2 H2,Q σ2 H2->Q' σ2 H2)->r xs σ H Q->r xs σ H Q') :
  ∀ xs σ H (Q Q':L2.St->Hp->Prop),(∀ σ2 H2,Q σ2 H2->Q' σ2 H2)->w9 g r xs σ H Q->w9 g r xs σ H Q':=fun xs σ H Q Q' h q=>by
 obtain ⟨v,r',rfl,q⟩:=q
 exact ⟨v,r',rfl,m1 _ _ _ _ _ (fun σ2 H2 z=>m2 _ _ _ _ _ h z) q⟩
theorem Vf {K:PySem.W.Frag} {k n:Nat} {r:m6} (h:KD k r):GK k (B4 K n r):=fun x σ H Q q=>by
 obtain ⟨a,xs,rfl,h1,h2,q⟩:=q
 exact ⟨a,xs,rfl,h1,h2,h _ _ _ _ q⟩
theorem VH {K:PySem.W.Frag} {n:Nat} {r:m6} (m2:∀ xs σ H Q Q',(∀ σ2 H2,Q σ2 H2->Q' σ2 H2)->r xs σ H Q->r xs σ H Q') :
  ∀ x σ H (Q Q':L2.St->Hp->Prop),(∀ σ2 H2,Q σ2 H2->Q' σ2 H2)->B4 K n r x σ H Q->B4 K n r x σ H Q':=fun x σ H Q Q' h q=>by
 obtain ⟨a,xs,rfl,h1,h2,q⟩:=q
 exact ⟨a,xs,rfl,h1,h2,m2 _ _ _ _ _ h q⟩
theorem zG {X:Cx} {tg elt iter:Expr} {ifs:List Expr} {scope:Scope} {pos:Pos} {N:List Str} {k:Nat} {ix:List Nat} {wi:TI} {g:TG} {tc:TT} {te:TE}
  (hc:X.calm=true) (hi:PI X tg iter wi) (gk:GK k g)
  (hk:scope.kind=.function) (hcell:∀ y∈scope.names,y.2≠.cell) (hnames:∀ y∈scope.names,y.2=.local->scope.names.lookup y.1=some .local)
  (hfree:∀ y∈scope.names,y.2=.free->X.env.kindOf y.1=some .cell\/X.env.kindOf y.1=some .free)
  (hone:∀ y∈scope.names,y.2=.free->scope.names.lookup y.1=some .free)
  (hN:∀ (j:Nat) x,N[k + j]?=some x->∃ i,ix[j]?=some i/\X.N[i]?=some x)
  (hcap:∀ (j:Nat) x,N[k + j]?=some x->scope.names.lookup x=some .free)
  (hlen:N.length=k + ix.length)
  (hg:∀ cl C s H fp,PG (dF X N scope cl C s H fp) tg g)
  (hif:∀ cl C s H fp,Gv (dF X N scope cl C s H fp) ifs tc)
  (he:∀ cl C s H fp,PE (dF X N scope cl C s H fp) elt te)
  (hs:∀ x,foldedSetIterable iter X.env x=pure x) {pins:List (Addr × Obj)} {s:Shared} {σ:L2.St} {H:Hp} {Q:VK} (I:L2.Inv X pins σ H s) (h:Ax k ix wi g tc te σ H Q) {pos':Pos} {use:Option (Value->Sem Unit)} {QQ:Value->Shared->Prop}
  (end_:∀ (D C:Addr) (H3:Hp) (s4:Shared),L2.Inv X pins σ H3 s4->(∃ m,s4.heap.Ns C m)->H3 C=none->C≠X.env.locals->X.s₀.heap.objs.size<=C->(∀ x c,X.env.cells.lookup x=some c->c≠C)->(∀ p∈X.pn++pins,p.1≠C) ->
   (∀ h':Heap,Heap.SameBut C s4.heap h'->L2.Inv X pins σ H3 { s4 with heap:=h' })->Q (.ref D) H3->compPost (model X.prog X.w) X.A X.xe use QQ (.ref D) C (.ok .next) s4) :
  wpAny (model X.prog X.w) X.A (comprehension (.ListComp elt [⟨tg,iter,ifs,0⟩] scope pos) scope X.env pos' (newList []) false (eval iter X.env) use) QQ X.xe s:=by
 obtain ⟨cl,hclos,hcl,hcl2⟩:=Ja (env:=X.env) (scope:=scope) (fun x hx e=>I.ok.has x.1 (hfree x hx e))
 refine wpAny_comprehension_free (use:=use) rfl hs hclos hk hnames (bP (hi pins s σ H _ I h) fun v s1 h1=>bP h1 fun itv s2 h2=>?_)
 obtain ⟨it,fp,tn,J,H2,rfl,I2,T,j2,f2,h2⟩:=h2
 refine wpAny_newObj_type (wpAny_newFunctionEnv hcell (by intro y hy;simp at hy) (fun h₁ hns₁ hsb₁=>?_) hk)
 dsimp only at hns₁ hsb₁ ⊢
 generalize hP:s2.heap.push { cls:=.type "list",dict:=none,data:=.seq ([]:List Value).toArray }=P2 at hns₁ hsb₁ ⊢
 have hCs:P2.objs.size=s2.heap.objs.size + 1:=by rw [<- hP,Heap.size_push]
 have below:∀ b,b < s2.heap.objs.size->b≠P2.objs.size:=fun b hb=>by rw [hCs];omega
 have old:∀ b o,s2.heap.get? b=some o->h₁.get? b=some o:=fun b o e=>hsb₁.extBut b o (below b (Heap.lt_size e)) (Heap.get?_push_of_some _ (hP ▸ Heap.get?_push_of_some _ e))
 have hacc:h₁.get? s2.heap.objs.size=some { cls:=.type "list",dict:=none,data:=.seq ([]:List Value).toArray }:=hsb₁.extBut _ _ (show s2.heap.objs.size≠P2.objs.size by rw [hCs];exact Nat.ne_of_lt (Nat.lt_succ_self _)) (Heap.get?_push_of_some _ (hP ▸ Heap.get?_push_size _ rfl))
 obtain ⟨W,⟨m0,w0⟩,turn⟩:=h2 s2.heap.objs.size (I2.hok.fresh (Nat.le_refl _))
 have fpl:∀ b∈fp,b < s2.heap.objs.size:=fun b hb=>let ⟨o,e,_⟩:=T.obj _ _ j2 b hb;Heap.lt_size e
 have σl:(dQ k ix σ).length=N.length:=by rw [hlen];simp [dQ]
 have i2:=I2.ok
 have ok':(dF X N scope cl P2.objs.size s2 H2 fp).Ok:=by
  refine ⟨i2.mod,hk,i2.glob,i2.blt,(by show s2.heap.objs.size<=P2.objs.size;rw [hCs];exact Nat.le_succ _),fun x y c e1 e2=>i2.inj x y c (hcl x c e1) (hcl y c e2),fun x hx=>?_,(fun x c e=>by cases e),i2.hd,i2.frames,.inl rfl,fun b hb=>?_,fun b o e=>I2.bs b o e,Nat.le_trans i2.bsz I2.sz,fun b o e hb=>?_,fun b hb hb2=>?_,I2.stack,I2.stkFree⟩
  ·
   have hx':(relabel scope X.env).names.lookup x=some .cell\/(relabel scope X.env).names.lookup x=some .free:=hx
   have key:∀ (names:List (Str × NameKind)),(∀ y∈names,y.2≠.cell)->((names.map fun (n,k)=>if (k == NameKind.free && X.env.scope.kind == .function && X.env.kindOf n == some .cell) then (n,NameKind.cell) else (n,k)).lookup x=some .cell \/
     (names.map fun (n,k)=>if (k == NameKind.free && X.env.scope.kind == .function && X.env.kindOf n == some .cell) then (n,NameKind.cell) else (n,k)).lookup x=some .free)->(x,NameKind.free)∈names:=by
    intro names
    induction names with
    | nil=>intro _ h;rcases h with h | h <;> cases h
    | cons y r ih =>
     obtain ⟨n,kd⟩:=y
     intro hnc h
     by_cases hxn:x=n
     ·subst hxn
      have hkc:kd≠.cell:=hnc (x,kd) List.mem_cons_self
      by_cases hkf:kd=.free
      ·subst hkf;exact List.mem_cons_self
      ·exfalso
       have hb:(kd == NameKind.free)=false:=by simpa using hkf
       simp only [List.map_cons,hb,Bool.false_and,Bool.false_eq_true,if_false,List.lookup_cons,beq_self_eq_true] at h
       rcases h with h | h
       ·exact hkc (Option.some.inj h)
       ·exact hkf (Option.some.inj h)
     ·have hb:(x == n)=false:=by simpa using hxn
      refine List.mem_cons_of_mem _ (ih (fun y hy=>hnc y (List.mem_cons_of_mem _ hy)) ?_)
      have e1:∀ z:NameKind,List.lookup x (((n,z)) :: (r.map fun (n,k)=>if (k == NameKind.free && X.env.scope.kind == .function && X.env.kindOf n == some .cell) then (n,NameKind.cell) else (n,k)))=List.lookup x (r.map fun (n,k)=>if (k == NameKind.free && X.env.scope.kind == .function && X.env.kindOf n == some .cell) then (n,NameKind.cell) else (n,k)):=fun z=>by rw [List.lookup_cons,hb]
      rw [List.map_cons] at h
      dsimp only at h
      split at h
      ·rw [e1] at h;exact h
      ·rw [e1] at h;exact h
   exact hcl2 x (key scope.names hcell hx')
  ·exact ⟨below b (fpl b hb),fun x c e=>(f2 b hb).2.2.2.2.1 x c (hcl x c e)⟩
  ·rcases (f2 b hb).2.2.2.1 with z | z
   ·exact i2.noex b o e z
   ·exact absurd (Nat.lt_of_lt_of_le (Heap.lt_size e) (Nat.le_trans i2.bsz z)) (Nat.lt_irrefl _)
  ·rcases List.mem_cons.mp (I2.stkSub b hb2) with z | z
   ·exact (f2 b hb).2.1 z
   ·exact (f2 b hb).2.2.1 z
 have stat:∀ {H':Hp},(∀ b∈fp,H' b=none)->∀ b∈fp,j8 (dF X N scope cl P2.objs.size s2 H2 fp) [] H' b:=fun hn b hb =>
  ⟨hn b hb,below b (fpl b hb),fun z=>ok'.exfs b hb z,.inl hb,fun x c e=>(f2 b hb).2.2.2.2.1 x c (hcl x c e),(fun p hp=>by cases hp)⟩
 have hD:H2 s2.heap.objs.size=none:=I2.hok.fresh (Nat.le_refl _)
 have relf:∀ x,scope.names.lookup x=some .free->(X.env.kindOf x=some .cell\/X.env.kindOf x=some .free)->((relabel scope X.env).names.lookup x=some .cell\/(relabel scope X.env).names.lookup x=some .free):=by
  intro x hx hkx
  have key:∀ (names:List (Str × NameKind)),names.lookup x=some .free->((names.map fun (n,k)=>if (k == NameKind.free && X.env.scope.kind == .function && X.env.kindOf n == some .cell) then (n,NameKind.cell) else (n,k)).lookup x=some .cell \/
    (names.map fun (n,k)=>if (k == NameKind.free && X.env.scope.kind == .function && X.env.kindOf n == some .cell) then (n,NameKind.cell) else (n,k)).lookup x=some .free):=by
   intro names
   induction names with
   | nil=>intro h;cases h
   | cons y r ih =>
    obtain ⟨n,kd⟩:=y
    intro h
    rw [List.lookup_cons] at h
    by_cases hxn:x=n
    ·subst hxn
     simp only [beq_self_eq_true] at h
     cases h
     rw [List.map_cons]
     dsimp only
     split
     ·left;simp [List.lookup_cons]
     ·right;simp [List.lookup_cons]
    ·have hb:(x == n)=false:=by simpa using hxn
     rw [hb] at h
     have:=ih h
     rw [List.map_cons]
     dsimp only
     split
     ·rw [List.lookup_cons,hb];exact this
     ·rw [List.lookup_cons,hb];exact this
  exact key scope.names hx
 have Istart:∀ tk,Inv (dF X N scope cl P2.objs.size s2 H2 fp) [] (dQ k ix σ) (upd H2 s2.heap.objs.size (.lst [])) { s2 with heap:=h₁,toks:=tk }:=fun tk=>by
  refine ⟨ok',rfl,I2.bare,Un.laid old (Nat.le_refl _) hD,⟨_,hns₁,fun i x v e1 e2 e3=>?_⟩,fun x c e=>?_,?_,fun x c e=>?_,(fun p hp=>by cases hp),I2.hok.laid old (Nat.le_refl _) ⟨Nat.zero_le _,[],_,.nil,hacc⟩,σl⟩
  ·by_cases hik:i < k
   ·exfalso
    unfold dQ at e2
    rw [List.getElem?_append_left (by simpa using hik),List.getElem?_replicate] at e2
    split at e2 <;> cases e2
   ·have ej:i=k + (i - k):=by omega
    have e1':N[k + (i - k)]?=some x:=by rw [<- ej];exact e1
    obtain ⟨i0,hi0,hXN⟩:=hN (i - k) x e1'
    have hfx:=hcap (i - k) x e1'
    have hmem:(x,NameKind.free)∈scope.names:=PySem.mem_of_lookup hfx
    have hkx:=hfree _ hmem rfl
    have e4:σ[i0]?=some (some v):=by
     unfold dQ at e2
     rw [List.getElem?_append_right (by simpa using Nat.le_of_not_lt hik),List.getElem?_map] at e2
     simp only [List.length_replicate,hi0,Option.map_some,Option.some.injEq] at e2
     cases z:σ[i0]? with
     | none=>rw [z] at e2;cases e2
     | some y=>rw [z] at e2;simp only [Option.getD_some] at e2;rw [e2]
    obtain ⟨m2,hn2,hl2⟩:=I2.loc
    obtain ⟨u,ru,lk⟩:=hl2 i0 x v hXN e4 (by rcases hkx with z | z;exact .inr (.inl z);exact .inr (.inr z))
    rcases lk with ⟨z,_⟩ | ⟨_,c,hc1,hc2⟩
    ·exfalso
     have z':X.env.kindOf x=some .local:=z
     rcases hkx with y | y <;> (rw [z'] at y;cases y)
    ·obtain ⟨c',hc'⟩:=hcl2 x hmem
     have e5:=hcl x c' hc'
     rw [hc1] at e5;cases e5
     obtain ⟨o,ho,hd⟩:=hc2
     exact ⟨u,ru,.inr ⟨relf x hfx hkx,c,hc',o,old _ _ ho,hd⟩⟩
  ·obtain ⟨v,o,ho,hd⟩:=I2.cell x c (hcl x c e)
   exact ⟨v,o,old _ _ ho,hd⟩
  ·show upd H2 s2.heap.objs.size (.lst []) P2.objs.size=none
   rw [bD (show P2.objs.size≠s2.heap.objs.size by rw [hCs];exact Nat.succ_ne_self _)]
   exact I2.hok.fresh (show s2.heap.objs.size<=P2.objs.size by rw [hCs];exact Nat.le_succ _)
  ·have e':=hcl x c e
   obtain ⟨v,o,ho,hd⟩:=I2.cell x c e'
   rw [bD (Nat.ne_of_lt (Heap.lt_size ho))]
   exact I2.freeC x c e'
 have st1:tn 0 h₁:=T.keep 0 _ _ j2 fun b hb o e=>old b o e
 have fr1:∀ b∈fp,upd H2 s2.heap.objs.size (.lst []) b=none:=fun b hb=>by rw [bD (Nat.ne_of_lt (fpl b hb))];exact (f2 b hb).1
 have fin:∀ (H3:Hp) (s4:Shared),Inv (dF X N scope cl P2.objs.size s2 H2 fp) [] (dQ k ix σ) H3 s4->∀ h':Heap,Heap.SameBut P2.objs.size s4.heap h'->Inv X pins σ H3 { s4 with heap:=h' }:=fun H3 s4 I4 h' sb=>by
  have kp:∀ b o,b < s2.heap.objs.size->s4.heap.get? b=some o->h'.get? b=some o:=fun b o hb e=>sb.extBut b o (below b hb) e
  have u:Un (kL X.stack) fp H2 H3 s2.heap s4.heap:=I4.base
  refine I2.call' (ch:=fp) (H':=H3) I4.os ⟨fun b o q n hb hx=>kp b o (Heap.lt_size q) (u.keep b o q n hb hx),fun b o q n hb hx=>?_,u.free,fun b o q hx=>?_,u.tups,u.frzs,u.tbls⟩ (fun a o e=>?_) I4.bare fun b hb=>⟨(f2 b hb).2.2.2.1,(f2 b hb).2.1,(f2 b hb).2.2.2.2.1,(f2 b hb).2.2.2.2.2⟩
  ·obtain ⟨sl,e⟩:=u.slot b o q n hb hx
   exact ⟨sl,kp b _ (Heap.lt_size q) e⟩
  ·obtain ⟨o',e⟩:=u.there b o q hx
   exact ⟨o',kp b _ (Heap.lt_size q) e⟩
  ·have nC:H3 P2.objs.size=none:=I4.free
   refine (I4.hok a o e).stay (fun b z hb q=>sb.extBut b z ?_ q) (fun _ q=>q) fun _ _ q=>q
   rcases hb with rfl | hb
   ·exact bJ e nC
   ·exact bJ hb nC
 have loop:∀ tk,codeAny (model X.prog X.w) X.A (.compLoop (.ListComp elt [⟨tg,iter,ifs,0⟩] scope pos) 0 (.ref it) (.ref s2.heap.objs.size) (compEnvC scope cl P2.objs.size X.env))
   (compPost (model X.prog X.w) X.A X.xe use QQ (.ref s2.heap.objs.size) P2.objs.size) { s2 with heap:=h₁,toks:=tk }:=fun tk=>by
  refine Eg (fun n s'=>∃ i H',Inv (dF X N scope cl P2.objs.size s2 H2 fp) [] (dQ k ix σ) H' s'/\tn i s'.heap/\(∀ b∈fp,H' b=none)/\W i n H') ?_ m0 ⟨0,_,Istart tk,st1,fr1,w0⟩
  rintro n s3 ⟨i,H3,I3,st3,fr3,w3⟩
  rcases turn i n H3 w3 with ⟨stop,q⟩ | ⟨go,step⟩
  ·refine bP (T.done (dF X N scope cl P2.objs.size s2 H2 fp) rfl rfl rfl hc i [] s3 _ H3 (fun _ _=>False) I3 (stat fr3) st3 stop) fun r s4 ⟨hr,I4⟩=>?_
   subst hr
   obtain ⟨m,hn,_⟩:=I4.loc
   refine end_ s2.heap.objs.size P2.objs.size H3 s4 (fin H3 s4 I4 s4.heap (Heap.SameBut.refl ..)) ⟨m,hn⟩ I4.free (Ne.symm (below _ I2.lt)) (Nat.le_trans I2.sz (show s2.heap.objs.size<=P2.objs.size by rw [hCs];exact Nat.le_succ _)) (fun x c e=>?_) (fun p hp=>below _ (Heap.lt_size (I2.pin p hp).1)) (fin H3 s4 I4) q
   obtain ⟨v,o,ho,_⟩:=I2.cell x c e
   exact below _ (Heap.lt_size ho)
  ·refine bP (T.item (dF X N scope cl P2.objs.size s2 H2 fp) rfl rfl rfl hc i [] s3 _ H3 (fun _ _=>False) I3 (stat fr3) st3 go) fun r s4 ⟨u,hr,h4⟩=>?_
   subst hr
   refine bP h4 fun _ s5 ⟨x,H5,I5,r5,y5,st5,fr5⟩=>?_
   have I5':=I5.pinned (stat fr5) (T.obj _ _ st5)
   refine bP (hg cl P2.objs.size s2 H2 fp _ s5 _ H5 x u _ I5' r5 (gk _ _ _ _ (step x H5 y5))) fun _ s6 ⟨σ6,H6,I6,ag,q6⟩=>?_
   have again:∀ {s7:Shared} {H7:Hp} {m':Nat},Inv (dF X N scope cl P2.objs.size s2 H2 fp) ([]++sE fp s5.heap) σ6 H7 s7->m' < n->W (i + 1) m' H7->∃ m,m < n/\∃ i H',Inv (dF X N scope cl P2.objs.size s2 H2 fp) [] (dQ k ix σ) H' s7/\tn i s7.heap/\(∀ b∈fp,H' b=none)/\W i m H':=fun {s7 H7 m'} I7 hm w7=>by
    refine ⟨m',hm,i + 1,H7,(I7.unpinned).weak (by rw [σl];exact (I7.len).symm) (fun j v e=>?_),T.keep _ _ _ st5 fun b hb o e=>(I7.pin (b,o) (List.mem_append_right _ (List.mem_append_right _ (mP hb e)))).1,fun b hb=>?_,w7⟩
    ·by_cases hj:j < k
     ·exfalso
      unfold dQ at e
      rw [List.getElem?_append_left (by simpa using hj),List.getElem?_replicate] at e
      split at e <;> cases e
     ·rw [ag j (by omega)];exact e
    ·obtain ⟨o,e,d⟩:=T.obj _ _ st5 b hb
     exact (I7.pin (b,o) (List.mem_append_right _ (List.mem_append_right _ (mP hb e)))).2.1
   refine bP (hif cl P2.objs.size s2 H2 fp _ s6 σ6 H6 _ I6 q6) fun ok s7 ⟨H7,I7,q7⟩=>?_
   cases ok with
   | false =>
    obtain ⟨m',hm,w7⟩:=q7
    exact again I7 hm w7
   | true =>
    refine bP (he cl P2.objs.size s2 H2 fp _ s7 σ6 H7 _ I7 q7) fun y s8 ⟨yv,H8,I8,r8,ys,hD8,hz8,m',hm,w8⟩=>?_
    refine bP (zU _ s8 σ6 H8 (.ref s2.heap.objs.size) [yv] (.ref s2.heap.objs.size) [y] (fun v H9=>H9=upd H8 s2.heap.objs.size (.lst (ys++[yv]))) I8 rfl (.cons r8 .nil) ⟨_,ys,yv,rfl,rfl,hD8,hz8,rfl⟩) fun _ s9 ⟨_,H9,I9,_,e9⟩=>?_
    subst e9
    exact again I9 hm w8
 exact codeAny_compStart_list (loop _) (T.self _ 0 _ _ _ st1 (loop _))
theorem RK {X:Cx} {tg elt iter:Expr} {ifs:List Expr} {scope:Scope} {pos:Pos} {N:List Str} {k:Nat} {ix:List Nat} {wi:TI} {g:TG} {tc:TT} {te:TE}
  (hc:X.calm=true) (hi:PI X tg iter wi) (gk:GK k g)
  (hk:scope.kind=.function) (hcell:∀ y∈scope.names,y.2≠.cell) (hnames:∀ y∈scope.names,y.2=.local->scope.names.lookup y.1=some .local)
  (hfree:∀ y∈scope.names,y.2=.free->X.env.kindOf y.1=some .cell\/X.env.kindOf y.1=some .free)
  (hone:∀ y∈scope.names,y.2=.free->scope.names.lookup y.1=some .free)
  (hN:∀ (j:Nat) x,N[k + j]?=some x->∃ i,ix[j]?=some i/\X.N[i]?=some x)
  (hcap:∀ (j:Nat) x,N[k + j]?=some x->scope.names.lookup x=some .free)
  (hlen:N.length=k + ix.length)
  (hg:∀ cl C s H fp,PG (dF X N scope cl C s H fp) tg g)
  (hif:∀ cl C s H fp,Gv (dF X N scope cl C s H fp) ifs tc)
  (he:∀ cl C s H fp,PE (dF X N scope cl C s H fp) elt te)
  (hs:∀ x,foldedSetIterable iter X.env x=pure x:=by intro _;rfl) :
  PE X (.ListComp elt [⟨tg,iter,ifs,0⟩] scope pos) (Ax k ix wi g tc te):=by
 intro pins s σ H Q I h
 rw [eval_ListComp]
 refine zG (use:=none) hc hi gk hk hcell hnames hfree hone hN hcap hlen hg hif he hs I h fun D C H3 s4 I4 ⟨m,hn⟩ _ _ _ _ _ fin q=>?_
 exact ⟨m,hn,fun h' sb=>⟨.ref D,H3,fin h' sb,rfl,q⟩⟩
theorem RJ {X:Cx} {tg elt iter:Expr} {ifs:List Expr} {scope:Scope} {pos spos py:Pos} {N:List Str} {k:Nat} {ix:List Nat} {wi:TI} {g:TG} {tc:TT} {te:TE} {i:Nat} {y:Str}
  (hc:X.calm=true) (hi:PI X tg iter wi) (gk:GK k g)
  (hk:scope.kind=.function) (hcell:∀ y∈scope.names,y.2≠.cell) (hnames:∀ y∈scope.names,y.2=.local->scope.names.lookup y.1=some .local)
  (hfree:∀ y∈scope.names,y.2=.free->X.env.kindOf y.1=some .cell\/X.env.kindOf y.1=some .free)
  (hone:∀ y∈scope.names,y.2=.free->scope.names.lookup y.1=some .free)
  (hN:∀ (j:Nat) x,N[k + j]?=some x->∃ i,ix[j]?=some i/\X.N[i]?=some x)
  (hcap:∀ (j:Nat) x,N[k + j]?=some x->scope.names.lookup x=some .free)
  (hlen:N.length=k + ix.length)
  (hg:∀ cl C s H fp,PG (dF X N scope cl C s H fp) tg g)
  (hif:∀ cl C s H fp,Gv (dF X N scope cl C s H fp) ifs tc)
  (he:∀ cl C s H fp,PE (dF X N scope cl C s H fp) elt te)
  (hs:∀ x,foldedSetIterable iter X.env x=pure x) (hsw:swapsWith (.ListComp elt [⟨tg,iter,ifs,0⟩] scope pos) (some (.Name y py)) spos.line X.env=pure true)
  (hNd:X.N.Nodup) (hiy:X.N[i]?=some y) (hy:Loc X.env.scope y) (hf:X.fn y=true\/X.env.scope.names.lookup y=some .local) :
  PS X (.Assign [.Name y py] (.ListComp elt [⟨tg,iter,ifs,0⟩] scope pos) spos) (I0 (Ax k ix wi g tc te) (qV i)):=by
 intro pins s σ H D I h
 rw [exec_Assign_Name_used _ _ _ _ hsw]
 refine wpAny_bind (wpAny_standAt (wpAny_bind ?_))
 show wpAny _ X.A (do let _ <- comprehension (.ListComp elt [⟨tg,iter,ifs,0⟩] scope pos) scope X.env _ (newList []) false (eval iter X.env) (some (assign (.Name y py) X.env))) _ _ s
 refine wpAny_bind (wpAny_mono (zG (use:=some (assign (.Name y py) X.env)) (QQ:=fun _ s'=>SP X pins D .next s') hc hi gk hk hcell hnames hfree hone hN hcap hlen hg hif he hs I h fun A C H3 s4 I4 hn nC nL sC cC pC fin q=>?_) (fun _ s' hq=>wpAny_pure (wpAny_pure hq)) fun _ _ e=>e)
 show wpAny _ X.A (assign (.Name y py) X.env (.ref A)) _ _ _
 refine wpAny_assign_Name (zI (i:=i) (v:=.ref A) I4 hNd hiy hy rfl (fun s5 I5 ⟨a,sb,ha⟩=>?_) hf)
 obtain ⟨m,hn⟩:=hn
 have aC:C≠a:=by
  rcases ha with z | z
  ·rw [z];exact nL
  ·exact fun e=>cC y a z e.symm
 refine ⟨m,hn.at' fun o e=>sb.extBut C o aC e,fun h' sb'=>?_⟩
 exact ⟨_,H3,I5.turned (t':=s5.toks) (fun b o hb e=>sb'.extBut b o hb e) nC nL (.inr sC) cC pC,q⟩
section
variable {X:Cx}
theorem R4:cU X (binaryOp .Add) (HC X.K):=by
 intro pins s σ H x y v u Q I rx ry h
 obtain ⟨l,b,xs,zs,rfl,rfl,hH,hB,hz,q⟩:=h
 cases rx
 cases ry
 obtain ⟨its,r,p,hl⟩:=I.list hH
 obtain ⟨its2,r2,p2,hl2⟩:=I.list hB
 obtain ⟨⟨cls,dd,data,sl⟩,n,ho,hc,_,hd⟩:=p
 obtain ⟨⟨cls2,dd2,data2,sl2⟩,n2,ho2,hc2,_,hd2⟩:=p2
 simp only at hc hd hc2 hd2
 subst hc hd hc2 hd2
 have q1:=r.length
 have q2:=r2.length
 have e:its.toArray++its2.toArray=(its++its2).toArray:=by simp
 refine concat_meets ⟨_,ho,rfl⟩ ⟨_,ho2,rfl⟩ noFill_list_add seq_list_add PySem.F.slot_list_add PySem.F.entry_list_add (PySem.F.args_list_add_2 _ _) (list_addW l b its.toArray its2.toArray n n2 dd dd2 sl sl2 (by rw [List.size_toArray,List.size_toArray];omega)) ⟨ho,ho2,?_⟩
 rw [e]
 exact ⟨.ref _,_,I.lnew (t':=s.toks) (r.append r2) (by rw [List.length_append];omega),rfl,q _ I.fresh⟩
theorem Po:cU X (binaryOp .Add) (Bx X.K):=by
 intro pins s σ H x y v u Q I rx ry h
 obtain ⟨a,b,xs,ys,rfl,rfl,ha,hb,hz,q0,q1,q2⟩:=h
 by_cases hx:xs=[]
 ·cases rx
  cases ry
  obtain ⟨its,r1,p1,_⟩:=I.tuple ha
  obtain ⟨its2,r2,p2,_⟩:=I.tuple hb
  obtain ⟨⟨cls,dd,data,sl⟩,ho,hc,n,hd⟩:=p1
  obtain ⟨⟨cls2,dd2,data2,sl2⟩,ho2,hc2,n2,hd2⟩:=p2
  simp only at hc hd hc2 hd2
  subst hc hd hc2 hd2
  have e:its=[]:=r1.nil_iff.mpr hx
  exact concat_meets ⟨_,ho,rfl⟩ ⟨_,ho2,rfl⟩ noFill_tuple_add seq_tuple_add PySem.F.slot_tuple_add PySem.F.entry_tuple_add (PySem.F.args_tuple_add_2 _ _) (tuple_addW0 a b its.toArray its2.toArray n n2 dd dd2 sl sl2 (by rw [e];rfl)) ⟨ho,ho2,.ref b,H,I,rfl,q0 hx⟩
 ·exact Sn pins s σ H _ _ v u Q I rx ry ⟨a,b,xs,ys,rfl,rfl,ha,hb,hx,hz,q1 hx,q2 hx⟩
theorem Ut:uG X (fun x lo hi H Q=>∃ z:Str,x=.str z/\z.length<=sizeLine/\Q (.str (Txt.slice z lo hi)) H):=by
 intro pins s σ H x v vl vu lo hi sl Q I rx hs pl pu h
 obtain ⟨z,rfl,hz,q⟩:=h
 obtain ⟨t,rfl⟩:=rx
 refine ⟨"str",_,F.slot_str_getitem.lookup,typeIs_str _ _ _,?_⟩
 have fin:∀ t' k,EP X pins σ Q (.str (Txt.slice z lo hi) t') { s with toks:=k }:=fun t' k=>⟨.str (Txt.slice z lo hi),H,I.tok k,⟨t',rfl⟩,q⟩
 cases pl with
 | none=>cases pu with
  | none=>exact wpAny_getItem_str_slice (l:=none) (u:=none) (st:=none) hs rfl (post_val_or_str ⟨Nat.le_trans (Txt.slice_le z _ _) hz,fun t' k=>fin t' k⟩)
  | int j uj=>exact wpAny_getItem_str_slice (l:=none) (u:=some (j,uj)) (st:=none) hs rfl (post_val_or_str ⟨Nat.le_trans (Txt.slice_le z _ _) hz,fun t' k=>fin t' k⟩)
 | int i ui=>cases pu with
  | none=>exact wpAny_getItem_str_slice (l:=some (i,ui)) (u:=none) (st:=none) hs rfl (post_val_or_str ⟨Nat.le_trans (Txt.slice_le z _ _) hz,fun t' k=>fin t' k⟩)
  | int j uj=>exact wpAny_getItem_str_slice (l:=some (i,ui)) (u:=some (j,uj)) (st:=none) hs rfl (post_val_or_str ⟨Nat.le_trans (Txt.slice_le z _ _) hz,fun t' k=>fin t' k⟩)
theorem TJ:uG X (Tx X.K):=Rg.or (TC.or Ut)
theorem NA (hc:X.calm=true):fJ X (.builtin "all") (fun xs H Q=>∃ (p:Addr) (bs:List Bool),xs=[.ref p]/\dE X.K H p (bs.map V.bl)/\Q (.bl (bs.all fun b=>b)) H):=by
 intro pins s σ H xs us Q I r h
 obtain ⟨a,bs,rfl,ha,q⟩:=h
 obtain ⟨u,rfl,ru⟩:=vals1 r
 cases ru
 obtain ⟨its,rv,p,hz⟩:=I.list ha
 have hl:=rv.length
 have hne:a≠s.heap.objs.size:=by
  obtain ⟨o,n,e,_⟩:=p
  exact Nat.ne_of_lt (Heap.lt_size e)
 refine call_all_walk (wpAny_pyIter_list p.isList ?_)
 refine ⟨s.heap.objs.size,_,_,_,_,_,fun i=>(bs[i]?).getD false,rfl,Walks.list (show X.A.in1.handled=none from I.ok.hd hc) s.heap.objs.size a hne its.toArray,⟨⟨_,Heap.get?_push_size _ rfl,rfl,rfl⟩,?_⟩,?_,fun h' tk k=>?_⟩
 ·obtain ⟨o,n,e,c,d,z⟩:=p
  exact ⟨o,Heap.get?_push_of_some _ e,c,n,z⟩
 ·intro i v s' Q' E' hP hQ
  have hv:its[i]?=some v:=by simpa using hP
  have hi:i < bs.length:=by
   have:=(List.getElem?_eq_some_iff.mp hv).1
   rw [<- hl] at this;simpa using this
  obtain ⟨u,hu,ru⟩:=rv.get (i:=i) (x:=.bl bs[i]) (by simp [hi])
  rw [hv] at hu;cases hu
  cases ru
  refine wpAny_truthy_bool ?_
  have:(bs[i]?).getD false=bs[i]:=by simp [hi]
  rw [<- this];exact hQ
 ·have e:(List.range its.toArray.size).all (fun i=>(bs[i]?).getD false)=bs.all fun b=>b:=by
   have:its.toArray.size=bs.length:=by rw [List.size_toArray,<- hl,List.length_map]
   rw [this]
   clear this hl rv p hz k
   rw [Bool.eq_iff_iff]
   simp only [List.all_eq_true,List.mem_range]
   constructor
   ·intro h b hb
    obtain ⟨i,hi,rfl⟩:=List.mem_iff_getElem.mp hb
    have:=h i hi
    simpa [hi] using this
   ·intro h i hi
    have:=h bs[i] (List.getElem_mem hi)
    simpa [hi] using this
  rw [e]
  exact ⟨.bl _,H,I.kept (t':=tk) (fun b o e=>k b o (fun z=>Nat.lt_irrefl _ (Nat.lt_of_lt_of_le (Heap.lt_size e) (Nat.le_of_eq (show s.heap.objs.size=b from (List.mem_singleton.mp z).symm)))) (Heap.get?_push_of_some _ e)),rfl,q⟩
end
end U2
namespace U2
open PySem PySem.Spec PyProof.Rows L2
structure Dat where
 prog:Program
 w:World
 K:PySem.W.Frag
 mg:Str->Option Value
 base:Heap
 N:List Str
 sc:Scope
 k:Nat
 fn:Bool
 cod:Value:=.none
 qual:Str:=""
structure jM (D:Dat) (X:Cx):Prop where
 prog:X.prog=D.prog
 w:X.w=D.w
 K:X.K=D.K
 mg:X.mg=D.mg
 base:X.base=D.base
 N:X.N=D.N
 sc:X.env.scope=D.sc
 room:cS D.k X.A
 calm:X.calm=true
 xe:X.xe=fun _ _=>False
 fn:D.fn=true->∀ x,X.fn x=true
 cod:D.cod≠.none->X.env.code=D.cod/\X.env.qual=D.qual
 dl:D.fn=true->X.ex=[]/\X.stack=X.env :: X.outer/\X.env.frame=some X.env.locals
noncomputable def bG (D:Dat) (e:Expr) (t':UE):Prop:=∃ t,(∀ X,jM D X->PE X e t)/\b6 D.K t t'
noncomputable def mL (D:Dat) (e:Expr) (t':UT):Prop:=∃ t,(∀ X,jM D X->PT X e t)/\iS D.K t t'
noncomputable def g9 (D:Dat) (e:Expr) (t':UT):Prop:=∃ t,(∀ X,jM D X->PW X e t)/\iS D.K t t'
noncomputable def mE (D:Dat) (es:List Expr) (t':UA):Prop:=∃ t,(∀ X,jM D X->PA X es t)/\j6 D.K t t'
noncomputable def pA (D:Dat) (s:Stmt) (t':US):Prop:=∃ t,(∀ X,jM D X->PS X s t)/\iG D.K t t'
noncomputable def mJ (D:Dat) (s:List Stmt) (t':US):Prop:=∃ t,(∀ X,jM D X->mF X s t)/\iG D.K t t'
noncomputable def GV (D:Dat) (k:Nat) (e:Expr) (g':UG):Prop:=∃ g,(∀ X,jM D X->PG X e g)/\u6 D.K g g'/\GK k g/\∀ x σ H Q Q',(∀ σ2 H2,Q σ2 H2->Q' σ2 H2)->g x σ H Q->g x σ H Q'
noncomputable def Ii (D:Dat) (k:Nat) (es:List Expr) (g':v7):Prop:=∃ g,(∀ X,jM D X->MG X es g)/\xE D.K g g'/\KD k g/\∀ x σ H Q Q',(∀ σ2 H2,Q σ2 H2->Q' σ2 H2)->g x σ H Q->g x σ H Q'
noncomputable def zF (D:Dat) (tg e:Expr) (t':UI):Prop:=∃ t,(∀ X,jM D X->PI X tg e t)/\rR D.K t t'
noncomputable def PR (D:Dat) (e:Option Expr) (t':UO):Prop:=∃ t,(∀ X,jM D X->PO X e t)/\BU D.K t t'
noncomputable def Kw (D:Dat) (es:List Expr) (t':UT):Prop:=∃ t,(∀ X,jM D X->Gv X es t)/\iS D.K t t'
section
variable {D:Dat} {a b c e o:Expr} {ta tb tc te:UE} {pos:Pos}
theorem uv (i:Nat) {x:Str} (hN:D.N[i]?=some x:=by rfl) (hv:GO D.sc x:=by first | exact Or.inl rfl | exact Or.inr (Or.inl rfl) | exact Or.inr (Or.inr rfl)) (hd:(x == ("__debug__":Str))=false:=by decide)
  (hcd:(x == ("__classdict__":Str))=false:=by decide):bG D (.Name x pos) (jR i) :=
 ⟨_,fun X h=>mY (by rw [h.N];exact hN) (by rw [h.sc];exact hv) hd hcd,yX i⟩
theorem aK {i j}:bG D (.Constant (.int i) j pos) (uC (.int i)):=⟨_,fun X h=>Ua,GF⟩
theorem lW {i j}:bG D (.Constant (.bool i) j pos) (uC (.bl i)):=⟨_,fun X h=>V6,Vj⟩
theorem bR {i j}:bG D (.Constant (.str i) j pos) (uC (.str i)):=⟨_,fun X h=>SS,GC⟩
theorem nS {j}:bG D (.Constant .none j pos) (uC .non):=⟨_,fun X h=>Up,RD⟩
theorem w6 {x:Str} {i:Int} {t:Tok} (hm:D.mg x=some (.int i t)) (hg:D.sc.names.lookup x=some .globalImplicit:=by rfl) (hd:(x == ("__debug__":Str))=false:=by decide):bG D (.Name x pos) (uC (.int i)) :=
 ⟨_,fun X h=>tF (v:=.int i) (by show X.env.scope.names.lookup x=_;rw [h.sc];exact hg) (by rw [h.mg];exact hm) ⟨t,rfl⟩ hd,GF⟩
theorem Th {x:Str} {i:Str} {t:Tok} (hm:D.mg x=some (.str i t)) (hg:D.sc.names.lookup x=some .globalImplicit:=by rfl) (hd:(x == ("__debug__":Str))=false:=by decide):bG D (.Name x pos) (uC (.str i)) :=
 ⟨_,fun X h=>tF (v:=.str i) (by show X.env.scope.names.lookup x=_;rw [h.sc];exact hg) (by rw [h.mg];exact hm) ⟨t,rfl⟩ hd,GC⟩
theorem rP {x:Str} {f:Addr} (hm:D.mg x=some (.ref f)) (hg:D.sc.names.lookup x=some .globalImplicit:=by rfl) (hd:(x == ("__debug__":Str))=false:=by decide):bG D (.Name x pos) (uC (.ref f)) :=
 ⟨_,fun X h=>tF (v:=.ref f) (by show X.env.scope.names.lookup x=_;rw [h.sc];exact hg) (by rw [h.mg];exact hm) rfl hd,Gy⟩
theorem gC {x:Str} {n:String} (hm:D.mg x=none) (hv:bootBuiltins x=some (.type n):=by kernel_rfl) (hg:D.sc.names.lookup x=some .globalImplicit:=by rfl) (hn:x≠"__name__":=by decide) (hd:(x == ("__debug__":Str))=false:=by decide):bG D (.Name x pos) (uC (.ty n)) :=
 ⟨_,fun X h=>F2 (v:=.ty n) (by show X.env.scope.names.lookup x=_;rw [h.sc];exact hg) (by rw [h.mg];exact hm) hv rfl hn hd,Nw⟩
theorem sY {op:Operator} {r:R2} {r':dI} (ho:∀ X,jM D X->cU X (binaryOp op) r) (hr:dG D.K r r') (ha:bG D a ta) (hb:bG D b tb):bG D (.BinOp a op b pos) (eQ r' ta tb):=by
 obtain ⟨x,p,s⟩:=ha;obtain ⟨y,q,r⟩:=hb
 exact ⟨_,fun X h=>VJ (ho X h) (p X h) (q X h),rW hr s r⟩
theorem kT (ha:bG D a ta) (hb:bG D b tb):bG D (.BinOp a .Sub b pos) (eQ (oY fun i j=>.int (i - j)) ta tb):=sY (fun _ _=>UH) Cq ha hb
theorem oR (ha:bG D a ta) (hb:bG D b tb):bG D (.BinOp a .Mod b pos) (eQ (uI (fun _ j=>0 < j) fun i j=>.int (i % j)) ta tb):=sY (fun _ _=>Ub) nU ha hb
theorem CL (ha:bG D a ta) (hb:bG D b tb):bG D (.BinOp a .Pow b pos) (eQ (uI Ul fun i j=>.int (i ^ j.toNat)) ta tb):=sY (fun _ _=>Tf) nU ha hb
noncomputable def oH (o:Bool):dI:=fun x y M Q=>match x,y with
 | .int i,.int j=>Q (.int (i + j)) M
 | .str i,.str j=>i.length + j.length<=sizeLine/\Q (.str (i++j)) M
 | .tup us,.tup ws=>us.length + ws.length<=sizeLine/\Q (.tup (us++ws)) M
 | x,y=>nW o x y M Q
noncomputable def Qr (K:PySem.W.Frag):R2:=fun x y H Q=>rF (fun i j=>.int (i + j)) x y H Q\/((∃ i j,x=.str i/\y=.str j/\i.length + j.length<=sizeLine/\Q (.str (i++j)) H)\/(Bx K x y H Q\/HC K x y H Q))
theorem Q6 {K:PySem.W.Frag} {o:Bool}:dG K (Qr K) (oH o):=fun x y u w H M Q' rm ru rw h Q c=>by
 unfold oH at h
 split at h
 ·exact .inl (Cq x y _ _ H M Q' rm ru rw h Q c)
 ·exact .inr (.inl (OT x y _ _ H M Q' rm ru rw h Q c))
 ·exact .inr (.inr (.inl (Pl x y _ _ H M Q' rm ru rw h Q c)))
 ·exact .inr (.inr (.inr (O7 x y _ _ H M Q' rm ru rw h Q c)))
theorem bU (own:Bool:=false) (ha:bG D a ta) (hb:bG D b tb):bG D (.BinOp a .Add b pos) (eQ (oH own) ta tb) :=
 sY (r:=Qr D.K) (fun X h=>by have:=T7.or (JO.or ((Po (X:=X)).or (R4 (X:=X))));rw [h.K] at this;exact this) Q6 ha hb
theorem xD (ha:bG D a ta):bG D (.UnaryOp .USub a pos) (CA (fun x M Q=>match x with | .int i=>Q (.int (-i)) M | _=>False) ta):=by
 obtain ⟨x,p,s⟩:=ha
 refine ⟨_,fun X h=>Wa T4 (p X h),S6 (fun x u H M Q' rm ru h Q c=>?_) s⟩
 cases u with
 | int i=>exact ⟨i,ru.int,c.here rm cO h⟩
 | _=>exact h.elim
theorem Vc {op:CmpOp} {r:R2} {r':dI} (ho:∀ X,jM D X->cU X (compareOp op) r) (hr:dG D.K r r') (ha:bG D a ta) (hb:bG D b tb) (hm:behindInMarks op b=false):bG D (.Compare a [op] [b] pos) (eQ r' ta tb):=by
 obtain ⟨x,p,s⟩:=ha;obtain ⟨y,q,r⟩:=hb
 exact ⟨_,fun X h=>RE (ho X h) (p X h) (q X h) hm,rW hr s r⟩
theorem S3 {op:CmpOp} {r:R2} {r':dI} (ho:∀ X,jM D X->cU X (compareOp op) r) (hr:dG D.K r r') (ha:bG D a ta) (hb:bG D b tb) (hm:behindInMarks op b=false):mL D (.Compare a [op] [b] pos) (mQ (eQ r' ta tb)):=by
 obtain ⟨x,p,s⟩:=ha;obtain ⟨y,q,r⟩:=hb
 exact ⟨_,fun X h=>R9 (ho X h) (p X h) (q X h) hm,Cm (rW hr s r)⟩
abbrev Lm:dI:=oY fun i j=>.bl (decide (i < j))
abbrev Gr:dI:=oY fun i j=>.bl (decide (i<=j))
abbrev GH:dI:=oY fun i j=>.bl (decide (j < i))
abbrev GN:dI:=oY fun i j=>.bl (decide (j<=i))
structure kO (D:Dat) (op:CmpOp) (r':dI):Prop where
 ex:∃ r:R2,(∀ X,jM D X->cU X (compareOp op) r)/\dG D.K r r'
theorem u3:kO D .LtE Gr:=⟨⟨_,fun _ _=>V7,n8⟩⟩
theorem Bt:kO D .Gt GH:=⟨⟨_,fun _ _=>Vz,n8⟩⟩
theorem WC:kO D .GtE GN:=⟨⟨_,fun _ _=>Vv,n8⟩⟩
theorem Qo:kO D .Is rV:=⟨⟨_,fun _ _=>Uo,RT⟩⟩
def yS (neg:Bool):dI:=fun x y M Q=>match x,y with
 | .str i,.str j=>Q (.bl (if neg then !(!(Builtin.Str.occurrences j i 0 j.length 1).isEmpty) else !(Builtin.Str.occurrences j i 0 j.length 1).isEmpty)) M
 | _,_=>False
theorem VD:kO D .In (yS false):=⟨⟨_,fun _ _=>ML,fun x y u w H M Q' rm ru rw h Q c=>by
 cases u with
 | str i=>cases w with
  | str j=>exact ⟨i,j,ru.str,rw.str,c.here rm cL h⟩
  | _=>exact h.elim
 | _=>exact h.elim⟩⟩
theorem yT {op:CmpOp} {r':dI} (k:kO D op r') (ha:bG D a ta) (hb:bG D b tb) (hm:behindInMarks op b=false:=by first | exact Nz _ | with_unfolding_all rfl):bG D (.Compare a [op] [b] pos) (eQ r' ta tb) :=
 let ⟨_,h1,h2⟩:=k.ex;Vc h1 h2 ha hb hm
theorem bV {op:CmpOp} {r':dI} (k:kO D op r') (ha:bG D a ta) (hb:bG D b tb) (hm:behindInMarks op b=false:=by first | exact Nz _ | with_unfolding_all rfl):mL D (.Compare a [op] [b] pos) (mQ (eQ r' ta tb)) :=
 let ⟨_,h1,h2⟩:=k.ex;S3 h1 h2 ha hb hm
theorem VW {op op':CmpOp} {r r':dI} (k:kO D op r) (k':kO D op' r') (ha:bG D a ta) (hb:bG D b tb) (hc:bG D c tc) (hm:lastMarks [op,op'] [b,c]=false:=by with_unfolding_all rfl) :
  bG D (.Compare a [op,op'] [b,c] pos) (lV r r' ta tb tc):=by
 obtain ⟨x,p,s⟩:=ha;obtain ⟨y,q,r⟩:=hb;obtain ⟨z,u,v⟩:=hc
 obtain ⟨_,h1,h2⟩:=k.ex
 obtain ⟨_,h3,h4⟩:=k'.ex
 exact ⟨_,fun X h=>NW (h1 X h) (h3 X h) (p X h) (q X h) (u X h) hm,zA h2 h4 s r v⟩
theorem Qb {op op':CmpOp} {r r':dI} (k:kO D op r) (k':kO D op' r') (ha:bG D a ta) (hb:bG D b tb) (hc:bG D c tc) (hm:lastMarks [op,op'] [b,c]=false:=by with_unfolding_all rfl) :
  mL D (.Compare a [op,op'] [b,c] pos) (mQ (lV r r' ta tb tc)):=by
 obtain ⟨x,p,s⟩:=ha;obtain ⟨y,q,r⟩:=hb;obtain ⟨z,u,v⟩:=hc
 obtain ⟨_,h1,h2⟩:=k.ex
 obtain ⟨_,h3,h4⟩:=k'.ex
 exact ⟨_,fun X h=>Ow (h1 X h) (h3 X h) (p X h) (q X h) (u X h) hm,Cm (zA h2 h4 s r v)⟩
theorem d8 (ha:bG D a ta) (he:∀ env whole,isTrue a env whole=(do let v <- whole;standAt a.pos;holding [v] (truthy v)):=by intro _ _;rfl):mL D a (u4 ta):=by
 obtain ⟨x,p,s⟩:=ha
 refine ⟨_,fun X h=>?_,QY s⟩
 have:=PM (p X h) (he X.env)
 rw [h.K] at this
 exact this
theorem g9.pt {t:UT} (h:g9 D a t):mL D a t:=let ⟨_,p,s⟩:=h;⟨_,fun X h=>(p X h).pt,s⟩
variable {rest:List Expr} {tA tB':UT}
theorem kZ (ha:mL D a tA):g9 D (.BoolOp .And [a] pos) tA:=let ⟨_,p,s⟩:=ha;⟨_,fun X h=>Sb (p X h),s⟩
theorem jY (ha:mL D a tA):g9 D (.BoolOp .Or [a] pos) tA:=let ⟨_,p,s⟩:=ha;⟨_,fun X h=>UR (p X h),s⟩
theorem nO (ha:mL D a tA) (hb:g9 D (.BoolOp .And (b :: rest) pos) tB'):g9 D (.BoolOp .And (a :: b :: rest) pos) (vH tA tB'):=let ⟨_,p,s⟩:=ha;let ⟨_,q,r⟩:=hb;⟨_,fun X h=>Uy (p X h) (q X h),Sr s r⟩
theorem jG (ha:mL D a tA) (hb:g9 D (.BoolOp .Or (b :: rest) pos) tB'):g9 D (.BoolOp .Or (a :: b :: rest) pos) (CH tA tB'):=let ⟨_,p,s⟩:=ha;let ⟨_,q,r⟩:=hb;⟨_,fun X h=>VE (p X h) (q X h),TR s r⟩
theorem gN (ha:mL D a tA):mL D (.UnaryOp .Not a pos) (vE tA):=let ⟨_,p,s⟩:=ha;⟨_,fun X h=>UN (p X h),Rp s⟩
theorem pE {op} (ha:bG D a ta):bG D (.BoolOp op [a] pos) ta:=let ⟨_,p,s⟩:=ha;⟨_,fun X h=>SH (p X h),s⟩
theorem nJ (ha:bG D a ta) (hb:bG D (.BoolOp .And (b :: rest) pos) tb):bG D (.BoolOp .And (a :: b :: rest) pos) (fE ta tb):=let ⟨_,p,s⟩:=ha;let ⟨_,q,r⟩:=hb;⟨_,fun X h=>Uj (p X h) (q X h),NP s r⟩
theorem Na (ha:bG D a ta):bG D (.UnaryOp .Not a pos) (q8 ta):=let ⟨_,p,s⟩:=ha;⟨_,fun X h=>Tc (p X h),OH s⟩
theorem sW (hc:mL D c tA) (ha:bG D a ta) (hb:bG D b tb):bG D (.IfExp c a b pos) (BZ tA ta tb):=let ⟨_,p,s⟩:=ha;let ⟨_,q,r⟩:=hb;let ⟨_,u,v⟩:=hc;⟨_,fun X h=>PD (u X h) (p X h) (q X h),Ux v s r⟩
variable {es:List Expr} {tas:UA}
theorem aB:mE D [] oP:=⟨_,fun X h=>wW,Gs⟩
theorem aA (ha:bG D e te) (hr:mE D es tas) (hs:∀ env,starEach (e :: es) env=(false,eval e env) :: starEach es env:=by intro _;rfl):mE D (e :: es) (lR te tas):=let ⟨_,p,s⟩:=ha;let ⟨_,q,r⟩:=hr;⟨_,fun X h=>oV (p X h) (q X h) (hs _),B2 s r⟩
theorem aW {x1} (h:mE D es tas):bG D (.Tuple es x1 pos) (sF tas):=let ⟨_,p,s⟩:=h;⟨_,fun X h=>MQ (p X h),Ge s⟩
theorem dB (own:Bool:=false) (h:mE D es tas):bG D (.List es pos) (sQ own tas):=let ⟨_,p,s⟩:=h;⟨_,fun X h=>Nc (p X h),Gm s⟩
theorem aQ (ha:bG D a ta) (hb:bG D b tb) (hs:tH b:=by intro _ _;rfl):bG D (.Subscript a b pos) (eQ rB ta tb):=by
 obtain ⟨x,p,s⟩:=ha;obtain ⟨y,q,r⟩:=hb
 refine ⟨_,fun X h=>?_,rW TK s r⟩
 have:=VA (pos:=pos) U4 (p X h) (q X h) hs
 rw [h.K] at this
 exact this
theorem eM:PR D none lJ:=⟨_,fun X h=>QV,J7⟩
theorem eJ (h:bG D e te):PR D (some e) (qK te):=let ⟨_,p,s⟩:=h;⟨_,fun X h=>Sf (p X h),Oc s⟩
variable {st:Stmt} {sts body body2:List Stmt} {t u:US}
theorem bH:mJ D [] b7:=⟨_,fun X h=>RG,OQ⟩
theorem aH (h1:pA D st t) (h2:mJ D sts u):mJ D (st :: sts) (qX t u):=let ⟨_,p,s⟩:=h1;let ⟨_,q,r⟩:=h2;⟨_,fun X h=>uT (p X h) (q X h),F6 s r⟩
theorem aJ (h1:pA D st t):mJ D [st] t:=let ⟨_,p,s⟩:=h1;⟨_,fun X h=>xR (p X h),s⟩
theorem hX (he:bG D e te) (hs:∀ env,swapsWith e none pos.line env=pure false:=by intro _;rfl):pA D (.Expr e pos) (gH te):=let ⟨_,p,s⟩:=he;⟨_,fun X h=>F9 (p X h) (hs _),OF s⟩
theorem aZ (he:bG D e te):pA D (.Return (some e) pos) (cE te):=let ⟨_,p,s⟩:=he;⟨_,fun X h=>Ur (p X h),Sq s⟩
theorem bX {c:Expr} {tc:UT} (hc:mL D c tc) (ha:mJ D body t) (hb:mJ D body2 u):pA D (.If c body body2 pos) (uL tc t u):=let ⟨_,p,s⟩:=ha;let ⟨_,q,r⟩:=hb;let ⟨_,x,y⟩:=hc;⟨_,fun X h=>VI (x X h) (p X h) (q X h),R7 y s r⟩
theorem Df {c:Expr} {tc:UT} (hc:mL D c tc) (hb:mJ D body t):pA D (.While c body [] pos) (Ck tc t):=by
 obtain ⟨_,p,s⟩:=hb;obtain ⟨_,x,y⟩:=hc
 exact ⟨_,fun X h=>NJ (by rw [h.xe];exact PassesOwn.never) (x X h) (p X h),LO y s⟩
variable {k:Nat} {g:UG} {gs:v7}
theorem bW (i:Nat) {x:Str} (hN:D.N.Nodup) (hi:D.N[i]?=some x:=by rfl) (hx:Loc D.sc x:=by first | exact Or.inl rfl | exact Or.inr rfl) (hik:i < k:=by decide) (hf:D.fn=true\/D.sc.names.lookup x=some .local:=by first | exact .inl rfl | exact .inr rfl):GV D k (.Name x pos) (hName i) :=
 ⟨_,fun X h=>Rx (i:=i) (by rw [h.N];exact hN) (by rw [h.N];exact hi) (by rw [h.sc];exact hx) (by rcases hf with z | z;exact .inl (h.fn z x);exact .inr (by rw [h.sc];exact z)),mC i,QN hik,Vl⟩
theorem tG:Ii D k [] oF:=⟨_,fun X h=>Rr,O9,Tg,VO⟩
theorem iT (h1:GV D k e g) (h2:Ii D k es gs) (hs:∀ env,(assignEach (e :: es) env).map (·.2)=assign e env :: (assignEach es env).map (·.2):=by intro _;rfl):Ii D k (e :: es) (lQ g gs) :=
 let ⟨_,p,s,x,y⟩:=h1;let ⟨_,q,r,z,w⟩:=h2;⟨_,fun X h=>Pg (p X h) (q X h) (hs _),ME s r,Rv x z w y,Uv y w⟩
theorem wJ {kk:Nat} {n:Nat} (h:Ii D k es gs) (hn:∀ env,(assignEach es env).length=n:=by intro _;rfl) (hst:∀ env,(assignEach es env).findIdx? (·.1)=none:=by intro _;rfl):GV D k (.Tuple es kk pos) (lK n gs):=by
 obtain ⟨_,p,s,x,y⟩:=h
 refine ⟨_,fun X h=>?_,Of s,Vf x,VH y⟩
 have:=Vm (pos:=pos) (k:=kk) h.calm (p X h) (hn _) (hst _)
 rw [h.K] at this
 exact this
theorem bF (i:Nat) {x:Str} {pos':Pos} (hN:D.N.Nodup) (he:bG D e te) (hi:D.N[i]?=some x:=by rfl) (hx:Loc D.sc x:=by first | exact Or.inl rfl | exact Or.inr rfl) (hs:∀ env,swapsWith e (some (.Name x pos')) pos.line env=pure false:=by intro _;rfl)
  (hf:D.fn=true\/D.sc.names.lookup x=some .local:=by first | exact .inl rfl | exact .inr rfl):pA D (.Assign [.Name x pos'] e pos) (bQ te (hName i)):=by
 obtain ⟨_,p,s⟩:=he
 exact ⟨_,fun X h=>CI (i:=i) (by rw [h.N];exact hN) (by rw [h.N];exact hi) (by rw [h.sc];exact hx) (p X h) (hs _) (by rcases hf with z | z;exact .inl (h.fn z x);exact .inr (by rw [h.sc];exact z)),tR s (mC i)⟩
variable {tg iter:Expr} {wi:UI}
theorem eD (h:bG D e te):zF D tg e (qD te):=by
 obtain ⟨_,p,s⟩:=h
 refine ⟨_,fun X h=>?_,NN s⟩
 have:=Ve (tg:=tg) (p X h)
 rw [h.K] at this
 exact this
theorem mR {p:Pos} {ta:UA} (hm:D.mg "range"=none) (ha:mE D [a] ta) (hg:D.sc.names.lookup ("range":Str)=some .globalImplicit:=by rfl) (hs:∀ env,starEach [a] env=[(false,eval a env)]:=by intro _;rfl):zF D tg (.Call (.Name "range" p) [a] [] pos) (qZ ta):=by
 obtain ⟨_,q,s⟩:=ha
 exact ⟨_,fun X h=>Lr (by show X.env.scope.names.lookup _=_;rw [h.sc];exact hg) (by rw [h.mg];exact hm) (q X h) (hs _),Og s⟩
theorem fD (hi:zF D tg iter wi) (hg:GV D k tg g) (hb:mJ D body t) (hs:∀ env x,foldedSetIterable iter env x=pure x:=by intro _ _;rfl):pA D (.For tg iter body [] pos) (Jt wi g t):=by
 obtain ⟨_,p,s⟩:=hi;obtain ⟨_,q,r,_⟩:=hg;obtain ⟨_,x,y⟩:=hb
 exact ⟨_,fun X h=>SG (by rw [h.xe];exact PassesOwn.never) h.calm (p X h) (q X h) (x X h) (hs _),Sw s r y⟩
end
end U2
namespace U2
open PySem PySem.Spec PyProof.Rows L2
structure Callee (P:Program) (w:World) (K:PySem.W.Frag) (mg:Str->Option Value) (base:Heap) (j:Nat) (x:Str) (sp:cX) (dus:List U):Prop where
 ex:∃ f fd ps dvs ds,dJ P w K mg base j4 j f fd ps (fB K sp)/\mg x=some (.ref f)/\PySem.W.keepIn K (.ref f)=true/\Binds K fd ps ds/\Vals dvs ds/\∀ H M,aS K H M dus dvs
abbrev W3 (D:Dat):=Callee D.prog D.w D.K D.mg D.base
section
variable {D:Dat} {a b c e o:Expr} {ta tb tc te:UE} {pos p:Pos} {es:List Expr} {tas:UA} {x:Str}
theorem aV {sp:cX} {dus:List U} {j:Nat} (F:W3 D j x sp dus) (ha:mE D (e :: es) tas) (hj:j<=D.k:=by first | exact Nat.le_refl _ | (dsimp only;omega) | omega | (dsimp only [cJ];omega)) (hg:D.sc.names.lookup x=some .globalImplicit:=by rfl) (hdb:(x == ("__debug__":Str))=false:=by decide)
  (he:∀ env,starEach (e :: es) env=(false,eval e env) :: starEach es env:=by intro _;rfl) (hpl:∀ env,(backTo pos (starEach es env)).any (·.1)=false:=by intro _;rfl):bG D (.Call (.Name x p) (e :: es) [] pos) (qW sp dus tas):=by
 obtain ⟨f,fd,ps,dvs,ds,F,hm,kp,hb,hd,hr⟩:=F.ex
 obtain ⟨_,q,s⟩:=ha
 refine ⟨JJ (fB D.K sp) dvs E0 _,fun X h=>?_,Pz hr s⟩
 have F':dJ X.prog X.w X.K X.mg X.base j4 j f fd ps (fB D.K sp):=by rw [h.prog,h.w,h.K,h.mg,h.base];exact F
 exact QK F' (h.room.mono hj) (by show X.env.scope.names.lookup x=_;rw [h.sc];exact hg) (by rw [h.mg];exact hm) (by rw [h.K];exact kp) (by rw [h.K];exact hb) hd P9 (q X h) hdb (he _) (hpl _)
structure wY (D:Dat) (f:Value) (r':List U->aI->UK->Prop):Prop where
 ex:∃ r,(∀ X,jM D X->fJ X f r)/\qF D.K r r'
theorem cQ {id:String} {r':List U->aI->UK->Prop} (k:wY D (.builtin id) r') (hm:D.mg x=none) (ha:mE D (e :: es) tas) (hv:bootBuiltins x=some (.builtin id):=by kernel_rfl) (hg:D.sc.names.lookup x=some .globalImplicit:=by rfl) (hn:x≠"__name__":=by decide) (hdb:(x == ("__debug__":Str))=false:=by decide)
  (he:∀ env,starEach (e :: es) env=(false,eval e env) :: starEach es env:=by intro _;rfl) (hpl:∀ env,(backTo pos (starEach es env)).any (·.1)=false:=by intro _;rfl):bG D (.Call (.Name x p) (e :: es) [] pos) (sR r' tas):=by
 obtain ⟨r,h1,h2⟩:=k.ex
 obtain ⟨_,q,s⟩:=ha
 exact ⟨_,fun X h=>B8 (h1 X h) (by show X.env.scope.names.lookup x=_;rw [h.sc];exact hg) (by rw [h.mg];exact hm) hv (q X h) hn hdb (he _) (hpl _),BV h2 s⟩
theorem WK {T:String} {r':List U->aI->UK->Prop} (k:wY D (.type T) r') (hm:D.mg x=none) (ha:mE D (e :: es) tas) (hv:bootBuiltins x=some (.type T):=by kernel_rfl) (hg:D.sc.names.lookup x=some .globalImplicit:=by rfl) (hn:x≠"__name__":=by decide) (hdb:(x == ("__debug__":Str))=false:=by decide)
  (he:∀ env,starEach (e :: es) env=(false,eval e env) :: starEach es env:=by intro _;rfl) (hpl:∀ env,(backTo pos (starEach es env)).any (·.1)=false:=by intro _;rfl):bG D (.Call (.Name x p) (e :: es) [] pos) (sR r' tas):=by
 obtain ⟨r,h1,h2⟩:=k.ex
 obtain ⟨_,q,s⟩:=ha
 exact ⟨_,fun X h=>Mn (h1 X h) (by show X.env.scope.names.lookup x=_;rw [h.sc];exact hg) (by rw [h.mg];exact hm) hv (q X h) hn hdb (he _) (hpl _),BV h2 s⟩
theorem gI:wY D (.builtin "len") oK:=⟨⟨_,fun X h=>by have:=Od (X:=X);rw [h.K] at this;exact this,QP⟩⟩
theorem VQ:wY D (.builtin "min") (oE fun i j=>.int (if j < i then j else i)):=⟨⟨_,fun X h=>LS h.calm,Pn⟩⟩
theorem QX:wY D (.type "tuple") mD:=⟨⟨_,fun X h=>by have:=Am (X:=X);rw [h.K] at this;exact this,Nr⟩⟩
noncomputable def T8 (K:PySem.W.Frag):List V->Hp->VK->Prop:=fun xs H Q=>∃ x T t b,xs=[x,.ty T]/\(lM K H x (.type t)\/(t="tuple"/\∃ p vs ob,x=.ref p/\H p=some (.frz ob (.tup vs)))\/(t="tuple"/\∃ p vs,x=.ref p/\KT K p vs)\/(t="list"/\∃ p vs,x=.ref p/\KL K p vs)\/(t="dict"/\∃ p ob u,x=.ref p/\H p=some (.frz ob u)/\Ou u=true))/\PySem.W.kitOne K (.type t) (.type T)=some b/\Q (.bl b) H
theorem OV {X:Cx}:fJ X (.builtin "isinstance") (T8 X.K):=by
 intro pins s σ H xs us Q I r h
 obtain ⟨x,T,t,b,rfl,ty,e,q⟩:=h
 obtain ⟨u,w',rfl,ru,rw'⟩:=vals2 r
 cases rw'
 rcases ty with ty | ⟨rfl,p,vs,ob,rfl,m⟩ | ⟨rfl,p,vs,rfl,o,its,n,hk,hc,hd,_,_⟩ | ⟨rfl,p,vs,rfl,o,its,n,hk,hc,_,hd,_,_⟩ | ⟨rfl,p,ob,du,rfl,m,dk⟩
 ·exact NC I ru ty e fun tk=>⟨.bl b,H,I.tok tk,rfl,q⟩
 ·cases ru
  obtain ⟨_,_,_,_,o,h1,h2,_⟩:=(show cW X.prog X.w H s.heap p (.frz ob (.tup vs)) from I.hok p _ m)
  exact PySem.W.kia_one PySem.W.kitx_tuple I.kIn ⟨o,h1,h2⟩ e (fun z=>nomatch z) fun tk=>⟨.bl b,H,I.tok tk,rfl,q⟩
 ·cases ru
  exact PySem.W.kia_one PySem.W.kitx_tuple I.kIn ⟨o,I.kIn _ _ hk,hc⟩ e (fun z=>nomatch z) fun tk=>⟨.bl b,H,I.tok tk,rfl,q⟩
 ·cases ru
  exact PySem.W.kia_one PySem.W.kitx_list I.kIn ⟨o,I.kIn _ _ hk,hc⟩ e (fun z=>nomatch z) fun tk=>⟨.bl b,H,I.tok tk,rfl,q⟩
 ·cases ru
  obtain ⟨hg,ho⟩:=(show cW X.prog X.w H s.heap p (.frz ob du) from I.hok p _ m)
  have hx:∃ o,s.heap.get? p=some o/\o.cls=.type "dict":=by
   cases du with
   | dK kvs=>obtain ⟨_,_,_,_,o,_,_,h1,h2,_⟩:=ho;exact ⟨o,h1,h2.1⟩
   | dT kvs=>obtain ⟨_,_,_,_,o,_,_,h1,h2,_⟩:=ho;exact ⟨o,h1,h2.1⟩
   | _=>cases dk
  exact PySem.W.kia_one PySem.W.kitx_dict I.kIn hx e (fun z=>nomatch z) fun tk=>⟨.bl b,H,I.tok tk,rfl,q⟩
noncomputable def xK:List (String × String × Bool):=[("NoneType","bool",false),("NoneType","int",false),("NoneType","str",false),("NoneType","tuple",false),("NoneType","list",false),("NoneType","dict",false),("bool","bool",true),("bool","int",true),("bool","str",false),("bool","tuple",false),("bool","list",false),("bool","dict",false),("int","bool",false),("int","int",true),("int","str",false),("int","tuple",false),("int","list",false),("int","dict",false),("str","bool",false),("str","int",false),("str","str",true),("str","tuple",false),("str","list",false),("str","dict",false),("tuple","bool",false),("tuple","int",false),("tuple","str",false),("tuple","tuple",true),("tuple","list",false),("tuple","dict",false),("list","bool",false),("list","int",false),("list","str",false),("list","tuple",false),("list","list",true),("list","dict",false),("dict","bool",false),("dict","int",false),("dict","str",false),("dict","tuple",false),("dict","list",false),("dict","dict",true)]
theorem NH {K:PySem.W.Frag}:∀ r∈xK,PySem.W.kitOne K (.type r.1) (.type r.2.1)=some r.2.2:=by
 intro r hr
 simp only [xK,List.mem_cons,List.not_mem_nil,or_false] at hr
 rcases hr with rfl | rfl | rfl | rfl | rfl | rfl | rfl | rfl | rfl | rfl | rfl | rfl | rfl | rfl | rfl | rfl | rfl | rfl | rfl | rfl | rfl | rfl | rfl | rfl | rfl | rfl | rfl | rfl | rfl | rfl | rfl | rfl | rfl | rfl | rfl | rfl | rfl | rfl | rfl | rfl | rfl | rfl <;> first | rfl | kernel_rfl
noncomputable def bK (t T:String):Option Bool:=(xK.find? fun r=>r.1 == t && r.2.1 == T).map (·.2.2)
theorem KU {K:PySem.W.Frag} {t T:String} {b:Bool} (h:bK t T=some b):PySem.W.kitOne K (.type t) (.type T)=some b:=by
 unfold bK at h
 cases e:xK.find? fun r=>r.1 == t && r.2.1 == T with
 | none=>rw [e] at h;cases h
 | some r =>
  rw [e] at h
  cases h
  have h1:=List.find?_some e
  have h2:=NH (K:=K) r (List.mem_of_find?_eq_some e)
  simp only [Bool.and_eq_true,beq_iff_eq] at h1
  rw [h1.1,h1.2] at h2
  exact h2
noncomputable def nZ:List U->aI->UK->Prop:=fun us M Q=>match us with
 | [x,.ty T]=>match aE M x with
  | some t=>match bK t T with
   | some b=>Q (.bl b) M
   | none=>False
  | none=>False
 | _=>False
theorem RL {K:PySem.W.Frag}:qF K (T8 K) nZ:=fun xs us H M Q' rm rus h Q c=>by
 unfold nZ at h
 split at h
 ·rename_i x T
  split at h
  ·rename_i t e
   split at h
   ·rename_i b e2
    obtain ⟨v,z,rfl,a1,a2⟩:=rus.two
    cases a2.ty
    refine ⟨v,T,t,b,rfl,?_,KU e2,c.here rm cL h⟩
    cases x with
    | non=>cases a1.non;cases e;exact .inl .non
    | bl y=>cases a1.bl;cases e;exact .inl (.bl y)
    | int y=>cases a1.int;cases e;exact .inl (.int y)
    | str y=>cases a1.str;cases e;exact .inl (.str y)
    | ty y=>cases e
    | tup y =>
     cases e
     simp only [aY] at a1
     obtain ⟨a,vs,rfl,m,r⟩:=a1
     exact .inl (.tup m.2)
    | lst y =>
     cases e
     simp only [aY] at a1
     obtain ⟨a,vs,rfl,m,r⟩:=a1
     rcases m with ⟨_,m | ⟨ob,m⟩⟩ | k
     ·exact .inl (.lst m)
     ·exact .inl (.frz m)
     ·exact .inr (.inr (.inr (.inl ⟨rfl,a,vs,rfl,k⟩)))
    | dic ks tk y =>
     cases e
     simp only [aY] at a1
     obtain ⟨a,vs,rfl,m,r,_⟩:=a1
     cases tk with
     | true =>
      obtain ⟨ws,h1 | ⟨ob,h1⟩,_⟩:=r
      ·exact .inl (.dT h1)
      ·exact .inr (.inr (.inr (.inr ⟨rfl,a,ob,_,rfl,h1,rfl⟩)))
     | false =>
      obtain ⟨ws,h1 | ⟨ob,h1⟩,_⟩:=r
      ·exact .inl (.dK h1)
      ·exact .inr (.inr (.inr (.inr ⟨rfl,a,ob,_,rfl,h1,rfl⟩)))
    | ref y =>
     cases a1.ref
     simp only [aE] at e
     split at e
     ·rename_i ws e3
      cases e
      obtain ⟨vs,h1,_⟩:=rm y _ e3
      exact .inl (.lst h1)
     ·rename_i ws e4
      cases e
      obtain ⟨vs,h1,_⟩:=rm y _ e4;exact .inl (.dK h1)
     ·rename_i ws e4
      cases e
      obtain ⟨vs,h1,_⟩:=rm y _ e4;exact .inl (.dT h1)
     ·cases e
   ·exact h.elim
  ·exact h.elim
 ·exact h.elim
theorem fZ:wY D (.builtin "isinstance") nZ:=⟨⟨_,fun X h=>by have:=OV (X:=X);rw [h.K] at this;exact this,RL⟩⟩
noncomputable def sH:List U->Option (List Bool)
 | []=>some []
 | .bl b :: r=>(sH r).map (b :: ·)
 | _=>none
noncomputable def uW:List U->aI->UK->Prop:=fun us M Q=>match us with
 | [x]=>match view M x with
  | .lst ws=>match sH ws with
   | some bs=>Q (.bl (bs.all fun b=>b)) M
   | none=>False
  | _=>False
 | _=>False
theorem Co {K:PySem.W.Frag} {H:Hp} {M:aI}:∀ {us:List U} {vs:List V} {bs:List Bool},aS K H M us vs->sH us=some bs->vs=bs.map V.bl
 | [],_,_,r,h=>by cases h;exact r.inv_nil
 | u :: us,_,bs,r,h=>by
  obtain ⟨v,vs',rfl,a,b⟩:=r.inv_cons
  cases u with
  | bl y =>
   simp only [sH] at h
   cases e:sH us with
   | none=>rw [e] at h;cases h
   | some cs =>
    rw [e] at h
    cases h
    rw [Co b e,a.bl];rfl
  | _=>cases h
theorem VB:wY D (.builtin "all") uW:=⟨⟨_,fun X h=>by have:=NA (X:=X) h.calm;rw [h.K] at this;exact this,fun xs us H M Q' rm rus h Q c=>by
 unfold uW at h
 split at h
 ·rename_i x
  obtain ⟨v,rfl,a1⟩:=rus.one
  split at h
  ·rename_i ws e
   split at h
   ·rename_i bs e2
    obtain ⟨b,zvs,rfl,s2,r2⟩:=dM rm a1 e
    rw [Co r2 e2] at s2
    exact ⟨b,bs,rfl,s2,c.here rm cL h⟩
   ·exact h.elim
  ·exact h.elim
 ·exact h.elim⟩⟩
theorem e8 {apos:Pos} (ho:bG D o ta) (ha:mE D [e] tas) (hbase:∀ env,attributeBase o "append" env (eval o env)=eval o env:=by intro _;rfl)
  (hfew:∀ env,((backTo pos (starEach [e] env)).all (fun x=>!x.1) && (backToKw pos (keywordEach [] env)).all (fun x=>x.1.isSome) && decide ([e].length + ([]:List Keyword).length + (if ([]:List Keyword).isEmpty then 0 else 1) < 30))=true:=by intro _;rfl)
  (hline:(apos.endLine == pos.line)=true:=by rfl) (hs:∀ env,starEach [e] env=[(false,eval e env)]:=by intro _;rfl):bG D (.Call (.Attribute o "append" apos) [e] [] pos) (y8 kI ta tas):=by
 obtain ⟨_,p,s⟩:=ho;obtain ⟨_,q,r⟩:=ha
 refine ⟨_,fun X h=>?_,MJ HN s r⟩
 have:=Qt (cpos:=pos) (apos:=apos) PySem.F.plainAttrs_list PySem.F.slot_list_append PySem.F.type_list_append zU (p X h) (q X h) (hbase _) (hfew _) hline (hs _) (by rfl)
 rw [h.K] at this
 exact this
theorem Ta {apos:Pos} (ho:bG D o ta) (hbase:∀ env,attributeBase o "pop" env (eval o env)=eval o env:=by intro _;rfl)
  (hline:(apos.endLine == pos.line)=true:=by rfl):bG D (.Call (.Attribute o "pop" apos) [] [] pos) (vI sN ta):=by
 obtain ⟨_,p,s⟩:=ho
 refine ⟨_,fun X h=>?_,Rn Q8 s⟩
 have:=SA (cpos:=pos) (apos:=apos) PySem.F.plainAttrs_list PySem.F.slot_list_pop PySem.F.type_list_pop Ud (p X h) (hbase _) hline
 rw [h.K] at this
 exact this
noncomputable def dC (scope sc:Scope):Scope :=
 { scope with names:=scope.names.map fun (n,k)=>if (k == .free && sc.kind == .function && sc.names.lookup n == some .cell) then (n,.cell) else (n,k) }
noncomputable def cJ (D:Dat) (N:List Str) (scope:Scope):Dat:={ D with N:=N,sc:=dC scope D.sc,fn:=false,cod:=.none }
theorem jM.comp {X:Cx} (h:jM D X) (N:List Str) (scope:Scope) (cl:List (Str × Addr)) (C:Addr) (s:Shared) (H:Hp) (fp:List Addr):jM (cJ D N scope) (dF X N scope cl C s H fp) :=
 ⟨h.prog,h.w,h.K,h.mg,h.base,rfl,by show dC scope X.env.scope=dC scope D.sc;rw [h.sc],h.room,h.calm,rfl,(fun z=>by cases z),(fun z=>absurd rfl z),(fun z=>by cases z)⟩
theorem i8:Kw D [] (fun _ M Q=>Q true M):=⟨Uc,fun X h=>Sl,fun σ τ H M Q' rs rm q Q c=>c true M H (bE.refl _ _) rm q⟩
theorem Gi {t:UT} (h:mL D c t):Kw D [c] t:=let ⟨_,p,s⟩:=h;⟨_,fun X h=>RM (p X h),s⟩
theorem iD (own:Bool) (N:List Str) (k:Nat) (ix:List Nat) {scope:Scope} {tg iter elt:Expr} {ifs:List Expr} {wi:UI} {g:UG} {tcs:UT} (hi:zF D tg iter wi) (hg:GV (cJ D N scope) k tg g) (hif:Kw (cJ D N scope) ifs tcs) (he:bG (cJ D N scope) elt te)
  (hk:scope.kind=.function:=by rfl) (hcell:∀ y∈scope.names,y.2≠.cell:=by first | decide +kernel | (dsimp only;decide +kernel) | (dsimp only [cJ,dC];decide +kernel)) (hnames:∀ y∈scope.names,y.2=.local->scope.names.lookup y.1=some .local:=by first | decide +kernel | (dsimp only;decide +kernel) | (dsimp only [cJ,dC];decide +kernel))
  (hfree:∀ y∈scope.names,y.2=.free->D.sc.names.lookup y.1=some .cell\/D.sc.names.lookup y.1=some .free:=by first | decide +kernel | (dsimp only;decide +kernel) | (dsimp only [cJ,dC];decide +kernel)) (hone:∀ y∈scope.names,y.2=.free->scope.names.lookup y.1=some .free:=by first | decide +kernel | (dsimp only;decide +kernel) | (dsimp only [cJ,dC];decide +kernel))
  (hN:ix.map (fun i=>D.N[i]?)=(N.drop k).map some:=by rfl) (hcap:∀ x∈N.drop k,scope.names.lookup x=some .free:=by first | decide +kernel | (dsimp only;decide +kernel) | (dsimp only [cJ,dC];decide +kernel)) (hlen:N.length=k + ix.length:=by rfl)
  (hs:∀ env x,foldedSetIterable iter env x=pure x:=by intro _ _;rfl):bG D (.ListComp elt [⟨tg,iter,ifs,0⟩] scope pos) (sV own k ix wi g tcs te):=by
 obtain ⟨_,p1,s1⟩:=hi;obtain ⟨_,p2,s2,gk,_⟩:=hg;obtain ⟨_,p3,s3⟩:=hif;obtain ⟨_,p4,s4⟩:=he
 have hN':∀ (j:Nat) x,N[k + j]?=some x->∃ i,ix[j]?=some i/\D.N[i]?=some x:=fun j x e=>by
  have e1:((N.drop k).map some)[j]?=some (some x):=by rw [List.getElem?_map,List.getElem?_drop,e];rfl
  rw [<- hN,List.getElem?_map] at e1
  cases q:ix[j]? with
  | none=>rw [q] at e1;cases e1
  | some i=>rw [q] at e1;exact ⟨i,rfl,Option.some.inj e1⟩
 have hcap':∀ (j:Nat) x,N[k + j]?=some x->scope.names.lookup x=some .free:=fun j x e=>hcap x (List.mem_of_getElem? (i:=j) (by rw [List.getElem?_drop];exact e))
 refine ⟨_,fun X h=>RK (N:=N) (k:=k) (ix:=ix) h.calm (p1 X h) gk hk hcell hnames (fun y hy e=>by show X.env.scope.names.lookup y.1=_\/X.env.scope.names.lookup y.1=_;rw [h.sc];exact hfree y hy e) hone (fun j x e=>by rw [h.N];exact hN' j x e) hcap' hlen
  (fun cl C s H fp=>p2 _ (h.comp N scope cl C s H fp)) (fun cl C s H fp=>p3 _ (h.comp N scope cl C s H fp)) (fun cl C s H fp=>p4 _ (h.comp N scope cl C s H fp)) (hs _),BG s1 s2 s3 s4⟩
theorem N0 {elt:Expr} {gens:List Comprehension} {scope:Scope} {pos py:Pos} {y:Str} {line:Nat} {env:Env} (h1:env.scope.kind=.function) (h2:env.scope.names.lookup y=some .local) (h3:(py.line == pos.line && !(scope.names.any fun (n,k)=>n == y && (k == .local || k == .cell)))=true) :
  swapsWith (.ListComp elt gens scope pos) (some (.Name y py)) line env=pure true:=by
 have e1:(env.blockKind == .function)=true:=by first | (unfold Env.blockKind;rw [h1];rfl) | (unfold Env.blockKind;simp [h1])
 have e2:(env.kindOf y == some .local)=true:=by unfold Env.kindOf;rw [h2];rfl
 show pure (env.blockKind == .function && env.kindOf y == some .local && py.line == pos.line && !(scope.names.any fun (n,k)=>n == y && (k == .local || k == .cell)))=pure true
 rw [e1,e2]
 simp only [Bool.and_eq_true] at h3
 rw [h3.1,h3.2]
 rfl
theorem Sz (i:Nat) {y:Str} {spos py:Pos} (hNd:D.N.Nodup) (own:Bool) (N:List Str) (k:Nat) (ix:List Nat) {scope:Scope} {tg iter elt:Expr} {ifs:List Expr} {wi:UI} {g:UG} {tcs:UT} (hi:zF D tg iter wi) (hg:GV (cJ D N scope) k tg g) (hif:Kw (cJ D N scope) ifs tcs) (he:bG (cJ D N scope) elt te)
  (hk:scope.kind=.function:=by rfl) (hcell:∀ y∈scope.names,y.2≠.cell:=by first | decide +kernel | (dsimp only;decide +kernel) | (dsimp only [cJ,dC];decide +kernel)) (hnames:∀ y∈scope.names,y.2=.local->scope.names.lookup y.1=some .local:=by first | decide +kernel | (dsimp only;decide +kernel) | (dsimp only [cJ,dC];decide +kernel))
  (hfree:∀ y∈scope.names,y.2=.free->D.sc.names.lookup y.1=some .cell\/D.sc.names.lookup y.1=some .free:=by first | decide +kernel | (dsimp only;decide +kernel) | (dsimp only [cJ,dC];decide +kernel)) (hone:∀ y∈scope.names,y.2=.free->scope.names.lookup y.1=some .free:=by first | decide +kernel | (dsimp only;decide +kernel) | (dsimp only [cJ,dC];decide +kernel))
  (hN:ix.map (fun i=>D.N[i]?)=(N.drop k).map some:=by rfl) (hcap:∀ x∈N.drop k,scope.names.lookup x=some .free:=by first | decide +kernel | (dsimp only;decide +kernel) | (dsimp only [cJ,dC];decide +kernel)) (hlen:N.length=k + ix.length:=by rfl)
  (hs:∀ env x,foldedSetIterable iter env x=pure x:=by intro _ _;rfl) (hl1:D.sc.kind=.function:=by rfl) (hl2:D.sc.names.lookup y=some .local:=by rfl) (hl3:(py.line == pos.line && !(scope.names.any fun (n,k)=>n == y && (k == .local || k == .cell)))=true:=by decide +kernel)
  (hiy:D.N[i]?=some y:=by rfl) (hy:Loc D.sc y:=by first | exact Or.inl rfl | exact Or.inr rfl) (hf:D.fn=true\/D.sc.names.lookup y=some .local:=by first | exact .inl rfl | exact .inr rfl):pA D (.Assign [.Name y py] (.ListComp elt [⟨tg,iter,ifs,0⟩] scope pos) spos) (bQ (sV own k ix wi g tcs te) (hName i)):=by
 obtain ⟨_,p1,s1⟩:=hi;obtain ⟨_,p2,s2,gk,_⟩:=hg;obtain ⟨_,p3,s3⟩:=hif;obtain ⟨_,p4,s4⟩:=he
 have hN':∀ (j:Nat) x,N[k + j]?=some x->∃ i,ix[j]?=some i/\D.N[i]?=some x:=fun j x e=>by
  have e1:((N.drop k).map some)[j]?=some (some x):=by rw [List.getElem?_map,List.getElem?_drop,e];rfl
  rw [<- hN,List.getElem?_map] at e1
  cases q:ix[j]? with
  | none=>rw [q] at e1;cases e1
  | some i=>rw [q] at e1;exact ⟨i,rfl,Option.some.inj e1⟩
 have hcap':∀ (j:Nat) x,N[k + j]?=some x->scope.names.lookup x=some .free:=fun j x e=>hcap x (List.mem_of_getElem? (i:=j) (by rw [List.getElem?_drop];exact e))
 refine ⟨_,fun X h=>RJ (i:=i) (N:=N) (k:=k) (ix:=ix) h.calm (p1 X h) gk hk hcell hnames (fun y hy e=>by show X.env.scope.names.lookup y.1=_\/X.env.scope.names.lookup y.1=_;rw [h.sc];exact hfree y hy e) hone (fun j x e=>by rw [h.N];exact hN' j x e) hcap' hlen
  (fun cl C s H fp=>p2 _ (h.comp N scope cl C s H fp)) (fun cl C s H fp=>p3 _ (h.comp N scope cl C s H fp)) (fun cl C s H fp=>p4 _ (h.comp N scope cl C s H fp)) (hs _) (N0 (by rw [h.sc];exact hl1) (by rw [h.sc];exact hl2) hl3) (by rw [h.N];exact hNd) (by rw [h.N];exact hiy) (by rw [h.sc];exact hy) (by rcases hf with z | z;exact .inl (h.fn z y);exact .inr (by rw [h.sc];exact z)),tR (BG s1 s2 s3 s4) (mC i)⟩
end
section
variable {P:Program} {w:World} {K:PySem.W.Frag} {mg:Str->Option Value} {base:Heap}
theorem sO {H:Hp} {M:aI} {N:List Str} {us:List U} {vs:List V} (r:aS K H M us vs):cV K H M (L2.start N vs) (eP N us):=by
 have hl:=r.length
 refine ⟨by simp [L2.start,eP,hl],fun i u e=>?_⟩
 unfold eP at e
 unfold L2.start
 by_cases hi:i < us.length
 ·rw [List.getElem?_append_left (by simpa using hi),List.getElem?_map] at e
  cases q:us[i]? with
  | none=>rw [q] at e;cases e
  | some u' =>
   rw [q] at e
   cases e
   obtain ⟨v,h1,h2⟩:=r.get q
   exact ⟨v,by rw [List.getElem?_append_left (by rw [List.length_map];omega),List.getElem?_map,h1];rfl,h2⟩
 ·rw [List.getElem?_append_right (by simpa using hi),List.getElem?_replicate] at e
  split at e <;> cases e
theorem Gk {x:Str} {st:Stmt} {f:Addr} {fd:FuncData} {N ps:List Str} {k:Nat} {sp:cX} {t:US} (F:b9 K x x st f fd) (S:bB N ps (aF st))
  (len:∀ us M Q,sp us M Q->us.length=ps.length)
  (h:mJ ⟨P,w,K,mg,base,N,aF st,k,true,.none,""⟩ (bA st) t)
  (q:∀ us M Q,sp us M Q->t { nx:=fun _ M'=>iY Q .non M',rt:=iY Q } (eP N us) M):dJ P w K mg base j4 (k + 1) f fd ps (fB K sp):=by
 obtain ⟨t0,h1,h2⟩:=h
 refine F.ok S (fun vs H Q E ⟨us,M,Q',_,r,hs,_⟩=>by rw [<- r.length];exact len us M Q' hs) (fun cdv A outer s H vs Q E hr ⟨us,M,Q',rm,r,hs,c⟩=>?_)
 refine ⟨t0,h1 _ ⟨rfl,rfl,rfl,rfl,rfl,rfl,rfl,hr,rfl,rfl,fun _ _=>rfl,fun h=>absurd rfl h,fun _=>⟨rfl,rfl,rfl⟩⟩,?_⟩
 refine h2 _ (eP N us) H M _ (sO r) rm (q us M Q' hs) _ ⟨fun σ τ H1 M1 s1 rm1 rs1 q1=>?_,fun u v H1 M1 s1 rm1 ru q1=>iY.ok c s1 rm1 ru q1,fun _ _ _ _ _ _ _ z=>z.elim,fun _ _ _ _ _ _ _ z=>z.elim⟩
 exact iY.ok c s1 rm1 j7 q1
theorem Kz {x:Str} {st:Stmt} {f:Addr} {fd:FuncData} {N ps:List Str} {k:Nat} {sp:cX} {t:US} (F:b9 K x x st f fd) (hm:mg x=some (.ref f)) (S:bB N ps (aF st))
  (bind:∀ (kV doc pm:Value) (an:Option Addr) (cdv ct:Value) (us:List Value),us.length=ps.length->bindArgs (PySem.W.fnOf x x (bC st) (bA st) (aF st) .none kV doc pm an cdv ct) ⟨us,[]⟩=pure (ps.zip us))
  (len:∀ us M Q,sp us M Q->us.length=ps.length)
  (h:mJ ⟨P,w,K,mg,base,N,aF st,k,true,.none,""⟩ (bA st) t)
  (q:∀ us M Q,sp us M Q->t { nx:=fun _ M'=>iY Q .non M',rt:=iY Q } (eP N us) M):Callee P w K mg base (k + 1) x sp []:=by
 obtain ⟨t0,h1,h2⟩:=h
 refine ⟨f,fd,ps,[],[],F.ok S (fun vs H Q E ⟨us,M,Q',_,r,hs,_⟩=>by rw [<- r.length];exact len us M Q' hs) (fun cdv A outer s H vs Q E hr ⟨us,M,Q',rm,r,hs,c⟩=>?_),hm,F.kp,F.binds bind,.nil,fun H M=>.nil⟩
 refine ⟨t0,h1 _ ⟨rfl,rfl,rfl,rfl,rfl,rfl,rfl,hr,rfl,rfl,fun _ _=>rfl,fun h=>absurd rfl h,fun _=>⟨rfl,rfl,rfl⟩⟩,?_⟩
 refine h2 _ (eP N us) H M _ (sO r) rm (q us M Q' hs) _ ⟨fun σ τ H1 M1 s1 rm1 rs1 q1=>?_,fun u v H1 M1 s1 rm1 ru q1=>iY.ok c s1 rm1 ru q1,fun _ _ _ _ _ _ _ z=>z.elim,fun _ _ _ _ _ _ _ z=>z.elim⟩
 exact iY.ok c s1 rm1 j7 q1
end
end U2
namespace U2
open PySem L2
theorem eC:bK "NoneType" "bool"=some false:=by decide +kernel
theorem eS:bK "NoneType" "int"=some false:=by decide +kernel
theorem eU:bK "NoneType" "str"=some false:=by decide +kernel
theorem d9:bK "NoneType" "tuple"=some false:=by decide +kernel
theorem eF:bK "NoneType" "list"=some false:=by decide +kernel
theorem eG:bK "NoneType" "dict"=some false:=by decide +kernel
theorem gO:bK "bool" "bool"=some true:=by decide +kernel
theorem iW:bK "bool" "int"=some true:=by decide +kernel
theorem iO:bK "bool" "str"=some false:=by decide +kernel
theorem fS:bK "bool" "tuple"=some false:=by decide +kernel
theorem g6:bK "bool" "list"=some false:=by decide +kernel
theorem gX:bK "bool" "dict"=some false:=by decide +kernel
theorem iX:bK "int" "bool"=some false:=by decide +kernel
theorem j3:bK "int" "int"=some true:=by decide +kernel
theorem j1:bK "int" "str"=some false:=by decide +kernel
theorem g0:bK "int" "tuple"=some false:=by decide +kernel
theorem iJ:bK "int" "list"=some false:=by decide +kernel
theorem iP:bK "int" "dict"=some false:=by decide +kernel
theorem iL:bK "str" "bool"=some false:=by decide +kernel
theorem jZ:bK "str" "int"=some false:=by decide +kernel
theorem jS:bK "str" "str"=some true:=by decide +kernel
theorem gP:bK "str" "tuple"=some false:=by decide +kernel
theorem iU:bK "str" "list"=some false:=by decide +kernel
theorem iK:bK "str" "dict"=some false:=by decide +kernel
theorem fO:bK "tuple" "bool"=some false:=by decide +kernel
theorem gS:bK "tuple" "int"=some false:=by decide +kernel
theorem gQ:bK "tuple" "str"=some false:=by decide +kernel
theorem fC:bK "tuple" "tuple"=some true:=by decide +kernel
theorem fP:bK "tuple" "list"=some false:=by decide +kernel
theorem fR:bK "tuple" "dict"=some false:=by decide +kernel
theorem gZ:bK "list" "bool"=some false:=by decide +kernel
theorem iQ:bK "list" "int"=some false:=by decide +kernel
theorem iR:bK "list" "str"=some false:=by decide +kernel
theorem fN:bK "list" "tuple"=some false:=by decide +kernel
theorem gM:bK "list" "list"=some true:=by decide +kernel
theorem gL:bK "list" "dict"=some false:=by decide +kernel
theorem gT:bK "dict" "bool"=some false:=by decide +kernel
theorem iH:bK "dict" "int"=some false:=by decide +kernel
theorem iN:bK "dict" "str"=some false:=by decide +kernel
theorem fQ:bK "dict" "tuple"=some false:=by decide +kernel
theorem gU:bK "dict" "list"=some false:=by decide +kernel
theorem gR:bK "dict" "dict"=some true:=by decide +kernel
theorem aO {Q:UK} {u:U} {M:aI} (q:Q u M):iY Q u M:=⟨u,M,Sub.refl M,.inl rfl,q⟩
theorem Hw {o:Bool} {k:Nat} {ix:List Nat} {wi:UI} {g:UG} {tc:UT} {te:UE} {τ:SU} {M M1:aI} {Q:UK} {S:Src} (f:U->Option U) (hw:∀ R:Src->aI->Prop,R S M1->wi τ M R) (hz:S.xs.length<=sizeLine) (hs:S.ok M1)
  (h:∀ x∈S.xs,∀ M,Sub M1 M->∀ R:Option U->aI->Prop,R (f x) M->g x (dQ k ix τ) M fun τ2 M2=>tc τ2 M2 fun ok M3=>if ok=true then te τ2 M3 fun y M4=>R (some y) M4 else R none M3)
  (q:kQ o (S.xs.filterMap f) M1 Q):sV o k ix wi g tc te τ M Q:=hw _ (MI (wi:=wi) f hz hs h q)
theorem fX {wi:UI} {g:UG} {tb:US} {D:kW} {τ:SU} {M M1:aI} {S:Src} (hw:∀ R:Src->aI->Prop,R S M1->wi τ M R) (P:Nat->SU->aI->Prop) (h0:P 0 τ M1) (hok:∀ i τ M,P i τ M->S.ok M)
  (turn:∀ i x τ M,S.xs[i]?=some x->P i τ M->g x τ M fun τ2 M2=>tb { D with nx:=P (i + 1),ct:=P (i + 1),bk:=D.nx } τ2 M2) (fin:∀ τ M,P S.xs.length τ M->D.nx τ M):Jt wi g tb D τ M:=hw _ ⟨P,h0,hok,turn,fin⟩
theorem Bv {c:UT} {tb:US} {D:kW} {τ:SU} {M:aI} (P:SU->aI->Prop) (μ:SU->aI->Nat) (h0:P τ M)
  (turn:∀ τ M,P τ M->c τ M fun b M1=>if b=true then tb { D with nx:=fun τ' M'=>P τ' M'/\μ τ' M' < μ τ M,ct:=fun τ' M'=>P τ' M'/\μ τ' M' < μ τ M,bk:=D.nx } τ M1 else D.nx τ M1):Ck c tb D τ M:=⟨P,μ,h0,turn⟩
theorem wU {lo:Int} {n i:Nat} {x:U} (h:(cA lo n)[i]?=some x):x=.int (lo + i)/\i < n:=by
 have hi:i < n:=by
  have:=(List.getElem?_eq_some_iff.mp h).1
  simpa [cA] using this
 simp only [cA,List.getElem?_map,List.getElem?_range hi,Option.map_some] at h
 exact ⟨(Option.some.inj h).symm,hi⟩
theorem gD (lo:Int) (n:Nat):(cA lo n).length=n:=by simp [cA]
end U2
namespace U2
open PySem PySem.Spec PyProof.Rows L2
inductive Fl where
 | int (i:Int) | str (x:Str)
noncomputable def Fl.d:Fl->PyData
 | .int i=>.int i
 | .str x=>.str x
noncomputable def Fl.u:Fl->U
 | .int i=>.int i
 | .str x=>.str x
noncomputable def Fl.v:Fl->V
 | .int i=>.int i
 | .str x=>.str x
noncomputable def O8 (T:List (Str × Fl)):List (PyData × PyData):=T.map fun p=>(PyData.str p.1,p.2.d)
noncomputable def cY:List (Str × Fl)->Str->Option Fl
 | [],_=>none
 | (a,b) :: r,z=>if a=z then some b else cY r z
structure qH (P:Program) (w:World) (K:PySem.W.Frag) (d:Addr) (T:List (Str × Fl)):Prop where
 at_:∀ h:Heap,K.In h->StrTab P w h d (O8 T)
theorem VS (a b:Str):same (.str a) (.str b)=decide (a=b):=by
 by_cases h:a=b <;> simp [same,h]
theorem lookup_tab:∀ (T:List (Str × Fl)) (z:Str),PySem.Spec.lookup (.str z) (O8 T)=(cY T z).map Fl.d
 | [],_=>rfl
 | (a,b) :: r,z=>by
  have ih:=lookup_tab r z
  show (if same (.str a) (.str z)=true then some b.d else PySem.Spec.lookup (.str z) (O8 r))=((if a=z then some b else cY r z).map Fl.d)
  rw [VS]
  by_cases e:a=z
  ·rw [if_pos (decide_eq_true e),if_pos e];rfl
  ·rw [if_neg (by simpa using e),if_neg e,ih]
noncomputable def yC (T:List (Str × Fl)):List (Str × PyData):=T.map fun p=>(p.1,p.2.d)
theorem tab_of {P:Program} {w:World} {K:PySem.W.Frag} {d:Addr} {T:List (Str × Fl)} (n:((yC T).map (·.1)).Nodup) (e:KTD.tabLook KTD.flatLooks (fun b=>K.lookup b) d (yC T)=true) (q:KTD.hashesOf (fun b=>K.lookup b) d=(yC T).map fun p=>(PySem.strKind P w).hash p.1):qH P w K d T:=⟨fun h hK=>by
 have:=PySem.W.kt_tab_in P w hK e n q
 unfold yC at this
 rw [List.map_map] at this
 exact this⟩
section
variable {X:Cx} {d:Addr} {T:List (Str × Fl)}
theorem Pp (t:qH X.prog X.w X.K d T):cU X (compareOp .In) (fun x y H Q=>∃ z,x=.str z/\y=.ref d/\Q (.bl (cY T z).isSome) H):=by
 intro pins s σ H x y v u Q I rx ry h
 obtain ⟨z,rfl,rfl,q⟩:=h
 obtain ⟨tk,rfl⟩:=rx
 cases ry
 refine in_strTab (t.at_ _ I.kIn) ?_
 rw [lookup_tab,Option.isSome_map]
 exact ⟨.bl _,H,I.tok _,rfl,q⟩
theorem Rk {f:Fl} {v:Value} (h:PyProof.V.Flat v f.d):RelV f.v v:=by
 have:=h default
 cases f with
 | int i=>cases this;exact ⟨_,rfl⟩
 | str i=>cases this;exact ⟨_,rfl⟩
theorem Uh {x:Str} {px pos:Pos} {b:Expr} {ta tb:TE} (t:qH X.prog X.w X.K d T) (ha:PE X (.Name x px) ta) (hb:PE X b tb) (hs:tH b) :
  PE X (.Subscript (.Name x px) b pos) (Gz (fun x y H Q=>∃ z f,x=.ref d/\y=.str z/\cY T z=some f/\Q f.v H) ta tb):=by
 intro pins s σ H Q I h
 refine Subscript_ (Jc ha hb I h fun v u s2 x' y H2 I2 rx ry q=>?_)
 obtain ⟨z,f,rfl,rfl,e,q⟩:=q
 cases rx
 obtain ⟨tk,rfl⟩:=ry
 exact item_strTab (t.at_ _ I2.kIn) (dv:=f.d) (by rw [lookup_tab,e];rfl) (fun v hv=>⟨f.v,H2,I2.tok _,Rk hv,q⟩) (hs _ _) (fun r=>rfl)
end
section
variable {D:Dat} {d:Addr} {T:List (Str × Fl)}
abbrev Tab (D:Dat):=qH D.prog D.w D.K
noncomputable def fL (d:Addr) (T:List (Str × Fl)) (neg:Bool):dI:=fun x y M Q=>match x with
 | .str z=>y=.ref d/\Q (.bl (if neg then !(cY T z).isSome else (cY T z).isSome)) M
 | _=>False
theorem F8 (t:Tab D d T):kO D .In (fL d T false):=⟨⟨_,fun X h=>Pp (by rw [h.prog,h.w,h.K];exact t),fun x y u w H M Q' rm ru rw h Q c=>by
 cases u with
 | str z=>obtain ⟨rfl,h⟩:=h;exact ⟨z,ru.str,rw.ref,c.here rm cL h⟩
 | _=>exact h.elim⟩⟩
noncomputable def fK (d:Addr) (T:List (Str × Fl)):dI:=fun x y M Q=>match y with
 | .str z=>x=.ref d/\match cY T z with
  | some f=>Q f.u M
  | none=>False
 | _=>False
theorem Vq {K:PySem.W.Frag} {H:Hp} {M:aI} (f:Fl):aY K H M f.u f.v:=by cases f;exact cO;exact gA
theorem UW {x:Str} {px pos:Pos} {b:Expr} {ta tb:UE} (t:Tab D d T) (ha:bG D (.Name x px) ta) (hb:bG D b tb) (hs:tH b:=by intro _ _;rfl):bG D (.Subscript (.Name x px) b pos) (eQ (fK d T) ta tb):=by
 obtain ⟨_,p,s⟩:=ha;obtain ⟨_,q,r⟩:=hb
 refine ⟨_,fun X h=>Uh (d:=d) (T:=T) (by rw [h.prog,h.w,h.K];exact t) (p X h) (q X h) hs,rW (fun x y u w H M Q' rm ru rw h Q c=>?_) s r⟩
 cases w with
 | str z =>
  obtain ⟨rfl,h⟩:=h
  cases e:cY T z with
  | none=>rw [e] at h;exact h.elim
  | some f=>rw [e] at h;exact ⟨z,f,ru.ref,rw.str,e,c.here rm (Vq f) h⟩
 | _=>exact h.elim
noncomputable def KH (i:Nat) (f:Addr) (sp:Sp) (t:TA):TE:=fun σ H Q=>uX i σ H fun v H1=>v=.ref f/\t σ H1 fun vs H2=>sp vs H2 Q E0
theorem PC {X:Cx} {x:Str} {p pos:Pos} {e:Expr} {es:List Expr} {i k:Nat} {f:Addr} {fd:FuncData} {ps:List Str} {sp:Sp} {t:TA} (hN:X.N[i]?=some x) (hv:GO X.env.scope x) (F:dJ X.prog X.w X.K X.mg X.base j4 k f fd ps sp) (hr:cS k X.A) (hk:PySem.W.keepIn X.K (.ref f)=true) (hb:Binds X.K fd ps [])
  (ha:PA X (e :: es) t) (hd:(x == ("__debug__":Str))=false) (hcd:(x == ("__classdict__":Str))=false) (he:starEach (e :: es) X.env=(false,eval e X.env) :: starEach es X.env) (hpl:(backTo pos (starEach es X.env)).any (·.1)=false) :
  PE X (.Call (.Name x p) (e :: es) [] pos) (KH i f sp t):=by
 intro pins s σ H Q I h
 refine wpAny_Call_Name_kw (bP (mY (i:=i) hN hv hd hcd pins s σ H _ I h) fun v s1 ⟨x',H1,I1,r1,e1,q1⟩=>?_)
 subst e1
 cases r1
 refine PySem.W.callWith_K (h₀:=X.base) I1.ok.mod.kin hk (bP (ha pos pins s1 σ H1 _ I1 q1) fun us s2 ⟨vs,H2,I2,r,q⟩=>⟨I2.kIn,?_⟩) he hpl
 exact Mx (dvs:=[]) F hr hb .nil P9 I2 r (by rw [List.append_nil];exact q)
structure uQ (P:Program) (w:World) (K:PySem.W.Frag) (mg:Str->Option Value) (base:Heap) (j:Nat) (f:Addr) (sp:cX):Prop where
 ex:∃ fd ps,dJ P w K mg base j4 j f fd ps (fB K sp)/\PySem.W.keepIn K (.ref f)=true/\Binds K fd ps []
noncomputable def o7 (i:Nat) (f:Addr) (sp:cX) (t:UA):UE:=fun τ M Q=>jR i τ M fun v M1=>v=.ref f/\t τ M1 fun us M2=>sp us M2 Q
theorem Pb (i:Nat) {x:Str} {p pos:Pos} {e:Expr} {es:List Expr} {j:Nat} {f:Addr} {sp:cX} {tas:UA} (F:uQ D.prog D.w D.K D.mg D.base j f sp) (ha:mE D (e :: es) tas) (hN:D.N[i]?=some x:=by rfl) (hv:GO D.sc x:=by first | exact Or.inl rfl | exact Or.inr (Or.inl rfl) | exact Or.inr (Or.inr rfl))
  (hj:j<=D.k:=by first | exact Nat.le_refl _ | (dsimp only;omega) | omega | (dsimp only [cJ];omega)) (hd:(x == ("__debug__":Str))=false:=by decide) (hcd:(x == ("__classdict__":Str))=false:=by decide)
  (he:∀ env,starEach (e :: es) env=(false,eval e env) :: starEach es env:=by intro _;rfl) (hpl:∀ env,(backTo pos (starEach es env)).any (·.1)=false:=by intro _;rfl):bG D (.Call (.Name x p) (e :: es) [] pos) (o7 i f sp tas):=by
 obtain ⟨fd,ps,F,kp,hb⟩:=F.ex
 obtain ⟨t,q,s⟩:=ha
 refine ⟨KH i f (fB D.K sp) t,fun X h=>?_,fun σ τ H M Q' rs rm h Q c=>?_⟩
 ·have F':dJ X.prog X.w X.K X.mg X.base j4 j f fd ps (fB D.K sp):=by rw [h.prog,h.w,h.K,h.mg,h.base];exact F
  exact PC (by rw [h.N];exact hN) (by rw [h.sc];exact hv) F' (h.room.mono hj) (by rw [h.K];exact kp) (by rw [h.K];exact hb) (q X h) hd hcd (he _) (hpl _)
 ·refine yX i σ τ H M _ rs rm h _ fun u v M1 H1 s1 rm1 ru h1=>?_
  obtain ⟨rfl,h1⟩:=h1
  refine ⟨ru.ref,s σ τ H1 M1 _ (rs.stp s1) rm1 h1 _ fun us vs M2 H2 s2 rm2 rus h2=>?_⟩
  exact ⟨us,M2,Q',rm2,rus,h2,cP.stp c (s1.trans s2)⟩
end
end U2
namespace U2
open PySem PySem.Spec PyProof.Rows L2
noncomputable def N9 (lo:Int) (n:Nat):It:=⟨fun i _=>i < n,fun i H x H'=>H'=H/\x=.int (lo + i * 2),fun i _=>n<=i⟩
theorem DP {P:Program} {w:World} {K:PySem.W.Frag} {tg:Expr} (it:Addr) (lo:Int) (n:Nat):Turn P w K tg (N9 lo n) [it] it (fun i h=>IsRangeIter h it (lo + (i:Nat) * 2) ((n:Int) - (i:Nat)) 2) where
 mem:=by simp
 obj:=fun i h st b hb=>by
  have e:b=it:=by simpa using hb
  subst e
  exact ⟨_,st,fun v z=>by
   have z':Data.fields _=Data.cell v:=z
   cases z'⟩
 keep:=fun i h h' st k=>k it (by simp) _ st
 item:=by
  intro X hP hw hK hc i pins s σ H E I hf st hg
  subst hP hw hK
  obtain ⟨f0,f1,f2,f3,f4,f5⟩:=hf it (by simp)
  have W:=Walks.range (prog:=X.prog) (w:=X.w) (I.ok.hd hc) it lo 2 n
  refine W.item i s _ _ hg st fun v h' tk hv st' kk=>?_
  obtain ⟨t,rfl⟩:=hv
  have I1:L2.Inv X pins σ H { s with heap:=h',toks:=tk }:=I.turned (fun b o hb e=>kk b o (by simpa using hb) e) f0 f1 f3 f4 f5
  exact ⟨_,rfl,tT (s:={ s with heap:=h',toks:=tk }) (n:="range_iterator") st' rfl rfl (by decide) ⟨.int (lo + i * 2),H,I1,⟨t,rfl⟩,⟨rfl,rfl⟩,st',fun b hb=>(hf b hb).1⟩⟩
 done:=by
  intro X hP hw hK hc i pins s σ H E I hf st hg
  subst hP hw hK
  obtain ⟨f0,f1,f2,f3,f4,f5⟩:=hf it (by simp)
  exact wpAny_pyNext_range_end (I.ok.hd hc) st (by have:n<=i:=hg;omega) fun h' eb=>⟨rfl,I.turned (t':=s.toks) (fun b o hb e=>eb b o hb e) f0 f1 f3 f4 f5⟩
 self:=fun _ _ _ _ _ st h=>wpAny_pyIter_rangeiter st h
noncomputable def half (j:Int):Nat:=((j + 1) / 2).toNat
noncomputable def P7 (ta:TA):TI:=fun σ H R=>ta σ H fun vs H1=>∃ j:Int,vs=[.int 0,.int j,.int 2]/\0<=j/\j < 2 ^ 61/\R (N9 0 (half j)) H1
theorem B1 {j:Int} (h:0<=j):Builtin.Range.rangeSize 0 j 2=(half j:Nat):=by
 unfold Builtin.Range.rangeSize half
 simp only [show (2:Int) > 0 by decide,if_true]
 split <;> omega
theorem Mg {j:Int} (h:0<=j) (h2:j < 2 ^ 61):Builtin.Range.small 0 j 2=true:=by
 unfold Builtin.Range.small
 rw [B1 h]
 unfold half
 simp only [Builtin.Range.rangeFitsLong,Bool.and_eq_true,Bool.or_eq_true,decide_eq_true_eq,beq_iff_eq,show (2:Int) > 0 by decide,if_true]
 omega
theorem Mt {X:Cx} {tg a b c:Expr} {ta:TA} {p pos:Pos} (hg:Gl X "range") (hm:X.mg "range"=none) (ha:PA X [a,b,c] ta) (hs:starEach [a,b,c] X.env=(false,eval a X.env) :: starEach [b,c] X.env) (hs2:(backTo pos (starEach [b,c] X.env)).any (·.1)=false) :
  PI X tg (.Call (.Name "range" p) [a,b,c] [] pos) (P7 ta):=by
 intro pins s σ H R I h
 refine Call_ (kX I hg hm boot_range (PyProof.Rows.callWith_type1 (bP (ha pos pins s σ H _ I h) fun us s1 ⟨vs,H1,I1,r1,q1⟩=>?_) hs hs2))
 obtain ⟨j,e,q1,q2,q⟩:=q1
 subst e
 cases r1 with
 | cons r rr=>cases rr with
  | cons r' rr=>cases rr with
   | cons r'' rr =>
    cases rr
    obtain ⟨t,rfl⟩:=r
    obtain ⟨t',rfl⟩:=r'
    obtain ⟨t'',rfl⟩:=r''
    refine call_range_3 (by decide) ?_
    refine wpAny_pyIter_range (IsRange.new ..) (Mg q1 q2) ?_
    have I2:L2.Inv X pins σ H1 { s1 with heap:=s1.heap.push { cls:=.type "range",data:=.fields #[.int 0 t,.int j t',.int 2 t''] },toks:=s1.toks }:=I1.kept fun b o e=>Heap.get?_push_of_some _ e
    refine ⟨(s1.heap.push { cls:=.type "range",data:=.fields #[.int 0 t,.int j t',.int 2 t''] }).objs.size,[(s1.heap.push { cls:=.type "range",data:=.fields #[.int 0 t,.int j t',.int 2 t''] }).objs.size],_,_,H1,rfl,
     I2.kept (t':=s1.toks) fun b o e=>Heap.get?_push_of_some _ e,DP _ 0 (half j),?_,fun b hb=>?_,q⟩
    ·have e1:(0:Int) + ((0:Nat):Int) * 2=0:=by simp
     have e2:((half j:Nat):Int) - ((0:Nat):Int)=Builtin.Range.rangeSize 0 j 2:=by rw [B1 q1];simp
     show IsRangeIter _ _ ((0:Int) + ((0:Nat):Int) * 2) (((half j:Nat):Int) - ((0:Nat):Int)) 2
     rw [e1,e2]
     exact Heap.get?_push_size _ rfl
    ·have e:b=(s1.heap.push { cls:=.type "range",data:=.fields #[.int 0 t,.int j t',.int 2 t''] }).objs.size:=by simpa using hb
     subst e
     exact I2.fpOk (Nat.le_refl _) (I2.hok.fresh (Nat.le_refl _))
noncomputable def jF (n:Nat):List U:=(List.range n).map fun (k:Nat)=>U.int ((k:Int) * 2)
theorem uJ {n i:Nat} {x:U} (h:(jF n)[i]?=some x):x=.int ((i:Int) * 2)/\i < n:=by
 have hi:i < n:=by
  have:=(List.getElem?_eq_some_iff.mp h).1
  simpa [jF] using this
 simp only [jF,List.getElem?_map,List.getElem?_range hi,Option.map_some] at h
 exact ⟨(Option.some.inj h).symm,hi⟩
theorem FF (n:Nat):(jF n).length=n:=by simp [jF]
theorem FP {K:PySem.W.Frag} {n:Nat} {H:Hp} {M:aI}:Walk K (N9 0 n) ⟨none,jF n⟩ H M:=by
 refine ⟨fun H1 M1 s rm _ i u e=>?_,fun H1 M1 s rm _=>?_⟩
 ·obtain ⟨rfl,hi⟩:=uJ e
  refine ⟨hi,fun x H2 y=>?_⟩
  obtain ⟨rfl,rfl⟩:=y
  exact ⟨bE.refl _ _,rm,by rw [Int.zero_add];exact cO⟩
 ·show n<=(jF n).length
  rw [FF];exact Nat.le_refl _
noncomputable def Kr (ta:UA):UI:=fun τ M R=>ta τ M fun us M1=>match us with
 | [.int i,.int j,.int k]=>i=0/\k=2/\0<=j/\j < 2 ^ 61/\R ⟨none,jF (half j)⟩ M1
 | _=>False
theorem NL {K:PySem.W.Frag} {ta:TA} {ta':UA} (h:j6 K ta ta'):rR K (P7 ta) (Kr ta'):=fun σ τ H M R' rs rm q R c=>h σ τ H M _ rs rm q _ fun us vs M1 H1 s1 rm1 ru h1=>by
 split at h1
 ·rename_i i j k
  obtain ⟨rfl,rfl,h2,h3,h4⟩:=h1
  obtain ⟨v,vs',rfl,a,b⟩:=ru.inv_cons
  obtain ⟨v2,vs2,rfl,a2,b2⟩:=b.inv_cons
  obtain ⟨v3,rfl,a3⟩:=b2.one
  cases a.int
  cases a2.int
  cases a3.int
  exact ⟨j,rfl,h2,h3,c _ _ M1 H1 s1 rm1 FP h4⟩
 ·exact h1.elim
theorem RI {D:Dat} {tg a b c:Expr} {p pos:Pos} {ta:UA} (hm:D.mg "range"=none) (ha:mE D [a,b,c] ta) (hg:D.sc.names.lookup ("range":Str)=some .globalImplicit:=by rfl) (hs:∀ env,starEach [a,b,c] env=(false,eval a env) :: starEach [b,c] env:=by intro _;rfl) (hs2:∀ env,(backTo pos (starEach [b,c] env)).any (·.1)=false:=by intro _;rfl):zF D tg (.Call (.Name "range" p) [a,b,c] [] pos) (Kr ta):=by
 obtain ⟨_,q,s⟩:=ha
 exact ⟨_,fun X h=>Mt (by show X.env.scope.names.lookup _=_;rw [h.sc];exact hg) (by rw [h.mg];exact hm) (q X h) (hs _) (hs2 _),NL s⟩
end U2
namespace U2
open PySem PySem.Spec PyProof.Rows L2
noncomputable def AA:List U->Option (List Str)
 | []=>some []
 | .str b :: r=>(AA r).map (b :: ·)
 | _=>none
theorem NF {K:PySem.W.Frag} {H:Hp} {M:aI}:∀ {us:List U} {vs:List V} {bs:List Str},aS K H M us vs->AA us=some bs->vs=bs.map V.str
 | [],_,_,r,h=>by cases h;exact r.inv_nil
 | u :: us,_,bs,r,h=>by
  obtain ⟨v,vs',rfl,a,b⟩:=r.inv_cons
  cases u with
  | str y =>
   simp only [AA] at h
   cases e:AA us with
   | none=>rw [e] at h;cases h
   | some cs =>
    rw [e] at h
    cases h
    rw [NF b e,a.str];rfl
  | _=>cases h
end U2
namespace U2
open PySem L2
theorem Mm {α:Type} {a:α} {r:List α}:dS (a :: r) 0=some a:=dP (j:=0) rfl
theorem M7 {α:Type} {a b:α} {r:List α}:dS (a :: b :: r) 1=some b:=dP (j:=1) rfl
theorem at2 {α:Type} {a b c:α} {r:List α}:dS (a :: b :: c :: r) 2=some c:=dP (j:=2) rfl
theorem LN {α:Type} {a b c d:α} {r:List α}:dS (a :: b :: c :: d :: r) 3=some d:=dP (j:=3) rfl
theorem WL {α:Type} (l:List α) (a:α):(l++[a]).getLast?=some a:=by simp
theorem Wy {α:Type} (l:List α) (a:α):(l++[a]).dropLast=l:=List.dropLast_concat
theorem vL {α:Type} (a:α) (r:List α):dO (a :: r) (some 1) none=r:=by
 unfold dO
 simp [HT.bS]
 try omega
theorem nF {M:aI}:view M .non=.non:=rfl
theorem pP {M:aI} {x:Bool}:view M (.bl x)=.bl x:=rfl
theorem m4 {M:aI} {x:Int}:view M (.int x)=.int x:=rfl
theorem nI {M:aI} {x:Str}:view M (.str x)=.str x:=rfl
theorem nE {M:aI} {x:List U}:view M (.tup x)=.tup x:=rfl
theorem nD {M:aI} {x:List U}:view M (.lst x)=.lst x:=rfl
theorem lX {M:aI} {p:Addr} {us:List U}:view (mup M p (.lst us)) (.ref p)=.lst us:=iM aX
theorem iA {M:aI} {p:Addr} {us:List U}:KI (mup M p (.lst us)) (.ref p):=⟨us,lX⟩
theorem Sub.none {M M':aI} {p:Addr} (h:Sub M M') (hp:M' p=none):M p=none:=by
 cases e:M p with
 | none=>rfl
 | some o=>rw [h p o e] at hp;cases hp
theorem e7 {o:Bool} {k:Nat} {ix:List Nat} {wi:UI} {g:UG} {te:UE} {τ:SU} {M M1:aI} {Q:UK} {S:Src} (zs:List U) (hw:∀ R:Src->aI->Prop,R S M1->wi τ M R) (hl:zs.length=S.xs.length) (hz:S.xs.length<=sizeLine) (hs:S.ok M1)
  (h:∀ (i:Nat) x y,S.xs[i]?=some x->zs[i]?=some y->∀ M,Sub M1 M->∀ R:UK,R y M->g x (dQ k ix τ) M fun τ2 M2=>te τ2 M2 R)
  (q:kQ o zs M1 Q):sV o k ix wi g (fun _ M Q=>Q true M) te τ M Q:=by
 refine hw _ ⟨hz,fun D hD=>⟨fun i ys M=>ys=zs.take i/\M=mup M1 D (.lst ys)/\i<=S.xs.length,⟨by simp,rfl,Nat.zero_le _⟩,?_,?_,?_⟩⟩
 ·rintro i ys M ⟨rfl,rfl,hi⟩
  refine ⟨fun a e=>?_,aX,?_⟩
  ·have:=hs a e
   rw [cB (fun z=>by subst z;rw [hD] at this;cases this)]
   exact this
  ·rw [List.length_take];omega
 ·rintro i x ys M e ⟨rfl,rfl,hi⟩
  have hlt:i < S.xs.length:=(List.getElem?_eq_some_iff.mp e).1
  have hy:zs[i]?=some zs[i]:=by simp [show i < zs.length by omega]
  have tk:zs.take (i + 1)=zs.take i++[zs[i]]:=by rw [List.take_add_one,hy];rfl
  refine h i x zs[i] e hy (mup M1 D (.lst (zs.take i))) ((Sub.refl M1).mup hD) (fun y M4=>M4 D=some (.lst (zs.take i))/\(zs.take i++[y]=zs.take (i + 1)/\mup M4 D (.lst (zs.take i++[y]))=mup M1 D (.lst (zs.take i++[y]))/\i + 1<=S.xs.length)) ?_
  exact ⟨aX,tk.symm,bZ,hlt⟩
 ·rintro ys M ⟨rfl,rfl,hi⟩
  rw [show zs.take S.xs.length=zs by rw [<- hl];exact List.take_length]
  cases o with
  | true=>exact q D hD
  | false=>exact ⟨M1,(Sub.refl M1).mup hD,hD,q⟩
end U2
namespace U2
open PySem PySem.Spec PyProof.Rows L2
section
variable {prog:Program} {w:World} {A:Around} {E:Value->Shared->Prop} {s:Shared}
theorem tW {it t:Addr} {i:Nat} {items} {x:Value} {Q:Value->Shared->Prop} (hit:s.heap.IsTupleIter it t i)
  (ht:s.heap.IsTuple t items) (hx:items[i]?=some x)
  (hQ:∀ h',h'.IsTupleIter it t (i + 1)->Heap.SameBut it s.heap h'->Q x { s with heap:=h' }) :
  wpAny (model prog w) A (Builtin.SmallTypes.nextOf (.ref it)) Q E s:=by
 obtain ⟨o,ho,hc,hd⟩:=id hit
 obtain ⟨ol,hol,_,nl,hdl⟩:=ht
 unfold Builtin.SmallTypes.nextOf
 refine wpAny_bind (wpAny_callSpecial?_slot (name:=Str.ofString "__next__") hit.typeIs PySem.F.slot_tuple_iterator_next
  (wpAny_call_entry PySem.F.slot_tuple_iterator_next hit.typeIs PySem.F.entry_tuple_iterator_next ?_ (PySem.F.args_tuple_iterator_next_1 _)))
 show wpAny _ _ (field (.ref it) 0 >>= _) _ _ s
 refine wpAny_bind (wpAny_field ho hd (x:=.ref t) rfl ?_)
 show wpAny _ _ (if (Value.ref t == Value.none)=true then _ else _) _ _ s
 rw [if_neg (show ¬ ((Value.ref t == Value.none)=true) from Bool.false_ne_true)]
 show wpAny _ _ (field (.ref it) 1 >>= _) _ _ s
 refine wpAny_bind (wpAny_field ho hd (x:=.int i 0) rfl ?_)
 show wpAny _ _ (seqItems? (.ref t) >>= _) _ _ s
 refine wpAny_bind (wpAny_seqItems hol hdl ?_)
 simp only [Int.toNat_natCast,hx]
 refine wpAny_bind (wpAny_setField ho hd (by simp) (wpAny_pure ⟨x,rfl,wpAny_pure (hQ _ ?_ (Heap.SameBut.update ..))⟩))
 exact ⟨_,Heap.get?_update_self _ ho (Obj.isFreed_of_fields (Obj.data_mapFields hd _)),(Obj.cls_mapFields ..).trans hc,by
  rw [Obj.data_mapFields hd];simp [rawInt]⟩
theorem uY {it t:Addr} {i:Nat} {items} {Q:Value->Shared->Prop} (hh:A.handled=none)
  (hit:s.heap.IsTupleIter it t i) (ht:s.heap.IsTuple t items) (hx:items[i]?=none)
  (hE:∀ h' e,Heap.ExtBut it s.heap h'->(∃ o,h'.get? e=some o/\o.cls=.type "StopIteration")->E (.ref e) { s with heap:=h' }) :
  wpAny (model prog w) A (Builtin.SmallTypes.nextOf (.ref it)) Q E s:=by
 obtain ⟨o,ho,hc,hd⟩:=id hit
 obtain ⟨ol,hol,_,nl,hdl⟩:=ht
 unfold Builtin.SmallTypes.nextOf
 refine wpAny_bind (wpAny_callSpecial?_slot (name:=Str.ofString "__next__") hit.typeIs PySem.F.slot_tuple_iterator_next
  (wpAny_call_entry PySem.F.slot_tuple_iterator_next hit.typeIs PySem.F.entry_tuple_iterator_next ?_ (PySem.F.args_tuple_iterator_next_1 _)))
 show wpAny _ _ (field (.ref it) 0 >>= _) _ _ s
 refine wpAny_bind (wpAny_field ho hd (x:=.ref t) rfl ?_)
 show wpAny _ _ (if (Value.ref t == Value.none)=true then _ else _) _ _ s
 rw [if_neg (show ¬ ((Value.ref t == Value.none)=true) from Bool.false_ne_true)]
 show wpAny _ _ (field (.ref it) 1 >>= _) _ _ s
 refine wpAny_bind (wpAny_field ho hd (x:=.int i 0) rfl ?_)
 show wpAny _ _ (seqItems? (.ref t) >>= _) _ _ s
 refine wpAny_bind (wpAny_seqItems hol hdl ?_)
 simp only [Int.toNat_natCast,hx]
 refine wpAny_bind (wpAny_rule (wpAny_bind (wpAny_setField ho hd (by simp) ?_)))
 show wpAny _ _ (newExc (.type "StopIteration") [] >>= _) _ _ _
 refine wpAny_bind ?_
 simp only [newExc,newTuple]
 refine wpAny_bind (wpAny_newObj_type ?_ (by size_fits))
 refine wpAny_bind (m:=firstArgMember _ _) (wpAny_of_eq (a:=Value.none) (by first | rfl | (simp only [firstArgMember];rfl)) ?_)
 refine wpAny_newObj_type ?_ (by size_fits)
 simp only [raiseNew]
 refine wpAny_bind (wpAny_handled ?_)
 first | rw [show A.in1.handled=none from hh] | rw [hh]
 refine wpAny_bind (wpAny_pure (wpAny_throw ?_))
 exact hE _ _ (((Heap.SameBut.update ..).extBut.push _).push _) ⟨_,Heap.get?_push_size _ rfl,rfl⟩
theorem uH {prog:Program} {w:World} {A:Around} (hh:A.handled=none) (it l:Addr) (hne:l≠it) (items:Array Value) :
  Draws prog w A it [it,l] items.size (fun i v=>items[i]?=some v) (fun i h=>h.IsTupleIter it l i/\h.IsTuple l items) where
 live:=fun _ _ st=>let ⟨o,ho,_⟩:=st.1;⟨o,ho⟩
 frame:=fun _ _ _ st hk=>⟨st.1.at fun o e=>hk it (by simp) o e,let ⟨o,ho,r⟩:=st.2;⟨o,hk l (by simp) o ho,r⟩⟩
 item:=fun i s Q E hi st hQ=>by
  refine tW st.1 st.2 (x:=items[i]) (by simp [hi]) fun h' hit' hs'=>?_
  exact hQ _ h' s.toks (by simp [hi]) ⟨hit',let ⟨o,ho,r⟩:=st.2;⟨o,hs'.extBut l o hne ho,r⟩⟩ hs'
 done:=fun s Q E st hE=>uY hh st.1 st.2 (by simp) hE
end
noncomputable def y7 (b:Bool) (K:PySem.W.Frag) (H:Hp) (a:Addr) (xs:List V):Prop:=match b with
 | true=>dE K H a xs
 | false=>eE K H a xs
noncomputable def jN (b:Bool) (h:Heap) (a:Addr) (xs:Array Value):Prop:=match b with
 | true=>h.IsList a xs
 | false=>h.IsTuple a xs
noncomputable def lZ (b:Bool) (h:Heap) (it a:Addr) (i:Nat):Prop:=match b with
 | true=>h.IsListIter it a i
 | false=>h.IsTupleIter it a i
noncomputable def Wl:Bool->String
 | true=>"list"
 | false=>"tuple"
noncomputable def rA:Bool->String
 | true=>"list_iterator"
 | false=>"tuple_iterator"
theorem jW {h:Heap} {b b':Addr} {o o':Obj} {n n':String} (x:h.get? b=some o) (y:h.get? b'=some o') (p:o.cls=.type n) (q:o'.cls=.type n') (ne:n≠n'):b≠b':=fun z=>by
 subst z;rw [x] at y;cases y;rw [p] at q;exact ne (Value.type.inj q)
theorem jN.obj {b:Bool} {h:Heap} {a:Addr} {xs:Array Value} (p:jN b h a xs):∃ o n,h.get? a=some o/\o.cls=.type (Wl b)/\o.data=.seq xs n:=by
 cases b <;> (obtain ⟨o,e,c,n,d⟩:=p;exact ⟨o,n,e,c,d⟩)
theorem lZ.obj {b:Bool} {h:Heap} {it a:Addr} {i:Nat} (p:lZ b h it a i):∃ o,h.get? it=some o/\o.cls=.type (rA b)/\o.data=.fields #[.ref a,.int i 0]:=by
 cases b <;> exact p
theorem lZ.of {b:Bool} {h:Heap} {it a:Addr} {i:Nat} {o:Obj} (e:h.get? it=some o) (c:o.cls=.type (rA b)) (d:o.data=.fields #[.ref a,.int i 0]):lZ b h it a i:=by
 cases b <;> exact ⟨o,e,c,d⟩
theorem lZ.at {b:Bool} {h h':Heap} {it a:Addr} {i:Nat} (p:lZ b h it a i) (k:∀ o,h.get? it=some o->h'.get? it=some o):lZ b h' it a i :=
 let ⟨o,e,c,d⟩:=p.obj;.of (k o e) c d
theorem jN.ne {b b':Bool} {h:Heap} {a it c:Addr} {xs:Array Value} {i:Nat} (p:jN b h a xs) (q:lZ b' h it c i):a≠it :=
 let ⟨_,_,e,c,_⟩:=p.obj;let ⟨_,e',c',_⟩:=q.obj;jW e e' c c' (by cases b <;> cases b' <;> decide)
theorem Tt {X:Cx} {pins:List (Addr × Obj)} {σ:L2.St} {H:Hp} {s:Shared} {b:Bool} {a:Addr} {xs:List V} (I:L2.Inv X pins σ H s) (h:y7 b X.K H a xs):∃ its:List Value,Vals xs its/\jN b s.heap a its.toArray/\xs.length<=sizeLine:=by
 cases b
 ·exact I.tuple h
 ·obtain ⟨its,r,p,z⟩:=I.list h;exact ⟨its,r,p.isList,z⟩
theorem W2 {X:Cx} {pins:List (Addr × Obj)} {σ:L2.St} {H:Hp} {s:Shared} {b:Bool} {a:Addr} {xs ys:List V} (I:L2.Inv X pins σ H s) (h:y7 b X.K H a xs) (h':y7 b X.K H a ys):xs=ys:=by
 cases b
 ·exact I.tuple_inj h h'
 ·exact I.list_inj h h'
theorem xX {prog:Program} {w:World} {A:Around} (b:Bool) (hh:A.handled=none) (it l:Addr) (hne:l≠it) (items:Array Value) :
  Draws prog w A it [it,l] items.size (fun i v=>items[i]?=some v) (fun i h=>lZ b h it l i/\jN b h l items):=by
 cases b
 ·exact uH hh it l hne items
 ·exact Draws.list hh it l hne items
noncomputable def Ww (b:Bool) (K:PySem.W.Frag) (H:Hp) (M:aI) (a:Addr) (vs:List V):Prop:=∀ H1 M1,bE H M H1 M1->y7 b K H1 a vs
theorem WT {K:PySem.W.Frag} {H:Hp} {M:aI} {a:Addr} {vs:List V} (m:M a=none/\H a=some (.tup vs)):Ww false K H M a vs:=fun _ _ s=>.inl (.inl (s.to m.2 m.1).1)
section
variable {prog:Program} {w:World} {A:Around} {E:Value->Shared->Prop} {s:Shared}
theorem vB (l:Addr) (items:Array Value) (n:Nat) (dd:Option Addr) (sl:Array (Option Value)) :
  Meets (Builtin.«enumerate.__new__» ⟨[.type "enumerate",.ref l],[]⟩) (fun _ R s=>s.heap.get? l=some { cls:=.type "tuple",dict:=dd,data:=.seq items n,slots:=sl } /\
   R (.ok (.ret (.ref (s.heap.push { cls:=.type "tuple_iterator",data:=.fields #[.ref l,.int 0 0] }).objs.size)))
    { s with heap:=(s.heap.push { cls:=.type "tuple_iterator",data:=.fields #[.ref l,.int 0 0] }).push { cls:=.type "enumerate",data:=.fields #[.none,.bool false,.ref s.heap.objs.size,rawInt 0,.none,.none] } }) :=
 .of_wp fun prog w A R s h=>by
  obtain ⟨hp,g,d,tk,os⟩:=s;obtain ⟨hl,h⟩:=h
  have hsub:=PySem.sub_enumerate
  have hL:Heap.IsTuple (Shared.heap ⟨hp,g,d,tk,os⟩) l items:=⟨_,hl,rfl,n,rfl⟩
  wp_walk using wpAny_loadPart' hl
  refine wpAny_stack_any fun st=>wpAny_pure ?_
  split
  ·rename_i c _ _ _ _ _
   cases (c == Value.type "enumerate")
   ·wp_walk using wpAny_loadPart' hl,wpAny_pyIter_tuple hL
    exact ⟨_,rfl,h⟩
   ·wp_walk using wpAny_loadPart' hl,wpAny_pyIter_tuple hL
    exact ⟨_,rfl,h⟩
  ·wp_walk using wpAny_loadPart' hl,wpAny_pyIter_tuple hL
   exact ⟨_,rfl,h⟩
theorem wX (l:Addr) (items:Array Value) (n:Nat) (dd:Option Addr) (sl:Array (Option Value)) :
  Meets (Builtin.«enumerate.__new__» ⟨[.type "enumerate",.ref l],[]⟩) (fun _ R s=>s.heap.get? l=some { cls:=.type "list",dict:=dd,data:=.seq items n,slots:=sl } /\
   R (.ok (.ret (.ref (s.heap.push { cls:=.type "list_iterator",data:=.fields #[.ref l,.int 0 0] }).objs.size)))
    { s with heap:=(s.heap.push { cls:=.type "list_iterator",data:=.fields #[.ref l,.int 0 0] }).push { cls:=.type "enumerate",data:=.fields #[.none,.bool false,.ref s.heap.objs.size,rawInt 0,.none,.none] } }) :=
 .of_wp fun prog w A R s h=>by
  obtain ⟨hp,g,d,tk,os⟩:=s;obtain ⟨hl,h⟩:=h
  have hsub:=PySem.sub_enumerate
  have hL:Heap.IsList (Shared.heap ⟨hp,g,d,tk,os⟩) l items:=⟨_,hl,rfl,n,rfl⟩
  wp_walk using wpAny_loadPart' hl
  refine wpAny_stack_any fun st=>wpAny_pure ?_
  split
  ·rename_i c _ _ _ _ _
   cases (c == Value.type "enumerate")
   ·wp_walk using wpAny_loadPart' hl,wpAny_pyIter_list hL
    exact ⟨_,rfl,h⟩
   ·wp_walk using wpAny_loadPart' hl,wpAny_pyIter_list hL
    exact ⟨_,rfl,h⟩
  ·wp_walk using wpAny_loadPart' hl,wpAny_pyIter_list hL
   exact ⟨_,rfl,h⟩
end
theorem oX {X:Cx} {pins:List (Addr × Obj)} {σ:L2.St} {H:Hp} {s:Shared} {h':Heap} {ch:List Addr} {T:Addr} {o:HO} {tk:Nat} (I:L2.Inv X pins σ H s) (hf:∀ b∈ch,j8 X pins H b)
  (k:∀ b o,b ∉ ch->s.heap.get? b=some o->h'.get? b=some o) (hT:s.heap.objs.size<=T) (new:cW X.prog X.w (upd H T o) h' T o):L2.Inv X pins σ (upd H T o) { s with heap:=h',toks:=tk }:=by
 have hn:H T=none:=I.hok.fresh hT
 refine I.call' (ch:=ch) (H':=upd H T o) rfl ⟨fun b u q n hb hx=>k b u hx q,fun b u q n hb hx=>⟨u.slots,k b u hx q⟩,fun b u q n hx=>?_,fun b u q hx=>⟨u,k b u hx q⟩,fun b xs q=>by rw [bD (bJ q hn)];exact q,fun b u xs q=>by rw [bD (bJ q hn)];exact q,
  fun b ps q=>⟨#[],by rw [bD (bJ q hn),q];simp⟩⟩ (fun a u e=>?_) I.bare fun b hb=>⟨(hf b hb).2.2.2.1,(hf b hb).2.1,(hf b hb).2.2.2.2.1,(hf b hb).2.2.2.2.2⟩
 ·rw [bD (Nat.ne_of_lt (Nat.lt_of_lt_of_le (Heap.lt_size q) hT))];exact n
 ·by_cases ha:a=T
  ·subst ha;rw [b8] at e;cases e;exact new
  ·rw [bD ha] at e
   refine (I.hok a u e).stay (fun b z hb q=>k b z (fun hc=>?_) q) (fun c q=>by rw [bD (bJ q hn)];exact q) fun c xs q=>by rw [bD (bJ q hn)];exact q
   have hnone:=(hf b hc).1
   rcases hb with rfl | hb
   ·rw [hnone] at e;cases e
   ·rw [hnone] at hb;cases hb
noncomputable def UY (f:Bool) (K:PySem.W.Frag) (a:Addr):It :=
 ⟨fun i H=>∃ xs x,y7 f K H a xs/\xs[i]?=some x,fun i H x H'=>∃ p v,(∀ xs,y7 f K H a xs->xs[i]?=some v)/\H p=none/\x=.ref p/\H'=upd H p (.tup [.int i,v]),fun i H=>∃ xs,y7 f K H a xs/\xs.length=i⟩
theorem M9 {P:Program} {w:World} {K:PySem.W.Frag} {elts:List Expr} {kk:Nat} {pos:Pos} (f:Bool) (a it e:Addr):Turn P w K (.Tuple elts kk pos) (UY f K a) [e,it] e (fun i h=>(∃ old,IsEnum h e it i old)/\lZ f h it a i) where
 mem:=by simp
 obj:=fun i h st b hb=>by
  obtain ⟨⟨old,he⟩,hi⟩:=st
  obtain ⟨o,ho,hc,hd⟩:=hi.obj
  have:b=e\/b=it:=by simpa using hb
  rcases this with rfl | rfl
  ·exact ⟨_,he,fun v z=>by
    have z':Data.fields _=Data.cell v:=z
    cases z'⟩
  ·exact ⟨o,ho,fun v z=>by rw [hd] at z;cases z⟩
 keep:=fun i h h' st k=>let ⟨⟨old,he⟩,hi⟩:=st;⟨⟨old,k e (by simp) _ he⟩,hi.at fun o q=>k it (by simp) o q⟩
 item:=by
  intro X hP hw hK hc i pins s σ H E I hf st hg
  subst hP hw hK
  obtain ⟨⟨old,he⟩,hit⟩:=st
  obtain ⟨xs,x,hq,hx⟩:=hg
  obtain ⟨its,rv,p,hz⟩:=Tt I hq
  obtain ⟨u,hu,ru⟩:=rv.get hx
  have p':jN f s.heap a its.toArray:=p
  obtain ⟨oi,hoi,hci,hdi⟩:=hit.obj
  obtain ⟨oa,na,hoa,hca,hda⟩:=p'.obj
  have n1:a≠it:=p'.ne hit
  have n2:e≠it:=jW he hoi rfl hci (by cases f <;> decide)
  have n3:e≠a:=jW he hoa rfl hca (by cases f <;> decide)
  have W:=WalksT.enumerateD (prog:=X.prog) (w:=X.w) (A:=X.A) (xX f (A:=X.A.in1) (show X.A.in1.handled=none from I.ok.hd hc) it a n1 its.toArray) e n2 (by simp [n2,n3]) (by simp)
  have hlt:i < its.toArray.size:=by
   have:=(List.getElem?_eq_some_iff.mp hu).1
   simpa using this
  have hD:=xX f (prog:=X.prog) (w:=X.w) (A:=X.A.in1) (show X.A.in1.handled=none from I.ok.hd hc) it a n1 its.toArray
  refine wpAny_pyNext_enum_itemD hD he ⟨hit,p'⟩ hlt n2 (by simp [n2,n3]) fun y h' tk hy ho0 hs0 hT0 hsz0 hk0=>?_
  have helt:e < s.heap.objs.size:=Heap.lt_size he
  have hilt:it < s.heap.objs.size:=Heap.lt_size hoi
  have lK:gW h' s.heap.objs.size #[Value.int i tk,y]:=⟨_,hT0,rfl,rfl,_,rfl⟩
  have hk:∀ b o,b ∉ [e,it]->s.heap.get? b=some o->h'.get? b=some o:=fun b o hb z=>hk0 b o (fun e'=>hb (by simp [e'])) (fun e'=>hb (by simp [e'])) z
  have hMid:=(⟨⟨_,ho0⟩,hs0,Nat.ne_of_gt helt,Nat.ne_of_gt hilt⟩:(∃ x,IsEnumOut h' e it ((i:Int) + 1) x s.heap.objs.size)/\_/\s.heap.objs.size≠e/\s.heap.objs.size≠it)
  obtain ⟨T,hTe⟩:∃ T,T=s.heap.objs.size:=⟨_,rfl⟩
  rw [<- hTe] at lK hMid ⊢
  have hT:s.heap.objs.size<=T:=Nat.le_of_eq hTe.symm
  refine ⟨.ref T,rfl,W.go elts kk pos i T _ _ E hMid fun h'' hSt hk2=>?_⟩
  have hy':y=u:=by
   have h3:its[i]?=some y:=by simpa using hy
   rw [hu] at h3;exact (Option.some.inj h3).symm
  subst hy'
  have hTT:gW h'' T #[.int i tk,y]:=let ⟨o,ho,r⟩:=lK;⟨o,hk2 T o (W.apart i T _ hMid) ho,r⟩
  refine ⟨.ref T,upd H T (.tup [.int i,x]),oX (s:=s) (h':=h'') (tk:=tk + 1) (ch:=[e,it]) I hf (fun b o hb q=>hk2 b o (by simpa using hb) (hk b o (by simpa using hb) q)) hT ⟨by show 2<=sizeLine;decide,[.int i tk,y],.cons ⟨tk,rfl⟩ (.cons ru .nil),hTT⟩,rfl,⟨T,x,fun ys hy=>by rw [<- W2 I hq hy];exact hx,I.hok.fresh hT,rfl,rfl⟩,⟨by simpa using hSt.1,hSt.2.1⟩,fun b hb=>?_⟩
  have hn:=(hf b hb).1
  rw [bD (Nat.ne_of_lt (Nat.lt_of_lt_of_le ?_ hT))]
  ·exact hn
  ·have:b=e\/b=it:=by simpa using hb
   rcases this with rfl | rfl
   ·exact Heap.lt_size he
   ·exact Heap.lt_size hoi
 done:=by
  intro X hP hw hK hc i pins s σ H E I hf st hg
  subst hP hw hK
  obtain ⟨⟨old,he⟩,hit⟩:=st
  obtain ⟨xs,hq,hx⟩:=hg
  obtain ⟨its,rv,p,hz⟩:=Tt I hq
  have p':jN f s.heap a its.toArray:=p
  obtain ⟨oi,hoi,hci,hdi⟩:=hit.obj
  obtain ⟨oa,na,hoa,hca,hda⟩:=p'.obj
  have n1:a≠it:=p'.ne hit
  have n2:e≠it:=jW he hoi rfl hci (by cases f <;> decide)
  have n3:e≠a:=jW he hoa rfl hca (by cases f <;> decide)
  have W:=WalksT.enumerateD (prog:=X.prog) (w:=X.w) (A:=X.A) (xX f (A:=X.A.in1) (show X.A.in1.handled=none from I.ok.hd hc) it a n1 its.toArray) e n2 (by simp [n2,n3]) (by simp)
  have hi:i=its.toArray.size:=by rw [List.size_toArray,<- rv.length];exact hx.symm
  subst hi
  refine W.done s _ E ⟨⟨old,he⟩,hit,p'⟩ fun h' tk hk=>⟨rfl,?_⟩
  have:=I.call' (ch:=[e,it]) (H':=H) (s':={ s with heap:=h',toks:=tk }) rfl ⟨fun b u q n hb hx=>hk b u (by simpa using hx) q,fun b u q n hb hx=>⟨u.slots,hk b u (by simpa using hx) q⟩,fun b u q n hx=>n,fun b u q hx=>⟨u,hk b u (by simpa using hx) q⟩,fun b xs q=>q,fun b u xs q=>q,fun b ps q=>⟨#[],by rw [q];simp⟩⟩
   (fun a u e'=>?_) I.bare fun b hb=>⟨(hf b hb).2.2.2.1,(hf b hb).2.1,(hf b hb).2.2.2.2.1,(hf b hb).2.2.2.2.2⟩
  ·exact this
  ·refine (I.hok a u e').stay (fun b z hb q=>hk b z (fun hc=>?_) q) (fun _ q=>q) fun _ _ q=>q
   have hnone:=(hf b (by simpa using hc)).1
   rcases hb with rfl | hb
   ·rw [hnone] at e';cases e'
   ·rw [hnone] at hb;cases hb
 self:=fun _ _ _ _ _ st h=>let ⟨⟨old,he⟩,_⟩:=st;wpAny_pyIter_enum he h
theorem Kb {prog:Program} {w:World} {A:Around} {E:Value->Shared->Prop} {s:Shared} {f:Bool} {l:Addr} {items:Array Value} {Q:Value->Shared->Prop}
  (hl:jN f s.heap l items)
  (h:∀ h',IsEnum h' (s.heap.objs.size + 1) s.heap.objs.size 0 .none->lZ f h' s.heap.objs.size l 0->h'.objs.size=s.heap.objs.size + 2 ->
   (∀ b o,s.heap.get? b=some o->h'.get? b=some o)->Q (.ref (s.heap.objs.size + 1)) { s with heap:=h' }) :
  wpAny (model prog w) A (call (.type "enumerate") [.ref l]) Q E s:=by
 have fin:Q (.ref (s.heap.push { cls:=.type (rA f),data:=.fields #[.ref l,.int 0 0] }).objs.size)
   { s with heap:=(s.heap.push { cls:=.type (rA f),data:=.fields #[.ref l,.int 0 0] }).push { cls:=.type "enumerate",data:=.fields #[.none,.bool false,.ref s.heap.objs.size,rawInt 0,.none,.none] } } /\
   ((s.heap.push { cls:=.type (rA f),data:=.fields #[.ref l,.int 0 0] }).push { cls:=.type "enumerate",data:=.fields #[.none,.bool false,.ref s.heap.objs.size,rawInt 0,.none,.none] }).get? (s.heap.push { cls:=.type (rA f),data:=.fields #[.ref l,.int 0 0] }).objs.size=some { cls:=.type "enumerate",data:=.fields #[.none,.bool false,.ref s.heap.objs.size,rawInt 0,.none,.none] }:=by
  have hz:(s.heap.push { cls:=.type (rA f),data:=.fields #[.ref l,.int 0 0] }).objs.size=s.heap.objs.size + 1:=Heap.size_push ..
  have he:=Heap.get?_push_size (s.heap.push { cls:=.type (rA f),data:=.fields #[.ref l,.int 0 0] })
   (o:={ cls:=.type "enumerate",data:=.fields #[.none,.bool false,.ref s.heap.objs.size,rawInt 0,.none,.none] }) rfl
  refine ⟨?_,he⟩
  rw [hz] at he
  rw [hz]
  exact h _ he (.of (Heap.get?_push_of_some _ (Heap.get?_push_size _ rfl)) rfl rfl) (by rw [Heap.size_push,hz]) fun b o x=>Heap.get?_push_of_some _ (Heap.get?_push_of_some _ x)
 obtain ⟨⟨oc,od,odt,osl⟩,n,ho,hc,hd⟩:=hl.obj
 have hc':oc=.type (Wl f):=hc
 have hd':odt=.seq items n:=hd
 subst hc' hd'
 cases f
 ·exact callType_new F.called_enumerate (by decide) (F.typeCall_enumerate_1 _) (F.newCall_enumerate_1 _) (fun obj=>F.args_object_init_2 obj _) F.entry_enumerate_new
   (vB l items n od osl) ⟨ho,⟨_,fin.2,rfl⟩,fin.1⟩
 ·exact callType_new F.called_enumerate (by decide) (F.typeCall_enumerate_1 _) (F.newCall_enumerate_1 _) (fun obj=>F.args_object_init_2 obj _) F.entry_enumerate_new
   (wX l items n od osl) ⟨ho,⟨_,fin.2,rfl⟩,fin.1⟩
noncomputable def Qf (f:Bool) (K:PySem.W.Frag) (ta:TA):TI:=fun σ H R=>ta σ H fun vs H1=>∃ a,vs=[.ref a]/\(∃ xs,y7 f K H1 a xs)/\R (UY f K a) H1
theorem Q2 {f:Bool} {X:Cx} {elts:List Expr} {kk:Nat} {tpos:Pos} {a:Expr} {ta:TA} {p pos:Pos} (hg:Gl X "enumerate") (hm:X.mg "enumerate"=none) (ha:PA X [a] ta) (hs:starEach [a] X.env=[(false,eval a X.env)]) :
  PI X (.Tuple elts kk tpos) (.Call (.Name "enumerate" p) [a] [] pos) (Qf f X.K ta):=by
 intro pins s σ H R I h
 refine Call_ (kX I hg hm boot_enumerate (PyProof.Rows.callWith_type1 (bP (ha pos pins s σ H _ I h) fun us s1 ⟨vs,H1,I1,r1,q1⟩=>?_) hs rfl))
 obtain ⟨a,e,⟨xs,hq⟩,q⟩:=q1
 subst e
 cases r1 with
 | cons r rr =>
  cases rr
  cases r
  obtain ⟨its,rv,p,hz⟩:=Tt I1 hq
  refine Kb p fun h' he hit hsz hk=>?_
  refine wpAny_pyIter_enum (s:={ s1 with heap:=h' }) he ?_
  have I2:L2.Inv X pins σ H1 { s1 with heap:=h',toks:=s1.toks }:=I1.kept hk
  refine ⟨s1.heap.objs.size + 1,[s1.heap.objs.size + 1,s1.heap.objs.size],_,_,H1,rfl,I2,M9 f a s1.heap.objs.size (s1.heap.objs.size + 1),⟨⟨_,he⟩,hit⟩,fun b hb=>?_,q⟩
  have e:b=s1.heap.objs.size + 1\/b=s1.heap.objs.size:=by simpa using hb
  rcases e with rfl | rfl
  ·exact I1.fpOk (Nat.le_succ _) (I1.hok.fresh (Nat.le_succ _))
  ·exact I1.fpOk (Nat.le_refl _) (I1.hok.fresh (Nat.le_refl _))
noncomputable def numbered (us:List U):List U:=us.zipIdx.map fun p=>.tup [.int (p.2:Nat),p.1]
theorem rT (us:List U):(numbered us).length=us.length:=by simp [numbered]
theorem rQ {us:List U} {i:Nat} {x:U} (h:(numbered us)[i]?=some x):∃ u,us[i]?=some u/\x=.tup [.int i,u]:=by
 simp only [numbered,List.getElem?_map,List.getElem?_zipIdx] at h
 cases e:us[i]? with
 | none=>rw [e] at h;simp at h
 | some u=>rw [e] at h;simp at h;exact ⟨u,rfl,h.symm⟩
theorem LK {f:Bool} {K:PySem.W.Frag} {a:Addr} {us:List U} {vs:List V} {H:Hp} {M:aI} (sq:Ww f K H M a vs) (r:aS K H M us vs):Walk K (UY f K a) ⟨none,numbered us⟩ H M:=by
 refine ⟨fun H1 M1 s rm _ i u e=>?_,fun H1 M1 s rm _=>⟨vs,sq H1 M1 s,by show vs.length=(numbered us).length;rw [rT,r.length]⟩⟩
 obtain ⟨w,e1,rfl⟩:=rQ e
 obtain ⟨v,e2,ru⟩:=r.get e1
 refine ⟨⟨vs,v,sq H1 M1 s,e2⟩,fun x H2 y=>?_⟩
 obtain ⟨p,v',y,hp,rfl,rfl⟩:=y
 have:=y vs (sq _ M1 s)
 rw [e2] at this;cases this
 have st:=bE.laid (o:=.tup [.int i,v]) rm hp
 have rr:aS K H1 M1 [.int i,w] [.int i,v]:=by
  simp only [aS]
  exact ⟨_,_,rfl,cO,_,_,rfl,ru.stp s,rfl⟩
 exact ⟨st,rm.laid hp,vG (rm.no hp) b8 (rr.stp st)⟩
noncomputable def qJ (ta:UA):UI:=fun τ M R=>ta τ M fun us M1=>match us with
 | [.tup us]=>R ⟨none,numbered us⟩ M1
 | _=>False
theorem Om {K:PySem.W.Frag} {ta:TA} {ta':UA} (h:j6 K ta ta'):rR K (Qf false K ta) (qJ ta'):=fun σ τ H M R' rs rm q R c=>h σ τ H M _ rs rm q _ fun us vs M1 H1 s1 rm1 ru h1=>by
 split at h1
 ·rename_i xs
  obtain ⟨v,rfl,a⟩:=ru.one
  simp only [aY] at a
  obtain ⟨a,vs,rfl,m,r⟩:=a
  refine ⟨a,rfl,⟨vs,?_⟩,c _ _ M1 H1 s1 rm1 (LK (WT m) r) h1⟩
  exact .inl (.inl m.2)
 ·exact h1.elim
theorem Bo {D:Dat} {elts:List Expr} {kk:Nat} {tpos:Pos} {a:Expr} {p pos:Pos} {ta:UA} (hm:D.mg "enumerate"=none) (ha:mE D [a] ta) (hg:D.sc.names.lookup ("enumerate":Str)=some .globalImplicit:=by rfl) (hs:∀ env,starEach [a] env=[(false,eval a env)]:=by intro _;rfl):zF D (.Tuple elts kk tpos) (.Call (.Name "enumerate" p) [a] [] pos) (qJ ta):=by
 obtain ⟨_,q,s⟩:=ha
 exact ⟨_,fun X h=>h.K ▸ Q2 (by show X.env.scope.names.lookup _=_;rw [h.sc];exact hg) (by rw [h.mg];exact hm) (q X h) (hs _),Om s⟩
noncomputable def CQ (ta:UA):UI:=fun τ M R=>ta τ M fun us M1=>match us with
 | [.lst us]=>R ⟨none,numbered us⟩ M1
 | _=>False
end U2
namespace U2
open PySem PySem.Spec PyProof.Rows L2
mutual
noncomputable def eI (K:PySem.W.Frag) (H:Hp):PyData->V->Prop
 | .none,v=>v=.non
 | .bool b,v=>v=.bl b
 | .int i,v=>v=.int i
 | .str z,v=>v=.str z
 | .list ds,v=>∃ a xs,v=.ref a/\dE K H a xs/\cZ K H ds xs
 | .tuple ds,v=>∃ a xs,v=.ref a/\eE K H a xs/\cZ K H ds xs
 | .dict _,_=>False
noncomputable def cZ (K:PySem.W.Frag) (H:Hp):List PyData->List V->Prop
 | [],vs=>vs=[]
 | d :: ds,vs=>∃ v vs',vs=v :: vs'/\eI K H d v/\cZ K H ds vs'
end
mutual
theorem eI.reads {X:Cx} {pins:List (Addr × Obj)} {σ:L2.St} {H:Hp} {s:Shared} (I:L2.Inv X pins σ H s):∀ {d:PyData} {v:V} {u:Value},eI X.K H d v->RelV v u->∃ as,Reads s.heap u d as
 | .none,v,u,h,r=>by simp only [eI] at h;subst h;cases r;exact ⟨_,.none⟩
 | .bool b,v,u,h,r=>by simp only [eI] at h;subst h;cases r;exact ⟨_,.bool b⟩
 | .int i,v,u,h,r=>by simp only [eI] at h;subst h;obtain ⟨t,rfl⟩:=r;exact ⟨_,.int i t⟩
 | .str z,v,u,h,r=>by simp only [eI] at h;subst h;obtain ⟨t,rfl⟩:=r;exact ⟨_,.str z t⟩
 | .list ds,v,u,h,r=>by
  simp only [eI] at h
  obtain ⟨a,xs,rfl,q,hs⟩:=h
  cases r
  obtain ⟨its,rv,p,hz⟩:=I.list q
  obtain ⟨as,ra⟩:=cZ.reads I hs rv
  obtain ⟨o,h1,h2,n,h3⟩:=p.isList
  exact ⟨_,.list h1 h2 h3 (by simpa using ra)⟩
 | .tuple ds,v,u,h,r=>by
  simp only [eI] at h
  obtain ⟨a,xs,rfl,q,hs⟩:=h
  cases r
  obtain ⟨its,rv,p,hz⟩:=I.tuple q
  obtain ⟨as,ra⟩:=cZ.reads I hs rv
  obtain ⟨o,h1,h2,n,h3⟩:=(show s.heap.IsTuple a its.toArray from p)
  exact ⟨_,.tuple h1 h2 h3 (by simpa using ra)⟩
 | .dict _,v,u,h,r=>by simp only [eI] at h
theorem cZ.reads {X:Cx} {pins:List (Addr × Obj)} {σ:L2.St} {H:Hp} {s:Shared} (I:L2.Inv X pins σ H s):∀ {ds:List PyData} {vs:List V} {us:List Value},cZ X.K H ds vs->Vals vs us->∃ as,ReadsAll s.heap us ds as
 | [],vs,us,h,r=>by simp only [cZ] at h;subst h;cases r;exact ⟨_,.nil⟩
 | d :: ds,vs,us,h,r=>by
  simp only [cZ] at h
  obtain ⟨v,vs',rfl,h1,h2⟩:=h
  cases r with
  | cons r rr =>
   obtain ⟨as,ra⟩:=eI.reads I h1 r
   obtain ⟨bs,rb⟩:=cZ.reads I h2 rr
   exact ⟨_,.cons ra rb⟩
end
noncomputable def OE (K:PySem.W.Frag) (neg:Bool):R2:=fun x y H Q=>∃ d d',eI K H d x/\eI K H d' y/\d.canLay0=true/\d'.canLay0=true/\min d.depth d'.depth<=64/\Q (.bl (if neg then !PyData.eqv d d' else PyData.eqv d d')) H
theorem Tv {X:Cx} {k:Nat} (hr:cS k X.A):cU X (compareOp .Eq) (OE X.K false):=by
 intro pins s σ H x y v u Q I rx ry h
 obtain ⟨d,d',h1,h2,c1,c2,hd,q⟩:=h
 obtain ⟨as,ra⟩:=h1.reads I rx
 obtain ⟨bs,rb⟩:=h2.reads I ry
 exact SeqAt.compareEq_reads ra rb c1 c2 (by have:=hr.units;omega) ⟨.bl _,H,I,rfl,q⟩
theorem SV {X:Cx} {k:Nat} (hr:cS k X.A):cU X (compareOp .NotEq) (OE X.K true):=by
 intro pins s σ H x y v u Q I rx ry h
 obtain ⟨d,d',h1,h2,c1,c2,hd,q⟩:=h
 obtain ⟨as,ra⟩:=h1.reads I rx
 obtain ⟨bs,rb⟩:=h2.reads I ry
 exact SeqAt.compareNe_reads ra rb c1 c2 (by have:=hr.units;omega) ⟨.bl _,H,I,rfl,q⟩
mutual
noncomputable def toD:U->Option PyData
 | .non=>some .none
 | .bl b=>some (.bool b)
 | .int i=>some (.int i)
 | .str z=>some (.str z)
 | .tup us=>(eO us).map .tuple
 | .lst us=>(eO us).map .list
 | .ty _=>none
 | .ref _=>none
 | .dic _ _ _=>none
noncomputable def eO:List U->Option (List PyData)
 | []=>some []
 | u :: us=>match toD u,eO us with
  | some d,some ds=>some (d :: ds)
  | _,_=>none
end
noncomputable def pL (M:aI) (u:U):Option PyData:=match u with
 | .ref a=>match M a with
  | some (.lst us)=>(eO us).map .list
  | _=>none
 | u=>toD u
mutual
theorem F1 {K:PySem.W.Frag} {H:Hp} {M:aI}:∀ {u:U} {v:V} {d:PyData},aY K H M u v->toD u=some d->eI K H d v
 | .non,v,d,r,e=>by simp only [toD,Option.some.injEq] at e;subst e;simp only [eI];exact r.non
 | .bl b,v,d,r,e=>by simp only [toD,Option.some.injEq] at e;subst e;simp only [eI];exact r.bl
 | .int i,v,d,r,e=>by simp only [toD,Option.some.injEq] at e;subst e;simp only [eI];exact r.int
 | .str i,v,d,r,e=>by simp only [toD,Option.some.injEq] at e;subst e;simp only [eI];exact r.str
 | .tup us,v,d,r,e=>by
  simp only [toD] at e
  cases e2:eO us with
  | none=>rw [e2] at e;simp at e
  | some ds =>
   rw [e2] at e;simp at e;subst e
   obtain ⟨a,vs,rfl,q,rs⟩:=r.tup
   simp only [eI]
   exact ⟨a,vs,rfl,q,nB rs e2⟩
 | .lst us,v,d,r,e=>by
  simp only [toD] at e
  cases e2:eO us with
  | none=>rw [e2] at e;simp at e
  | some ds =>
   rw [e2] at e;simp at e;subst e
   obtain ⟨a,vs,rfl,q,rs⟩:=r.lst
   simp only [eI]
   exact ⟨a,vs,rfl,q,nB rs e2⟩
 | .ty _,v,d,r,e=>by simp [toD] at e
 | .ref _,v,d,r,e=>by simp [toD] at e
 | .dic _ _ _,v,d,r,e=>by simp [toD] at e
theorem nB {K:PySem.W.Frag} {H:Hp} {M:aI}:∀ {us:List U} {vs:List V} {ds:List PyData},aS K H M us vs->eO us=some ds->cZ K H ds vs
 | [],vs,ds,r,e=>by simp only [eO,Option.some.injEq] at e;subst e;simp only [cZ];exact r.inv_nil
 | u :: us,vs,ds,r,e=>by
  obtain ⟨v,vs',rfl,a,b⟩:=r.inv_cons
  simp only [eO] at e
  cases e1:toD u with
  | none=>rw [e1] at e;simp at e
  | some d =>
   cases e2:eO us with
   | none=>rw [e1,e2] at e;simp at e
   | some ds' =>
    rw [e1,e2] at e;simp at e;subst e
    simp only [cZ]
    exact ⟨v,vs',rfl,F1 a e1,nB b e2⟩
end
theorem uU {K:PySem.W.Frag} {H:Hp} {M:aI} {u:U} {v:V} {d:PyData} (rm:RelM K H M) (r:aY K H M u v) (e:pL M u=some d):eI K H d v:=by
 cases u with
 | ref a =>
  simp only [pL] at e
  split at e
  ·rename_i us hM
   cases e2:eO us with
   | none=>rw [e2] at e;simp at e
   | some ds =>
    rw [e2] at e;simp at e;subst e
    obtain ⟨vs,h1,rs⟩:=rm a _ hM
    cases r.ref
    simp only [eI]
    exact ⟨a,vs,rfl,.inl (.inl h1),nB rs e2⟩
  ·cases e
 | _=>exact F1 r (by simpa only [pL] using e)
noncomputable def HK (neg:Bool):dI:=fun x y M Q=>∃ d d',pL M x=some d/\pL M y=some d'/\d.canLay0=true/\d'.canLay0=true/\min d.depth d'.depth<=64/\Q (.bl (if neg then !PyData.eqv d d' else PyData.eqv d d')) M
theorem F4 {K:PySem.W.Frag} {neg:Bool}:dG K (OE K neg) (HK neg):=fun x y u w H M Q' rm ru rw h Q c=>by
 obtain ⟨d,d',e1,e2,c1,c2,hd,q⟩:=h
 exact ⟨d,d',uU rm ru e1,uU rm rw e2,c1,c2,hd,c.here rm cL q⟩
variable {D:Dat}
noncomputable def fM:U->Bool
 | .non=>true
 | .bl _=>true
 | .int _=>true
 | .str _=>true
 | _=>false
noncomputable def mZ:U->U->Bool
 | .non,.non=>true
 | .bl a,.bl b=>a == b
 | .bl a,.int j=>(if a then 1 else 0) == j
 | .int i,.bl b=>i == (if b then 1 else 0)
 | .int i,.int j=>i == j
 | .str x,.str y=>x == y
 | _,_=>false
noncomputable def items (M:aI):U->Option (List U)
 | .tup us=>some us
 | .lst us=>some us
 | .ref a=>match M a with
  | some (.lst us)=>some us
  | _=>none
 | _=>none
noncomputable def wV (neg:Bool):dI:=fun x y M Q=>match items M y with
 | some us=>fM x=true/\us.all fM=true/\Q (.bl (if neg then !us.any (fun u=>mZ u x) else us.any (fun u=>mZ u x))) M
 | none=>False
theorem vJ {K:PySem.W.Frag} {H:Hp} {M:aI} {u:U} {v:V} (r:aY K H M u v) (f:fM u=true):gE v=true:=by
 cases u with
 | non=>cases r.non;rfl
 | bl b=>cases r.bl;rfl
 | int b=>cases r.int;rfl
 | str b=>cases r.str;rfl
 | _=>exact absurd (show false=true from f) Bool.false_ne_true
theorem RU {K:PySem.W.Frag} {H:Hp} {M:aI} {u w:U} {v x:V} (r:aY K H M u v) (r':aY K H M w x) (f:fM u=true) (f':fM w=true):wG v x=mZ u w:=by
 cases u <;> (first | (cases r.non) | (cases r.bl) | (cases r.int) | (cases r.str) | exact absurd (show false=true from f) Bool.false_ne_true) <;> cases w <;>
  (first | (cases r'.non) | (cases r'.bl) | (cases r'.int) | (cases r'.str) | exact absurd (show false=true from f') Bool.false_ne_true) <;> rfl
theorem rS {K:PySem.W.Frag} {H:Hp} {M:aI}:∀ {us:List U} {vs:List V},aS K H M us vs->us.all fM=true->vs.all gE=true
 | [],vs,r,_=>by cases r.inv_nil;rfl
 | u :: us,vs,r,f=>by
  obtain ⟨v,vs',rfl,a,b⟩:=r.inv_cons
  rw [List.all_cons,Bool.and_eq_true] at f ⊢
  exact ⟨vJ a f.1,rS b f.2⟩
theorem yG {K:PySem.W.Frag} {H:Hp} {M:aI} {w:U} {x:V} (r':aY K H M w x) (f':fM w=true):∀ {us:List U} {vs:List V},aS K H M us vs->us.all fM=true->P6 x vs=us.any fun u=>mZ u w
 | [],vs,r,_=>by cases r.inv_nil;rfl
 | u :: us,vs,r,f=>by
  obtain ⟨v,vs',rfl,a,b⟩:=r.inv_cons
  rw [List.all_cons,Bool.and_eq_true] at f
  have:=yG r' f' b f.2
  unfold P6 at this ⊢
  rw [List.any_cons,List.any_cons,this,RU a r' f.1 f']
theorem zS {K:PySem.W.Frag} {H:Hp} {M:aI} {u:U} {v:V} {us:List U} (rm:RelM K H M) (r:aY K H M u v) (e:items M u=some us):∃ p xs,v=.ref p/\(dE K H p xs\/eE K H p xs)/\aS K H M us xs:=by
 cases u with
 | tup us'=>cases e;obtain ⟨a,vs,rfl,q,rs⟩:=r.tup;exact ⟨a,vs,rfl,.inr q,rs⟩
 | lst us'=>cases e;obtain ⟨a,vs,rfl,q,rs⟩:=r.lst;exact ⟨a,vs,rfl,.inl q,rs⟩
 | ref a =>
  simp only [items] at e
  split at e
  ·rename_i us' hM
   cases e
   obtain ⟨vs,h1,rs⟩:=rm a _ hM
   exact ⟨a,vs,r.ref,.inl (.inl (.inl h1)),rs⟩
  ·cases e
 | _=>cases e
theorem MH {K:PySem.W.Frag} {neg:Bool}:dG K (QB K neg) (wV neg):=fun x y u w H M Q' rm ru rw h Q c=>by
 unfold wV at h
 split at h
 ·rename_i us e
  obtain ⟨f,fs,q⟩:=h
  obtain ⟨p,xs,rfl,hs,rs⟩:=zS rm rw e
  refine ⟨p,xs,rfl,hs,vJ ru f,rS rs fs,?_⟩
  rw [yG ru f rs fs]
  exact c.here rm cL q
 ·exact h.elim
theorem U3:kO D .In (wV false):=⟨⟨_,fun X h=>h.K ▸ Nu,MH⟩⟩
theorem yO:kO D .NotIn (wV true):=⟨⟨_,fun X h=>h.K ▸ rO,MH⟩⟩
noncomputable def jQ (neg:Bool):dI:=fun x y M Q=>match zD x y with
 | some b=>Q (.bl (if neg then !b else b)) M
 | none=>HK neg x y M Q
theorem cM:kO D .Eq (jQ false):=⟨⟨_,fun X h=>h.K ▸ VY.or (Tv h.room),fun x y u w H M Q' rm ru rw h Q c=>by
 unfold jQ at h
 split at h
 ·rename_i b e
  obtain ⟨h1,h2⟩:=GQ ru rw e
  exact .inl ⟨h1,c.here rm (by rw [h2];exact cL) h⟩
 ·exact .inr (F4 x y u w H M Q' rm ru rw h Q c)⟩⟩
theorem tK:kO D .NotEq (jQ true):=⟨⟨_,fun X h=>h.K ▸ Wb.or (SV h.room),fun x y u w H M Q' rm ru rw h Q c=>by
 unfold jQ at h
 split at h
 ·rename_i b e
  obtain ⟨h1,h2⟩:=GQ ru rw e
  exact .inl ⟨h1,c.here rm (by rw [h2];exact cL) h⟩
 ·exact .inr (F4 x y u w H M Q' rm ru rw h Q c)⟩⟩
end U2
namespace U2
open PySem PySem.Spec PyProof.Rows L2
structure Zp (z TI TO i1 i2:Addr) (f1 f2:List Addr):Prop where
 TIz:TI≠z
 TOz:TO≠z
 i1z:i1≠z
 i2z:i2≠z
 TITO:TI≠TO
 TIi1:TI≠i1
 TIi2:TI≠i2
 TOi1:TO≠i1
 TOi2:TO≠i2
 i12:i1≠i2
 zf1:z ∉ f1
 zf2:z ∉ f2
 Tf1:TO ∉ f1
 Tf2:TO ∉ f2
 if2:i1 ∉ f2
 if1:i2 ∉ f1
theorem Draws.same {prog:Program} {w:World} {A:Around} {it:Addr} {fp:List Addr} {n:Nat} {P:Nat->Value->Prop} {St:Nat->Heap->Prop} (D:Draws prog w A it fp n P St) {i:Nat} {h h':Heap} {c:Addr} (st:St i h) (sb:Heap.ExtBut c h h') (hc:c ∉ fp):St i h' :=
 D.frame _ _ _ st fun b hb o e=>sb b o (fun q=>hc (q ▸ hb)) e
section
variable {prog:Program} {w:World} {A:Around} {E:Value->Shared->Prop} {s:Shared} {z TI TO i1 i2:Addr} {f1 f2:List Addr} {n1 n2:Nat} {P1 P2:Nat->Value->Prop} {S1 S2:Nat->Heap->Prop} {i:Nat} {a b:Value}
theorem PL (Z:Zp z TI TO i1 i2 f1 f2) (D1:Draws prog w A i1 f1 n1 P1 S1) (D2:Draws prog w A i2 f2 n2 P2 S2) {Q:Value->Shared->Prop}
  (hz:IsZip s.heap z TI TO .none) (hTI:IsPair s.heap TI (.ref i1) (.ref i2)) (hTO:IsPair s.heap TO a b) (h1:S1 i s.heap) (h2:S2 i s.heap) (l1:i < n1) (l2:i < n2)
  (hQ:∀ x y h' tk,P1 i x->P2 i y->IsZip h' z TI TO (rawInt s.heap.objs.size)->IsPair h' TO x y->S1 (i + 1) h'->S2 (i + 1) h'->IsPair h' s.heap.objs.size x y ->
   (∀ c o,c≠z->c≠TO->c≠i1->c≠i2->s.heap.get? c=some o->h'.get? c=some o)->Q (.ref s.heap.objs.size) { s with heap:=h',toks:=tk }) :
  wpAny (model prog w) A (Builtin.«zip.__next__» ⟨[.ref z],[]⟩) (fun fin s'=>∃ v,fin=.done (.ret v)/\Q v s') E s:=by
 show wpAny _ _ (field (.ref z) 2 >>= _) _ _ _
 refine wpAny_bind (wpAny_field hz rfl (x:=.bool false) rfl ?_)
 show wpAny _ _ (field (.ref z) 3 >>= _) _ _ _
 refine wpAny_bind (wpAny_field hz rfl (x:=.ref TI) rfl ?_)
 refine wpAny_bind (wpAny_seqItems hTI rfl ?_)
 show wpAny _ _ (Builtin.SmallTypes.ownedTupleIsFree (.ref z) >>= _) _ _ _
 refine wpAny_bind ?_
 unfold Builtin.SmallTypes.ownedTupleIsFree
 refine wpAny_bind (wpAny_field hz rfl (x:=.none) rfl (wpAny_pure ?_))
 simp only [if_true]
 refine wpAny_bind (wpAny_rule ?_)
 refine wpAny_bind (wpAny_field hz rfl (x:=.ref TO) rfl ?_)
 refine wpAny_bind (wpAny_setField_rec hz (by simp) fun g1 hz1 hs1=>?_)
 replace hz1:IsZip g1 z TI TO .ellipsis:=hz1
 refine wpAny_bind ?_
 simp only [List.zipIdx_cons,List.zipIdx_nil,List.forIn_cons,List.forIn_nil]
 refine wpAny_bind (wpAny_bind (wpAny_onRaise ?_))
 show wpAny _ _ (Builtin.SmallTypes.nextOf (.ref i1) >>= _) _ _ _
 refine wpAny_bind (D1.item i _ _ _ l1 (Draws.same D1 h1 hs1.extBut Z.zf1) fun x g2 tk2 px j2 hs2=>wpAny_pure ?_)
 have hTO2:IsPair g2 TO a b:=hs2.extBut _ _ Z.TOi1 (hs1.extBut _ _ Z.TOz hTO)
 refine wpAny_bind (wpAny_seqItems hTO2 rfl ?_)
 refine wpAny_bind (wpAny_updateSeq_pair hTO2 fun g3 hTO3 hs3=>?_)
 replace hTO3:IsPair g3 TO x b:=hTO3
 refine wpAny_bind (wpAny_letGo (wpAny_pure ?_))
 refine wpAny_bind (wpAny_bind (wpAny_onRaise ?_))
 show wpAny _ _ (Builtin.SmallTypes.nextOf (.ref i2) >>= _) _ _ _
 refine wpAny_bind (D2.item i _ _ _ l2 (Draws.same D2 (Draws.same D2 (Draws.same D2 h2 hs1.extBut Z.zf2) hs2.extBut Z.if2) hs3.extBut Z.Tf2) fun y g4 tk4 py st4 hs4=>wpAny_pure ?_)
 have hTO4:IsPair g4 TO x b:=hs4.extBut _ _ Z.TOi2 hTO3
 refine wpAny_bind (wpAny_seqItems hTO4 rfl ?_)
 refine wpAny_bind (wpAny_updateSeq_pair hTO4 fun g5 hTO5 hs5=>?_)
 replace hTO5:IsPair g5 TO x y:=hTO5
 refine wpAny_bind (wpAny_letGo (wpAny_pure (wpAny_pure ?_)))
 refine wpAny_bind (wpAny_seqItems hTO5 rfl ?_)
 refine wpAny_bind (wpAny_newTuple ?_)
 have hsz:g5.objs.size=s.heap.objs.size:=by rw [hs5.1,hs4.1,hs3.1,hs2.1,hs1.1]
 have hz5:IsZip g5 z TI TO .ellipsis:=hs5.extBut _ _ Z.TOz.symm (hs4.extBut _ _ Z.i2z.symm (hs3.extBut _ _ Z.TOz.symm (hs2.extBut _ _ Z.i1z.symm hz1)))
 have hk5:∀ c o,c≠z->c≠TO->c≠i1->c≠i2->s.heap.get? c=some o->g5.get? c=some o:=fun c o c1 c2 c3 c4 e =>
  hs5.extBut _ _ c2 (hs4.extBut _ _ c4 (hs3.extBut _ _ c2 (hs2.extBut _ _ c3 (hs1.extBut _ _ c1 e))))
 have h15:S1 (i + 1) g5:=Draws.same D1 (Draws.same D1 (Draws.same D1 j2 hs3.extBut Z.Tf1) hs4.extBut Z.if1) hs5.extBut Z.Tf1
 have h25:S2 (i + 1) g5:=Draws.same D2 st4 hs5.extBut Z.Tf2
 have hzlt:z < g5.objs.size:=Heap.lt_size hz5
 show wpAny _ _ (Builtin.SmallTypes.ownedTupleHandOut (.ref z) (.ref g5.objs.size) >>= _) _ _ _
 refine wpAny_bind ?_
 unfold Builtin.SmallTypes.ownedTupleHandOut
 have hz6:IsZip (g5.push { cls:=.type "tuple",data:=.seq #[x,y] }) z TI TO .ellipsis:=Heap.get?_push_of_some _ hz5
 refine wpAny_bind (wpAny_setField_rec hz6 (by simp) fun g7 hz7 hs7=>?_)
 replace hz7:IsZip g7 z TI TO (rawInt g5.objs.size):=hz7
 refine wpAny_setField_rec hz7 (by simp) fun g8 hz8 hs8=>?_
 replace hz8:IsZip g8 z TI TO (rawInt g5.objs.size):=hz8
 have up:∀ c o,c≠z->g5.get? c=some o->g8.get? c=some o:=fun c o c1 e=>hs8.extBut _ _ c1 (hs7.extBut _ _ c1 (Heap.get?_push_of_some _ e))
 have hT8:IsPair g8 g5.objs.size x y:=hs8.extBut _ _ (Nat.ne_of_gt hzlt) (hs7.extBut _ _ (Nat.ne_of_gt hzlt) (Heap.get?_push_size _ rfl))
 rw [hsz] at hz8 hT8
 refine wpAny_pure ⟨_,rfl,?_⟩
 show Q (.ref g5.objs.size) _
 rw [hsz]
 exact hQ x y g8 _ px py hz8 (up _ _ Z.TOz hTO5) (D1.frame _ _ _ h15 fun b hb o e=>up b o (fun q=>Z.zf1 (q ▸ hb)) e) (D2.frame _ _ _ h25 fun b hb o e=>up b o (fun q=>Z.zf2 (q ▸ hb)) e) hT8 fun c o c1 c2 c3 c4 e=>up c o c1 (hk5 c o c1 c2 c3 c4 e)
theorem QG (Z:Zp z TI TO i1 i2 f1 f2) (D1:Draws prog w A i1 f1 n1 P1 S1) (D2:Draws prog w A i2 f2 n2 P2 S2) {Q:Fin->Shared->Prop}
  (hz:IsZip s.heap z TI TO .none) (hTI:IsPair s.heap TI (.ref i1) (.ref i2)) (hTO:IsPair s.heap TO a b) (h1:S1 i s.heap) (h2:S2 i s.heap) (l1:i<=n1) (hi:i=min n1 n2)
  (hE:∀ h' e tk,(∀ c o,c≠z->c≠TO->c≠i1->c≠i2->s.heap.get? c=some o->h'.get? c=some o)->(∃ o,h'.get? e=some o/\o.cls=.type "StopIteration")->E (.ref e) { s with heap:=h',toks:=tk }) :
  wpAny (model prog w) A (Builtin.«zip.__next__» ⟨[.ref z],[]⟩) Q E s:=by
 show wpAny _ _ (field (.ref z) 2 >>= _) _ _ _
 refine wpAny_bind (wpAny_field hz rfl (x:=.bool false) rfl ?_)
 show wpAny _ _ (field (.ref z) 3 >>= _) _ _ _
 refine wpAny_bind (wpAny_field hz rfl (x:=.ref TI) rfl ?_)
 refine wpAny_bind (wpAny_seqItems hTI rfl ?_)
 show wpAny _ _ (Builtin.SmallTypes.ownedTupleIsFree (.ref z) >>= _) _ _ _
 refine wpAny_bind ?_
 unfold Builtin.SmallTypes.ownedTupleIsFree
 refine wpAny_bind (wpAny_field hz rfl (x:=.none) rfl (wpAny_pure ?_))
 simp only [if_true]
 refine wpAny_bind (wpAny_rule ?_)
 refine wpAny_bind (wpAny_field hz rfl (x:=.ref TO) rfl ?_)
 refine wpAny_bind (wpAny_setField_rec hz (by simp) fun g1 hz1 hs1=>?_)
 replace hz1:IsZip g1 z TI TO .ellipsis:=hz1
 refine wpAny_bind ?_
 simp only [List.zipIdx_cons,List.zipIdx_nil,List.forIn_cons,List.forIn_nil]
 refine wpAny_bind (wpAny_bind (wpAny_onRaise ?_))
 show wpAny _ _ (Builtin.SmallTypes.nextOf (.ref i1) >>= _) _ _ _
 have hA:S1 i g1:=Draws.same D1 h1 hs1.extBut Z.zf1
 by_cases hlt:i < n1
 ·have hn2:i=n2:=by omega
  refine wpAny_bind (D1.item i _ _ _ hlt hA fun x g2 tk2 px j2 hs2=>wpAny_pure ?_)
  have hTO2:IsPair g2 TO a b:=hs2.extBut _ _ Z.TOi1 (hs1.extBut _ _ Z.TOz hTO)
  refine wpAny_bind (wpAny_seqItems hTO2 rfl ?_)
  refine wpAny_bind (wpAny_updateSeq_pair hTO2 fun g3 hTO3 hs3=>?_)
  refine wpAny_bind (wpAny_letGo (wpAny_pure ?_))
  refine wpAny_bind (wpAny_bind (wpAny_onRaise ?_))
  show wpAny _ _ (Builtin.SmallTypes.nextOf (.ref i2) >>= _) _ _ _
  refine wpAny_bind (D2.done _ _ _ (hn2 ▸ Draws.same D2 (Draws.same D2 (Draws.same D2 h2 hs1.extBut Z.zf2) hs2.extBut Z.if2) hs3.extBut Z.Tf2) fun g4 e hs4 he=>?_)
  obtain ⟨oe,hoe,hce⟩:=he
  have hz4:IsZip g4 z TI TO .ellipsis:=hs4 _ _ Z.i2z.symm (hs3.extBut _ _ Z.TOz.symm (hs2.extBut _ _ Z.i1z.symm hz1))
  have hez:e≠z:=fun x=>by subst x;rw [hz4] at hoe;cases hoe;simp at hce
  exact wpAny_setField_rec hz4 (by simp) fun g5 _ hs5=>hE g5 e _ (fun c o c1 c2 c3 c4 x=>hs5.extBut _ _ c1 (hs4 _ _ c4 (hs3.extBut _ _ c2 (hs2.extBut _ _ c3 (hs1.extBut _ _ c1 x))))) ⟨oe,hs5.extBut _ _ hez hoe,hce⟩
 ·have hn1:i=n1:=by omega
  refine wpAny_bind (D1.done _ _ _ (hn1 ▸ hA) fun g2 e hs2 he=>?_)
  obtain ⟨oe,hoe,hce⟩:=he
  have hz2:IsZip g2 z TI TO .ellipsis:=hs2 _ _ Z.i1z.symm hz1
  have hez:e≠z:=fun x=>by subst x;rw [hz2] at hoe;cases hoe;simp at hce
  exact wpAny_setField_rec hz2 (by simp) fun g3 _ hs3=>hE g3 e _ (fun c o c1 _ c3 _ x=>hs3.extBut _ _ c1 (hs2 _ _ c3 (hs1.extBut _ _ c1 x))) ⟨oe,hs3.extBut _ _ hez hoe,hce⟩
theorem Ao (Z:Zp z TI TO i1 i2 f1 f2) (D1:Draws prog w A.in1 i1 f1 n1 P1 S1) (D2:Draws prog w A.in1 i2 f2 n2 P2 S2) {Q:Option Value->Shared->Prop}
  (hz:IsZip s.heap z TI TO .none) (hTI:IsPair s.heap TI (.ref i1) (.ref i2)) (hTO:IsPair s.heap TO a b) (h1:S1 i s.heap) (h2:S2 i s.heap) (l1:i < n1) (l2:i < n2)
  (hQ:∀ x y h' tk,P1 i x->P2 i y->IsZip h' z TI TO (rawInt s.heap.objs.size)->IsPair h' TO x y->S1 (i + 1) h'->S2 (i + 1) h'->IsPair h' s.heap.objs.size x y ->
   (∀ c o,c≠z->c≠TO->c≠i1->c≠i2->s.heap.get? c=some o->h'.get? c=some o)->Q (some (.ref s.heap.objs.size)) { s with heap:=h',toks:=tk }) :
  wpAny (model prog w) A (pyNext (.ref z)) Q E s:=by
 have hT:s.TypeIs (.ref z) "zip":=⟨_,hz,rfl⟩
 unfold pyNext
 exact wpAny_bind (wpAny_attempt (wpAny_callSpecial?_slot (name:=Str.ofString "__next__") hT PySem.F.slot_zip_next
  (wpAny_call_entry PySem.F.slot_zip_next hT PySem.F.entry_zip_next
   (PL Z D1 D2 hz hTI hTO h1 h2 l1 l2 fun x y h' tk a1 a2 a3 a4 a5 a6 a7 a8=>wpAny_pure (hQ x y h' tk a1 a2 a3 a4 a5 a6 a7 a8)) (PySem.F.args_zip_next_1 _))))
theorem Bb (Z:Zp z TI TO i1 i2 f1 f2) (D1:Draws prog w A.in1 i1 f1 n1 P1 S1) (D2:Draws prog w A.in1 i2 f2 n2 P2 S2) {Q:Option Value->Shared->Prop}
  (hz:IsZip s.heap z TI TO .none) (hTI:IsPair s.heap TI (.ref i1) (.ref i2)) (hTO:IsPair s.heap TO a b) (h1:S1 i s.heap) (h2:S2 i s.heap) (l1:i<=n1) (hi:i=min n1 n2)
  (hQ:∀ h' tk,(∀ c o,c≠z->c≠TO->c≠i1->c≠i2->s.heap.get? c=some o->h'.get? c=some o)->Q none { s with heap:=h',toks:=tk }):wpAny (model prog w) A (pyNext (.ref z)) Q E s:=by
 have hT:s.TypeIs (.ref z) "zip":=⟨_,hz,rfl⟩
 unfold pyNext
 refine wpAny_bind (wpAny_attempt (wpAny_callSpecial?_slot (name:=Str.ofString "__next__") hT PySem.F.slot_zip_next
  (wpAny_call_entry PySem.F.slot_zip_next hT PySem.F.entry_zip_next (QG Z D1 D2 hz hTI hTO h1 h2 l1 hi fun h' e tk hk he=>?_) (PySem.F.args_zip_next_1 _))))
 obtain ⟨o,ho,hc⟩:=he
 refine wpAny_bind (wpAny_isInstance (T:="StopIteration") (b:=true) ⟨o,ho,hc⟩ isSubtype_stop ?_)
 exact wpAny_pure (hQ _ _ hk)
end
theorem Vw {f g:Bool} {h:Heap} {z TI TO i1 i2 a c:Addr} {f0 u v:Value} {k1 k2:Nat} {xs ys:Array Value} (hz:IsZip h z TI TO f0) (q:TI≠TO/\i1≠i2/\TO≠a/\TO≠c) (hTI:IsPair h TI (.ref i1) (.ref i2)) (hTO:IsPair h TO u v)
  (h1:lZ f h i1 a k1) (h2:lZ g h i2 c k2) (ha:jN f h a xs) (hc:jN g h c ys):Zp z TI TO i1 i2 [i1,a] [i2,c]:=by
 have iz:=fun {r:Bool} {i x:Addr} {k:Nat} (p:lZ r h i x k)=>let ⟨_,e,c,_⟩:=p.obj;jW e hz c rfl (by cases r <;> decide)
 have az:=fun {r:Bool} {x:Addr} {xs:Array Value} (p:jN r h x xs)=>let ⟨_,_,e,c,_⟩:=p.obj;jW e hz c rfl (by cases r <;> decide)
 have ti:=fun {r:Bool} {i x t:Addr} {u v:Value} {k:Nat} (w:IsPair h t u v) (p:lZ r h i x k)=>let ⟨_,e,c,_⟩:=p.obj;jW w e rfl c (by cases r <;> decide)
 refine ⟨jW hTI hz rfl rfl (by decide),jW hTO hz rfl rfl (by decide),iz h1,iz h2,q.1,ti hTI h1,ti hTI h2,ti hTO h1,ti hTO h2,q.2.1,?_,?_,?_,?_,?_,?_⟩ <;> simp only [List.mem_cons,List.not_mem_nil,or_false,not_or]
 ·exact ⟨(iz h1).symm,(az ha).symm⟩
 ·exact ⟨(iz h2).symm,(az hc).symm⟩
 ·exact ⟨ti hTO h1,q.2.2.1⟩
 ·exact ⟨ti hTO h2,q.2.2.2⟩
 ·exact ⟨q.2.1,(hc.ne h1).symm⟩
 ·exact ⟨q.2.1.symm,(ha.ne h2).symm⟩
abbrev PX (f:Bool) (h:Heap) (a:Addr):Heap:=h.push { cls:=.type (rA f),data:=.fields #[.ref a,.int 0 0] }
abbrev Qs (f g:Bool) (h:Heap) (a c:Addr):Heap:=(PX f h a).push { cls:=.type (rA g),data:=.fields #[.ref c,.int 0 0] }
abbrev P8 (f g:Bool) (h:Heap) (a c:Addr):Heap:=(Qs f g h a c).push { cls:=.type "tuple",data:=.seq #[.ref h.objs.size,.ref (PX f h a).objs.size] }
abbrev Qi (f g:Bool) (h:Heap) (a c:Addr):Heap:=(P8 f g h a c).push { cls:=.type "tuple",data:=.seq #[.none,.none] }
abbrev F3 (f g:Bool) (h:Heap) (a c:Addr):Heap:=(Qi f g h a c).push { cls:=.type "zip",data:=.fields #[.none,.bool false,.bool false,.ref (Qs f g h a c).objs.size,.ref (P8 f g h a c).objs.size] }
theorem jN.push {f:Bool} {h:Heap} {a:Addr} {xs:Array Value} (p:jN f h a xs) (o:Obj):jN f (h.push o) a xs:=by
 obtain ⟨o',n,e,c,d⟩:=p.obj
 cases f <;> exact ⟨o',Heap.get?_push_of_some _ e,c,n,d⟩
theorem L9 {prog:Program} {w:World} {A:Around} {E:Value->Shared->Prop} {s:Shared} {f:Bool} {l:Addr} {items:Array Value} {Q:Value->Shared->Prop} (hl:jN f s.heap l items)
  (hQ:Q (.ref s.heap.objs.size) { s with heap:=s.heap.push { cls:=.type (rA f),data:=.fields #[.ref l,.int 0 0] } }):wpAny (model prog w) A (pyIter (.ref l)) Q E s:=by
 cases f
 ·exact wpAny_pyIter_tuple hl hQ
 ·exact wpAny_pyIter_list hl hQ
theorem HW (f g:Bool) (a c:Addr) (xs ys:Array Value) :
  Meets (Builtin.«zip.__new__» ⟨[.type "zip",.ref a,.ref c],[]⟩) (fun _ R s=>jN f s.heap a xs/\jN g s.heap c ys /\
   R (.ok (.ret (.ref (Qi f g s.heap a c).objs.size))) { s with heap:=F3 f g s.heap a c }) :=
 .of_wp fun prog w A R s h=>by
  obtain ⟨hp,g',d,tk,os⟩:=s;obtain ⟨h1,h2,h⟩:=h
  have hsub:=sub_zip
  have hL1:jN f (Shared.heap ⟨hp,g',d,tk,os⟩) a xs:=h1
  have hL2:jN g (Shared.heap ⟨hp.push { cls:=.type (rA f),data:=.fields #[.ref a,.int 0 0] },g',d,tk,os⟩) c ys:=h2.push _
  wp_walk using L9 hL1,L9 hL2
  exact ⟨_,rfl,h⟩
theorem LJ {f g:Bool} {prog:Program} {w:World} {A:Around} {E:Value->Shared->Prop} {s:Shared} {a c:Addr} {xs ys:Array Value} {Q:Value->Shared->Prop} (h1:jN f s.heap a xs) (h2:jN g s.heap c ys)
  (h:∀ h',IsZip h' (s.heap.objs.size + 4) (s.heap.objs.size + 2) (s.heap.objs.size + 3) .none->IsPair h' (s.heap.objs.size + 2) (.ref s.heap.objs.size) (.ref (s.heap.objs.size + 1)) ->
   IsPair h' (s.heap.objs.size + 3) .none .none->lZ f h' s.heap.objs.size a 0->lZ g h' (s.heap.objs.size + 1) c 0 ->
   (∀ b o,s.heap.get? b=some o->h'.get? b=some o)->Q (.ref (s.heap.objs.size + 4)) { s with heap:=h' }) :
  wpAny (model prog w) A (call (.type "zip") [.ref a,.ref c]) Q E s:=by
 refine callType_new PySem.F.called_zip (by decide) (PySem.F.typeCall_zip_2 _ _) (PySem.F.newCall_zip_2 _ _) (fun obj=>PySem.F.args_object_init_3 obj _ _) PySem.F.entry_zip_new
  (HW f g a c xs ys) ⟨h1,h2,?_⟩
 have z1:(PX f s.heap a).objs.size=s.heap.objs.size + 1:=Heap.size_push ..
 have z2:(Qs f g s.heap a c).objs.size=s.heap.objs.size + 2:=by rw [Heap.size_push,z1]
 have z3:(P8 f g s.heap a c).objs.size=s.heap.objs.size + 3:=by rw [Heap.size_push,z2]
 have z4:(Qi f g s.heap a c).objs.size=s.heap.objs.size + 4:=by rw [Heap.size_push,z3]
 have g5:(F3 f g s.heap a c).get? (Qi f g s.heap a c).objs.size=some _:=Heap.get?_push_size _ rfl
 have g4:(F3 f g s.heap a c).get? (P8 f g s.heap a c).objs.size=some _:=Heap.get?_push_of_some _ (Heap.get?_push_size _ rfl)
 have g3:(F3 f g s.heap a c).get? (Qs f g s.heap a c).objs.size=some _:=Heap.get?_push_of_some _ (Heap.get?_push_of_some _ (Heap.get?_push_size _ rfl))
 have g2:(F3 f g s.heap a c).get? (PX f s.heap a).objs.size=some _:=Heap.get?_push_of_some _ (Heap.get?_push_of_some _ (Heap.get?_push_of_some _ (Heap.get?_push_size _ rfl)))
 have g1:(F3 f g s.heap a c).get? s.heap.objs.size=some _:=Heap.get?_push_of_some _ (Heap.get?_push_of_some _ (Heap.get?_push_of_some _ (Heap.get?_push_of_some _ (Heap.get?_push_size _ rfl))))
 show _/\_
 rw [z2,z3,z4] at g5
 rw [z1,z2] at g3
 rw [z3] at g4
 rw [z1] at g2
 rw [z4]
 exact ⟨⟨_,g5,rfl⟩,h _ g5 g3 g4 (.of g1 rfl rfl) (.of g2 rfl rfl) fun b o x =>
  Heap.get?_push_of_some _ (Heap.get?_push_of_some _ (Heap.get?_push_of_some _ (Heap.get?_push_of_some _ (Heap.get?_push_of_some _ x))))⟩
noncomputable def fF:List U->List U->List U
 | u :: us,w :: ws=>.tup [u,w] :: fF us ws
 | _,_=>[]
theorem wK:∀ us ws:List U,(fF us ws).length=min us.length ws.length
 | [],ws=>by simp [fF]
 | _ :: _,[]=>by simp [fF]
 | u :: us,w :: ws=>by simp only [fF,List.length_cons,wK us ws];omega
noncomputable def BS (ta:UA):UI:=fun τ M R=>ta τ M fun us M1=>match us with
 | [.tup us,.tup ws]=>R ⟨none,fF us ws⟩ M1
 | _=>False
end U2
namespace U2
open PySem PySem.Spec PyProof.Rows L2
theorem Ad (l:Addr) (items:Array Value) (n:Nat) (b:Addr) (items2:Array Value) (n2:Nat) (dd:Option Addr) (sl:Array (Option Value)) (hc0:¬(!items.isEmpty && Builtin.List.listTooLong (items.size + items2.size))=true) (hc1:items.size<=sizeLine) (hs2:items.size + items2.size<=sizeLine + 1) :
  Meets (Builtin.«list.extend» ⟨[.ref l,.ref b],[]⟩) (fun _ R s=>s.heap.get? l=some { cls:=.type "list",dict:=none,data:=.seq items n,slots:=#[] }/\s.heap.get? b=some { cls:=.type "list",dict:=dd,data:=.seq items2 n2,slots:=sl }/\R (.ok (.ret Value.none)) { s with heap:=s.heap.update l (Obj.mapSeq fun x=>x++items2),toks:=s.toks }) :=
 .of_wp fun prog w A R s h=>by
  obtain ⟨hp,g,d,tk,os⟩:=s;obtain ⟨hl,hb,h⟩:=h
  have f1:=PySem.AutoSeq1.idx_int;have f2:=PySem.AutoSeq1.sub_tuple_tuple;have f3:=PySem.AutoSeq1.sub_list_list;have f4:=PySem.AutoSeq1.sub_tuple_list;have f5:=PySem.AutoSeq1.sub_list_tuple
  have hz':(items++items2).size<=sizeLine + 1:=by rw [Array.size_append];exact hs2
  wp_walk using (wpAny_updateSeq hl rfl (hz:=hc1) (_hz':=hz')),wpAny_loadPart' hl,wpAny_loadPart' hb
  exact ⟨_,rfl,h⟩
theorem Jw {X:Cx}:Us X "list.extend" (Dd X.K):=by
 intro pins s σ H x vs v us Q I rx rv h
 obtain ⟨l,b,xs,zs,rfl,rfl,hH,hB,hz,q⟩:=h
 cases rx
 obtain ⟨u,rfl,ru⟩:=rv.one
 cases ru
 obtain ⟨z,its,n,r,hl,e⟩:=I.lstM hH
 obtain ⟨its2,r2,⟨⟨oc,od,odt,osl⟩,n2,e2,hc,hd,hdt⟩,hl2⟩:=I.list hB
 have hc':oc=.type "list":=hc
 have hdt':odt=.seq its2.toArray n2:=hdt
 subst hc' hdt'
 have l2:=r2.length
 have hsz:its.toArray.size + its2.toArray.size<=sizeLine:=by rw [List.size_toArray,List.size_toArray];omega
 have hlong:¬ (!its.toArray.isEmpty && Builtin.List.listTooLong (its.toArray.size + its2.toArray.size))=true:=by
  rw [Bj hsz,Bool.and_false]
  exact Bool.false_ne_true
 refine call_meets PySem.F.slot_list_extend ⟨_,e,rfl⟩ PySem.F.entry_list_extend (PySem.F.args_list_extend_2 _ _)
  (Ad l its.toArray n b its2.toArray n2 od osl hlong (by rw [List.size_toArray];omega) (by omega)) ⟨e,e2,?_⟩
 refine ⟨.non,_,I.lset (its':=its++its2) hH e (by simp) (r.append r2) ?_,rfl,q⟩
 rw [List.length_append]
 omega
variable {D:Dat} {o e:Expr} {ta:UE} {tas:UA} {pos:Pos}
theorem Nm {apos:Pos} (ho:bG D o ta) (ha:mE D [e] tas) (hbase:∀ env,attributeBase o "extend" env (eval o env)=eval o env:=by intro _;rfl)
  (hfew:∀ env,((backTo pos (starEach [e] env)).all (fun x=>!x.1) && (backToKw pos (keywordEach [] env)).all (fun x=>x.1.isSome) && decide ([e].length + ([]:List Keyword).length + (if ([]:List Keyword).isEmpty then 0 else 1) < 30))=true:=by intro _;rfl)
  (hline:(apos.endLine == pos.line)=true:=by rfl) (hs:∀ env,starEach [e] env=[(false,eval e env)]:=by intro _;rfl):bG D (.Call (.Attribute o "extend" apos) [e] [] pos) (y8 kH ta tas):=by
 obtain ⟨_,p,s⟩:=ho;obtain ⟨_,q,r⟩:=ha
 refine ⟨_,fun X h=>?_,MJ Hr s r⟩
 have:=Qt (cpos:=pos) (apos:=apos) PySem.F.plainAttrs_list PySem.F.slot_list_extend PySem.F.type_list_extend Jw (p X h) (q X h) (hbase _) (hfew _) hline (hs _) (by rfl)
 rw [h.K] at this
 exact this
end U2
namespace U2
open PySem PySem.Spec PyProof.Rows L2
noncomputable def intsOf:List U->Option (List Int)
 | []=>some []
 | .int i :: us=>(intsOf us).map (i :: ·)
 | _ :: _=>none
theorem kR {K:PySem.W.Frag} {H:Hp} {M:aI}:∀ {us:List U} {vs:List V} {xs:List Int},aS K H M us vs->intsOf us=some xs->vs=xs.map V.int
 | [],vs,xs,r,e=>by cases e;exact r.inv_nil
 | u :: us,vs,xs,r,e=>by
  obtain ⟨v,vs',rfl,a,b⟩:=r.inv_cons
  cases u with
  | int i =>
   simp only [intsOf] at e
   cases e2:intsOf us with
   | none=>rw [e2] at e;cases e
   | some ys=>rw [e2] at e;cases e;rw [a.int,kR b e2];rfl
  | _=>cases e
noncomputable def uR:dI:=fun x y M Q=>match x,y with
 | .int i,.int j=>Q (.bl (decide (i < j))) M
 | .tup us,.tup ws=>∃ xs ys,intsOf us=some xs/\intsOf ws=some ys/\Q (.bl (HT.lexLt xs ys)) M
 | _,_=>False
variable {D:Dat}
theorem wC:kO D .Lt uR:=⟨⟨_,fun X h=>h.K ▸ Vx.or (UU h.room.units0),fun x y u w H M Q' rm ru rw h Q c=>by
 unfold uR at h
 split at h
 ·rename_i i j
  exact .inl (n8 (f:=fun i j=>decide (i < j)) x y (.int i) (.int j) H M Q' rm ru rw h Q c)
 ·rename_i us ws
  obtain ⟨xs,ys,e1,e2,q⟩:=h
  obtain ⟨a,vs,rfl,s1,r1⟩:=ru.tup
  obtain ⟨a',vs',rfl,s2,r2⟩:=rw.tup
  cases kR r1 e1
  cases kR r2 e2
  exact .inr ⟨a,a',xs,ys,rfl,rfl,s1,s2,c.here rm cL q⟩
 ·exact h.elim⟩⟩
end U2
namespace U2
open PySem PySem.Spec PyProof.Rows L2
noncomputable def j5:Int->List Int->Int
 | m,[]=>m
 | m,n :: ns=>j5 (if n > m then n else m) ns
theorem GS:∀ (ns:List Int) (m:Int),m<=j5 m ns/\∀ n∈ns,n<=j5 m ns
 | [],m=>⟨Int.le_refl _,fun n h=>by cases h⟩
 | k :: ns,m=>by
  obtain ⟨h1,h2⟩:=GS ns (if k > m then k else m)
  have hk:m<=(if k > m then k else m)/\k<=(if k > m then k else m):=by split <;> omega
  simp only [j5]
  refine ⟨by omega,fun n hn=>?_⟩
  rcases List.mem_cons.mp hn with rfl | hn
  ·omega
  ·exact h2 n hn
theorem Cj:∀ (ns:List Int) (m:Int),j5 m ns=m\/j5 m ns∈ns
 | [],m=>.inl rfl
 | k :: ns,m=>by
  simp only [j5]
  rcases Cj ns (if k > m then k else m) with h | h
  ·by_cases hk:k > m
   ·rw [if_pos hk] at h ⊢;exact .inr (by rw [h];exact List.mem_cons_self)
   ·rw [if_neg hk] at h ⊢;exact .inl h
  ·exact .inr (List.mem_cons_of_mem _ h)
theorem Ra {m M:Int} {ns:List Int} (h1:M=m\/M∈ns) (h2:m<=M) (h3:∀ n∈ns,n<=M):j5 m ns=M:=by
 obtain ⟨g1,g2⟩:=GS ns m
 rcases Cj ns m with e | e
 ·rcases h1 with rfl | h1
  ·exact e
  ·have:=g2 M h1;omega
 ·have:=h3 _ e
  rcases h1 with rfl | h1
  ·omega
  ·have:=g2 M h1;omega
section
variable {X:Cx}
theorem Np (hc:X.calm=true):fJ X (.builtin "max") (fun xs H Q=>∃ p m ns,xs=[.ref p]/\dE X.K H p ((m :: ns).map V.int)/\Q (.int (j5 m ns)) H):=by
 intro pins s σ H xs us Q I r h
 obtain ⟨p,m,ns,rfl,hq,q⟩:=h
 obtain ⟨u,rfl,rx⟩:=vals1 r
 cases rx
 obtain ⟨its,r',pl,hz⟩:=I.list hq
 have hi:IntsAre its (m :: ns):=intsAre_of r'
 obtain ⟨ys,e⟩:=hi.allInts.items
 have hns:(m :: ns)=ys.toList.map (·.1):=by
  rw [<- hi.numsOf,<- nums_intItems,<- e]
 have hsz:0 < ys.size:=by
  have h3:ns.length + 1=ys.size:=by have:=congrArg List.length hns;simpa using this
  omega
 have hl:=pl.isList
 rw [e] at hl
 refine max_intList (I.ok.hd hc) hl hsz fun v h' tk hv hk=>?_
 obtain ⟨t,rfl⟩:=intItems_at hv
 obtain ⟨h1,h2⟩:=argBest_gt (numAt ys) (ys.size - 1)
 have hM:j5 m ns=numAt ys (argBest (fun i j=>decide (numAt ys i > numAt ys j)) (ys.size - 1)):=by
  have hin:numAt ys (argBest (fun i j=>decide (numAt ys i > numAt ys j)) (ys.size - 1))∈m :: ns:=by
   rw [hns,numAt_eq];exact getD_mem (by rw [List.length_map,Array.length_toList];omega)
  have hge:∀ a∈m :: ns,a<=numAt ys (argBest (fun i j=>decide (numAt ys i > numAt ys j)) (ys.size - 1)):=fun a ha=>by
   rw [hns] at ha
   obtain ⟨j,hj,rfl⟩:=mem_getD ha
   rw [List.length_map,Array.length_toList] at hj
   rw [<- numAt_eq];exact h2 j (by omega)
  exact Ra (List.mem_cons.mp hin) (hge m List.mem_cons_self) fun n hn=>hge n (List.mem_cons_of_mem _ hn)
 exact ⟨.int (j5 m ns),H,I.kept hk,⟨t,by rw [hM]⟩,q⟩
theorem Ms (hc:X.calm=true):fJ X (.builtin "sum") (fun xs H Q=>∃ p ns,xs=[.ref p]/\dE X.K H p (ns.map V.int)/\PySem.SumFits ns/\Q (.int ns.sum) H):=by
 intro pins s σ H xs us Q I r h
 obtain ⟨p,ns,rfl,hq,hf,q⟩:=h
 obtain ⟨u,rfl,rx⟩:=vals1 r
 cases rx
 obtain ⟨its,r',pl,hz⟩:=I.list hq
 have hi:IntsAre its ns:=intsAre_of r'
 obtain ⟨ys,e⟩:=hi.allInts.items
 have hns:ns=ys.toList.map (·.1):=by
  rw [<- hi.numsOf,<- nums_intItems,<- e]
 have hl:=pl.isList
 rw [e] at hl
 subst hns
 refine sum_intList (I.ok.hd hc) hl (fun j hj=>?_) fun h' tk t' hk=>?_
 ·rw [numAt_eq,preSum_eq];exact hf j (by simpa using hj)
 ·refine ⟨.int _,H,I.kept hk,⟨t',?_⟩,q⟩
  rw [preSum_eq,List.take_of_length_le (by simp)]
noncomputable def u7:List U->aI->UK->Prop:=fun us M Q=>match us with
 | [x]=>match view M x with
  | .lst ws=>∃ ns,intsOf ws=some ns/\PySem.SumFits ns/\Q (.int ns.sum) M
  | _=>False
 | _=>False
theorem VL {D:Dat}:wY D (.builtin "sum") u7:=⟨⟨_,fun X h=>by
  have:=(Ms (X:=X) h.calm);rw [h.K] at this;exact this,fun xs us H M Q' rm rus h Q c=>by
 unfold u7 at h
 split at h
 ·rename_i x
  obtain ⟨v,rfl,a1⟩:=rus.one
  split at h
  ·rename_i ws e
   obtain ⟨ns,e2,hf,q⟩:=h
   obtain ⟨b,zvs,rfl,s2,r2⟩:=dM rm a1 e
   rw [kR r2 e2] at s2
   exact ⟨b,ns,rfl,s2,hf,c.here rm cO q⟩
  ·exact h.elim
 ·exact h.elim⟩⟩
noncomputable def u0:List U->aI->UK->Prop:=fun us M Q=>match us with
 | [.int i,.int j]=>Q (.int (if j > i then j else i)) M
 | [x]=>match view M x with
  | .lst ws=>∃ m ns,intsOf ws=some (m :: ns)/\Q (.int (j5 m ns)) M
  | _=>False
 | _=>False
theorem Lh {D:Dat}:wY D (.builtin "max") u0:=⟨⟨_,fun X h=>by
  have:=(Lf (X:=X) h.calm).or (Np h.calm);rw [h.K] at this;exact this,fun xs us H M Q' rm rus h Q c=>by
 unfold u0 at h
 split at h
 ·rename_i i j
  obtain ⟨v,z,rfl,a1,a2⟩:=rus.two
  cases a1.int;cases a2.int
  exact .inl ⟨i,j,rfl,c.here rm cO h⟩
 ·rename_i x
  obtain ⟨v,rfl,a1⟩:=rus.one
  split at h
  ·rename_i ws e
   obtain ⟨m,ns,e2,q⟩:=h
   obtain ⟨b,zvs,rfl,s2,r2⟩:=dM rm a1 e
   rw [kR r2 e2] at s2
   exact .inr ⟨b,m,ns,rfl,s2,c.here rm cO q⟩
  ·exact h.elim
 ·exact h.elim⟩⟩
end
end U2
namespace U2
open PySem PySem.Spec PyProof.Rows L2
section
variable {D:Dat} {a b c e o i:Expr} {ta tb tc te to ti:UE} {pos p:Pos} {es:List Expr} {tas:UA} {x:Str}
noncomputable def vX (te to ti:UE):US:=fun D τ M=>te τ M fun v M1=>to τ M1 fun x M2=>ti τ M2 fun y M3=>match x,y with
 | .ref a,.int k=>match M3 a with
  | some (.lst us)=>∃ j,uB us.length k=some j/\D.nx τ (mup M3 a (.lst (us.set j v)))
  | _=>False
 | _,_=>False
theorem GR {tpos:Pos} (he:bG D e te) (ho:bG D o to) (hi:bG D i ti) (hs:∀ env,swapsWithSole [.Subscript o i tpos] e pos.line env=pure false:=by intro _;rfl) (hw:∀ env,swappedStores [.Subscript o i tpos] e env=pure none:=by intro _;rfl)
  (h1:∀ env,(assignEach [.Subscript o i tpos] env).map (·.2)=[assign (.Subscript o i tpos) env]:=by intro _;rfl)
  (ha:∀ env v,assign (.Subscript o i tpos) env v=(do
   let ov <- holding [v] (eval o env)
   let iv <- holding [v,ov] (eval i env)
   standAt tpos
   holding [v,ov,iv] (setItem ov iv v)
   release [v,ov,iv] []):=by intro _ _;rfl):pA D (.Assign [.Subscript o i tpos] e pos) (vX te to ti):=by
 obtain ⟨_,p1,s1⟩:=he;obtain ⟨_,p2,s2⟩:=ho;obtain ⟨_,p3,s3⟩:=hi
 refine ⟨_,fun X h=>Vp (p1 X h) (Vb (p2 X h) (p3 X h) set_list (ha _)) (hs _) (hw _) (h1 _),fun σ τ H M D' rs rm h EE d=>?_⟩
 refine s1 σ τ H M _ rs rm h _ fun v vv M1 H1 st1 rm1 rv h1=>?_
 refine s2 σ τ H1 M1 _ (rs.stp st1) rm1 h1 _ fun x vx M2 H2 j2 rm2 rx h2=>?_
 refine s3 σ τ H2 M2 _ ((rs.stp st1).stp j2) rm2 h2 _ fun y vy M3 H3 st3 rm3 ry h3=>?_
 split at h3
 ·rename_i a k
  split at h3
  ·rename_i us e
   obtain ⟨j,hj,q⟩:=h3
   cases (rx.stp st3).ref
   cases ry.int
   obtain ⟨vs,hv,rus⟩:=rm3 a _ e
   have rv3:=(rv.stp j2).stp st3
   have st4:bE H3 M3 (upd H3 a (.lst (vs.set j vv))) (mup M3 a (.lst (us.set j v))):=bE.write e
   have rnew:RelM D.K (upd H3 a (.lst (vs.set j vv))) (mup M3 a (.lst (us.set j v))):=rm3.put st4 ⟨_,b8,(aS.set rv3 j rus).stp st4⟩
   refine ⟨a,vs,k,j,rfl,rfl,hv,by rw [<- rus.length];exact hj,?_⟩
   exact d.nx _ _ _ _ (((st1.trans j2).trans st3).trans st4) rnew ((((rs.stp st1).stp j2).stp st3).stp st4) q
  ·exact h3.elim
 ·exact h3.elim
noncomputable def Cz:U->List U->aI->UK->Prop:=fun x ws M Q=>match x,ws with
 | .ref a,[.int i]=>match M a with
  | some (.lst us)=>-(2 ^ 63)<=i/\i < 2 ^ 63/\∃ k y,seqIndex? i us.length=some k/\us[k]?=some y/\Q y (mup M a (.lst (us.eraseIdx k)))
  | _=>False
 | _,_=>False
noncomputable def Pu:List U->aI->UK->Prop:=fun us M Q=>match us with
 | [.int i]=>Q (.int i) M
 | [.bl k]=>Q (.int (if k then 1 else 0)) M
 | _=>False
noncomputable def oB (i j:Int):Prop:=OG i j\/(Builtin.Int.intBits i<=60000000/\Builtin.Int.intBits j<=60000000)
theorem oB.ok {i j:Int} (h:oB i j):IntMulOk i j:=by
 rcases h with h | ⟨h1,h2⟩
 ·exact h.ok
 ·exact IntMulOk.of_le h1 h2 (by decide)
theorem Sm {X:Cx}:cU X (binaryOp .Mult) (rI oB fun i j=>.int (i * j)):=P4 fun _ _ _ _ _ _ _ hc q=>mul_int q hc.ok
noncomputable def iF (z:Str) (n:Int):Str:=if n < 1 then Str.empty else if (n == 1 || z.length == 0)=true then z else ⟨(List.replicate n.toNat z.cps).foldl (·++·) #[]⟩
theorem Sa {X:Cx}:cU X (binaryOp .Mult) (fun x y H Q=>∃ z n,x=.str z/\y=.int n/\-(2 ^ 63)<=n/\n < 2 ^ 20/\z.length<=2 ^ 20/\z.length * n.toNat<=100000/\Q (.str (iF z n)) H):=by
 intro pins s σ H x y v u Q I rx ry h
 obtain ⟨z,n,rfl,rfl,h1,h2,h3,h4,q⟩:=h
 obtain ⟨t,rfl⟩:=rx
 obtain ⟨t',rfl⟩:=ry
 have e1:(decide (n < -(2 ^ 63:Int)) || decide (n ≥ 2 ^ 63))=false:=by
  rw [decide_eq_false (by omega),decide_eq_false (by omega)];rfl
 refine PySem.P.mul_str e1 (fun g1 g2=>?_) (fun g1 g2=>?_) ?_
 ·intro hh
  have hn:(1:Int)<=n:=by omega
  have e3:(z.length:Int) * n=((z.length * n.toNat:Nat):Int):=by
   rw [Int.natCast_mul,Int.toNat_of_nonneg (by omega)]
  have:=Int.le_ediv_of_mul_le (show (0:Int) < n by omega) (show (z.length:Int) * n<=2 ^ 63 - 1 by rw [e3];omega)
  omega
 ·unfold Builtin.Str.tooLong sizeLine
  exact decide_eq_false (by omega)
 ·have hq:∀ (t2:Tok) k,EP X pins σ Q (.str (iF z n) t2) { s with toks:=k }:=fun t2 k=>⟨.str (iF z n),H,I.tok k,⟨t2,rfl⟩,q⟩
  unfold iF at hq
  by_cases g1:n < 1
  ·rw [if_pos g1]
   simp only [if_pos g1] at hq
   exact ⟨by decide,hq _ _⟩
  ·rw [if_neg g1]
   simp only [if_neg g1] at hq
   by_cases g2:(n == 1 || z.length == 0)=true
   ·rw [if_pos g2]
    simp only [if_pos g2] at hq
    exact hq t s.toks
   ·rw [if_neg g2]
    simp only [if_neg g2] at hq
    refine ⟨?_,hq _ _⟩
    have hsz:∀ (k:Nat) (acc:Array Nat),((List.replicate k z.cps).foldl (·++·) acc).size=acc.size + k * z.cps.size:=by
     intro k
     induction k with
     | zero=>intro acc;simp
     | succ k ih=>intro acc;rw [List.replicate_succ,List.foldl_cons,ih,Array.size_append,Nat.succ_mul];omega
    show ((List.replicate n.toNat z.cps).foldl (·++·) #[]).size<=sizeLine
    rw [hsz]
    have h5:n.toNat * z.cps.size<=100000:=by rw [Nat.mul_comm];exact h4
    have:(100000:Nat)<=sizeLine:=by decide
    simp only [Array.size_empty,Nat.zero_add]
    omega
noncomputable def yK (o:Bool):dI:=fun x y M Q=>match x,y with
 | .int i,.int j=>oB i j/\Q (.int (i * j)) M
 | .str z,.int n=>-(2 ^ 63)<=n/\n < 2 ^ 20/\z.length<=2 ^ 20/\z.length * n.toNat<=100000/\Q (.str (iF z n)) M
 | .ref a,.int k=>match M a with
  | some (.lst us)=>-(2 ^ 63)<=k/\k < 2 ^ 63/\us.length * k.toNat<=sizeLine/\kQ o (List.replicate k.toNat us).flatten M Q
  | _=>False
 | _,_=>False
theorem aS.rep {K:PySem.W.Frag} {H:Hp} {M:aI} {us:List U} {vs:List V} (r:aS K H M us vs):∀ k:Nat,aS K H M (List.replicate k us).flatten (List.replicate k vs).flatten
 | 0=>by simp only [List.replicate_zero,List.flatten_nil];exact .nil
 | k + 1=>by simp only [List.replicate_succ,List.flatten_cons];exact r.append (aS.rep r k)
theorem Ro {K:PySem.W.Frag} {o:Bool}:dG K (fun x y H Q=>rI oB (fun i j=>.int (i * j)) x y H Q\/((∃ z n,x=.str z/\y=.int n/\-(2 ^ 63)<=n/\n < 2 ^ 20/\z.length<=2 ^ 20/\z.length * n.toNat<=100000/\Q (.str (iF z n)) H)\/Vd x y H Q)) (yK o):=fun x y u w H M Q' rm ru rw h Q c=>by
 unfold yK at h
 split at h
 ·rename_i i j
  exact .inl (nU (C:=oB) (f:=fun i j=>i * j) x y (.int i) (.int j) H M Q' rm ru rw h Q c)
 ·rename_i z n
  cases ru.str;cases rw.int
  exact .inr (.inl ⟨z,n,rfl,rfl,h.1,h.2.1,h.2.2.1,h.2.2.2.1,c.here rm gA h.2.2.2.2⟩)
 ·rename_i a k
  split at h
  ·rename_i us e
   obtain ⟨vs,hv,r⟩:=rm a _ e
   cases ru.ref;cases rw.int
   exact .inr (.inr ⟨a,k,vs,rfl,rfl,hv,h.1,h.2.1,by rw [<- r.length];exact h.2.2.1,fun p hp=>c.lst rm (r.rep k.toNat) hp h.2.2.2⟩)
  ·exact h.elim
 ·exact h.elim
theorem jJ (own:Bool:=false) (ha:bG D a ta) (hb:bG D b tb):bG D (.BinOp a .Mult b pos) (eQ (yK own) ta tb):=sY (fun _ _=>Sm.or (Sa.or Tu)) Ro ha hb
noncomputable def QF (_ j:Int):Prop:=0 < j/\j < 2 ^ 64
theorem Pq {X:Cx}:cU X (binaryOp .FloorDiv) (rI QF fun i j=>.int (i / j)):=P4 fun i j _ _ _ _ _ hc q=>by
 have h1:(0:Int) < j:=hc.1
 have h2:j.natAbs.log2 < 9000:=by
  have h3:j.natAbs < 2 ^ 64:=by have:=hc.2;omega
  by_cases h:j.natAbs=0
  ·rw [h];decide
  ·have:=(Nat.log2_lt h).mpr h3
   omega
 exact floordiv_int (by omega) (by rw [Int.fdiv_eq_ediv_of_nonneg i (by omega)];exact q) (.inl (PyProof.noPylong_of_log2 h2))
theorem sU (ha:bG D a ta) (hb:bG D b tb):bG D (.BinOp a .FloorDiv b pos) (eQ (uI QF fun i j=>.int (i / j)) ta tb):=sY (fun _ _=>Pq) nU ha hb
end
end U2
namespace HT
open PySem PySem.Spec PyProof.Rows L2
variable {prog:Program} {w:World} {A:Around} {E:Value->Shared->Prop} {s:Shared}
theorem rG {t sl:Addr} {items:Array Value} {vl vu:Value} {lo hi:Option Int} {Q:Value->Shared->Prop} (ht:IsTup s.heap t items) (hs:s.heap.IsSliceOf sl vl vu .none) (pl:IsPart vl lo) (pu:IsPart vu hi)
  (hw:bS items.size 0 lo=0/\bS items.size items.size hi=items.size)
  (h:Q (.ref t) s):wpAny (model prog w) A (getItem (.ref t) (.ref sl)) Q E s:=by
 obtain ⟨os,hos,hcs,hds⟩:=id hs
 have hTs:s.TypeIs (.ref sl) "slice":=⟨os,hos,hcs⟩
 unfold getItem
 try with_reducible refine wpAny_holding ?_
 first | refine wpAny_bind (wpAny_pure ?_) | skip
 refine wpAny_bind (wpAny_sequenceKey ht.typeIs (by decide) ?_)
 refine wpAny_bind (wpAny_callSpecial?_slot (name:=Str.ofString "__getitem__") ht.typeIs PyProof.Rows.slot_tuple_getitem
  (wpAny_call_entry PyProof.Rows.slot_tuple_getitem ht.typeIs entry_tuple_getitem ?_ (args_tuple_getitem _ _)))
 show wpAny _ _ (Builtin.Tuple.tupleItemsOf (.ref t) >>= _) _ _ s
 refine wpAny_bind (tupleItemsOf_ ht ?_)
 refine wpAny_bind (wpAny_typeOf hTs ?_)
 rw [if_pos (by decide)]
 refine wpAny_bind (m7 hs pl pu ?_)
 have hyes:((((bS items.size 0 lo:Nat):Int) == 0 && (1:Int) == 1 && (bS items.size items.size hi - bS items.size 0 lo) == items.size)=true):=by
  rw [hw.1,hw.2];simp
 show wpAny _ _ (if (((bS items.size 0 lo:Nat):Int) == 0 && (1:Int) == 1 && (bS items.size items.size hi - bS items.size 0 lo) == items.size)=true then _ else _) _ _ s
 rw [if_pos hyes]
 unfold Builtin.Tuple.tupleIsExact
 refine wpAny_bind (wpAny_bind (wpAny_typeOf ht.typeIs (wpAny_pure ?_)))
 rw [if_pos (by decide)]
 refine wpAny_bind (wpAny_rule ?_)
 exact wpAny_pure ⟨_,rfl,wpAny_pure h⟩
end HT
namespace U2
open PySem PySem.Spec PyProof.Rows L2
noncomputable def Uw (K:PySem.W.Frag):V->Option Int->Option Int->Hp->VK->Prop:=fun x lo hi H Q=>∃ a xs,x=.ref a/\eE K H a xs/\(HT.bS xs.length 0 lo=0/\HT.bS xs.length xs.length hi=xs.length)/\Q (.ref a) H
theorem QT {X:Cx}:uG X (Uw X.K):=by
 intro pins s σ H x v vl vu lo hi sl Q I rx hs pl pu h
 obtain ⟨a,xs,rfl,hx,hw,q⟩:=h
 cases rx
 obtain ⟨its,r,ht,hz⟩:=I.tuple hx
 have hlen:its.toArray.size=xs.length:=by rw [List.size_toArray];exact r.length.symm
 refine ⟨"tuple",_,PyProof.Rows.slot_tuple_getitem.lookup,ht.typeIs,?_⟩
 refine HT.rG ht hs pl pu (by rw [hlen];exact hw) ⟨.ref a,H,I,rfl,q⟩
noncomputable def uO (o:Bool) (te:UE) (tl th:UO):UE:=fun τ M Q=>te τ M fun x M1=>tl τ M1 fun l M2=>th τ M2 fun h M3=>match view M3 x with
 | .lst us=>kQ o (dO us l h) M3 Q
 | .tup us=>Q (.tup (dO us l h)) M3
 | .str z=>z.length<=sizeLine/\Q (.str (Txt.slice z l h)) M3
 | _=>False
theorem Rl {K:PySem.W.Frag} {o:Bool} {te:TE} {te':UE} {tl th:TO} {tl' th':UO} (h0:b6 K te te') (h1:BU K tl tl') (h2:BU K th th'):b6 K (Wg (fun x lo hi H Q=>Tx K x lo hi H Q\/Uw K x lo hi H Q) te tl th) (uO o te' tl' th'):=fun σ τ H M Q' rs rm q Q c =>
 h0 σ τ H M _ rs rm q _ fun u v M1 H1 s1 rm1 ru q1=>h1 σ τ H1 M1 _ (rs.stp s1) rm1 q1 _ fun lo M2 H2 s2 rm2 q2=>h2 σ τ H2 M2 _ ((rs.stp s1).stp s2) rm2 q2 _ fun hi M3 H3 s3 rm3 q3=>by
  have c3:=cP.stp c ((s1.trans s2).trans s3)
  have ru3:=ru.stp (s2.trans s3)
  split at q3
  ·rename_i us e
   obtain ⟨a,xs,rfl,r1,r2⟩:=dM rm3 ru3 e
   exact .inl (.inl ⟨a,xs,rfl,r1,fun p hp=>c3.lst rm3 (GY r2 lo hi) hp q3⟩)
  ·rename_i us e
   have e':=qG e
   subst e'
   obtain ⟨a,xs,rfl,r1,r2⟩:=ru3.tup
   by_cases hw:HT.bS xs.length 0 lo=0/\HT.bS xs.length xs.length hi=xs.length
   ·refine .inr ⟨a,xs,rfl,r1,hw,c3 _ _ M3 H3 (bE.refl _ _) rm3 ?_ q3⟩
    have e4:dO us lo hi=us:=by
     unfold dO
     rw [r2.length,hw.1,hw.2,List.drop_zero,Nat.sub_zero,<- r2.length,List.take_length]
    rw [e4]
    exact ru3
   ·exact .inl (.inr (.inl ⟨a,xs,rfl,r1,hw,fun p hp=>c3.tup rm3 (GY r2 lo hi) hp q3⟩))
  ·rename_i z e
   have e':=uP e
   subst e'
   exact .inl (.inr (.inr ⟨z,ru3.str,q3.1,c3 _ _ M3 H3 (bE.refl _ _) rm3 gA q3.2⟩))
  ·exact q3.elim
theorem fT {D:Dat} {a:Expr} {ta:UE} {pos:Pos} (own:Bool:=false) {lo hi:Option Expr} {tl th:UO} {p2:Pos} (ha:bG D a ta) (hl:PR D lo tl) (hh:PR D hi th):bG D (.Subscript a (.Slice lo hi none p2) pos) (uO own ta tl th):=by
 obtain ⟨_,p,s⟩:=ha;obtain ⟨_,q,r⟩:=hl;obtain ⟨_,u,v⟩:=hh
 refine ⟨_,fun X h=>?_,Rl s r v⟩
 have:=Oo (pos:=pos) (p2:=p2) (TJ.or QT) (p X h) (q X h) (u X h)
 rw [h.K] at this
 exact this
end U2
namespace Att
open PySem PySem.Spec PyProof.Rows PySem.W Calls
end Att
namespace L2
open PySem PySem.Spec PyProof.Rows
end L2
namespace U2
open PySem PySem.Spec PyProof.Rows L2
noncomputable def zC (K:PySem.W.Frag) (n:Nat) (a:Addr):It :=
 ⟨fun i H=>∃ xs x,dE K H a xs/\xs.length=n/\i < n/\xs[n - 1 - i]?=some x,fun i H x H'=>H'=H/\∀ xs,dE K H a xs->xs[n - 1 - i]?=some x,fun i H=>i=n⟩
theorem Pf {P:Program} {w:World} {K:PySem.W.Frag} {tg:Expr} (n:Nat) (a it:Addr):Turn P w K tg (zC K n a) [it] it (fun i h=>h.IsRevIter it a ((n:Int) - 1 - (i:Int))) where
 mem:=by simp
 obj:=fun i h st b hb=>by
  have e:b=it:=by simpa using hb
  subst e
  obtain ⟨o,e,c,d⟩:=st
  exact ⟨o,e,fun v z=>by rw [d] at z;cases z⟩
 keep:=fun i h h' st k=>st.at fun o e=>k it (by simp) o e
 item:=by
  intro X hP hw hK hc i pins s σ H E I hf st hg
  subst hP hw hK
  obtain ⟨xs,x,hq,hn,hi,hx⟩:=hg
  obtain ⟨its,rv,p,hz⟩:=I.list hq
  obtain ⟨u,hu,ru⟩:=rv.get hx
  obtain ⟨f0,f1,f2,f3,f4,f5⟩:=hf it (by simp)
  have e:(n:Int) - 1 - (i:Int)=((n - 1 - i:Nat):Int):=by omega
  have st0:=st
  rw [e] at st0
  refine wpAny_pyNext_rev_item st0 p.isList (x:=u) (by simpa using hu) fun h' st' sb=>?_
  have I1:Inv X pins σ H { s with heap:=h' }:=I.turned (t':=s.toks) (fun b o hb e=>(sb.2 b hb).trans e) f0 f1 f3 f4 f5
  have e2:((n - 1 - i:Nat):Int) - 1=(n:Int) - 1 - ((i + 1:Nat):Int):=by omega
  rw [e2] at st'
  obtain ⟨o,e,c,d⟩:=id st'
  exact ⟨u,rfl,tT (s:={ s with heap:=h' }) e c d (by decide) ⟨x,H,I1,ru,⟨rfl,fun ys hy=>by rw [I.list_inj hy hq];exact hx⟩,st',fun b hb=>(hf b hb).1⟩⟩
 done:=by
  intro X hP hw hK hc i pins s σ H E I hf st hg
  subst hP hw hK
  have hg':i=n:=hg
  subst hg'
  obtain ⟨f0,f1,f2,f3,f4,f5⟩:=hf it (by simp)
  have e:(i:Int) - 1 - (i:Int)=-1:=by omega
  rw [e] at st
  exact wpAny_pyNext_rev_end (I.ok.hd hc) st fun h' eb=>⟨rfl,I.turned (t':=s.toks) (fun b o hb e=>eb b o hb e) f0 f1 f3 f4 f5⟩
 self:=fun _ _ _ _ _ st h=>wpAny_pyIter_revIter st h
noncomputable def Vr (K:PySem.W.Frag) (ta:TA):TI:=fun σ H R=>ta σ H fun vs H1=>∃ a xs,vs=[.ref a]/\dE K H1 a xs/\R (zC K xs.length a) H1
theorem boot_reversed:bootBuiltins "reversed"=some (.type "reversed"):=by kernel_rfl
theorem TN {X:Cx} {tg:Expr} {a:Expr} {ta:TA} {p pos:Pos} (hg:Gl X "reversed") (hm:X.mg "reversed"=none) (ha:PA X [a] ta) (hs:starEach [a] X.env=[(false,eval a X.env)]) :
  PI X tg (.Call (.Name "reversed" p) [a] [] pos) (Vr X.K ta):=by
 intro pins s σ H R I h
 refine Call_ (kX I hg hm boot_reversed (PyProof.Rows.callWith_type1 (bP (ha pos pins s σ H _ I h) fun us s1 ⟨vs,H1,I1,r1,q1⟩=>?_) hs rfl))
 obtain ⟨a,xs,e,hq,q⟩:=q1
 subst e
 cases r1 with
 | cons r rr =>
  cases rr
  cases r
  obtain ⟨its,rv,p,hz⟩:=I1.list hq
  have hrev:Heap.IsRevIter (s1.heap.push (revObj a ((its.toArray.size:Int) - 1))) s1.heap.objs.size a ((xs.length:Int) - 1 - ((0:Nat):Int)):=by
   refine ⟨_,Heap.get?_push_size _ rfl,rfl,?_⟩
   have e1:((its.toArray.size:Nat):Int) - 1=(xs.length:Int) - 1 - ((0:Nat):Int):=by rw [List.size_toArray,<- rv.length];omega
   rw [<- e1];rfl
  refine call_reversed_list p.isList ?_
  refine wpAny_pyIter_revIter (s:={ s1 with heap:=s1.heap.push (revObj a ((its.toArray.size:Int) - 1)) }) hrev ?_
  have I2:L2.Inv X pins σ H1 { s1 with heap:=s1.heap.push (revObj a ((its.toArray.size:Int) - 1)),toks:=s1.toks }:=I1.kept fun b o e=>Heap.get?_push_of_some _ e
  refine ⟨s1.heap.objs.size,[s1.heap.objs.size],_,_,H1,rfl,I2,Pf xs.length a s1.heap.objs.size,hrev,fun b hb=>?_,q⟩
  have e:b=s1.heap.objs.size:=by simpa using hb
  subst e
  exact I1.fpOk (Nat.le_refl _) (I1.hok.fresh (Nat.le_refl _))
theorem NI {K:PySem.W.Frag} {a:Addr} {us:List U} {vs:List V} {H:Hp} {M:aI} (m:(M a=none/\Rd H a (.lst vs))\/KL K a vs) (r:aS K H M us vs):Walk K (zC K vs.length a) ⟨none,us.reverse⟩ H M:=by
 have sq:∀ H1 M1,bE H M H1 M1->dE K H1 a vs:=fun H1 M1 s=>by
  rcases m with ⟨m,h⟩ | k
  ·exact .inl (Rd.stp s m h).2
  ·exact .inr k
 refine ⟨fun H1 M1 s rm _ i u e=>?_,fun H1 M1 s rm _=>by show us.reverse.length=vs.length;rw [List.length_reverse,r.length]⟩
 have e':us.reverse[i]?=some u:=e
 have hi:i < us.length:=by
  have:=(List.getElem?_eq_some_iff.mp e').1
  simpa using this
 rw [List.getElem?_reverse hi] at e'
 obtain ⟨v,e2,ru⟩:=r.get e'
 rw [r.length] at e2 hi
 refine ⟨⟨vs,v,sq H1 M1 s,rfl,hi,e2⟩,fun x H2 y=>?_⟩
 obtain ⟨rfl,y⟩:=y
 have:=y vs (sq _ M1 s)
 rw [e2] at this;cases this
 exact ⟨bE.refl _ _,rm,ru.stp s⟩
noncomputable def Cs (ta:UA):UI:=fun τ M R=>ta τ M fun us M1=>match us with
 | [.lst us]=>R ⟨none,us.reverse⟩ M1
 | _=>False
theorem RO {K:PySem.W.Frag} {ta:TA} {ta':UA} (h:j6 K ta ta'):rR K (Vr K ta) (Cs ta'):=fun σ τ H M R' rs rm q R c=>h σ τ H M _ rs rm q _ fun us vs M1 H1 s1 rm1 ru h1=>by
 split at h1
 ·rename_i xs
  obtain ⟨v,rfl,a⟩:=ru.one
  simp only [aY] at a
  obtain ⟨a,vs,rfl,m,r⟩:=a
  refine ⟨a,vs,rfl,?_,c _ _ M1 H1 s1 rm1 (NI m r) h1⟩
  rcases m with ⟨_,m⟩ | k
  ·exact .inl m
  ·exact .inr k
 ·exact h1.elim
theorem Fe {D:Dat} {tg:Expr} {a:Expr} {p pos:Pos} {ta:UA} (hm:D.mg "reversed"=none) (ha:mE D [a] ta) (hg:D.sc.names.lookup ("reversed":Str)=some .globalImplicit:=by rfl) (hs:∀ env,starEach [a] env=[(false,eval a env)]:=by intro _;rfl):zF D tg (.Call (.Name "reversed" p) [a] [] pos) (Cs ta):=by
 obtain ⟨_,q,s⟩:=ha
 exact ⟨_,fun X h=>h.K ▸ TN (by show X.env.scope.names.lookup _=_;rw [h.sc];exact hg) (by rw [h.mg];exact hm) (q X h) (hs _),RO s⟩
end U2
namespace U2
open PySem PySem.Spec PyProof.Rows L2
section
variable {prog:Program} {w:World} {A:Around} {E:Value->Shared->Prop} {s:Shared}
end
theorem JV:bootBuiltins "list"=some (.type "list"):=by kernel_rfl
noncomputable def uK (o:Bool) (ta:UA):UE:=fun τ M Q=>ta τ M fun us M1=>match us with
 | [x]=>match view M1 x with
  | .lst us=>kQ o us.reverse M1 Q
  | _=>False
 | _=>False
end U2
namespace U2
open PySem PySem.Spec PyProof.Rows L2
section
variable {prog:Program} {w:World} {A:Around} {E:Value->Shared->Prop} {s:Shared}
end
section
variable {prog:Program} {w:World} {A:Around} {E:Value->Shared->Prop} {s:Shared}
end
theorem J3 {α β:Type} (f:α->Bool) (g:β->Bool):∀ (l:List α) (m:List β),l.length=m.length->(∀ (i:Nat) a b,l[i]?=some a->m[i]?=some b->f a=g b)->l.countP f=m.countP g
 | [],[],_,_=>rfl
 | [],_ :: _,h,_=>by cases h
 | _ :: _,[],h,_=>by cases h
 | a :: l,b :: m,h,k=>by
  rw [List.countP_cons,List.countP_cons,k 0 a b rfl rfl,J3 f g l m (by simpa using h) fun i a b h1 h2=>k (i + 1) a b h1 h2]
noncomputable def tO:List U->Option (List Int)
 | []=>some []
 | .int b :: r=>(tO r).map (b :: ·)
 | _=>none
theorem K1 {K:PySem.W.Frag} {H:Hp} {M:aI}:∀ {us:List U} {vs:List V} {bs:List Int},aS K H M us vs->tO us=some bs->vs=bs.map V.int
 | [],_,_,r,h=>by cases h;exact r.inv_nil
 | u :: us,_,bs,r,h=>by
  obtain ⟨v,vs',rfl,a,b⟩:=r.inv_cons
  cases u with
  | int y =>
   simp only [tO] at h
   cases e:tO us with
   | none=>rw [e] at h;cases h
   | some cs =>
    rw [e] at h
    cases h
    rw [K1 b e,a.int];rfl
  | _=>cases h
theorem Ln:∀ l:List Int,tO (l.map U.int)=some l
 | []=>rfl
 | a :: l=>by simp only [List.map_cons,tO,Ln l,Option.map_some]
end U2
namespace U2
open PySem PySem.Spec PyProof.Rows L2
abbrev lE (h:Heap) (z TI TO T:Addr) (f:Bool):Prop :=
 h.get? z=some { cls:=.type "zip",dict:=none,data:=.fields #[rawInt T,.bool f,.bool false,.ref TI,.ref TO],slots:=#[] }
section
variable {prog:Program} {w:World} {A:Around} {E:Value->Shared->Prop} {s:Shared} {z TI TO i1 i2:Addr} {f1 f2:List Addr} {n1 n2:Nat} {P1 P2:Nat->Value->Prop} {S1 S2:Nat->Heap->Prop} {i:Nat} {a b:Value} {T:Addr} {f:Bool}
theorem D9 {M:Model} {a:Addr} {Q:Option Obj->Shared->Prop} (h:Q (s.heap.get? a) s):wpAny M A (loadIfAlive a) Q E s:=fun Γ p _=>by
 unfold loadIfAlive
 rw [Sem.wp_loadIfAlive]
 exact (Sem.wp_pure ..).mpr h
theorem F7 {Q:Bool->Shared->Prop} (hz:lE s.heap z TI TO T f) (hT:∃ o,s.heap.get? T=some o) (hQ:∀ h',lE h' z TI TO T true->Heap.SameBut z s.heap h'->Q false { s with heap:=h' }) :
  wpAny (model prog w) A (Builtin.SmallTypes.ownedTupleIsFree (.ref z)) Q E s:=by
 unfold Builtin.SmallTypes.ownedTupleIsFree
 refine wpAny_bind (wpAny_field hz rfl (x:=rawInt T) rfl ?_)
 show wpAny _ _ (loadIfAlive ((T:Int)).toNat >>= _) _ _ _
 obtain ⟨o,ho⟩:=hT
 refine wpAny_bind (D9 ?_)
 rw [Int.toNat_natCast,ho]
 dsimp only
 rw [if_neg (by simp)]
 refine wpAny_bind (wpAny_field hz rfl (x:=.bool f) rfl ?_)
 cases f with
 | true =>
  rw [if_neg (by decide)]
  exact wpAny_pure (hQ s.heap hz (Heap.SameBut.refl ..))
 | false =>
  rw [if_pos (by decide)]
  refine wpAny_bind (wpAny_setField_rec hz (by simp) fun g1 hz1 hs1=>?_)
  replace hz1:lE g1 z TI TO T true:=hz1
  exact wpAny_pure (hQ g1 hz1 hs1)
theorem Nq (Z:Zp z TI TO i1 i2 f1 f2) (D1:Draws prog w A i1 f1 n1 P1 S1) (D2:Draws prog w A i2 f2 n2 P2 S2) {Q:Value->Shared->Prop}
  (hz:lE s.heap z TI TO T f) (hT:∃ o,s.heap.get? T=some o) (hTI:IsPair s.heap TI (.ref i1) (.ref i2)) (h1:S1 i s.heap) (h2:S2 i s.heap) (l1:i < n1) (l2:i < n2)
  (hQ:∀ x y h' tk,P1 i x->P2 i y->lE h' z TI TO T true->S1 (i + 1) h'->S2 (i + 1) h'->IsPair h' s.heap.objs.size x y ->
   (∀ c o,c≠z->c≠i1->c≠i2->s.heap.get? c=some o->h'.get? c=some o)->Q (.ref s.heap.objs.size) { s with heap:=h',toks:=tk }) :
  wpAny (model prog w) A (Builtin.«zip.__next__» ⟨[.ref z],[]⟩) (fun fin s'=>∃ v,fin=.done (.ret v)/\Q v s') E s:=by
 show wpAny _ _ (field (.ref z) 2 >>= _) _ _ _
 refine wpAny_bind (wpAny_field hz rfl (x:=.bool false) rfl ?_)
 show wpAny _ _ (field (.ref z) 3 >>= _) _ _ _
 refine wpAny_bind (wpAny_field hz rfl (x:=.ref TI) rfl ?_)
 refine wpAny_bind (wpAny_seqItems hTI rfl ?_)
 show wpAny _ _ (Builtin.SmallTypes.ownedTupleIsFree (.ref z) >>= _) _ _ _
 refine wpAny_bind (F7 hz hT fun g1 hz1 hs1=>?_)
 simp only [Bool.false_eq_true,if_false]
 rw [<- Array.forIn_toList]
 simp only [List.forIn_cons,List.forIn_nil]
 refine wpAny_bind ?_
 refine wpAny_bind (wpAny_bind (wpAny_holding ?_))
 show wpAny _ _ (Builtin.SmallTypes.nextOf (.ref i1) >>= _) _ _ _
 refine wpAny_bind (D1.item i _ _ _ l1 (Draws.same D1 h1 hs1.extBut Z.zf1) fun x g2 tk2 px j2 hs2=>wpAny_pure ?_)
 refine wpAny_pure ?_
 refine wpAny_bind (wpAny_bind (wpAny_holding ?_))
 show wpAny _ _ (Builtin.SmallTypes.nextOf (.ref i2) >>= _) _ _ _
 refine wpAny_bind (D2.item i _ _ _ l2 (Draws.same D2 (Draws.same D2 h2 hs1.extBut Z.zf2) hs2.extBut Z.if2) fun y g4 tk4 py st4 hs4=>wpAny_pure ?_)
 refine wpAny_pure (wpAny_pure ?_)
 dsimp only
 refine wpAny_bind (wpAny_newTuple ?_ (by show 2<=sizeLine;decide))
 have hsz:g4.objs.size=s.heap.objs.size:=by rw [hs4.1,hs2.1,hs1.1]
 have hz4:lE g4 z TI TO T true:=hs4.extBut _ _ Z.i2z.symm (hs2.extBut _ _ Z.i1z.symm hz1)
 have hk:∀ c o,c≠z->c≠i1->c≠i2->s.heap.get? c=some o->g4.get? c=some o:=fun c o c1 c3 c4 e=>hs4.extBut _ _ c4 (hs2.extBut _ _ c3 (hs1.extBut _ _ c1 e))
 have h14:S1 (i + 1) g4:=Draws.same D1 j2 hs4.extBut Z.if1
 refine wpAny_pure ⟨_,rfl,?_⟩
 show Q (.ref g4.objs.size) _
 rw [hsz]
 refine hQ x y (g4.push { cls:=.type "tuple",data:=.seq #[x,y] }) tk4 px py (Heap.get?_push_of_some _ hz4) (D1.frame _ _ _ h14 fun b hb o e=>Heap.get?_push_of_some _ e) (D2.frame _ _ _ st4 fun b hb o e=>Heap.get?_push_of_some _ e) ?_ fun c o c1 c3 c4 e=>Heap.get?_push_of_some _ (hk c o c1 c3 c4 e)
 rw [<- hsz];exact Heap.get?_push_size _ rfl
theorem Pe (Z:Zp z TI TO i1 i2 f1 f2) (D1:Draws prog w A i1 f1 n1 P1 S1) (D2:Draws prog w A i2 f2 n2 P2 S2) {Q:Fin->Shared->Prop}
  (hz:lE s.heap z TI TO T f) (hT:∃ o,s.heap.get? T=some o) (hTI:IsPair s.heap TI (.ref i1) (.ref i2)) (h1:S1 i s.heap) (h2:S2 i s.heap) (l1:i<=n1) (hi:i=min n1 n2)
  (hE:∀ h' e tk,(∀ c o,c≠z->c≠i1->c≠i2->s.heap.get? c=some o->h'.get? c=some o)->(∃ o,h'.get? e=some o/\o.cls=.type "StopIteration")->E (.ref e) { s with heap:=h',toks:=tk }) :
  wpAny (model prog w) A (Builtin.«zip.__next__» ⟨[.ref z],[]⟩) Q E s:=by
 show wpAny _ _ (field (.ref z) 2 >>= _) _ _ _
 refine wpAny_bind (wpAny_field hz rfl (x:=.bool false) rfl ?_)
 show wpAny _ _ (field (.ref z) 3 >>= _) _ _ _
 refine wpAny_bind (wpAny_field hz rfl (x:=.ref TI) rfl ?_)
 refine wpAny_bind (wpAny_seqItems hTI rfl ?_)
 show wpAny _ _ (Builtin.SmallTypes.ownedTupleIsFree (.ref z) >>= _) _ _ _
 refine wpAny_bind (F7 hz hT fun g1 hz1 hs1=>?_)
 simp only [Bool.false_eq_true,if_false]
 rw [<- Array.forIn_toList]
 simp only [List.forIn_cons,List.forIn_nil]
 refine wpAny_bind ?_
 refine wpAny_bind (wpAny_bind (wpAny_holding ?_))
 show wpAny _ _ (Builtin.SmallTypes.nextOf (.ref i1) >>= _) _ _ _
 have hA:S1 i g1:=Draws.same D1 h1 hs1.extBut Z.zf1
 by_cases hlt:i < n1
 ·have hn2:i=n2:=by omega
  refine wpAny_bind (D1.item i _ _ _ hlt hA fun x g2 tk2 px j2 hs2=>wpAny_pure ?_)
  refine wpAny_pure ?_
  refine wpAny_bind (wpAny_bind (wpAny_holding ?_))
  show wpAny _ _ (Builtin.SmallTypes.nextOf (.ref i2) >>= _) _ _ _
  refine wpAny_bind (D2.done _ _ _ (hn2 ▸ Draws.same D2 (Draws.same D2 h2 hs1.extBut Z.zf2) hs2.extBut Z.if2) fun g4 e hs4 he=>?_)
  exact hE g4 e _ (fun c o c1 c3 c4 x=>hs4 _ _ c4 (hs2.extBut _ _ c3 (hs1.extBut _ _ c1 x))) he
 ·have hn1:i=n1:=by omega
  refine wpAny_bind (D1.done _ _ _ (hn1 ▸ hA) fun g2 e hs2 he=>?_)
  exact hE g2 e _ (fun c o c1 c3 _ x=>hs2 _ _ c3 (hs1.extBut _ _ c1 x)) he
theorem yJ (Z:Zp z TI TO i1 i2 f1 f2) (D1:Draws prog w A.in1 i1 f1 n1 P1 S1) (D2:Draws prog w A.in1 i2 f2 n2 P2 S2) {Q:Option Value->Shared->Prop}
  (hz:lE s.heap z TI TO T f) (hT:∃ o,s.heap.get? T=some o) (hTI:IsPair s.heap TI (.ref i1) (.ref i2)) (h1:S1 i s.heap) (h2:S2 i s.heap) (l1:i < n1) (l2:i < n2)
  (hQ:∀ x y h' tk,P1 i x->P2 i y->lE h' z TI TO T true->S1 (i + 1) h'->S2 (i + 1) h'->IsPair h' s.heap.objs.size x y ->
   (∀ c o,c≠z->c≠i1->c≠i2->s.heap.get? c=some o->h'.get? c=some o)->Q (some (.ref s.heap.objs.size)) { s with heap:=h',toks:=tk }) :
  wpAny (model prog w) A (pyNext (.ref z)) Q E s:=by
 have hTy:s.TypeIs (.ref z) "zip":=⟨_,hz,rfl⟩
 unfold pyNext
 exact wpAny_bind (wpAny_attempt (wpAny_callSpecial?_slot (name:=Str.ofString "__next__") hTy PySem.F.slot_zip_next
  (wpAny_call_entry PySem.F.slot_zip_next hTy PySem.F.entry_zip_next
   (Nq Z D1 D2 hz hT hTI h1 h2 l1 l2 fun x y h' tk a1 a2 a3 a4 a5 a6 a7=>wpAny_pure (hQ x y h' tk a1 a2 a3 a4 a5 a6 a7)) (PySem.F.args_zip_next_1 _))))
theorem Ag (Z:Zp z TI TO i1 i2 f1 f2) (D1:Draws prog w A.in1 i1 f1 n1 P1 S1) (D2:Draws prog w A.in1 i2 f2 n2 P2 S2) {Q:Option Value->Shared->Prop}
  (hz:lE s.heap z TI TO T f) (hT:∃ o,s.heap.get? T=some o) (hTI:IsPair s.heap TI (.ref i1) (.ref i2)) (h1:S1 i s.heap) (h2:S2 i s.heap) (l1:i<=n1) (hi:i=min n1 n2)
  (hQ:∀ h' tk,(∀ c o,c≠z->c≠i1->c≠i2->s.heap.get? c=some o->h'.get? c=some o)->Q none { s with heap:=h',toks:=tk }):wpAny (model prog w) A (pyNext (.ref z)) Q E s:=by
 have hTy:s.TypeIs (.ref z) "zip":=⟨_,hz,rfl⟩
 unfold pyNext
 refine wpAny_bind (wpAny_attempt (wpAny_callSpecial?_slot (name:=Str.ofString "__next__") hTy PySem.F.slot_zip_next
  (wpAny_call_entry PySem.F.slot_zip_next hTy PySem.F.entry_zip_next (Pe Z D1 D2 hz hT hTI h1 h2 l1 hi fun h' e tk hk he=>?_) (PySem.F.args_zip_next_1 _))))
 obtain ⟨o,ho,hc⟩:=he
 refine wpAny_bind (wpAny_isInstance (T:="StopIteration") (b:=true) ⟨o,ho,hc⟩ isSubtype_stop ?_)
 exact wpAny_pure (hQ _ _ hk)
end
inductive mM (H0:Hp):List (V × V)->List Addr->Hp->Prop
 | nil:mM H0 [] [] H0
 | snoc {l:List (V × V)} {ps:List Addr} {H:Hp} {p:Addr} {x y:V} (h:mM H0 l ps H) (hp:H p=none):mM H0 (l++[(x,y)]) (ps++[p]) (upd H p (.tup [x,y]))
structure WV (a c z TI TO i1 i2:Addr) (its its':List Value) (i:Nat) (h:Heap):Prop where
 zip:IsZip h z TI TO .none\/∃ T f x y,lE h z TI TO T f/\IsPair h T x y
 ti:IsPair h TI (.ref i1) (.ref i2)
 to:∃ u v,IsPair h TO u v
 one:h.IsTupleIter i1 a i/\h.IsTuple a its.toArray
 two:h.IsListIter i2 c i/\h.IsList c its'.toArray
theorem Ss {X:Cx} {pins:List (Addr × Obj)} {σ:L2.St} {A:Around} {R:Result->Shared->Prop} (hh:A.handled=none) {a c z TI TO i1 i2 S:Addr} {its its':List Value} {xs ys:List V} (rv:Vals xs its) (rv':Vals ys its') (res:Value) (n:Nat) (hn:n=min its.length its'.length) (hsz:n<=sizeLine)
  (Z:Zp z TI TO i1 i2 [i1,a] [i2,c]) (n1:a≠i1) (n2:c≠i2) (hS:S≠z/\S≠TI/\S≠TO/\S≠i1/\S≠i2/\S≠a/\S≠c) (H0:Hp) :
  ∀ (k i:Nat) (s:Shared) (H:Hp) (ps:List Addr) (cc:Nat),n - i=k->i<=n->L2.Inv X pins σ H s->(∀ b∈[z,TI,TO,i1,i2,S],j8 X pins H b)->WV a c z TI TO i1 i2 its its' i s.heap ->
   s.heap.get? S=some { cls:=.type "list",dict:=none,data:=.seq (ps.map Value.ref).toArray cc,slots:=#[] }->mM H0 ((xs.zip ys).take i) ps H->ps.length=i ->
   (∀ s' H' ps' cc',L2.Inv X pins σ H' s'->j8 X pins H' S->s'.heap.get? S=some { cls:=.type "list",dict:=none,data:=.seq (ps'.map Value.ref).toArray cc',slots:=#[] }->mM H0 ((xs.zip ys).take n) ps' H'->ps'.length=n->R (.ok (.ret res)) s') ->
   codeAny (model X.prog X.w) A (.builtin "list.extend.loop" ⟨[.ref S,.ref z,res],[]⟩) R s:=by
 have hd:A.in1.in1.handled=none:=hh
 have D1:=uH (prog:=X.prog) (w:=X.w) hd i1 a n1 its.toArray
 have D2:=Draws.list (prog:=X.prog) (w:=X.w) hd i2 c n2 its'.toArray
 have hs1:its.toArray.size=its.length:=by simp
 have hs2:its'.toArray.size=its'.length:=by simp
 intro k
 induction k with
 | zero =>
  intro i s H ps cc hk hi I hf st hSl lp hl fin
  have hin:i=n:=by omega
  subst hin
  refine codeAny_builtin F.entry_extend_loop ?_
  rw [Around.under_plainId F.plain_extend_loop _]
  show wpAny _ A.in1 (pyNext (.ref z) >>= _) _ _ s
  have done:∀ h' tk,(∀ b o,b ∉ [z,TI,TO,i1,i2]->s.heap.get? b=some o->h'.get? b=some o)->R (.ok (.ret res)) { s with heap:=h',toks:=tk }:=fun h' tk kk=>by
   have hf5:∀ b∈[z,TI,TO,i1,i2],j8 X pins H b:=fun b hb=>hf b (by simp at hb ⊢;rcases hb with h | h | h | h | h <;> simp [h])
   have I':=I.call' (ch:=[z,TI,TO,i1,i2]) (H':=H) (s':={ s with heap:=h',toks:=tk }) rfl ⟨fun b u q n hb hx=>kk b u hx q,fun b u q n hb hx=>⟨u.slots,kk b u hx q⟩,fun b u q n hx=>n,fun b u q hx=>⟨u,kk b u hx q⟩,fun b xs q=>q,fun b u xs q=>q,fun b ps q=>⟨#[],by rw [q];simp⟩⟩
    (fun a u e'=>by
     refine (I.hok a u e').stay (fun b z hb q=>kk b z (fun hc=>?_) q) (fun _ q=>q) fun _ _ q=>q
     have hnone:=(hf5 b hc).1
     rcases hb with rfl | hb
     ·rw [hnone] at e';cases e'
     ·rw [hnone] at hb;cases hb) I.bare fun b hb=>⟨(hf5 b hb).2.2.2.1,(hf5 b hb).2.1,(hf5 b hb).2.2.2.2.1,(hf5 b hb).2.2.2.2.2⟩
   refine fin _ H ps cc I' (hf S (by simp)) (kk S _ ?_ hSl) lp hl
   simp only [List.mem_cons,List.not_mem_nil,or_false,not_or]
   exact ⟨hS.1,hS.2.1,hS.2.2.1,hS.2.2.2.1,hS.2.2.2.2.1⟩
  obtain ⟨u,v,hTO⟩:=st.to
  rcases st.zip with hz | ⟨T,f,x,y,hz,hT⟩
  ·refine wpAny_bind (Bb Z D1 D2 hz st.ti hTO st.one st.two (by omega) (by omega) fun h' tk hk=>wpAny_pure (done h' tk fun b o hb e=>?_))
   simp only [List.mem_cons,List.not_mem_nil,or_false,not_or] at hb
   exact hk b o hb.1 hb.2.2.1 hb.2.2.2.1 hb.2.2.2.2 e
  ·refine wpAny_bind (Ag Z D1 D2 hz ⟨_,hT⟩ st.ti st.one st.two (by omega) (by omega) fun h' tk hk=>wpAny_pure (done h' tk fun b o hb e=>?_))
   simp only [List.mem_cons,List.not_mem_nil,or_false,not_or] at hb
   exact hk b o hb.1 hb.2.2.2.1 hb.2.2.2.2 e
 | succ k ih =>
  intro i s H ps cc hk hi I hf st hSl lp hl fin
  have hlt:i < n:=by omega
  refine codeAny_builtin F.entry_extend_loop ?_
  rw [Around.under_plainId F.plain_extend_loop _]
  show wpAny _ A.in1 (pyNext (.ref z) >>= _) _ _ s
  have old:∀ {b o},s.heap.get? b=some o->b≠s.heap.objs.size:=fun e=>Nat.ne_of_lt (Heap.lt_size e)
  have go:∀ x y h' tk,its.toArray[i]?=some x->its'.toArray[i]?=some y->(∃ f,lE h' z TI TO s.heap.objs.size f)\/(∃ T f x y,T≠s.heap.objs.size/\lE h' z TI TO T f/\IsPair h' T x y)->IsPair h' TI (.ref i1) (.ref i2)->(∃ u v,IsPair h' TO u v)->(h'.IsTupleIter i1 a (i + 1)/\h'.IsTuple a its.toArray)->(h'.IsListIter i2 c (i + 1)/\h'.IsList c its'.toArray)->IsPair h' s.heap.objs.size x y ->
    (∀ b o,b ∉ [z,TI,TO,i1,i2]->s.heap.get? b=some o->h'.get? b=some o) ->
    wpAny (model X.prog X.w) A.in1 (updateSeq S (·.push (.ref s.heap.objs.size)) >>= fun _=>again (.builtin "list.extend.loop" ⟨[.ref S,.ref z,res],[]⟩))
     (fun fin s'=>match fin with | .done f=>R (.ok f) s' | .again c'=>c'.quiet=true/\codeAny (model X.prog X.w) A c' R s') (fun e s'=>R (.error e) s') { s with heap:=h',toks:=tk }:=by
   intro x y h' tk hx hy hzz hti hto ho ht hp kk
   have hSn:S ∉ [z,TI,TO,i1,i2]:=by
    simp only [List.mem_cons,List.not_mem_nil,or_false,not_or]
    exact ⟨hS.1,hS.2.1,hS.2.2.1,hS.2.2.2.1,hS.2.2.2.2.1⟩
   have hS':=kk S _ hSn hSl
   have hST:S≠s.heap.objs.size:=old hSl
   refine wpAny_bind (wpAny_updateSeq hS' rfl ?_ (by simp [hl];omega) (by simp [hl];omega))
   have oth:∀ b o,b≠S->h'.get? b=some o->(h'.update S (Obj.mapSeq (·.push (Value.ref s.heap.objs.size)))).get? b=some o:=fun b o hb e=>(Heap.get?_update_other _ _ (Ne.symm hb)).trans e
   generalize hh2:h'.update S (Obj.mapSeq (·.push (Value.ref s.heap.objs.size)))=h2 at oth
   have hS2:h2.get? S=some { cls:=.type "list",dict:=none,data:=.seq ((ps++[s.heap.objs.size]).map Value.ref).toArray (cc + 1),slots:=#[] }:=by
    rw [<- hh2,Heap.get?_update_self _ hS' rfl]
    simp [Obj.mapSeq]
   have hx':its[i]?=some x:=by simpa using hx
   have hy':its'[i]?=some y:=by simpa using hy
   have li:i < xs.length:=by rw [rv.length];exact (List.getElem?_eq_some_iff.mp hx').1
   have li':i < ys.length:=by rw [rv'.length];exact (List.getElem?_eq_some_iff.mp hy').1
   obtain ⟨x1,ux,rx⟩:=rv.get (List.getElem?_eq_getElem li)
   obtain ⟨y1,uy,ry⟩:=rv'.get (List.getElem?_eq_getElem li')
   rw [hx'] at ux;cases ux
   rw [hy'] at uy;cases uy
   have hf':∀ b∈[z,TI,TO,i1,i2,S],b≠s.heap.objs.size:=fun b hb=>by
    have:=hb
    simp only [List.mem_cons,List.not_mem_nil,or_false] at this
    obtain ⟨o1,e1,_⟩:=st.one.1
    obtain ⟨o2,e2,_⟩:=st.two.1
    have hzl:∃ o,s.heap.get? z=some o:=by
     rcases st.zip with hz | ⟨T,f,x,y,hz,_⟩
     ·exact ⟨_,hz⟩
     ·exact ⟨_,hz⟩
    obtain ⟨oz,hzl⟩:=hzl
    rcases this with rfl | rfl | rfl | rfl | rfl | rfl
    ·exact old hzl
    ·exact old st.ti
    ·obtain ⟨_,_,hTO⟩:=st.to;exact old hTO
    ·exact old e1
    ·exact old e2
    ·exact old hSl
   have hpT:h2.get? s.heap.objs.size=some _:=oth _ _ (Ne.symm hST) hp
   have I':=oX (s:=s) (h':=h2) (tk:=tk) (ch:=[z,TI,TO,i1,i2,S]) (T:=s.heap.objs.size) (o:=.tup [xs[i],ys[i]]) I hf (fun b o hb e=>by
     have hb':=hb
     simp only [List.mem_cons,List.not_mem_nil,or_false,not_or] at hb'
     refine oth b o hb'.2.2.2.2.2 (kk b o ?_ e)
     simp only [List.mem_cons,List.not_mem_nil,or_false,not_or]
     exact ⟨hb'.1,hb'.2.1,hb'.2.2.1,hb'.2.2.2.1,hb'.2.2.2.2.1⟩) (Nat.le_refl _) ⟨by show 2<=sizeLine;decide,[x,y],.cons rx (.cons ry .nil),⟨_,hpT,rfl,rfl,_,rfl⟩⟩
   have hnT:H s.heap.objs.size=none:=I.hok.fresh (Nat.le_refl _)
   have hfn:∀ b∈[z,TI,TO,i1,i2,S],j8 X pins (upd H s.heap.objs.size (.tup [xs[i],ys[i]])) b:=fun b hb=>by
    obtain ⟨p1,p2⟩:=hf b hb
    exact ⟨by rw [bD (hf' b hb)];exact p1,p2⟩
   have lp':mM H0 ((xs.zip ys).take (i + 1)) (ps++[s.heap.objs.size]) (upd H s.heap.objs.size (.tup [xs[i],ys[i]])):=by
    have e:(xs.zip ys).take (i + 1)=(xs.zip ys).take i++[(xs[i],ys[i])]:=by
     rw [List.take_add_one]
     have:(xs.zip ys)[i]?=some (xs[i],ys[i]):=by
      rw [List.getElem?_eq_getElem (by rw [List.length_zip];omega),List.getElem_zip]
     rw [this];rfl
    rw [e]
    exact .snoc lp hnT
   refine wpAny_pure ⟨plainId_quiet F.plain_extend_loop _,ih (i + 1) { s with heap:=h2,toks:=tk } _ (ps++[s.heap.objs.size]) (cc + 1) (by omega) (by omega) I' hfn ⟨?_,oth _ _ (Ne.symm hS.2.1) hti,(let ⟨u,v,e⟩:=hto;⟨u,v,oth _ _ (Ne.symm hS.2.2.1) e⟩),⟨ho.1.at fun o e=>oth _ _ (Ne.symm hS.2.2.2.1) e,let ⟨o,e,r⟩:=ho.2;⟨o,oth _ _ (Ne.symm hS.2.2.2.2.2.1) e,r⟩⟩,⟨ht.1.at fun o e=>oth _ _ (Ne.symm hS.2.2.2.2.1) e,ht.2.at fun o e=>oth _ _ (Ne.symm hS.2.2.2.2.2.2) e⟩⟩ hS2 lp' (by simp [hl]) fin⟩
   refine .inr ?_
   rcases hzz with ⟨f,hz2⟩ | ⟨T,f,x',y',hTn,hz2,hp2⟩
   ·exact ⟨_,f,x,y,oth _ _ (Ne.symm hS.1) hz2,hpT⟩
   ·refine ⟨T,f,x',y',oth _ _ (Ne.symm hS.1) hz2,oth _ _ (fun e=>?_) hp2⟩
    subst e
    have hp3:h'.get? T=some _:=hp2
    rw [hS'] at hp3
    have hcl:=congrArg Obj.cls (Option.some.inj hp3)
    exact absurd (Value.type.inj hcl) (by decide)
  obtain ⟨u,v,hTO⟩:=st.to
  rcases st.zip with hz | ⟨T,f,x,y,hz,hT⟩
  ·refine wpAny_bind (Ao Z D1 D2 hz st.ti hTO st.one st.two (by omega) (by omega) fun x y h' tk px py hz' hTO' s1 s2 hp hk=>?_)
   refine go x y h' tk px py (.inl ⟨false,hz'⟩) (hk _ _ Z.TIz Z.TITO Z.TIi1 Z.TIi2 st.ti) ⟨_,_,hTO'⟩ s1 s2 hp fun b o hb e=>?_
   simp only [List.mem_cons,List.not_mem_nil,or_false,not_or] at hb
   exact hk b o hb.1 hb.2.2.1 hb.2.2.2.1 hb.2.2.2.2 e
  ·refine wpAny_bind (yJ Z D1 D2 hz ⟨_,hT⟩ st.ti st.one st.two (by omega) (by omega) fun x' y' h' tk px py hz' s1 s2 hp hk=>?_)
   have tp:∀ {b:Addr} {o:Obj} {nm:String},s.heap.get? b=some o->o.cls=.type nm->nm≠"tuple"->T≠b:=fun e hc hn z=>by
    subst z;rw [hT] at e;cases e;exact hn (Value.type.inj hc).symm
   obtain ⟨o1,e1,c1,_⟩:=st.one.1
   obtain ⟨o2,e2,c2,_⟩:=st.two.1
   refine go x' y' h' tk px py (.inr ⟨T,true,x,y,old hT,hz',hk _ _ (tp hz rfl (by decide)) (tp e1 c1 (by decide)) (tp e2 c2 (by decide)) hT⟩) (hk _ _ Z.TIz Z.TIi1 Z.TIi2 st.ti) ⟨_,_,hk _ _ Z.TOz Z.TOi1 Z.TOi2 hTO⟩ s1 s2 hp fun b o hb e=>?_
   simp only [List.mem_cons,List.not_mem_nil,or_false,not_or] at hb
   exact hk b o hb.1 hb.2.2.2.1 hb.2.2.2.2 e
theorem Md {X:Cx} {pins:List (Addr × Obj)} {σ:L2.St} {H:Hp} {s:Shared} {S:Addr} {o:HO} (I:L2.Inv X pins σ H s) (hf:j8 X pins H S) (new:cW X.prog X.w (upd H S o) s.heap S o):L2.Inv X pins σ (upd H S o) s:=by
 have hn:H S=none:=hf.1
 have hf':∀ b∈[S],j8 X pins H b:=fun b hb=>by rw [List.mem_singleton.mp hb];exact hf
 refine I.call' (ch:=[S]) (H':=upd H S o) (s':=s) rfl ⟨fun b u q n hb hx=>q,fun b u q n hb hx=>⟨u.slots,q⟩,fun b u q n hx=>?_,fun b u q hx=>⟨u,q⟩,fun b xs q=>by rw [bD (bJ q hn)];exact q,fun b u xs q=>by rw [bD (bJ q hn)];exact q,
  fun b ps q=>⟨#[],by rw [bD (bJ q hn),q];simp⟩⟩ (fun a u e=>?_) I.bare fun b hb=>⟨(hf' b hb).2.2.2.1,(hf' b hb).2.1,(hf' b hb).2.2.2.2.1,(hf' b hb).2.2.2.2.2⟩
 ·rw [bD (fun z=>hx (List.mem_singleton.mpr z))];exact n
 ·by_cases ha:a=S
  ·subst ha;rw [b8] at e;cases e;exact new
  ·rw [bD ha] at e
   exact (I.hok a u e).stay (fun b z hb q=>q) (fun c q=>by rw [bD (bJ q hn)];exact q) fun c xs q=>by rw [bD (bJ q hn)];exact q
theorem zL:∀ ps:List Addr,Vals (ps.map V.ref) (ps.map Value.ref)
 | []=>.nil
 | p :: ps=>.cons rfl (zL ps)
theorem LI:typeLookup (.type "zip") "__len__"=pure none:=by rw [typeLookup_type,builtinLookup_eq_fast];kernel_rfl
theorem HU:typeLookup (.type "zip") "__length_hint__"=pure none:=by rw [typeLookup_type,builtinLookup_eq_fast];kernel_rfl
noncomputable def Bf (K:PySem.W.Frag) (ta:TA):TE:=fun σ H Q=>ta σ H fun vs H1=>∃ a c xs ys,vs=[.ref a,.ref c]/\eE K H1 a xs/\dE K H1 c ys/\∀ p ps H2,mM H1 (xs.zip ys) ps H2->H2 p=none->Q (.ref p) (upd H2 p (.lst (ps.map V.ref)))
theorem HS {X:Cx} {a b:Expr} {ta:TA} {p1 p2 pos1 pos2:Pos} (hc:X.calm=true) (hgL:Gl X "list") (hmL:X.mg "list"=none) (hgZ:Gl X "zip") (hmZ:X.mg "zip"=none) (ha:PA X [a,b] ta) (hs:starEach [a,b] X.env=[(false,eval a X.env),(false,eval b X.env)]) (hs1:starEach [b] X.env=[(false,eval b X.env)])
  (hs2:starEach [.Call (.Name "zip" p2) [a,b] [] pos2] X.env=[(false,eval (.Call (.Name "zip" p2) [a,b] [] pos2) X.env)]) :
  PE X (.Call (.Name "list" p1) [.Call (.Name "zip" p2) [a,b] [] pos2] [] pos1) (Bf X.K ta):=by
 intro pins s σ H Q I h
 refine Call_ (kX I hgL hmL JV (PyProof.Rows.callWith_type1 ?_ hs2 rfl))
 rw [hs2]
 show wpAny _ _ (spliced ((false,eval (.Call (.Name "zip" p2) [a,b] [] pos2) X.env) :: backTo pos1 [])) _ _ s
 refine Calls.spliced_cons (Call_ (kX I hgZ hmZ boot_zip (PyProof.Rows.callWith_type1 (bP (ha pos2 pins s σ H _ I h) fun us s1 ⟨vs,H1,I1,r1,q1⟩=>?_) (by rw [hs,hs1]) (by rw [hs1];rfl))))
 obtain ⟨a,c,xs,ys,e,hq,hq',q⟩:=q1
 subst e
 cases r1 with
 | cons r rr =>
  cases rr with
  | cons r' rr =>
   cases rr
   cases r
   cases r'
   obtain ⟨its,rv,p,hz⟩:=I1.tuple hq
   obtain ⟨its',rv',p',hz'⟩:=I1.list hq'
   have pa:s1.heap.IsTuple a its.toArray:=p
   have pc:s1.heap.IsList c its'.toArray:=p'.isList
   have la:a < s1.heap.objs.size:=by obtain ⟨_,e,_⟩:=pa;exact Heap.lt_size e
   have lc:c < s1.heap.objs.size:=by obtain ⟨_,e,_⟩:=pc;exact Heap.lt_size e
   refine LJ (f:=false) (g:=true) pa pc fun h' hz hTI hTO h1 h2 hk=>Calls.spliced_nil ?_
   have I2:L2.Inv X pins σ H1 { s1 with heap:=h',toks:=s1.toks }:=I1.kept hk
   refine callType_codes (Q₁:=fun obj s₁=>obj=.ref h'.objs.size/\s₁={ s1 with heap:=h'.push { cls:=.type "list",data:=.seq #[] } }) F.called_list (F.typeCall_list_1 _) F.entry_list_init
    (code_list_new _ ⟨rfl,rfl⟩) fun obj s₁ h₁=>?_
   obtain ⟨rfl,rfl⟩:=h₁
   have hSn:(h'.push { cls:=.type "list",data:=.seq #[] }).get? h'.objs.size=some { cls:=.type "list",data:=.seq #[] }:=Heap.get?_push_size _ rfl
   refine ⟨⟨_,hSn,rfl⟩,F.args_list_init_2 _ _,?_⟩
   have lz:s1.heap.objs.size + 4 < h'.objs.size:=Heap.lt_size hz
   have la':@LT.lt Nat _ a s1.heap.objs.size:=la
   have lc':@LT.lt Nat _ c s1.heap.objs.size:=lc
   have nat:∀ {m n:Addr},(@LT.lt Nat _ m n\/@LT.lt Nat _ n m)->m≠n:=fun h z=>by
    subst z;rcases h with h | h <;> exact Nat.lt_irrefl _ h
   show wpAny _ _ (do let old <- Builtin.List.listItems (.ref h'.objs.size);Builtin.List.listUpdate (.ref h'.objs.size) (fun _=>#[]);letGo old.toList.reverse;Builtin.List.listExtendWith (.ref h'.objs.size) (.ref (s1.heap.objs.size + 4)) .none) _ _ _
   refine wpAny_bind ?_
   unfold Builtin.List.listItems
   refine wpAny_bind (wpAny_seqItems hSn rfl (wpAny_pure ?_))
   show wpAny _ _ (updateSeq h'.objs.size (fun _=>#[]) >>= fun _=>letGo (#[]:Array Value).toList.reverse >>= fun _=>Builtin.List.listExtendWith (.ref h'.objs.size) (.ref (s1.heap.objs.size + 4)) .none) _ _ _
   refine wpAny_bind (wpAny_updateSeq hSn rfl ?_)
   have hS2:=Heap.get?_update_self (Obj.mapSeq (fun _=>(#[]:Array Value))) hSn rfl
   have oth2:∀ b o,h'.get? b=some o->((h'.push { cls:=.type "list",data:=.seq #[] }).update h'.objs.size (Obj.mapSeq (fun _=>(#[]:Array Value)))).get? b=some o :=
    fun b o e=>(Heap.get?_update_other _ _ (Ne.symm (Nat.ne_of_lt (Heap.lt_size e)))).trans (Heap.get?_push_of_some _ e)
   generalize (h'.push { cls:=.type "list",data:=.seq #[] }).update h'.objs.size (Obj.mapSeq (fun _=>(#[]:Array Value)))=g2 at hS2 oth2
   refine wpAny_bind (wpAny_letGo ?_)
   unfold Builtin.List.listExtendWith
   have hz2:IsZip g2 (s1.heap.objs.size + 4) (s1.heap.objs.size + 2) (s1.heap.objs.size + 3) .none:=oth2 _ _ hz
   have hzT:({ s1 with heap:=g2 }:Shared).TypeIs (.ref (s1.heap.objs.size + 4)) "zip":=⟨_,hz2,rfl⟩
   refine wpAny_bind (wpAny_typeOf hzT ?_)
   have e1:Builtin.List.listSameRef (.ref h'.objs.size) (.ref (s1.heap.objs.size + 4))=false:=by simp [Builtin.List.listSameRef];exact nat (by omega)
   have e2:(Value.type "zip" == Value.type "list")=false:=by decide
   have e3:(Value.type "zip" == Value.type "tuple")=false:=by decide
   simp only [e1,e2,e3,Bool.or_false,Bool.false_eq_true,if_false]
   refine wpAny_bind (wpAny_pyIter_zip hz2 ?_)
   refine wpAny_bind (wpAny_holding ?_)
   unfold Builtin.List.listLengthHint
   refine wpAny_bind (wpAny_specialOf hzT LI ?_)
   show wpAny _ _ (specialOf (Value.ref (s1.heap.objs.size + 4)) (Str.ofString "__length_hint__") >>= _) _ _ _
   refine wpAny_bind (wpAny_specialOf hzT HU ?_)
   refine wpAny_pure ?_
   show wpAny _ _ (rule "list.extend.makes-room" >>= fun _=>Builtin.List.listTouch (.ref h'.objs.size) >>= fun _ =>
    again (.builtin "list.extend.loop" ⟨[.ref h'.objs.size,.ref (s1.heap.objs.size + 4),.none],[]⟩)) _ _ _
   refine wpAny_bind (wpAny_rule ?_)
   refine wpAny_bind ?_
   show wpAny _ _ (updateSeq h'.objs.size (·.push .none) >>= fun _=>updateSeq h'.objs.size (·.pop)) _ _ _
   refine wpAny_bind (wpAny_updateSeq hS2 rfl ?_)
   have hS3:=Heap.get?_update_self (Obj.mapSeq (·.push Value.none)) hS2 rfl
   refine wpAny_updateSeq hS3 rfl ?_
   have hS4:=Heap.get?_update_self (Obj.mapSeq (·.pop)) hS3 rfl
   have oth4:∀ b o,h'.get? b=some o->((g2.update h'.objs.size (Obj.mapSeq (·.push Value.none))).update h'.objs.size (Obj.mapSeq (·.pop))).get? b=some o :=
    fun b o e=>(Heap.get?_update_other _ _ (Ne.symm (Nat.ne_of_lt (Heap.lt_size e)))).trans ((Heap.get?_update_other _ _ (Ne.symm (Nat.ne_of_lt (Heap.lt_size e)))).trans (oth2 b o e))
   generalize (g2.update h'.objs.size (Obj.mapSeq (·.push Value.none))).update h'.objs.size (Obj.mapSeq (·.pop))=g4 at hS4 oth4
   have I4:L2.Inv X pins σ H1 { s1 with heap:=g4,toks:=s1.toks }:=I1.kept fun b o e=>oth4 b o (hk b o e)
   have Z:=Vw (f:=false) (g:=true) hz ⟨nat (by omega),nat (by omega),nat (by omega),nat (by omega)⟩ hTI hTO h1 h2 (let ⟨o,e,r⟩:=pa;⟨o,hk a o e,r⟩) (pc.at fun o e=>hk c o e)
   refine wpAny_pure ⟨plainId_quiet F.plain_extend_loop _,Ss (A:=X.A.in1) (I1.ok.hd hc) rv rv' .none (min its.length its'.length) rfl (by rw [<- rv.length];omega) Z (nat (by omega)) (nat (by omega)) ⟨nat (by omega),nat (by omega),nat (by omega),nat (by omega),nat (by omega),nat (by omega),nat (by omega)⟩ H1 _ 0 { s1 with heap:=g4,toks:=s1.toks } H1 [] _ rfl (Nat.zero_le _) I4 (fun b hb=>?_) ⟨.inl (oth4 _ _ hz),oth4 _ _ hTI,⟨_,_,oth4 _ _ hTO⟩,⟨h1.at fun o e=>oth4 _ _ e,let ⟨o,e,r⟩:=pa;⟨o,oth4 _ _ (hk a o e),r⟩⟩,⟨h2.at fun o e=>oth4 _ _ e,pc.at fun o e=>oth4 _ _ (hk c o e)⟩⟩ hS4 .nil rfl fun s' H' ps' cc' I' fp hSl lp hl=>?_⟩
   ·have le:s1.heap.objs.size<=b:=by
     simp only [List.mem_cons,List.not_mem_nil,or_false] at hb
     rcases hb with e | e | e | e | e | e <;> rw [e] <;> first | exact Nat.le_refl _ | exact Nat.le_add_right _ _ | omega
    exact I1.fpOk le (I1.hok.fresh le)
   ·have hze:(xs.zip ys).take (min its.length its'.length)=xs.zip ys:=List.take_of_length_le (by rw [List.length_zip,rv.length,rv'.length];omega)
    rw [hze] at lp
    refine ⟨rfl,.ref h'.objs.size,upd H' h'.objs.size (.lst (ps'.map V.ref)),Md I' fp ⟨by rw [List.length_map,hl,<- rv.length];omega,ps'.map Value.ref,cc',zL ps',hSl⟩,rfl,q _ ps' H' lp fp.1⟩
theorem mM.rel {K:PySem.W.Frag} {H0:Hp} {M:aI} (rm:RelM K H0 M) {l:List (V × V)} {ps:List Addr} {H:Hp} (h:mM H0 l ps H):bE H0 M H M/\RelM K H M/\∀ zs:List (U × U),zs.length=l.length->(∀ (i:Nat) z v,zs[i]?=some z->l[i]?=some v->aY K H0 M z.1 v.1/\aY K H0 M z.2 v.2)->aS K H M (zs.map fun z=>.tup [z.1,z.2]) (ps.map V.ref):=by
 induction h with
 | nil =>
  refine ⟨bE.refl _ _,rm,fun zs hl _=>?_⟩
  have:zs=[]:=List.length_eq_zero_iff.mp (by simpa using hl)
  subst this
  exact .nil
 | @snoc l ps H p x y h hp ih =>
  obtain ⟨st,rm',rel⟩:=ih
  have j2:=bE.laid (o:=.tup [x,y]) rm' hp
  refine ⟨st.trans j2,rm'.laid hp,fun zs hl hr=>?_⟩
  have hne:zs≠[]:=fun z=>by subst z;simp at hl
  obtain ⟨ws,z,rfl⟩:∃ ws z,zs=ws++[z]:=⟨zs.dropLast,zs.getLast hne,(List.dropLast_concat_getLast hne).symm⟩
  have hl':ws.length=l.length:=by simpa using hl
  have r1:=rel ws hl' fun i z v h1 h2=>hr i z v (by rw [List.getElem?_append_left (List.getElem?_eq_some_iff.mp h1).1];exact h1) (by rw [List.getElem?_append_left (List.getElem?_eq_some_iff.mp h2).1];exact h2)
  obtain ⟨a1,a2⟩:=hr ws.length z (x,y) (by simp) (by rw [hl'];simp)
  have rr:aS K H M [z.1,z.2] [x,y]:=.cons (a1.stp st) (.cons (a2.stp st) .nil)
  rw [List.map_append,List.map_append]
  exact (r1.stp j2).append (.cons (vG (rm'.no hp) b8 (rr.stp j2)) .nil)
theorem qM:∀ us ws:List U,fF us ws=(us.zip ws).map fun z=>.tup [z.1,z.2]
 | [],ws=>by cases ws <;> rfl
 | _ :: _,[]=>rfl
 | u :: us,w :: ws=>by simp only [fF,List.zip_cons_cons,List.map_cons,qM us ws]
noncomputable def m8 (o:Bool) (ta:UA):UE:=fun τ M Q=>ta τ M fun us M1=>match us with
 | [.tup us,y]=>match view M1 y with
  | .lst ws=>kQ o (fF us ws) M1 Q
  | _=>False
 | _=>False
theorem DM {K:PySem.W.Frag} {o:Bool} {ta:TA} {ta':UA} (h:j6 K ta ta'):b6 K (Bf K ta) (m8 o ta'):=fun σ τ H M Q' rs rm q Q c=>h σ τ H M _ rs rm q _ fun us vs M1 H1 s1 rm1 ru h1=>by
 split at h1
 ·rename_i us y
  split at h1
  ·rename_i ws e
   obtain ⟨v,vs',rfl,a1,b⟩:=ru.inv_cons
   obtain ⟨v2,rfl,a2⟩:=b.one
   obtain ⟨a,zs,rfl,sq,r2⟩:=a1.tup
   obtain ⟨c',zs',rfl,sq',r2'⟩:=dM rm1 a2 e
   refine ⟨a,c',zs,zs',rfl,sq,sq',fun p ps H2 lp hp=>?_⟩
   obtain ⟨st,rm2,rel⟩:=lp.rel rm1
   have r3:=rel (us.zip ws) (by rw [List.length_zip,List.length_zip,r2.length,r2'.length]) fun i z v h1 h2=>by
    rw [List.getElem?_zip_eq_some] at h1 h2
    obtain ⟨v1,g1,g2⟩:=r2.get h1.1
    obtain ⟨v2,g3,g4⟩:=r2'.get h1.2
    rw [h2.1] at g1;cases g1
    rw [h2.2] at g3;cases g3
    exact ⟨g2,g4⟩
   rw [<- qM] at r3
   exact (cP.stp c (s1.trans st)).lst rm2 r3 hp h1
  ·exact h1.elim
 ·exact h1.elim
theorem Jm {D:Dat} (own:Bool:=false) {a b:Expr} {p1 p2 pos1 pos2:Pos} {ta:UA} (hmL:D.mg "list"=none) (hmZ:D.mg "zip"=none) (ha:mE D [a,b] ta) (hgL:D.sc.names.lookup ("list":Str)=some .globalImplicit:=by rfl) (hgZ:D.sc.names.lookup ("zip":Str)=some .globalImplicit:=by rfl)
  (hs:∀ env,starEach [a,b] env=[(false,eval a env),(false,eval b env)]:=by intro _;rfl) (hs1:∀ env,starEach [b] env=[(false,eval b env)]:=by intro _;rfl) (hs2:∀ env,starEach [.Call (.Name "zip" p2) [a,b] [] pos2] env=[(false,eval (.Call (.Name "zip" p2) [a,b] [] pos2) env)]:=by intro _;rfl) :
  bG D (.Call (.Name "list" p1) [.Call (.Name "zip" p2) [a,b] [] pos2] [] pos1) (m8 own ta):=by
 obtain ⟨_,q,s⟩:=ha
 refine ⟨_,fun X h=>?_,DM s⟩
 have:=HS (X:=X) (p1:=p1) (p2:=p2) (pos1:=pos1) (pos2:=pos2) h.calm (by show X.env.scope.names.lookup _=_;rw [h.sc];exact hgL) (by rw [h.mg];exact hmL) (by show X.env.scope.names.lookup _=_;rw [h.sc];exact hgZ) (by rw [h.mg];exact hmZ) (q X h) (hs _) (hs1 _) (hs2 _)
 rw [h.K] at this
 exact this
end U2
namespace L2
open PySem PySem.Spec PyProof.Rows
section
variable {κ:Type} [DecidableEq κ]
noncomputable def pR (kvs:List (κ × V)) (k:κ):Option V:=(kvs.find? fun kv=>decide (kv.1=k)).map (·.2)
noncomputable def putK (kvs:List (κ × V)) (k:κ) (v:V):List (κ × V) :=
 if (kvs.any fun kv=>decide (kv.1=k))=true then kvs.map (fun kv=>if kv.1=k then (kv.1,v) else kv) else kvs++[(k,v)]
noncomputable def pS (kvs:List (κ × V)) (k:κ):List (κ × V):=kvs.filter fun kv=>decide (kv.1≠k)
theorem mV {p:κ × V} {r:List (κ × V)} {k:κ} (e:p.1=k):pR (p :: r) k=some p.2:=by simp [pR,List.find?_cons,e]
theorem m9 {p:κ × V} {r:List (κ × V)} {k:κ} (e:¬ p.1=k):pR (p :: r) k=pR r k:=by simp [pR,List.find?_cons,e]
theorem CZ (k:κ):∀ kvs:List (κ × V),(kvs.any fun kv=>decide (kv.1=k))=(pR kvs k).isSome
 | []=>rfl
 | p :: r=>by
  rw [List.any_cons]
  by_cases e:p.1=k
  ·simp only [mV e,decide_eq_true e,Bool.true_or,Option.isSome_some]
  ·rw [m9 e,decide_eq_false e,Bool.false_or];exact CZ k r
theorem N3 (k j:κ) (y:V):∀ kvs:List (κ × V),pR (kvs.map fun kv=>if kv.1=k then (kv.1,y) else kv) j=(pR kvs j).map fun x=>if j=k then y else x
 | []=>rfl
 | p :: r=>by
  have ih:=N3 k j y r
  rw [List.map_cons]
  by_cases h:p.1=k
  ·rw [if_pos h]
   by_cases e:p.1=j
   ·rw [mV (p:=(p.1,y)) e,mV e,Option.map_some,if_pos (e.symm.trans h)]
   ·rw [m9 (p:=(p.1,y)) e,m9 e,ih]
  ·rw [if_neg h]
   by_cases e:p.1=j
   ·rw [mV (p:=p) e,mV e,Option.map_some,if_neg (fun z=>h (e.trans z))]
   ·rw [m9 (p:=p) e,m9 e,ih]
theorem WD {kvs:List (κ × V)} {k:κ} (v:V) (h:pR kvs k=none):putK kvs k v=kvs++[(k,v)]:=by
 unfold putK
 rw [CZ,h]
 exact if_neg (by decide)
end
theorem Vi {a b:Key} (e:kV a=kV b):a=b:=by
 cases a with
 | inl i=>cases b with
  | inl j=>have e':V.int i=V.int j:=e;injection e' with e';rw [e']
  | inr y=>exact nomatch (show V.int i=V.str y from e)
 | inr x=>cases b with
  | inl j=>exact nomatch (show V.str x=V.int j from e)
  | inr y=>have e':V.str x=V.str y:=e;injection e' with e';rw [e']
theorem Q9:∀ {a b:List Key},a.map kV=b.map kV->a=b
 | [],[],_=>rfl
 | [],_ :: _,e=>by simp at e
 | _ :: _,[],e=>by simp at e
 | x :: xs,y :: ys,e=>by
  rw [List.map_cons,List.map_cons] at e
  injection e with e1 e2
  rw [Vi e1,Q9 e2]
abbrev Xj (H:Hp):List (List Key × V)->List (List Key × Addr × Value)->Prop:=Paired fun p q=>p.1=q.1/\H q.2.1=some (.tup (p.1.map kV))/\RelV p.2 q.2.2
section
variable {P:Program} {w:World} {H:Hp} {h:Heap} {a:Addr}
end
section
variable {X:Cx} {pins:List (Addr × Obj)} {σ:St} {H:Hp} {s:Shared} {a:Addr} {y v:V} {u r:Value} {o:Option V} {A:Around} {E:Value->Shared->Prop}
end
section
variable {X:Cx} {pins:List (Addr × Obj)} {σ:St} {H:Hp} {s:Shared} {a:Addr} {kvs:List (Key × V)} {k:Key} {u:Value} {A:Around} {E:Value->Shared->Prop}
end
section
variable {X:Cx} {o i e value:Expr} {pos pos' tpos:Pos} {td ty tv:TE}
end
section
variable {X:Cx} {pos:Pos}
end
abbrev VV:List (V × V)->List (Value × Value)->Prop:=Paired fun p q=>RelV p.1 q.1/\RelV p.2 q.2
section
variable {X:Cx} {pins:List (Addr × Obj)} {σ:St} {H:Hp} {s:Shared} {a:Addr} {y d:V} {u r:Value} {o:Option V} {A:Around} {E:Value->Shared->Prop}
end
section
variable {X:Cx} {o e f:Expr} {apos cpos:Pos} {td ty tx:TE}
end
section
variable {X:Cx} {pins:List (Addr × Obj)} {σ:St} {H:Hp} {s:Shared} {a:Addr} {kvs:List (Key × V)} {A:Around} {E:Value->Shared->Prop}
end
section
variable {X:Cx} {pins:List (Addr × Obj)} {σ:St} {H:Hp} {s:Shared} {a:Addr} {y:V} {u:Value} {A:Around} {E:Value->Shared->Prop}
end
section
variable {X:Cx}
end
section
variable {κ:Type} [DecidableEq κ]
theorem Ws {p:κ × V} {r:List (κ × V)} {k:κ} (e:p.1=k):pS (p :: r) k=pS r k:=by
 unfold pS
 rw [List.filter_cons,if_neg (by simp [e])]
theorem LL {p:κ × V} {r:List (κ × V)} {k:κ} (e:¬ p.1=k):pS (p :: r) k=p :: pS r k:=by
 unfold pS
 rw [List.filter_cons,if_pos (by simp [e])]
theorem Ol:∀ {kvs:List (κ × V)} {k:κ},¬ k∈kvs.map (·.1)->pS kvs k=kvs
 | [],_,_=>rfl
 | p :: r,k,h=>by
  have h':¬ k∈r.map (·.1):=fun m=>by
   obtain ⟨q,hq,e⟩:=List.mem_map.mp m
   exact h (List.mem_map.mpr ⟨q,List.mem_cons.mpr (Or.inr hq),e⟩)
  rw [LL fun e=>h (List.mem_map.mpr ⟨p,List.mem_cons.mpr (Or.inl rfl),e⟩),Ol h']
end
end L2
namespace U2
open PySem PySem.Spec PyProof.Rows L2
section
variable {prog:Program} {w:World} {A:Around} {E:Value->Shared->Prop} {s:Shared}
end
end U2
namespace U2
open PySem PySem.Spec PyProof.Rows L2
end U2
namespace U2
open PySem PySem.Spec PyProof.Rows L2
end U2
namespace U2
open PySem PySem.Spec PyProof.Rows L2
theorem cZ.len {K:PySem.W.Frag} {H:Hp}:∀ {ds:List PyData} {vs:List V},cZ K H ds vs->ds.length=vs.length
 | [],vs,h=>by simp only [cZ] at h;subst h;rfl
 | d :: ds,vs,h=>by
  simp only [cZ] at h
  obtain ⟨v,vs',rfl,_,h2⟩:=h
  simp only [List.length_cons,cZ.len h2]
theorem cZ.at {X:Cx} {pins:List (Addr × Obj)} {σ:L2.St} {H:Hp} {s:Shared} (I:L2.Inv X pins σ H s):∀ {ds:List PyData} {vs:List V} {us:List Value},cZ X.K H ds vs->Vals vs us->∀ (j:Nat) (d:PyData) (u:Value),ds[j]?=some d->us[j]?=some u->∃ as,Reads s.heap u d as
 | [],vs,us,h,r,j,d,u,e,_=>by cases e
 | d0 :: ds,vs,us,h,r,j,d,u,e,e'=>by
  simp only [cZ] at h
  obtain ⟨v,vs',rfl,h1,h2⟩:=h
  cases r with
  | cons r rr =>
   cases j with
   | zero=>cases e;cases e';exact h1.reads I r
   | succ j=>exact cZ.at I h2 rr j d u e e'
noncomputable def U5 (K:PySem.W.Frag) (neg:Bool):R2:=fun x y H Q=>∃ a xs ds d,y=.ref a/\(dE K H a xs\/eE K H a xs)/\cZ K H ds xs/\eI K H d x/\PyData.canLayAll0 ds=true/\d.canLay0=true/\d.depth<=60/\Q (.bl (if neg then !ds.any (fun e=>PyData.eqv e d) else ds.any (fun e=>PyData.eqv e d))) H
theorem Gd:∀ {ds:List PyData},PyData.canLayAll0 ds=true->∀ d∈ds,d.canLay0=true
 | [],_,d,h=>by cases h
 | a :: ds,hh,d,h=>by
  simp only [PyData.canLayAll0,Bool.and_eq_true] at hh
  rcases List.mem_cons.mp h with rfl | h
  ·exact hh.1
  ·exact Gd hh.2 d h
open Classical in
theorem FZ {X:Cx} {k:Nat} (hr:cS k X.A) {pins:List (Addr × Obj)} {σ:L2.St} {H:Hp} {s:Shared} (I:L2.Inv X pins σ H s) {ds:List PyData} {vs:List V} {its:List Value} (h:cZ X.K H ds vs) (r:Vals vs its) {d:PyData} {x:V} {v:Value} (hd:eI X.K H d x) (rx:RelV x v) (c1:PyData.canLayAll0 ds=true) (c2:d.canLay0=true) (hdep:d.depth<=60) :
  ∃ e:Value->Bool,(∀ y∈its,SeqAt.EqAt X.A.in1 s y v (e y))/\its.any e=ds.any fun d'=>PyData.eqv d' d:=by
 have hl:ds.length=its.length:=by rw [h.len,r.length]
 obtain ⟨bs,rb⟩:=hd.reads I rx
 have key:∀ (j:Nat) (d':PyData) (u:Value),ds[j]?=some d'->its[j]?=some u->SeqAt.EqAt X.A.in1 s u v (PyData.eqv d' d):=fun j d' u e1 e2=>by
  obtain ⟨as,ra⟩:=cZ.at I h r j d' u e1 e2
  exact SeqAt.eqAt_reads d' d _ _ _ _ _ _ ra rb (Gd c1 d' (List.mem_of_getElem? e1)) c2 (by have:=hr.units;show X.A.units + 1 + _ < _;omega)
 refine ⟨fun u=>decide (∃ (j:Nat) (d':PyData),ds[j]?=some d'/\its[j]?=some u/\PyData.eqv d' d=true),fun y hy=>?_,?_⟩
 ·obtain ⟨j,hj⟩:=List.getElem?_of_mem hy
  have hjl:j < ds.length:=by rw [hl];exact (List.getElem?_eq_some_iff.mp hj).1
  have hdj:ds[j]?=some ds[j]:=List.getElem?_eq_getElem hjl
  dsimp only
  by_cases hh:∃ (j:Nat) (d':PyData),ds[j]?=some d'/\its[j]?=some y/\PyData.eqv d' d=true
  ·rw [decide_eq_true hh]
   obtain ⟨i,d',e1,e2,e3⟩:=hh
   rw [<- e3];exact key i d' y e1 e2
  ·rw [decide_eq_false hh]
   have hf:PyData.eqv ds[j] d=false:=by
    cases hc:PyData.eqv ds[j] d with
    | false=>rfl
    | true=>exact absurd ⟨j,ds[j],hdj,hj,hc⟩ hh
   rw [<- hf];exact key j ds[j] y hdj hj
 ·rw [Bool.eq_iff_iff,List.any_eq_true,List.any_eq_true]
  constructor
  ·rintro ⟨u,hu,he⟩
   obtain ⟨j,d',e1,e2,e3⟩:=of_decide_eq_true he
   exact ⟨d',List.mem_of_getElem? e1,e3⟩
  ·rintro ⟨d',hd',he⟩
   obtain ⟨j,hj⟩:=List.getElem?_of_mem hd'
   have hjl:j < its.length:=by rw [<- hl];exact (List.getElem?_eq_some_iff.mp hj).1
   have hij:its[j]?=some its[j]:=List.getElem?_eq_getElem hjl
   exact ⟨its[j],List.getElem_mem hjl,decide_eq_true ⟨j,d',hj,hij,he⟩⟩
theorem K6 {X:Cx} {k:Nat} (hr:cS k X.A):cU X (compareOp .NotIn) (U5 X.K true):=by
 intro pins s σ H x y v u Q I rx ry h
 obtain ⟨p,xs,ds,d,rfl,hq,hds,hd,c1,c2,hdep,q⟩:=h
 cases ry
 rcases hq with hq | hq
 ·obtain ⟨its,r,pl,hz⟩:=I.list hq
  obtain ⟨e,he,hany⟩:=FZ hr I hds r hd rx c1 c2 hdep
  refine SeqAt.notIn_listAt e pl.isList (fun w hw=>he w (by simpa using hw)) ⟨.bl _,H,I,rfl,?_⟩
  rw [show its.toArray.any e=its.any e by simp,hany]
  exact q
 ·obtain ⟨its,r,pl,hz⟩:=I.tuple hq
  obtain ⟨e,he,hany⟩:=FZ hr I hds r hd rx c1 c2 hdep
  refine SeqAt.notIn_tupleAt e pl (fun w hw=>he w (by simpa using hw)) ⟨.bl _,H,I,rfl,?_⟩
  rw [show its.toArray.any e=its.any e by simp,hany]
  exact q
noncomputable def NX (neg:Bool):dI:=fun x y M Q=>∃ us ds d,items M y=some us/\eO us=some ds/\pL M x=some d/\PyData.canLayAll0 ds=true/\d.canLay0=true/\d.depth<=60/\Q (.bl (if neg then !ds.any (fun e=>PyData.eqv e d) else ds.any (fun e=>PyData.eqv e d))) M
theorem QU {K:PySem.W.Frag} {neg:Bool}:dG K (U5 K neg) (NX neg):=fun x y u w H M Q' rm ru rw h Q c=>by
 obtain ⟨us,ds,d,e1,e2,e3,c1,c2,hdep,q⟩:=h
 obtain ⟨p,xs,rfl,hs,rs⟩:=zS rm rw e1
 exact ⟨p,xs,ds,d,rfl,hs,nB rs e2,uU rm ru e3,c1,c2,hdep,c.here rm cL q⟩
theorem O3 {D:Dat}:kO D .NotIn (NX true):=⟨⟨_,fun X h=>h.K ▸ K6 h.room,QU⟩⟩
end U2
namespace U2
open PySem PySem.Spec PyProof.Rows L2
noncomputable def xP:U->Option Key
 | .int i=>some (.inl i)
 | .str x=>some (.inr x)
 | _=>none
noncomputable def qQ:List U->Option (List Key)
 | []=>some []
 | u :: us=>match xP u,qQ us with
  | some k,some ks=>some (k :: ks)
  | _,_=>none
noncomputable def kU:Key->U
 | .inl i=>.int i
 | .inr x=>.str x
theorem QZ (k:Key):xP (kU k)=some k:=by cases k <;> rfl
theorem PJ:∀ ks:List Key,qQ (ks.map kU)=some ks
 | []=>rfl
 | k :: ks=>by simp only [List.map_cons,qQ,QZ,PJ ks]
theorem OS {K:PySem.W.Frag} {H:Hp} {M:aI} {u:U} {v:V} {k:Key} (r:aY K H M u v) (e:xP u=some k):v=kV k:=by
 cases u with
 | int i=>cases e;exact r.int
 | str x=>cases e;exact r.str
 | _=>cases e
theorem MU {K:PySem.W.Frag} {H:Hp} {M:aI}:∀ {us:List U} {vs:List V} {ks:List Key},aS K H M us vs->qQ us=some ks->vs=ks.map kV
 | [],_,_,r,e=>by cases e;exact r.inv_nil
 | u :: us,_,ks,r,e=>by
  obtain ⟨v,vs',rfl,a,b⟩:=r.inv_cons
  simp only [qQ] at e
  cases e1:xP u with
  | none=>rw [e1] at e;cases e
  | some k =>
   cases e2:qQ us with
   | none=>rw [e1,e2] at e;cases e
   | some ks' =>
    rw [e1,e2] at e;cases e
    rw [OS a e1,MU b e2];rfl
section
variable {κ:Type} [DecidableEq κ]
noncomputable def rN (kvs:List (κ × U)) (k:κ):Option U:=(kvs.find? fun kv=>decide (kv.1=k)).map (·.2)
theorem Ob {p:κ × U} {r:List (κ × U)} {k:κ} (e:p.1=k):rN (p :: r) k=some p.2:=by simp [rN,List.find?_cons,e]
theorem Oj {p:κ × U} {r:List (κ × U)} {k:κ} (e:¬ p.1=k):rN (p :: r) k=rN r k:=by simp [rN,List.find?_cons,e]
theorem PH (k:κ):∀ kvs:List (κ × U),(kvs.any fun kv=>decide (kv.1=k))=(rN kvs k).isSome
 | []=>rfl
 | p :: r=>by
  rw [List.any_cons]
  by_cases e:p.1=k
  ·simp only [Ob e,decide_eq_true e,Bool.true_or,Option.isSome_some]
  ·rw [Oj e,decide_eq_false e,Bool.false_or];exact PH k r
variable {K:PySem.W.Frag} {H:Hp} {M:aI}
end
noncomputable def SY:List Key->Key
 | [k]=>k
 | _=>.inl 0
noncomputable def Wm (M:aI):U->Option MO
 | .ref a=>M a
 | .dic ks true us=>some (.dT (ks.zip us))
 | .dic ks false us=>some (.dK ((ks.map SY).zip us))
 | _=>none
section
variable {K:PySem.W.Frag} {H:Hp} {M:aI} {x y:U} {v u:V}
noncomputable def W6 (tk:Bool) (M:aI) (x y:U):Option (Option U):=match tk with
 | false=>match Wm M x,xP y with
  | some (.dK kvs),some k=>some (rN kvs k)
  | _,_=>none
 | true=>match Wm M x,y with
  | some (.dT kvs),.tup ys=>(qQ ys).map (rN kvs)
  | _,_=>none
end
section
variable {D:Dat} {a b c e o i:Expr} {ta tb tc te to ti:UE} {pos p:Pos} {es:List Expr} {tas:UA} {x:Str}
end
end U2
namespace U2
open PySem PySem.Spec PyProof.Rows L2
end U2
namespace U2
open PySem PySem.Spec PyProof.Rows L2
theorem Dj {K:PySem.W.Frag} {H:Hp} {M:aI}:∀ ws:List Str,aS K H M (ws.map U.str) (ws.map V.str)
 | []=>.nil
 | w :: ws=>.cons gA (Dj ws)
end U2
namespace U2
open PySem L2
theorem IM {elt:Expr} {gens:List Comprehension} {scope:Scope} {pos py:Pos} {y:Str} {line:Nat} {env:Env} (h2:env.scope.names.lookup y=some .cell) :
  swapsWith (.ListComp elt gens scope pos) (some (.Name y py)) line env=pure false:=by
 have e2:(env.kindOf y == some .local)=false:=by unfold Env.kindOf;rw [h2];rfl
 show pure (env.blockKind == .function && env.kindOf y == some .local && py.line == pos.line && !(scope.names.any fun (n,k)=>n == y && (k == .local || k == .cell)))=pure false
 rw [e2]
 simp
theorem Sk {D:Dat} {te:UE} (i:Nat) {x:Str} {pos' pos p2:Pos} {elt:Expr} {gens:List Comprehension} {scope:Scope} (hN:D.N.Nodup) (he:bG D (.ListComp elt gens scope p2) te) (hi:D.N[i]?=some x:=by rfl) (hx:Loc D.sc x:=by first | exact Or.inl rfl | exact Or.inr rfl) (hc:D.sc.names.lookup x=some .cell:=by rfl)
  (hf:D.fn=true\/D.sc.names.lookup x=some .local:=by first | exact .inl rfl | exact .inr rfl):pA D (.Assign [.Name x pos'] (.ListComp elt gens scope p2) pos) (bQ te (hName i)):=by
 obtain ⟨_,p,s⟩:=he
 exact ⟨_,fun X h=>CI (i:=i) (by rw [h.N];exact hN) (by rw [h.N];exact hi) (by rw [h.sc];exact hx) (p X h) (IM (by rw [h.sc];exact hc)) (by rcases hf with z | z;exact .inl (h.fn z x);exact .inr (by rw [h.sc];exact z)),tR s (mC i)⟩
end U2
namespace U2
open PySem PySem.Spec PyProof.Rows L2
noncomputable def IY (f:Addr) (ws:List Str) (neg:Bool):dI:=fun x y M Q=>y=.ref f/\fM x=true/\Q (.bl (if neg then !(ws.map U.str).any (fun u=>mZ u x) else (ws.map U.str).any (fun u=>mZ u x))) M
theorem sP:∀ ws:List Str,(ws.map U.str).all fM=true
 | []=>rfl
 | w :: ws=>by rw [List.map_cons,List.all_cons,sP ws];rfl
theorem RS {K:PySem.W.Frag} {neg:Bool} {f:Addr} {ws:List Str} (hk:KT K f (ws.map V.str)):dG K (QB K neg) (IY f ws neg):=fun x y u w H M Q' rm ru rw h Q c=>by
 obtain ⟨rfl,fu,q⟩:=h
 cases rw.ref
 have rs:=Dj (K:=K) (H:=H) (M:=M) ws
 refine ⟨f,_,rfl,.inr (.inr hk),vJ ru fu,rS rs (sP ws),?_⟩
 rw [yG ru fu rs (sP ws)]
 exact c.here rm cL q
theorem Pj {D:Dat} {f:Addr} {ws:List Str} (hk:KT D.K f (ws.map V.str)):kO D .NotIn (IY f ws true):=⟨⟨_,fun X h=>h.K ▸ rO,RS hk⟩⟩
noncomputable def keyed:List (U × U)->Option (List (Key × U))
 | []=>some []
 | (x,y) :: r=>match xP x,keyed r with
  | some k,some ks=>some ((k,y) :: ks)
  | _,_=>none
end U2
namespace L2
open PySem PySem.Spec PyProof.Rows
section
variable {M:Model} {A:Around} {E:Value->Shared->Prop} {s:Shared} {base:Heap} {env:Env} {outer:List Env} {L e:Addr} {oe:Obj} {vs:Array Value}
noncomputable def WZ (e:Addr) (l:List Env) (h h':Heap):Prop:=∀ b o,h.get? b=some o->b≠e->(b ∉ kL l->h'.get? b=some o)/\∃ sl,h'.get? b=some { o with slots:=sl }
theorem A6 {head:Value} {hadNext:Bool} {Q:Unit->Shared->Prop} (hfr:A.frames=some (env :: outer)) (hl:s.heap.FunFrames base (env :: outer)) (hf:env.frame=some L)
  (he:s.heap.get? e=some oe) (hd:oe.data=.fields vs) (hsz:1 < vs.size)
  (h:∀ h' T oT ts,WZ e (env :: outer) s.heap h'->h'.get? e=some (oe.mapFields (·.setIfInBounds 1 (.ref T)))->s.heap.objs.size<=T->h'.get? T=some oT->oT.data=.fields ts->ts[3]?=some (rawInt L)->Q () { s with heap:=h' }) :
  wpAny M A (do let a <- frameOf env;let pl <- entryPlaceOf L hadNext;let b <- EntryCells.newEntry head a .none (rawInt L) .none pl;setField (.ref e) 1 b) Q E s:=by
 have hene:e ∉ (env :: outer).filterMap (·.frame):=fun hm=>by
  obtain ⟨_,o,ho,hnf⟩:=hl.mem hm
  rw [he] at ho;injection ho with ho;subst ho;exact hnf vs hd
 refine wpAny_bind (wpAny_frameOf_fun hfr hl hf fun h₁ hs₁=>?_)
 refine wpAny_bind (wpAny_entryPlaceOf fun pl hpl=>?_)
 unfold EntryCells.newEntry newFields
 refine wpAny_bind (wpAny_newObj_type ?_ (hpl.sizeOk5 _ _ _ _ _))
 have he₁:h₁.get? e=some oe:=(hs₁.2.1 e hene).trans he
 have he₂:=Heap.get?_push_of_some (h:=h₁) { cls:=.type "traceback",dict:=none,data:=.fields ([head,.ref L,.none,rawInt L,.none]++(if pl.isEmpty then List.replicate 6 Value.none else pl)).toArray } he₁
 refine wpAny_setField he₂ hd hsz ?_
 have hTe:h₁.objs.size≠e:=Nat.ne_of_gt (Heap.lt_size he₁)
 have hd₃:=Obj.data_mapFields hd (·.setIfInBounds 1 (Value.ref h₁.objs.size))
 have he₃:=Heap.get?_update_self (Obj.mapFields (·.setIfInBounds 1 (Value.ref h₁.objs.size))) he₂ (Obj.isFreed_of_fields hd₃)
 have hT₃:=(Heap.get?_update_other (h₁.push { cls:=.type "traceback",dict:=none,data:=.fields ([head,.ref L,.none,rawInt L,.none]++(if pl.isEmpty then List.replicate 6 Value.none else pl)).toArray })
  (Obj.mapFields (·.setIfInBounds 1 (Value.ref h₁.objs.size))) (Ne.symm hTe)).trans (Heap.get?_push_size h₁ rfl)
 have keep:∀ b o,b≠e->h₁.get? b=some o ->
   ((h₁.push { cls:=.type "traceback",dict:=none,data:=.fields ([head,.ref L,.none,rawInt L,.none]++(if pl.isEmpty then List.replicate 6 Value.none else pl)).toArray }).update e (Obj.mapFields (·.setIfInBounds 1 (Value.ref h₁.objs.size)))).get? b=some o:=fun b o hbe hb=>by
  rw [Heap.get?_update_other _ _ (Ne.symm hbe)]
  exact Heap.get?_push_of_some _ hb
 refine h _ h₁.objs.size _ _ (fun b o hb hbe=>⟨fun hnf=>keep b o hbe ((hs₁.2.1 b hnf).trans hb),?_⟩) he₃ (by rw [hs₁.1];exact Nat.le_refl _) hT₃ rfl ?_
 ·obtain ⟨sl,hs⟩:=hs₁.2.2 b o hb
  exact ⟨sl,keep b _ hbe hs⟩
 ·simp
noncomputable def MK (fl:Value->Prop) (h:Heap) (e:Addr) (vs:Array Value) (T:Option Addr):Prop:=match T with
 | none=>vs[1]?=some .none
 | some T=>vs[1]?=some (.ref T)/\T≠e/\∃ oT ts v,h.get? T=some oT/\oT.data=.fields ts/\ts[3]?=some v/\fl v
end
end L2
namespace L2
open PySem PySem.Spec
section
variable {prog:Program} {w:World} {A:Around} {E:Value->Shared->Prop} {h:Heap} {g:Array GenState} {d:Drawn} {t:Nat} {os:OsState}
variable {nm q:Str} {C N:Addr} {bs bm:List Value} {hdct:Bool} {sn:List Str} {sub:List Value} {ab:Bool} {col:Option Bool} {dd:Option Addr} {k0 k1 k2 k3 k5:Option Value}
noncomputable def Wi:List Value:=[.type "ValueError",.type "Exception",.type "BaseException",.type "object"]
theorem vF:ExcBaseFacts "ValueError" "ValueError.__new__" "ValueError.__init__" Wi:=PySem.F.excBase_ValueError
structure sM (bm:List Value):Prop where
 v:bm.contains (.type "ValueError")=true
 a:bm.contains (.type "AttributeError")=false
 n:bm.contains (.type "NameError")=false
 b:bm.contains (.type "BaseException")=true
theorem O1 (V:sM bm) {M:Model} {rest:List Value} {Q:Unit->Shared->Prop} (hC:h.get? C=some (excClassObj nm q C N bs bm hdct sn sub ab col dd k0 k1 k2 k3 k5 "ValueError.__new__"))
  (hq:Q () ⟨h,g,d,t,os⟩):wpAny M A (checkBuiltinCall "ValueError.__new__" ⟨.ref C :: rest,[]⟩) Q E ⟨h,g,d,t,os⟩:=by
 have hcont:(Value.ref C :: bm).contains (.type "ValueError")=true:=by rw [List.contains_cons,V.v,Bool.or_true]
 have hstar:=vF.noStar
 simp only [checkBuiltinCall,vF.newKind,vF.newSplit,vF.newRow]
 repeat (first | refine wpAny_loadPart_at hC ?_ | (refine wpAny_isSubtype_exc hC ?_;rw [hcont]) | refine wpAny_staticBase_exc hC ?_ | refine wpAny_madeBy_exc hC ?_ | simp only [bne_self_eq_false,Bool.false_eq_true,if_false] | wp_step)
 exact hq
theorem Vy (V:sM bm) {R:Result->Shared->Prop} {rest:List Value} (hC:h.get? C=some (excClassObj nm q C N bs bm hdct sn sub ab col dd k0 k1 k2 k3 k5 "ValueError.__new__"))
  (hq:R (.ok (.ret (.ref (h.objs.size + 1)))) ⟨(h.push { cls:=.type "tuple",data:=.seq rest.toArray }).push
   { cls:=.ref C,data:=.fields #[.ref h.objs.size,.none,.none,.none,.bool false,.none] },g,d,t,os⟩) (hrest:rest.length<=sizeLine) :
  codeAny (model prog w) A (.builtin "ValueError.__new__" ⟨.ref C :: rest,[]⟩) R ⟨h,g,d,t,os⟩:=by
 have hends:=vF.ends
 have hcB:(Value.ref C :: bm).contains (.type "ValueError")=true:=by rw [List.contains_cons,V.v,Bool.or_true]
 have hcA:(Value.ref C :: bm).contains (.type "AttributeError")=false:=by rw [List.contains_cons,V.a];rfl
 have hcN:(Value.ref C :: bm).contains (.type "NameError")=false:=by rw [List.contains_cons,V.n];rfl
 refine codeAny_builtinAt vF.entry ?_
 unfold Builtin.«BaseException.__new__»
 refine wpAt_bind ?_
 show wpAt _ _ _ (stack >>= _) _ _ _
 refine wpAt_bind (wpAt_stack fun p below=>wpAt_of_wpAny ?_)
 wp_walk
 refine wpAt_of_wpAny ?_
 rw [vF.owner]
 repeat (first | with_reducible refine wpAny_madeHere_exc vF.canon hC ?_ | with_reducible refine wpAny_loadPart_at hC ?_ | (with_reducible refine wpAny_isSubtype_exc hC ?_;first | rw [hcB] | rw [hcA] | rw [hcN]) | wp_step)
 show R _ _
 rw [Heap.size_push]
 exact hq
noncomputable def lS (h:Heap) (C:Addr) (us:List Value):Heap:=(h.push { cls:=.type "tuple",data:=.seq us.toArray }).push { cls:=.ref C,data:=.fields #[.ref h.objs.size,.none,.none,.none,.bool false,.none] }
theorem zP (h:Heap) (C:Addr) (us:List Value):(lS h C us).get? (h.objs.size + 1)=some { cls:=.ref C,data:=.fields #[.ref h.objs.size,.none,.none,.none,.bool false,.none] }:=by
 unfold lS;heap_get
theorem jH (h:Heap) (C:Addr) (us:List Value):∀ b o,h.get? b=some o->(lS h C us).get? b=some o:=fun b o e=>Heap.get?_push_of_some _ (Heap.get?_push_of_some _ e)
theorem IL (V:sM bm) {K:PySem.W.Frag} {rest:List Value} {fI:Addr} {oI:Obj} {Q:Fin->Shared->Prop} (KX:K.In h)
  (hC:h.get? C=some (excClassObj nm q C N bs bm hdct sn sub ab col dd k0 k1 k2 k3 k5 "ValueError.__new__")) (hi:PySem.W.findIn K (.ref C) "__init__"=some (some (.ref fI)))
  (hfI:h.get? fI=some oI) (hfc:oI.cls=.type "function")
  (hq:wpAny (model prog w) A (call (.ref fI) (.ref (h.objs.size + 1) :: rest)) (fun r s'=>r=.none/\Q (.done (.ret (.ref (h.objs.size + 1)))) s') E ⟨lS h C rest,g,d,t,os⟩) (hrest:rest.length<=sizeLine) :
  wpAny (model prog w) A (Builtin.«type.__call__» ⟨.ref C :: rest,[]⟩) Q E ⟨h,g,d,t,os⟩:=by
 repeat (first | with_reducible refine wpAny_loadPart_at hC ?_ | with_reducible refine wpAny_madeBy_exc hC ?_ | wp_step)
 refine codeAny_call_builtin_code (Code.quiet_builtin _ vF.quiet) (O1 V hC ?_)
 refine Vy V hC ?_ hrest
 show wpAny _ _ _ _ _ _
 have hk:=jH h C rest
 have hC₁:=hk _ _ hC
 have hfI₁:=hk _ _ hfI
 have KX₁:=KX.keeps hk
 have hget:=zP h C rest
 have hcC:(Value.ref C :: bm).contains (.ref C)=true:=by simp
 show wpAny _ _ _ _ _ (⟨lS h C rest,g,d,t,os⟩:Shared)
 unfold isInstance
 repeat (first | with_reducible refine wpAny_loadPart_at hget ?_ | (with_reducible refine wpAny_isSubtype_exc hC₁ ?_;rw [hcC]) | wp_step)
 show wpAny _ _ (typeLookup (.ref C) _) _ _ _
 refine (PySem.W.looks_findIn KX₁ hi).here ?_
 refine wpAny_holding (wpAny_bind ?_)
 unfold bindSpecial
 refine wpAny_bind (wpAny_typeOf (T:="function") ⟨_,hfI₁,hfc⟩ ?_)
 rw [if_pos (by decide)]
 refine wpAny_pure (wpAny_bind (wpAny_mono hq (fun r s' hr=>?_) fun _ _ x=>x))
 obtain ⟨rfl,hQ⟩:=hr
 wp_walk
 exact hQ
theorem S9 (V:sM bm) {K:PySem.W.Frag} {rest:List Value} {fI:Addr} {oI:Obj} {Q:Value->Shared->Prop} (KX:K.In h)
  (hC:h.get? C=some (excClassObj nm q C N bs bm hdct sn sub ab col dd k0 k1 k2 k3 k5 "ValueError.__new__")) (hi:PySem.W.findIn K (.ref C) "__init__"=some (some (.ref fI)))
  (hfI:h.get? fI=some oI) (hfc:oI.cls=.type "function")
  (hq:wpAny (model prog w) (A.under (.builtin "type.__call__" ⟨.ref C :: rest,[]⟩)) (call (.ref fI) (.ref (h.objs.size + 1) :: rest)) (fun r s'=>r=.none/\Q (.ref (h.objs.size + 1)) s') E ⟨lS h C rest,g,d,t,os⟩) (hrest:rest.length<=sizeLine) :
  wpAny (model prog w) A (call (.ref C) rest) Q E ⟨h,g,d,t,os⟩:=by
 have f1:=tc_lookup
 have f2:=tc_bind (.ref C)
 have hT:(⟨h,g,d,t,os⟩:Shared).TypeIs (.ref C) "type":=⟨_,hC,rfl⟩
 refine wpAny_call (codeAny_of_tree ?_)
 show wpAny _ _ (callAny (.ref C) _) _ _ _
 repeat (any_goals (first | assumption | with_reducible refine wpAny_loadPart_at hC ?_ | wp_step))
 refine ⟨rfl,?_⟩
 refine codeAny_call_builtin_at (Code.quiet_builtin _ (by decide +kernel)) entry_typeCall (wpAny_check_type_call_sub hC (IL V KX hC hi hfI hfc ?_ hrest))
 exact hq
end
end L2
namespace L2
open PySem PySem.Spec
open Builtin Builtin.ObjectAttr
section
variable {prog:Program} {w:World} {A:Around} {E:Value->Shared->Prop} {h:Heap} {g:Array GenState} {d:Drawn} {t:Nat} {os:OsState}
variable {nm q:Str} {C N R x:Addr} {bs:List Value} {sn:List Str} {sub:List Value} {ab:Bool} {col:Option Bool} {dd:Option Addr} {k0 k1 k2 k3 k5:Option Value} {K:PySem.W.Frag} {name:Str} {v:Value}
abbrev oA (R:Addr):List Value:=.ref R :: Wi
theorem To (R:Addr):sM (oA R):=⟨rfl,rfl,rfl,rfl⟩
theorem Q4 {M:Model} {o:Obj} {nameV:Value} {Q:Unit->Shared->Prop} (hC:h.get? C=some (excClassObj nm q C N bs (oA R) true sn sub ab col dd k0 k1 k2 k3 k5 "ValueError.__new__")) (hx:h.get? x=some o) (hc:o.cls=.ref C) (hq:Q () ⟨h,g,d,t,os⟩) :
  wpAny M A (checkBuiltinCall "object.__setattr__" ⟨[.ref x,nameV,v],[]⟩) Q E ⟨h,g,d,t,os⟩:=by
 have hcB:(Value.ref C :: oA R).contains (.type "object")=true:=by rw [List.contains_cons];rfl
 have SF:=PySem.F.store_ValueError
 have ha:=SF.args (.ref x) nameV v
 simp only [checkBuiltinCall,SF.kind,SF.split]
 refine wpAny_bind ?_
 ·unfold isInstance
  repeat (first | (with_reducible refine wpAny_loadPart_at hx ?_;rw [hc]) | (with_reducible refine wpAny_isSubtype_exc hC ?_;rw [hcB]) | wp_step)
  exact hq
theorem QW {o:Obj} {Q:Unit->Shared->Prop} (KX:K.In h)
  (hC:h.get? C=some (excClassObj nm q C N bs (oA R) true sn sub ab col dd k0 k1 k2 k3 k5 "ValueError.__new__"))
  (hsa:PySem.W.findIn K (.ref C) "__setattr__"=some (some (.builtin "object.__setattr__"))) (hna:PySem.W.findIn K (.ref C) name=some none)
  (hx:h.get? x=some o) (hc:o.cls=.ref C) (hnc:∀ c,o.data≠.cls c) (hdn:o.dict=none)
  (hq:∀ h' tk',h'.Ns1 h.objs.size (fun y=>if y=name then some v else none)->h'.get? x=some { o with dict:=some h.objs.size }->(∀ b ob,b≠x->h.get? b=some ob->h'.get? b=some ob)->Q () ⟨h',g,d,tk',os⟩) :
  wpAny (model prog w) A (setAttr (.ref x) name v) Q E ⟨h,g,d,t,os⟩:=by
 have SF:=PySem.F.store_ValueError
 have f3:=SF.slot.bind (.ref x)
 have hpass:refuseLoop (.ref x) "__setattr__" (.ref C :: oA R)=pure ():=by rw [refuseLoop_ref,refuseLoop_ref];exact SF.passes (.ref x)
 have L1:∀ {h':Heap} {t':Nat} {A':Around} {Q':Option Value->Shared->Prop} {E':Value->Shared->Prop},(∀ b o,h.get? b=some o->h'.get? b=some o)->Q' (some (.builtin "object.__setattr__")) ⟨h',g,d,t',os⟩->wpAny (model prog w) A' (typeLookup (.ref C) "__setattr__") Q' E' ⟨h',g,d,t',os⟩ :=
  fun k z=>(PySem.W.looks_findIn (KX.keeps k) hsa).here z
 have L2':∀ {t':Nat} {A':Around} {Q':Option Value->Shared->Prop} {E':Value->Shared->Prop},Q' none ⟨h,g,d,t',os⟩->wpAny (model prog w) A' (typeLookup (.ref C) name) Q' E' ⟨h,g,d,t',os⟩ :=
  fun z=>(PySem.W.looks_findIn KX hna).here z
 have entry:∀ {tk:Tok} {t':Nat} {A':Around} {Q':Fin->Shared->Prop} {E':Value->Shared->Prop},
   (∀ h' tk',h'.Ns1 h.objs.size (fun y=>if y=name then some v else none)->h'.get? x=some { o with dict:=some h.objs.size }->(∀ b ob,b≠x->h.get? b=some ob->h'.get? b=some ob)->Q' (.done (.ret .none)) ⟨h',g,d,tk',os⟩) ->
   wpAny (model prog w) A' (Builtin.«object.__setattr__» ⟨[.ref x,.str name tk,v],[]⟩) Q' E' ⟨h,g,d,t',os⟩:=by
  intro tk t' A' Q' E' hq
  unfold Builtin.«object.__setattr__»
  repeat (first | rw [refuse_eq] | (rw [hpass]) | (with_reducible refine wpAny_loadPart_at hx ?_;rw [hc]) | with_reducible refine wpAny_mroOf_exc hC ?_ | (with_reducible refine L2' ?_) | wp_step)
  rw [hdn,if_neg (by simp [typeHasDict])]
  split
  ·rename_i hcd
   cases hcd
  split
  ·rename_i c hcd
   exact absurd hcd (hnc c)
  ·have hx₁:(h.push { cls:=.type "dict",data:=.dict #[] }).get? x=some o:=Heap.get?_push_of_some _ hx
   have hxs:x≠h.objs.size:=Nat.ne_of_lt (Heap.lt_size hx)
   refine wpAny_bind (wpAny_alloc' ?_)
   refine wpAny_bind (wpAny_update' hx₁ ?_)
   refine wpAny_pure ?_
   have hgd:((h.push { cls:=.type "dict",data:=.dict #[] }).update x fun o=>{ cls:=o.cls,dict:=some h.objs.size,data:=o.data,slots:=o.slots }).get? h.objs.size
     = some { cls:=.type "dict",data:=.dict #[] } :=
    (Heap.get?_update_ne _ _ _ _ hxs.symm).trans (Heap.get?_push_at rfl rfl)
   have hnd:((h.push { cls:=.type "dict",data:=.dict #[] }).update x fun o=>{ cls:=o.cls,dict:=some h.objs.size,data:=o.data,slots:=o.slots }).Ns h.objs.size (fun _=>none) :=
    ⟨_,#[],_,hgd,rfl,fun e he=>absurd he (by simp),fun _=>rfl⟩
   show wpAny _ _ (storeInDict h.objs.size (.str name tk) name v) _ _ _
   unfold storeInDict newKeyGuard
   refine wpAny_bind (wpAny_pure (wpAny_bind (wpAny_nsSet1 (Heap.Ns1.of_empty hnd) fun h' hn' hs=>?_)))
   obtain ⟨oD,esD,epD,hoD,hdD,hcD⟩:=hn'.count (Within.cons name v Within.nil)
   refine wpAny_bind (wpAny_lookBehind hoD (by rw [hdD];exact pastItsLine_dict (Nat.le_trans hcD (by rw [List.length_cons,List.length_nil,sizeLine_eq];omega))) ?_)
   wp_walk
   refine hq h' _ hn' ?_ (fun b ob hbx hb=>?_)
   ·refine (hs.2 x hxs).trans (Heap.get?_update_self _ hx₁ ?_)
    have hfr:=(Heap.get?_some_iff.mp hx).2
    obtain ⟨oc,od,odt,osl⟩:=o
    cases odt <;> first | rfl | exact hfr
   ·exact (hs.2 b (Nat.ne_of_lt (Heap.lt_size hb))).trans ((Heap.get?_update_ne _ _ _ _ hbx).trans (Heap.get?_push_of_some _ hb))
 unfold setAttr callSpecial? specialOf
 repeat (any_goals (first | assumption | (with_reducible refine wpAny_loadPart_at hx ?_;rw [hc]) | (with_reducible refine L1 (fun _ _ z=>z) ?_) | wp_step))
 refine codeAny_call_builtin SF.slot.plain SF.entry (Q4 hC hx hc (entry fun h' tk' a1 a2 a3=>?_))
 repeat (any_goals (first | assumption | wp_step))
 exact hq h' tk' a1 a2 a3
noncomputable def qU (C t:Addr) (dx:Option Addr):Obj:={ cls:=.ref C,dict:=dx,data:=.fields #[.ref t,.none,.none,.none,.bool false,.none] }
theorem Te {t0:Addr} {rest:List Value} {Q:Value->Shared->Prop}
  (hC:h.get? C=some (excClassObj nm q C N bs (oA R) true sn sub ab col dd k0 k1 k2 k3 k5 "ValueError.__new__")) (hx:h.get? x=some (qU C t0 none)) (hrest:rest.length<=sizeLine)
  (hq:∀ h',h'.get? x=some (qU C h.objs.size none)->(∀ b ob,b≠x->h.get? b=some ob->h'.get? b=some ob)->Q .none ⟨h',g,d,t,os⟩) :
  wpAny (model prog w) A (call (.builtin "ValueError.__init__") (.ref x :: rest)) Q E ⟨h,g,d,t,os⟩:=by
 have hcB:(Value.ref C :: oA R).contains (.type "ValueError")=true:=by rw [List.contains_cons];rfl
 have hshort:=vF.noStar
 unfold qU at hx
 have chk:∀ {A':Around} {E':Value->Shared->Prop} {Q':Unit->Shared->Prop},Q' () ⟨h,g,d,t,os⟩->wpAny (model prog w) A' (checkBuiltinCall "ValueError.__init__" ⟨.ref x :: rest,[]⟩) Q' E' ⟨h,g,d,t,os⟩:=by
  intro A' E' Q' hq
  simp only [checkBuiltinCall,vF.initKind,vF.initSplit,vF.initRow]
  repeat (first | (with_reducible refine wpAny_loadPart_at hx ?_) | with_reducible refine wpAny_loadPart_at hC ?_ | (with_reducible refine wpAny_isSubtype_exc hC ?_;rw [hcB]) | wp_step)
  refine wpAny_onRaise ?_
  rw [show ∀ (a b:String) (n:Nat),Bind.check ⟨.positional,"*","ValueError",.self,[⟨"args",.varPos,false⟩]⟩ a b n (List.map (fun x=>x.fst) ({ pos:=Value.ref x :: rest }:Args).kw)=pure () from
   fun a b n=>check_star_args _ _ _ _ _ _]
  exact wpAny_pure hq
 refine wpAny_call (codeAny_call_builtin vF.init.plain vF.initEntry (chk ?_))
 have hx₁:=Heap.get?_push_of_some { cls:=.type "tuple",data:=.seq rest.toArray } hx
 unfold Builtin.«BaseException.__init__»
 wp_walk
 refine hq _ ?_ fun b ob hb e=>?_
 ·rw [Heap.get?_update_self _ hx₁ rfl];rfl
 ·rw [Heap.get?_update_other _ _ (Ne.symm hb)];exact Heap.get?_push_of_some _ e
end
end L2
namespace L2
open PySem PySem.Spec PyProof.Rows
noncomputable def dY (a C:Addr) (dx:Option Addr) (h:Heap):Prop:=∃ t,h.get? a=some (qU C t dx)
theorem dY.obj {P:Program} {w:World} {H:Hp} {h:Heap} {a C:Addr} {dx:Option Addr} (x:dY a C dx h):cW P w H h a (.ext (dY a C dx)) :=
 ⟨x,let ⟨_,e⟩:=x;⟨_,e⟩,fun _ _ ⟨t,e⟩ k=>⟨t,k _ e⟩⟩
structure oM (K:PySem.W.Frag) (C R fI:Addr):Prop where
 obj:∃ nm q N bs sn sub ab col dd k0 k1 k2 k3 k5,K.lookup C=some (excClassObj nm q C N bs (oA R) true sn sub ab col dd k0 k1 k2 k3 k5 "ValueError.__new__")
 init:PySem.W.findIn K (.ref C) "__init__"=some (some (.ref fI))
 fn:PySem.W.isFn K (.ref fI)=true
 kp:PySem.W.keepIn K (.ref C)=true
 sa:PySem.W.findIn K (.ref C) "__setattr__"=some (some (.builtin "object.__setattr__"))
structure Av (K:PySem.W.Frag) (R:Addr):Prop where
 rd:PySem.W.readsIn K R (.type "type")=true
 ini:PySem.W.findCls K (.ref R) (.type "type") "__init__"=some (.val (.builtin "ValueError.__init__"))
 sp:PySem.W.specialIn K (.ref R) "__getattribute__"=some (some (.builtin "type.__getattribute__"))
section
variable {P:Program} {w:World} {H:Hp} {h h':Heap} {a d:Addr} {o:HO}
theorem dR.add (x:dR P w H h) (n:H d=none) (new:cW P w (upd H d o) h d o):dR P w (upd H d o) h:=fun b u e=>by
 by_cases hb:b=d
 ·subst hb;rw [b8] at e;cases e;exact new
 ·rw [bD hb] at e
  exact (x b u e).stay (fun c v _ q=>q) (fun c q=>by rw [bD (bJ q n)];exact q) fun c xs q=>by rw [bD (bJ q n)];exact q
theorem Un.add {fs ex:List Addr} {H1:Hp} (u:Un fs ex H H1 h h') (hp:h.objs.size<=d) (n:H1 d=none):Un fs ex H (upd H1 d o) h h' where
 keep:=u.keep
 slot:=u.slot
 free:=fun b v q z hx=>by rw [bD (Nat.ne_of_lt (Nat.lt_of_lt_of_le (Heap.lt_size q) hp))];exact u.free b v q z hx
 there:=u.there
 tups:=fun b xs q=>by have:=u.tups b xs q;rw [bD (bJ this n)];exact this
 frzs:=fun b v xs q=>by have:=u.frzs b v xs q;rw [bD (bJ this n)];exact this
 tbls:=fun b ps q=>by obtain ⟨m,e⟩:=u.tbls b ps q;exact ⟨m,by rw [bD (bJ e n)];exact e⟩
end
section
variable {X:Cx} {e1 e2:Expr} {t1 t2 ta tv:TE} {p pos apos pos':Pos} {r f:Str} {R:Addr}
noncomputable def Wd (K:PySem.W.Frag) (R:Addr) (t1 t2:TE):TE:=fun σ H Q=>t1 σ H fun x H1=>t2 σ H1 fun y H2=>∃ a C fI,x=.ref a/\H2 a=some (.ext (dY a C none))/\oM K C R fI/\Q .non H2
theorem OJ {H:Hp} {a:Addr} {o:HO} (h:H a=some o):upd H a o=H:=by
 funext b;unfold upd;split
 ·rename_i e;subst e;exact h.symm
 ·rfl
theorem R6 {pl:Sem Bool} (hg:Gl X r) (hm:X.mg r=some (.ref R)) (B:Av X.K R) (h1:PE X e1 t1) (h2:PE X e2 t2) (hdb:(r == ("__debug__":Str))=false:=by decide)
  (hs1:starEach [e1,e2] X.env=[(false,eval e1 X.env),(false,eval e2 X.env)]:=by rfl) (hs2:starEach [e2] X.env=[(false,eval e2 X.env)]:=by rfl)
  (ht:eval (.Call (.Attribute (.Name r p) "__init__" apos) [e1,e2] [] pos) X.env=(do
   let ov <- eval (.Name r p) X.env
   standAt apos.atName
   let (f,first) <- holding [ov] (getMethod ov "__init__" pl)
   callWith pos f first (backTo pos (starEach [e1,e2] X.env)) (backToKw pos (keywordEach [] X.env))):=by rfl) :
  PE X (.Call (.Attribute (.Name r p) "__init__" apos) [e1,e2] [] pos) (Wd X.K R t1 t2):=by
 intro pins s σ H Q I h
 refine PySem.W.methodCall_KW (pl:=pl) (mS I hg hm ?_ hdb) ht
 refine PySem.W.method_cls I.kIn B.sp (PySem.W.cls_value I.kIn B.rd B.ini rfl ?_)
 have ha:PA X [e1,e2] (fun σ H Q=>t1 σ H fun x H1=>t2 σ H1 fun y H2=>Q [x,y] H2):=by
  have:=oV h1 (oV h2 wW (by rw [hs2];rfl)) (by rw [hs1,hs2])
  intro pos pins s σ H Q I h
  exact this pos pins s σ H Q I h
 let Q1:List V->Hp->Prop:=fun vs H2=>match vs with | [x,y]=>(∃ a C fI,x=.ref a/\H2 a=some (.ext (dY a C none))/\oM X.K C R fI/\Q .non H2) | _=>False
 refine PyProof.Rows.callWith_builtin1 (bP (ha pos pins _ σ H Q1 (I.tok _) h) fun us s1 ⟨vs,H1,I1,rv,q⟩=>?_) (by rw [hs1,hs2]) (by rw [hs2];rfl)
 match vs,rv,q with
 | [x,y],rv,⟨a,C,fI,ex,ea,hK,q⟩ =>
  obtain ⟨u1,u2,rfl,r1,r2⟩:=vals2 rv
  subst ex
  obtain rfl:u1=Value.ref a:=r1
  obtain ⟨nm,qq,N,bs,sn,sub,ab,col,dd,k0,k1,k2,k3,k5,hC⟩:=hK.obj
  obtain ⟨⟨t0,ht0⟩,_,_⟩:=I1.hok a _ ea
  obtain ⟨hh,g,d,t,os⟩:=s1
  refine Te (I1.kIn _ _ hC) ht0 (by show 1<=sizeLine;decide) fun h' e1 e2=>?_
  refine ⟨.non,H1,?_,rfl,q⟩
  have:=I1.write (h':=h') (t':=t) (x:=a) (e:=a) (o:=.ext (dY a C none)) (by rw [ea];trivial) (.inl rfl) e2 ⟨_,e1⟩ (dY.obj ⟨_,e1⟩)
  rw [OJ ea] at this
  exact this
noncomputable def We (K:PySem.W.Frag) (ta tv:TE) (f:Str):TS:=fun D σ H=>tv σ H fun y H1=>ta σ H1 fun x H2=>∃ a C,x=.ref a/\H2 a=some (.ext (dY a C none))/\(∃ R fI,oM K C R fI/\wH K C f)/\∀ d,H2 d=none->d≠a->D.nx σ (upd (upd H2 a (.ext (dY a C (some d)))) d (.xd [(f,y)]))
theorem R0 {o value:Expr} (ha:PE X o ta) (hv:PE X value tv) (hs:swapsWith value (some (.Attribute o f pos')) pos.line X.env=pure false):PS X (.Assign [.Attribute o f pos'] value pos) (We X.K ta tv f):=by
 intro pins s σ H D I h
 refine plainObj_wpAny_Assign_Attribute (bP (hv pins s σ H _ I h) fun u s1 ⟨y,H1,I1,ry,q⟩=>bP (ha pins s1 σ H1 _ I1 q) fun ov s2 ⟨x,H2,I2,rx,a,C,ex,ea,c,q2⟩=>?_) hs
 subst ex
 obtain rfl:ov=Value.ref a:=rx
 obtain ⟨R,fI,c,n⟩:=c
 obtain ⟨nm,qq,N,bs,sn,sub,ab,col,dd,k0,k1,k2,k3,k5,hC⟩:=c.obj
 obtain ⟨⟨t0,ht0⟩,_,_⟩:=I2.hok a _ ea
 obtain ⟨hh,g,d,t,os⟩:=s2
 have hlt:a < hh.objs.size:=Heap.lt_size ht0
 have hfr:H2 hh.objs.size=none:=I2.hok.fresh (Nat.le_refl _)
 refine QW (o:=qU C t0 none) I2.kIn (I2.kIn _ _ hC) c.sa n ht0 rfl (fun c z=>by cases z) rfl fun h' tk' hn hx hk=>?_
 refine ⟨σ,_,?_,q2 hh.objs.size hfr (Nat.ne_of_gt hlt)⟩
 have mu:K8 (H2 a):=by rw [ea];trivial
 have nd:upd H2 a (.ext (dY a C (some hh.objs.size))) hh.objs.size=none:=by rw [bD (Nat.ne_of_gt hlt)];exact hfr
 have hok1:dR X.prog X.w (upd H2 a (.ext (dY a C (some hh.objs.size)))) h':=I2.hok.write mu (.inl rfl) hk ⟨_,hx⟩ (dY.obj ⟨_,hx⟩)
 have un1:Un X.fs [] H2 (upd H2 a (.ext (dY a C (some hh.objs.size)))) hh h':=Un.write mu (.inl rfl) hk ⟨_,hx⟩
 refine I2.un (t':=tk') (un1.add (Nat.le_refl _) nd) (hok1.add nd ⟨_,hn,fun f'=>?_⟩)
 by_cases hf:f'=f
 ·subst hf
  simp only [List.lookup,beq_self_eq_true,if_true]
  exact ry
 ·have:(f' == f)=false:=beq_eq_false_iff_ne.mpr hf
  simp only [List.lookup,this,if_neg hf]
  trivial
end
noncomputable def nQ (C:Addr) (attr:Str) (cond:V->Prop):Sp:=fun vs H Q E=>∃ a y,vs=[.ref a,y]/\H a=some (.ext (dY a C none))/\cond y/\∀ d,H d=none->d≠a->Q .non (upd (upd H a (.ext (dY a C (some d)))) d (.xd [(attr,y)]))
theorem Q5 {P:Program} {w:World} {K:PySem.W.Frag} {mg:Str->Option Value} {base:Heap} {qual par attr rn:Str} {st:Stmt} {f C R:Addr} {fd:FuncData} {k:Nat} {e2:Expr} {cond:V->Prop} {t2:TE} {p1 p2 p3 p5 p6 p7 p8 p9 p10:Pos}
  (F:b9 K "__init__" qual st f fd) (hm:mg rn=some (.ref R)) (B:Av K R) (c:oM K C R f) (n:wH K C attr)
  (hb:bA st=[.Expr (.Call (.Attribute (.Name rn p1) "__init__" p2) [.Name "self" p3,e2] [] p5) p6,.Assign [.Attribute (.Name "self" p7) attr p8] (.Name par p9) p10])
  (S:bB ["self",par] ["self",par] (aF st)) (hg:(aF st).names.lookup rn=some .globalImplicit)
  (h2:∀ X:Cx,X.N=[("self":Str),par]->X.env.scope=aF st->X.mg=mg->PE X e2 t2) (ht2:∀ a y H Q,cond y->(∀ z,Q z H)->t2 [some (.ref a),some y] H Q)
  {pl:Env->Sem Bool} (ht:∀ env,eval (.Call (.Attribute (.Name rn p1) "__init__" p2) [.Name "self" p3,e2] [] p5) env=(do
   let ov <- eval (.Name rn p1) env
   standAt p2.atName
   let (f,first) <- holding [ov] (getMethod ov "__init__" (pl env))
   callWith p5 f first (backTo p5 (starEach [.Name "self" p3,e2] env)) (backToKw p5 (keywordEach [] env))):=by intro _;rfl)
  (hs1:∀ env,starEach [.Name "self" p3,e2] env=[(false,eval (.Name "self" p3) env),(false,eval e2 env)]:=by intro _;rfl) (hs2:∀ env,starEach [e2] env=[(false,eval e2 env)]:=by intro _;rfl)
  (hl1:(aF st).names.lookup ("self":Str)=some .local:=by rfl) (hl2:(aF st).names.lookup par=some .local:=by rfl) (hdb:(rn == ("__debug__":Str))=false:=by decide) (hpd:(par == ("__debug__":Str))=false:=by decide) (hpc:(par == ("__classdict__":Str))=false:=by decide)
  (hsw:∀ env,swapsWith (.Name par p9) (some (.Attribute (.Name "self" p7) attr p8)) p10.line env=pure false:=by intro _;rfl) :
  dJ P w K mg base j4 (k + 1) f fd ["self",par] (nQ C attr cond):=by
 refine F.ok S (fun vs H Q E ⟨a,y,e,_⟩=>by rw [e];rfl) fun cdv A outer s H vs Q E hr ⟨a,y,e,ha,hy,hq⟩=>?_
 subst e
 rw [hb]
 let X:Cx:=(mG j4 P w K mg base ["self",par] qual (aF st) f cdv A outer s H E).nox
 have ps:PE X (.Name "self" p3) (uX 0):=mY rfl (.inl hl1)
 have ps':PE X (.Name "self" p7) (uX 0):=mY rfl (.inl hl1)
 have pp:PE X (.Name par p9) (uX 1):=mY rfl (.inl hl2) hpd hpc
 refine ⟨_,uT (F9 (R6 (X:=X) hg hm B ps (h2 X rfl rfl rfl) hdb (hs1 _) (hs2 _) (ht _)) ) (xR (R0 ps' pp (hsw _))),?_⟩
 refine ⟨_,rfl,ht2 a y H _ hy fun z=>⟨a,C,f,rfl,ha,c,?_⟩⟩
 exact ⟨_,rfl,_,rfl,a,C,rfl,ha,⟨R,f,c,n⟩,fun d h1 h2=>hq d h1 h2⟩
end L2
namespace L2
open PySem PySem.Spec PyProof.Rows
structure rZ (fl:Value->Prop) (sz:Nat) (nw:Addr->Prop) (h:Heap) (a C d:Addr) (fs:List (Str × V)):Prop where
 sa:sz<=a
 na:nw a
 nd:nw d
 ad:a≠d
 obj:∃ oe vs T,h.get? a=some oe/\oe.cls=.ref C/\oe.dict=some d/\oe.data=.fields vs/\MK fl h a vs T/\∀ T',T=some T'->sz<=T'/\nw T'/\T'≠d
 att:∃ mA,h.Ns1 d mA/\∀ f,Cu (fs.lookup f) (mA f)
theorem MK.imp {fl fl':Value->Prop} {h:Heap} {e:Addr} {vs:Array Value} {T:Option Addr} (i:∀ v,fl v->fl' v) (t:MK fl h e vs T):MK fl' h e vs T:=by
 cases T with
 | none=>exact t
 | some T=>obtain ⟨h1,h2,oT,ts,v,h3,h4,h5,h6⟩:=t;exact ⟨h1,h2,oT,ts,v,h3,h4,h5,i v h6⟩
theorem rZ.imp {fl fl':Value->Prop} {n n':Nat} {nw nw':Addr->Prop} {h:Heap} {a C d:Addr} {fs:List (Str × V)} (r:rZ fl n nw h a C d fs) (hf:∀ v,fl v->fl' v) (hn:n'<=n) (i:∀ b,nw b->nw' b):rZ fl' n' nw' h a C d fs :=
 ⟨Nat.le_trans hn r.sa,i _ r.na,i _ r.nd,r.ad,let ⟨oe,vs,T,h1,h2,h3,h4,h5,h6⟩:=r.obj;⟨oe,vs,T,h1,h2,h3,h4,h5.imp hf,fun T' e=>⟨Nat.le_trans hn (h6 T' e).1,i _ (h6 T' e).2.1,(h6 T' e).2.2⟩⟩,r.att⟩
noncomputable def oS (X:Cx) (pins:List (Addr × Obj)) (H:Hp) (b:Addr):Prop:=X.s₀.heap.get? b=none/\H b=none/\b≠X.env.locals/\∀ p∈X.pn++pins,p.1≠b
section
variable {X:Cx} {pins:List (Addr × Obj)} {σ:St} {H:Hp} {s:Shared} {a C d:Addr} {fs:List (Str × V)}
theorem oS.of (I:Inv X pins σ H s) (hx:X.ex=[]) {H':Hp} {b:Addr} (h:s.heap.get? b=none) (n:H' b=none):oS X pins H' b:=by
 refine ⟨?_,n,fun e=>?_,fun p hp e=>?_⟩
 ·cases q:X.s₀.heap.get? b with
  | none=>rfl
  | some o =>
   obtain ⟨o',e⟩:=I.base.there b o q (by rw [hx];simp)
   rw [h] at e;cases e
 ·obtain ⟨m,⟨o,es,ep,ho,r⟩,_⟩:=I.loc
  rw [<- e,h] at ho;cases ho
 ·have:=(I.pin p hp).1
  rw [e,h] at this;cases this
noncomputable def Wr (X:Cx) (v:Value):Prop:=v=.none\/v=rawInt X.env.locals
abbrev m5 (X:Cx) (pins:List (Addr × Obj)) (H:Hp) (h:Heap) (a C d:Addr) (fs:List (Str × V)):Prop:=rZ (Wr X) X.s₀.heap.objs.size (oS X pins H) h a C d fs
theorem oS.nofs (I:Inv X pins σ H s) {b:Addr} (n:oS X pins H b):b ∉ kL X.stack:=fun hb=>by
 rcases List.mem_cons.mp (I.stkSub b hb) with e | e
 ·exact n.2.2.1 e
 ·obtain ⟨_,o,ho,_⟩:=I.ok.funs.mem e
  rw [n.1] at ho;cases ho
theorem V1 {M:Model} {E:Value->Shared->Prop} {Q:Unit->Shared->Prop} (I:Inv X pins σ H s) (hst:X.stack=X.env :: X.outer) (hf:X.env.frame=some X.env.locals) (hx:X.ex=[]) (r:m5 X pins H s.heap a C d fs)
  (h:∀ s',s'.os=s.os->Inv X pins σ H s'->m5 X pins H s'.heap a C d fs->(∃ oe vs T,s'.heap.get? a=some oe/\oe.data=.fields vs/\vs[1]?=some (.ref T))->Q () s') :
  wpAny M X.A (noteFrame (.ref a) X.env) Q E s:=by
 obtain ⟨oe,vs,T,e1,e2,e3,e4,e5,e6⟩:=r.obj
 obtain ⟨mA,n1,n2⟩:=r.att
 obtain ⟨od,esd,epd,f1,f2,f3⟩:=id n1
 have hsz:1 < vs.size:=by
  cases T with
  | none=>exact (Array.getElem?_eq_some_iff.mp (show vs[1]?=some .none from e5)).1
  | some T=>exact (Array.getElem?_eq_some_iff.mp e5.1).1
 by_cases hh:∃ T0,T=some T0/\∃ oT ts,s.heap.get? T0=some oT/\oT.data=.fields ts/\ts[3]?=some (rawInt X.env.locals)
 ·obtain ⟨T0,rfl,oT,ts,g1,g2,g3⟩:=hh
  unfold noteFrame
  simp only [hf]
  refine wpAny_bind (wpAny_field e1 e4 e5.1 ?_)
  rw [if_pos (show (Value.ref T0 != Value.none)=true from by simp)]
  refine wpAny_bind (wpAny_field g1 g2 g3 ?_)
  rw [if_pos (show (rawInt X.env.locals == rawInt X.env.locals)=true from by first | (simp;done) | exact beq_self_eq_true _)]
  exact wpAny_pure (h s rfl I r ⟨oe,vs,T0,e1,e4,e5.1⟩)
 have e5':MK (fun v=>v=.none) s.heap a vs T:=by
  cases T with
  | none=>exact e5
  | some T0 =>
   obtain ⟨h1,h2,oT,ts,v,h3,h4,h5,h6⟩:=e5
   rcases h6 with rfl | rfl
   ·exact ⟨h1,h2,oT,ts,_,h3,h4,h5,rfl⟩
   ·exact absurd ⟨T0,rfl,oT,ts,h3,h4,h5⟩ hh
 by_cases hT0:∃ T0,T=some T0/\False
 ·obtain ⟨_,_,z⟩:=hT0;exact z.elim
 have main:∀ h' T' oT ts,(∀ b o,s.heap.get? b=some o->b≠a->T≠some b->(b ∉ kL (X.env :: X.outer)->h'.get? b=some o)/\∃ sl,h'.get? b=some { o with slots:=sl })->h'.get? a=some (oe.mapFields (·.setIfInBounds 1 (.ref T')))->s.heap.objs.size<=T'->h'.get? T'=some oT->oT.data=.fields ts->ts[3]?=some (rawInt X.env.locals)->Q () { s with heap:=h' }:=by
  intro h' T' oT ts k1 k2 k3 k4 k5 k6
  rw [<- hst] at k1
  have nT:∀ T'',T=some T''->oS X pins H T'':=fun T'' e=>(e6 T'' e).2.1
  have kt:∀ b o,s.heap.get? b=some o->H b≠none->h'.get? b=some o:=fun b o e hb =>
   (k1 b o e (fun z=>hb (by rw [z];exact r.na.2.1)) (fun z=>hb (nT b z).2.1)).1 fun z=>hb (I.stkFree b z)
  have kd:h'.get? d=some od:=(k1 d od f1 (Ne.symm r.ad) (fun z=>(e6 d z).2.2 rfl)).1 (r.nd.nofs I)
  have un:Un (kL X.stack) (a :: T.toList) H H s.heap h':=by
   have hch:∀ b,b ∉ a :: T.toList->b≠a/\T≠some b:=fun b hb=>⟨fun z=>hb (by rw [z];exact List.mem_cons_self),fun z=>hb (by rw [z];exact List.mem_cons_of_mem _ List.mem_cons_self)⟩
   exact ⟨fun b o e _ hb hc=>(k1 b o e (hch b hc).1 (hch b hc).2).1 hb,fun b o e _ _ hc=>(k1 b o e (hch b hc).1 (hch b hc).2).2,fun _ _ _ n _=>n,
    fun b o e hc=>let ⟨sl,q⟩:=(k1 b o e (hch b hc).1 (hch b hc).2).2;⟨_,q⟩,fun _ _ q=>q,fun _ _ _ q=>q,fun _ ps q=>⟨#[],by rw [q];simp⟩⟩
  have hok:dR X.prog X.w H h':=fun b o e=>(I.hok b o e).stay (fun c u hc q=>kt c u q (by
   rcases hc with rfl | hc
   ·rw [e];exact fun z=>nomatch z
   ·rw [hc];exact fun z=>nomatch z) ) (fun _ q=>q) fun _ _ q=>q
  have ncell:∀ b:Addr,(∃ o vs,s.heap.get? b=some o/\o.data=.fields vs)->∀ x c,X.env.cells.lookup x=some c->c≠b:=fun b ⟨o,vs,q1,q2⟩ x c e z=>by
   obtain ⟨v,oc,g1,g2⟩:=I.cell x c e
   rw [z,q1] at g1;cases g1;rw [q2] at g2;cases g2
  have I':Inv X pins σ H { s with heap:=h' }:=I.call (g':=s.gens) (t':=s.toks) (d':=s.drawn) un hok I.bare fun b hb=>by
   rcases List.mem_cons.mp hb with rfl | hb
   ·exact ⟨.inr r.sa,r.na.2.2.1,ncell b ⟨_,_,e1,e4⟩,r.na.2.2.2⟩
   ·cases T with
    | none=>cases hb
    | some T =>
     obtain rfl:b=T:=by simpa using hb
     obtain ⟨_,_,oT0,ts0,v0,g1,g2,_⟩:=e5
     exact ⟨.inr (e6 b rfl).1,(nT b rfl).2.2.1,ncell b ⟨_,_,g1,g2⟩,(nT b rfl).2.2.2⟩
  refine h _ rfl I' ⟨r.sa,r.na,r.nd,r.ad,⟨_,_,some T',k2,?_,?_,Obj.data_mapFields e4 _,⟨?_,?_,oT,ts,_,k4,k5,k6,.inr rfl⟩,?_⟩,mA,⟨od,esd,epd,kd,f2,f3⟩,n2⟩ ⟨_,_,T',k2,Obj.data_mapFields e4 _,by simp [hsz]⟩
  ·rw [Obj.cls_mapFields];exact e2
  ·obtain ⟨oc,odi,odt,osl⟩:=oe
   cases odt <;> exact e3
  ·simp [hsz]
  ·exact fun z=>absurd (Heap.lt_size e1) (by rw [<- z];exact Nat.not_lt.mpr k3)
  ·intro T'' e
   cases e
   exact ⟨Nat.le_trans I.sz k3,oS.of I hx (Heap.get?_none_of_le k3) (I.hok.fresh k3),fun z=>absurd (Heap.lt_size f1) (by rw [<- z];exact Nat.not_lt.mpr k3)⟩
 cases T with
 | none =>
  have h1:vs[1]?=some .none:=e5
  unfold noteFrame
  simp only [hf]
  refine wpAny_bind (wpAny_field e1 e4 h1 ?_)
  rw [if_neg (by decide)]
  exact A6 (base:=X.base) (L:=X.env.locals) (by rw [<- hst];exact I.ok.frames) (by rw [<- hst];exact I.stack) hf e1 e4 hsz fun h' T' oT ts a1 a2 a3 a4 a5 a6=>main h' T' oT ts (fun b o q ne _=>a1 b o q ne) a2 a3 a4 a5 a6
 | some T0 =>
  obtain ⟨h1,hTe,oT,ts,v,hT,hdT,h3,rfl⟩:=e5'
  unfold noteFrame
  simp only [hf]
  refine wpAny_bind (wpAny_field e1 e4 h1 ?_)
  rw [if_pos (show (Value.ref T0 != Value.none)=true from by simp)]
  refine wpAny_bind (wpAny_field hT hdT h3 ?_)
  rw [if_neg (show ¬ ((Value.none == rawInt X.env.locals)=true) from by simp [rawInt])]
  refine wpAny_bind (wpAny_setField hT hdT (Array.getElem?_eq_some_iff.mp h3).1 ?_)
  have other:∀ b,b≠T0->(s.heap.update T0 (Obj.mapFields (·.setIfInBounds 3 Value.none))).get? b=s.heap.get? b:=fun b hb=>Heap.get?_update_other _ _ (Ne.symm hb)
  have noRecord:∀ b o,s.heap.get? b=some o->(∀ vs,o.data≠.fields vs)->b≠T0:=fun b o hb hnf q=>by
   rw [q,hT] at hb;injection hb with hb;subst hb;exact hnf ts hdT
  have hl:s.heap.FunFrames X.base (X.env :: X.outer):=by rw [<- hst];exact I.stack
  exact A6 (base:=X.base) (L:=X.env.locals) (by rw [<- hst];exact I.ok.frames) (hl.of_keeps fun b o hb hnf=>⟨o,(other b (noRecord b o hb hnf)).trans hb,rfl⟩) hf ((other a (Ne.symm hTe)).trans e1) e4 hsz
   fun h' T' oT' ts' a1 a2 a3 a4 a5 a6=>main h' T' oT' ts' (fun b o q ne nT=>a1 b o ((other b fun z=>nT (by rw [z])).trans q) ne) a2 (by rw [Heap.size_after_update] at a3;exact a3) a4 a5 a6
theorem Ky {M:Model} {A:Around} {E:Value->Shared->Prop} {Q:Unit->Shared->Prop} (fr:Option Addr) (I:Inv X pins σ H s) (hex:X.ex=[]) (r:m5 X pins H s.heap a C d fs)
  (h:∀ s',Inv X pins σ H s'->rZ (fun v=>v=fr.elim .none fun f=>rawInt f) X.s₀.heap.objs.size (oS X pins H) s'.heap a C d fs->Q () s'):wpAny M A (setFlight (.ref a) fr) Q E s:=by
 obtain ⟨oe,vs,T,e1,e2,e3,e4,e5,e6⟩:=r.obj
 obtain ⟨mA,n1,n2⟩:=r.att
 obtain ⟨od,esd,epd,f1,f2,f3⟩:=id n1
 cases T with
 | none =>
  unfold setFlight
  refine wpAny_bind (wpAny_field e1 e4 (show vs[1]?=some .none from e5) ?_)
  rw [if_neg (by decide)]
  exact wpAny_pure (h s I ⟨r.sa,r.na,r.nd,r.ad,⟨oe,vs,none,e1,e2,e3,e4,e5,e6⟩,r.att⟩)
 | some T =>
  obtain ⟨t1,t2,oT,ts,v,t3,t4,t5,t6⟩:=e5
  obtain ⟨T1,T2,T3⟩:=e6 T rfl
  unfold setFlight
  refine wpAny_bind (wpAny_field e1 e4 t1 ?_)
  rw [if_pos (show (Value.ref T != Value.none)=true from by simp)]
  refine wpAny_setField t3 t4 (Array.getElem?_eq_some_iff.mp t5).1 ?_
  generalize hw:(fr.elim Value.none fun f=>rawInt f)=w
  have oth:∀ b,b≠T->(s.heap.update T (Obj.mapFields (·.setIfInBounds 3 w))).get? b=s.heap.get? b:=fun b hb=>Heap.get?_update_other _ _ (Ne.symm hb)
  have self:=Heap.get?_update_self (Obj.mapFields (·.setIfInBounds 3 w)) t3 (Obj.isFreed_of_fields (Obj.data_mapFields t4 _))
  have un:Un (kL X.stack) [T] H H s.heap (s.heap.update T (Obj.mapFields (·.setIfInBounds 3 w))):=by
   have ne:∀ b,b ∉ [T]->b≠T:=fun b hb z=>hb (by rw [z];exact List.mem_cons_self)
   exact ⟨fun b o e _ _ hc=>(oth b (ne b hc)).trans e,fun b o e _ _ hc=>⟨o.slots,(oth b (ne b hc)).trans e⟩,fun _ _ _ n _=>n,fun b o e hc=>⟨o,(oth b (ne b hc)).trans e⟩,fun _ _ q=>q,fun _ _ _ q=>q,fun _ ps q=>⟨#[],by rw [q];simp⟩⟩
  have hok:dR X.prog X.w H (s.heap.update T (Obj.mapFields (·.setIfInBounds 3 w))):=fun b o e=>(I.hok b o e).stay (fun c u hc q=>(oth c (by
   rintro rfl
   rcases hc with rfl | hc
   ·rw [T2.2.1] at e;cases e
   ·rw [T2.2.1] at hc;cases hc)).trans q) (fun _ q=>q) fun _ _ q=>q
  have I':Inv X pins σ H { s with heap:=s.heap.update T (Obj.mapFields (·.setIfInBounds 3 w)) }:=I.call (g':=s.gens) (t':=s.toks) (d':=s.drawn) un hok I.bare fun b hb=>by
   obtain rfl:b=T:=by simpa using hb
   have nc:∀ x c,X.env.cells.lookup x=some c->c≠b:=fun x c e z=>by
    obtain ⟨v,oc,g1,g2⟩:=I.cell x c e
    rw [z,t3] at g1;cases g1;rw [t4] at g2;cases g2
   exact ⟨.inr T1,T2.2.2.1,nc,T2.2.2.2⟩
  subst hw
  refine h _ I' ⟨r.sa,r.na,r.nd,r.ad,⟨oe,vs,some T,(oth a (Ne.symm t2)).trans e1,e2,e3,e4,⟨t1,t2,_,_,_,self,Obj.data_mapFields t4 _,?_,rfl⟩,fun T' e=>by cases e;exact ⟨T1,T2,T3⟩⟩,mA,⟨od,esd,epd,(oth d (Ne.symm T3)).trans f1,f2,f3⟩,n2⟩
  have:=(Array.getElem?_eq_some_iff.mp t5).1
  simp [this]
theorem P5 {M:Model} {E:Value->Shared->Prop} {Q:Unit->Shared->Prop} (I:Inv X pins σ H s) (hst:X.stack=X.env :: X.outer) (hf:X.env.frame=some X.env.locals) (hx:X.ex=[]) (r:m5 X pins H s.heap a C d fs)
  (h:∀ s',Inv X pins σ H s'->rZ (fun v=>v=.none) X.s₀.heap.objs.size (oS X pins H) s'.heap a C d fs->Q () s') :
  wpAny M X.A (noteFrame (.ref a) X.env) (fun _ s₂=>wpAny M X.A (setFlight (.ref a) none) Q E s₂) E s :=
 V1 I hst hf hx r fun s1 _ I1 r1 _=>Ky none I1 hx r1 fun s2 I2 r2=>h s2 I2 r2
theorem rZ.any {X:Cx} {n:Nat} {nw:Addr->Prop} {h:Heap} {a C d:Addr} {fs:List (Str × V)} (r:rZ (fun v=>v=.none) n nw h a C d fs):rZ (Wr X) n nw h a C d fs:=r.imp (fun _ e=>.inl e) (Nat.le_refl _) fun _ z=>z
end
end L2
namespace L2
open PySem PySem.Spec PyProof.Rows
noncomputable def rJ (P:Program) (w:World):rE:=fun outer H s E e s'=>∃ a C d fs H',e=.ref a/\s'.os=s.os/\AllBare s'.gens/\Un (kL outer) [] H H' s.heap s'.heap/\dR P w H' s'.heap /\
 rZ (fun v=>v=.none) s.heap.objs.size (fun b=>s.heap.get? b=none/\H' b=none) s'.heap a C d fs/\E (.ref C) (some d) (upd H' d (.xd fs))
abbrev XS:=Value->Option Addr->St->Hp->Prop
noncomputable def XP (X:Cx) (pins:List (Addr × Obj)) (E:XS) (e:Value) (s':Shared):Prop:=∃ a C d fs σ' H',e=.ref a/\Inv X pins σ' H' s'/\m5 X pins H' s'.heap a C d fs/\E (.ref C) (some d) σ' (upd H' d (.xd fs))
abbrev rH:=Ends->XS->St->Hp->Prop
abbrev Qg:=St->Hp->VK->XS->Prop
noncomputable def U9 (X:Cx) (e:Expr) (t:Qg):Prop :=
 ∀ (pins:List (Addr × Obj)) (s:Shared) (σ:St) (H:Hp) (Q:VK) (E:XS),Inv X pins σ H s->t σ H Q E->wpAny (model X.prog X.w) X.A (eval e X.env) (EP X pins σ Q) (XP X pins E) s
noncomputable def AU (X:Cx) (st:Stmt) (t:rH):Prop :=
 ∀ (pins:List (Addr × Obj)) (s:Shared) (σ:St) (H:Hp) (D:Ends) (E:XS),Inv X pins σ H s->t D E σ H->wpAny (model X.prog X.w) X.A (exec st X.env) (SP X pins D) (XP X pins E) s
noncomputable def oG (X:Cx) (st:List Stmt) (t:rH):Prop :=
 ∀ (pins:List (Addr × Obj)) (s:Shared) (σ:St) (H:Hp) (D:Ends) (E:XS),Inv X pins σ H s->t D E σ H->wpAny (model X.prog X.w) X.A (execs st X.env) (SP X pins D) (XP X pins E) s
section
variable {X:Cx} {e:Expr} {te:TE} {tx:Qg} {st:Stmt} {rest a b:List Stmt} {t u:TS} {t' u':rH} {pos:Pos}
abbrev GW (X:Cx):Prop:=X.xe=fun _ _=>False
theorem SR (hx:GW X) (h:PS X st t):AU X st (fun D _ σ H=>t D σ H):=fun pins s σ H D E I q=>wpAny_mono (h pins s σ H D I q) (fun _ _ z=>z) fun _ _ z=>by rw [hx] at z;exact z.elim
theorem R5 (hx:GW X) (h:mF X rest t):oG X rest (fun D _ σ H=>t D σ H):=fun pins s σ H D E I q=>wpAny_mono (h pins s σ H D I q) (fun _ _ z=>z) fun _ _ z=>by rw [hx] at z;exact z.elim
noncomputable def WR (t u:rH):rH:=fun D E σ H=>t { D with nx:=u D E } E σ H
theorem MB (h1:AU X st t') (h2:oG X rest u'):oG X (st :: rest) (WR t' u'):=by
 intro pins s σ H D E I h
 refine wpAny_execs_cons (bP (h1 pins s σ H { D with nx:=u' D E } E I h) fun f s1 q=>?_)
 cases f with
 | next =>
  obtain ⟨σ',H',I',q⟩:=q
  exact h2 pins s1 σ' H' D E I' q
 | ret v=>exact q
 | brk=>exact q
 | cont=>exact q
theorem PB (h1:AU X st t'):oG X [st] t':=by
 intro pins s σ H D E I h
 refine wpAny_execs_cons (bP (h1 pins s σ H D E I h) fun f s1 q=>?_)
 cases f with
 | next=>exact wpAny_execs_nil q
 | ret v=>exact q
 | brk=>exact q
 | cont=>exact q
noncomputable def WU (c:TT) (t u:rH):rH:=fun D E σ H=>c σ H fun b H1=>if b=true then t D E σ H1 else u D E σ H1
theorem Ug {c:Expr} {tc:TT} (hx:GW X) (hc:PT X c tc) (ha:oG X a t') (hb:oG X b u'):AU X (.If c a b pos) (WU tc t' u'):=by
 intro pins s σ H D E I h
 refine wpAny_If (wpAny_mono (hc pins s σ H _ I h) (fun d s1 ⟨H1,I1,q1⟩=>?_) fun _ _ z=>by rw [hx] at z;exact z.elim)
 cases d with
 | true=>exact ha pins s1 σ H1 D E I1 q1
 | false=>exact hb pins s1 σ H1 D E I1 q1
theorem R3 {i:Nat} {x:Str} {pos':Pos} (hN:X.N.Nodup) (hi:X.N[i]?=some x) (hx:Loc X.env.scope x) (he:U9 X e tx) (hs:swapsWith e (some (.Name x pos')) pos.line X.env=pure false:=by rfl) (hf:X.fn x=true\/X.env.scope.names.lookup x=some .local:=by first | exact .inl rfl | exact .inr rfl | assumption) :
  AU X (.Assign [.Name x pos'] e pos) (fun D E σ H=>tx σ H (fun v H1=>D.nx (σ.set i (some v)) H1) E):=by
 intro pins s σ H D E I h
 refine wpAny_Assign_Name (bP (he pins s σ H _ E I h) fun v s1 ⟨y,H1,I1,r1,q1⟩=>?_) hs
 exact pY I1 hN hi hx r1 (fun s2 I2=>⟨_,H1,I2,q1⟩) hf
noncomputable def Qz (sp:Sp) (dvs:List V) (t:TA):Qg:=fun σ H Q E=>t σ H fun vs H1=>sp (vs++dvs) H1 Q fun c d H2=>E c d σ H2
theorem QS {k:Nat} {f:Addr} {fd:FuncData} {ps:List Str} {sp:Sp} {dvs:List V} {ds:List Value} {pins:List (Addr × Obj)} {σ:St} {H:Hp} {s:Shared} {Q:VK} {E:XS} {us:List Value} {vs:List V}
  (hex:X.ex=[]) (F:dJ X.prog X.w X.K X.mg X.base (rJ X.prog X.w) k f fd ps sp) (hr:cS k X.A) (hb:Binds X.K fd ps ds) (hd:Vals dvs ds) (I:Inv X pins σ H s) (r:Vals vs us) (h:sp (vs++dvs) H Q fun c d H2=>E c d σ H2) :
  wpAny (model X.prog X.w) X.A (call (.ref f) us) (EP X pins σ Q) (XP X pins E) s:=by
 have r2:Vals (vs++dvs) (us++ds):=r.append hd
 have hl:(us++ds).length=ps.length:=by rw [<- r2.length];exact F.len _ _ _ _ h
 refine wpAny_call (codeAny_mono (F.run X.A X.stack s H ⟨us,[]⟩ (us++ds) (vs++dvs) Q (fun c d H2=>E c d σ H2) hr I.env0 (hb s us I.kIn hl) r2 h) fun r s' hq=>?_)
 cases r with
 | error e =>
  obtain ⟨a,C,d,fs,H',rfl,os,bare,un,hok,r,q⟩:=hq
  exact ⟨a,C,d,fs,σ,H',rfl,I.call' os un hok bare (fun b z=>absurd z (by simp)),r.imp (fun _ e=>.inl e) I.sz fun b z=>oS.of I hex z.1 z.2,q⟩
 | ok fl =>
  cases fl with
  | ret u=>exact I.after hq
  | next=>exact False.elim hq
  | brk=>exact False.elim hq
  | cont=>exact False.elim hq
theorem N4 {k:Nat} {f:Addr} {fd:FuncData} {ps:List Str} {sp:Sp} {dvs:List V} {ds:List Value} {x:Str} {p:Pos} {es:List Expr} {ta:TA} (hx:GW X) (hex:X.ex=[]) (F:dJ X.prog X.w X.K X.mg X.base (rJ X.prog X.w) k f fd ps sp) (hr:cS k X.A) (hg:Gl X x) (hm:X.mg x=some (.ref f)) (hk:PySem.W.keepIn X.K (.ref f)=true) (hb:Binds X.K fd ps ds) (hd:Vals dvs ds)
  (ha:PA X (e :: es) ta) (hdb:(x == ("__debug__":Str))=false:=by decide) (he:starEach (e :: es) X.env=(false,eval e X.env) :: starEach es X.env:=by rfl) (hpl:(backTo pos (starEach es X.env)).any (·.1)=false:=by rfl) :
  U9 X (.Call (.Name x p) (e :: es) [] pos) (Qz sp dvs ta):=by
 intro pins s σ H Q E I h
 refine wpAny_Call_Name_kw (mS I hg hm ?_ hdb)
 refine PySem.W.callWith_K (h₀:=X.base) I.ok.mod.kin hk (wpAny_mono (ha pos pins s σ H _ I h) (fun us s1 ⟨vs,H1,I1,r,q⟩=>⟨I1.kIn,?_⟩) fun _ _ z=>by rw [hx] at z;exact z.elim) he hpl
 exact QS hex F hr hb hd I1 r q
noncomputable def Lj (K:PySem.W.Frag) (C:Addr) (attr:Str) (cond:V->Prop) (te:TE):rH:=fun _ E σ H=>te σ H fun y H1=>cond y/\∀ d,H1 d=none->E (.ref C) (some d) σ (upd H1 d (.xd [(attr,y)]))
theorem FY {nm q:Str} {C N R:Addr} {bs:List Value} {sn:List Str} {sub:List Value} {ab:Bool} {col:Option Bool} {dd:Option Addr} {k0 k1 k2 k3 k5:Option Value} {A:Around} {M:Model} {s:Shared} {E:Value->Shared->Prop} {env:Env} {x:Sem Value} {Q:Flow->Shared->Prop} (hh:A.handled=none)
  (h:wpAny M A x (fun v s₁=>∃ e t d,v=.ref e/\s₁.heap.get? C=some (excClassObj nm q C N bs (oA R) true sn sub ab col dd k0 k1 k2 k3 k5 "ValueError.__new__")/\s₁.heap.get? e=some (qU C t (some d))/\E (.ref e) s₁) E s) :
  wpAny M A (raiseStmt env (some x) none) Q E s:=by
 have hcB:(Value.ref C :: oA R).contains (.type "BaseException")=true:=by rw [List.contains_cons];rfl
 unfold raiseStmt
 refine wpAny_bind (wpAny_mono h (fun v s₁ h₁=>?_) fun _ _ x=>x)
 obtain ⟨e,t,d,rfl,hC,he,hE⟩:=h₁
 unfold qU at he
 obtain ⟨hp,g,d,tk,os⟩:=s₁
 repeat (first | with_reducible refine wpAny_loadPart_at he ?_ | with_reducible refine wpAny_loadPart_at hC ?_ | (with_reducible refine wpAny_isSubtype_exc hC ?_;rw [hcB]) | wp_step)
 exact wpAny_raiseNew_none hh hE
end
end L2
namespace L2
open PySem PySem.Spec PyProof.Rows
section
variable {X:Cx}
theorem dR.forget {P:Program} {w:World} {H H':Hp} {h:Heap} (x:dR P w H' h) (sub:∀ b o,H b=some o->H' b=some o) (back:∀ b o,H' b=some o->H b=some o\/(∀ y,o≠.own y)/\∀ xs,o≠.tup xs):dR P w H h:=fun b o e =>
 (x b o (sub b o e)).stay (fun _ _ _ q=>q) (fun c q=>(back c _ q).elim (fun z=>z) fun z=>absurd rfl (z.1 _)) fun c xs q=>(back c _ q).elim (fun z=>z) fun z=>absurd rfl (z.2 _)
theorem So {k:Nat} {C R fI:Addr} {fd:FuncData} {par attr:Str} {cond:V->Prop} {pins:List (Addr × Obj)} {σ:St} {H:Hp} {s:Shared} {u:Value} {y:V} {E:Value->Shared->Prop} (hex:X.ex=[]) (c:oM X.K C R fI)
  (F:dJ X.prog X.w X.K X.mg X.base j4 k fI fd ["self",par] (nQ C attr cond)) (hr:cS (k + 1) X.A) (hb:Binds X.K fd ["self",par] []) (I:Inv X pins σ H s) (r:RelV y u) (hy:cond y) :
  wpAny (model X.prog X.w) X.A (call (.ref C) [u]) (fun v s'=>∃ a t d,v=.ref a/\s'.heap.get? a=some (qU C t (some d))/\Inv X pins σ H s'/\m5 X pins H s'.heap a C d [(attr,y)]) E s:=by
 obtain ⟨nm,qq,N,bs,sn,sub,ab,col,dd,k0,k1,k2,k3,k5,hC⟩:=c.obj
 have hfn:∃ oI,X.K.lookup fI=some oI/\oI.cls=.type "function":=by
  have:(X.K.lookup fI).map (·.cls)=some (.type "function"):=beq_iff_eq.mp c.fn
  cases q:X.K.lookup fI with
  | none=>rw [q] at this;cases this
  | some oI=>rw [q] at this;exact ⟨oI,rfl,by simpa using this⟩
 obtain ⟨oI,hoI,hoc⟩:=hfn
 obtain ⟨hh,g,d,t,os⟩:=s
 let A0:Addr:=hh.objs.size + 1
 have hn0:H A0=none:=I.hok.fresh (Nat.le_succ _)
 have I2:Inv X pins σ (upd H A0 (.ext (dY A0 C none))) ⟨lS hh C [u],g,d,t,os⟩:=I.laid (t':=t) (jH hh C [u]) (Nat.le_succ _) (dY.obj ⟨_,zP hh C [u]⟩)
 let H2:Hp:=upd H A0 (.ext (dY A0 C none))
 let Q1:VK:=fun v H'=>v=.non/\∃ d,H2 d=none/\d≠A0/\H'=upd (upd H2 A0 (.ext (dY A0 C (some d)))) d (.xd [(attr,y)])
 have hq:nQ C attr cond [.ref A0,y] H2 Q1 E0:=⟨A0,y,rfl,b8,hy,fun d h1 h2=>⟨rfl,d,h1,h2,rfl⟩⟩
 have r2:Vals [V.ref A0,y] [Value.ref A0,u]:=.cons rfl (.cons r .nil)
 refine S9 (To R) I.kIn (I.kIn _ _ hC) c.init (I.kIn _ _ hoI) hoc ?_ (by show 1<=sizeLine;decide)
 refine wpAny_call (codeAny_mono (F.run _ X.stack _ H2 ⟨[Value.ref A0,u],[]⟩ [Value.ref A0,u] _ Q1 E0 (hr.make C [u] []) (I2.env0.make C [u] []) (by have:=hb ⟨lS hh C [u],g,d,t,os⟩ [Value.ref A0,u] I2.kIn rfl;simpa using this) r2 hq) fun r s' hq'=>?_)
 cases r with
 | error e=>exact False.elim hq'
 | ok fl =>
  cases fl with
  | next=>exact False.elim hq'
  | brk=>exact False.elim hq'
  | cont=>exact False.elim hq'
  | ret v =>
   obtain ⟨v',H',eo,bare,un,hok,rv,rfl,d',h1,h2,rfl⟩:=hq'
   refine ⟨rv,A0,?_⟩
   have hd0:H d'=none:=by rw [<- bD (H:=H) (o:=.ext (dY A0 C none)) h2];exact h1
   have sz:∀ b o,H b=some o->b≠A0/\b≠d':=fun b o e=>⟨bJ e hn0,bJ e hd0⟩
   have hgd:(lS hh C [u]).get? d'=none:=by
    cases q:(lS hh C [u]).get? d' with
    | none=>rfl
    | some o =>
     have:=un.free d' o q h1 (by simp)
     rw [b8] at this;cases this
   have hgd0:hh.get? d'=none:=by
    cases q:hh.get? d' with
    | none=>rfl
    | some o=>rw [jH hh C [u] _ _ q] at hgd;cases hgd
   have lt:∀ b o,hh.get? b=some o->b≠A0/\b≠d':=fun b o e=>⟨Nat.ne_of_lt (Nat.lt_succ_of_lt (Heap.lt_size e)),fun z=>by rw [z,hgd0] at e;cases e⟩
   have up:∀ b,b≠A0->H2 b=H b:=fun b hb=>bD hb
   have un':Un (kL X.stack) [] H H hh s'.heap:=⟨fun b o e n hb hx=>un.keep b o (jH _ _ _ _ _ e) (by rw [up b (lt b o e).1];exact n) hb hx,
    fun b o e n hb hx=>un.slot b o (jH _ _ _ _ _ e) (by rw [up b (lt b o e).1];exact n) hb hx,fun _ _ _ n _=>n,fun b o e hx=>un.there b o (jH _ _ _ _ _ e) hx,fun _ _ q=>q,fun _ _ _ q=>q,fun _ ps q=>⟨#[],by rw [q];simp⟩⟩
   have hok':dR X.prog X.w H s'.heap:=hok.forget (fun b o e=>by rw [bD (sz b o e).2,bD (sz b o e).1,up b (sz b o e).1];exact e) fun b o e=>by
    by_cases hb:b=d'
    ·subst hb;rw [b8] at e;cases e;exact .inr ⟨fun _ z=>(nomatch z),fun _ z=>(nomatch z)⟩
    ·rw [bD hb] at e
     by_cases hb:b=A0
     ·subst hb;rw [b8] at e;cases e;exact .inr ⟨fun _ z=>(nomatch z),fun _ z=>(nomatch z)⟩
     ·rw [bD hb,up b hb] at e;exact .inl e
   have I3:Inv X pins σ H s':=I.call' (s:=⟨hh,g,d,t,os⟩) eo un' hok' bare (fun b z=>absurd z (by simp))
   have oa:=hok A0 (.ext (dY A0 C (some d'))) (by rw [bD (Ne.symm h2),b8])
   obtain ⟨⟨t0,e1⟩,_,_⟩:=oa
   obtain ⟨mA,n1,n2⟩:=hok d' (.xd [(attr,y)]) b8
   refine ⟨t0,d',rfl,e1,I3,Nat.le_trans I.sz (Nat.le_succ _),oS.of I hex (Heap.get?_none_of_le (Nat.le_succ _)) hn0,oS.of I hex hgd0 hd0,Ne.symm h2,⟨_,_,none,e1,rfl,rfl,rfl,rfl,fun T' z=>by cases z⟩,mA,n1,n2⟩
theorem MF {k:Nat} {C R fI:Addr} {fd:FuncData} {par attr x:Str} {cond:V->Prop} {e:Expr} {te:TE} {np cpos pos:Pos} (hx:GW X) (hex:X.ex=[]) (hcalm:X.calm=true) (c:oM X.K C R fI)
  (F:dJ X.prog X.w X.K X.mg X.base j4 k fI fd ["self",par] (nQ C attr cond)) (hr:cS (k + 1) X.A) (hb:Binds X.K fd ["self",par] []) (hg:Gl X x) (hm:X.mg x=some (.ref C)) (he:PE X e te) (hdb:(x == ("__debug__":Str))=false:=by decide)
  (hs:starEach [e] X.env=[(false,eval e X.env)]:=by rfl):AU X (.Raise (some (.Call (.Name x np) [e] [] cpos)) none pos) (Lj X.K C attr cond te):=by
 intro pins s σ H D E I h
 obtain ⟨nm,qq,N,bs,sn,sub,ab,col,dd,k0,k1,k2,k3,k5,hC⟩:=c.obj
 rw [arm_exec_Raise]
 have ev:wpAny (model X.prog X.w) X.A (eval (.Call (.Name x np) [e] [] cpos) X.env) (fun v s'=>∃ a t d,v=.ref a/\s'.heap.get? C=some (excClassObj nm qq C N bs (oA R) true sn sub ab col dd k0 k1 k2 k3 k5 "ValueError.__new__")/\s'.heap.get? a=some (qU C t (some d))/\XP X pins E (.ref a) s') (XP X pins E) s:=by
  refine wpAny_Call_Name_kw (mS I hg hm ?_ hdb)
  have pa:PA X [e] (fun σ H Q=>te σ H fun y H1=>Q [y] H1):=oV he wW (by rw [hs];rfl)
  let Q1:List V->Hp->Prop:=fun vs H1=>match vs with | [y]=>(cond y/\∀ d,H1 d=none->E (.ref C) (some d) σ (upd H1 d (.xd [(attr,y)]))) | _=>False
  refine PySem.W.callWith_K (h₀:=X.base) I.ok.mod.kin c.kp (wpAny_mono (pa cpos pins s σ H Q1 I h) (fun us s1 ⟨vs,H1,I1,r,q⟩=>⟨I1.kIn,?_⟩) fun _ _ z=>by rw [hx] at z;exact z.elim) (by rw [hs];rfl) rfl
  match vs,r,q with
  | [y],.cons r .nil,⟨q1,q2⟩ =>
   refine bP (So hex c F hr hb I1 r q1) fun v s' ⟨a,t,d,z1,z2,I2,z3⟩=>?_
   exact ⟨a,t,d,z1,I2.kIn _ _ hC,z2,a,C,d,_,σ,H1,rfl,I2,z3,q2 d z3.nd.2.1⟩
 have hh:X.A.handled=none:=I.ok.hd hcalm
 first
  | exact wpAny_bind (wpAny_standAt (FY hh (wpAny_bind (wpAny_mono ev (fun v s₁ h₁=>wpAny_bind (wpAny_standAt (wpAny_pure h₁))) fun _ _ x=>x))))
  | (simp only [evalOpt,Option.map];exact wpAny_bind (wpAny_standAt (FY hh (wpAny_bind (wpAny_mono ev (fun v s₁ h₁=>wpAny_bind (wpAny_standAt (wpAny_pure h₁))) fun _ _ x=>x)))))
end
end L2
namespace L2
open PySem PySem.Spec PyProof.Rows
theorem SW {P:Program} {w:World} {K:PySem.W.Frag} {mg:Str->Option Value} {base:Heap} {k:Nat} {f:Addr} {name qual:Str} {params:Arguments} {body:List Stmt} {scope:Scope} {dV kV doc pm cdv ct oc:Value} {an od:Option Addr}
  {osl:Array (Option Value)} {N ps:List Str} {sp:Sp} (lk:K.lookup f=some ⟨oc,od,.func (PySem.W.fnOf name qual params body scope dV kV doc pm an cdv ct),osl⟩) (hcd:PySem.W.codeIn K cdv qual=true) (S:bB N ps scope)
  (len:∀ vs H Q E,sp vs H Q E->vs.length=ps.length)
  (hbody:∀ (A:Around) (outer:List Env) (s:Shared) (H:Hp) (vs:List V) (Q:VK) (E:XK),cS k (A.deeper (envOfC qual scope s.heap.objs.size f cdv))->sp vs H Q E ->
   ∃ t,oG (mG (rJ P w) P w K mg base N qual scope f cdv A outer s H E).nox body t/\t { nx:=fun _ H'=>Q .non H',rt:=Q } (fun c d _ H'=>E c d H') (start N vs) H) :
  dJ P w K mg base (rJ P w) (k + 1) f (PySem.W.fnOf name qual params body scope dV kV doc pm an cdv ct) ps sp:=by
 refine ⟨len,fun A outer s H args us vs Q E hr e0 hb r hsp=>?_⟩
 have hl:=len _ _ _ _ hsp
 have KX:K.In s.heap:=e0.mod.kin.keeps fun b o e=>(e0.bs b o e).1
 have lim:s.heap.NoLimit:=e0.mod.nolimit.keeps fun b o e=>(e0.bs b o e).1
 have hkind:∀ y∈ps.zip us,scope.names.lookup y.1=some .local\/(scope.names.lookup y.1=some .cell/\((cellsFrom (s.heap.objs.size + 1) scope.names []).lookup y.1).isSome=true):=fun ⟨n,v⟩ hy=>by
  rcases S.par n (List.of_mem_zip hy).1 with q | q
  ·exact .inl q
  ·exact .inr ⟨q,PySem.W.cellsFrom_some _ _ _ (.inl q)⟩
 refine codeAny_call_function hr.depth (KX _ _ lk) rfl S.co S.gen rfl (PySem.W.codeRec_of KX hcd) (hb _ _ _ _ ?_)
 refine wpAny_newFunctionEnv_cells S.kind hkind fun env he s1 x=>?_
 subst he
 refine ⟨lim.keeps x.toInCall.keep,codeAny_func ?_⟩
 obtain ⟨t,ht,hq⟩:=hbody A outer s H vs Q E (hr.deeper _) hsp
 have I:Inv (mG (rJ P w) P w K mg base N qual scope f cdv A outer s H E) [] (start N vs) H s1:=zV S hr.hd e0 hl r x
 refine wpAny_mono (ht [] s1 (start N vs) H _ _ (I.wish _) hq) (fun fl s' hs=>?_) fun e s' hs=>?_
 ·have fin:∀ {σ':St} {H':Hp} {v:V} {u:Value},Inv (mG (rJ P w) P w K mg base N qual scope f cdv A outer s H E).nox [] σ' H' s'->RelV v u->Q v H'->CE outer P w H s Q u s' :=
   fun {σ' H' v u} J rv q=>⟨v,H',J.os,J.bare,J.base,J.hok,rv,q⟩
  cases fl with
  | ret u =>
   obtain ⟨v,σ',H',J,rv,q⟩:=hs
   exact fin J rv q
  | next =>
   obtain ⟨σ',H',J,q⟩:=hs
   exact fin (v:=V.non) (u:=Value.none) J rfl q
  | brk =>
   obtain ⟨_,_,_,q⟩:=hs
   exact False.elim q
  | cont =>
   obtain ⟨_,_,_,q⟩:=hs
   exact False.elim q
 ·obtain ⟨a,C,d,fs,σ',H',rfl,J,r,q⟩:=hs
  show wpAny _ _ (leaving _ _) _ _ _
  unfold leaving
  refine wpAny_bind (P5 (X:=(mG (rJ P w) P w K mg base N qual scope f cdv A outer s H E).nox) J rfl rfl rfl r fun s'' J' r'=>?_)
  exact ⟨a,C,d,fs,H',rfl,J'.os,J'.bare,J'.base,J'.hok,r'.imp (fun _ e=>e) (Nat.le_refl _) fun b z=>⟨z.1,z.2.1⟩,q⟩
theorem b9.okX {P:Program} {w:World} {K:PySem.W.Frag} {mg:Str->Option Value} {base:Heap} {x qual:Str} {st:Stmt} {f:Addr} {fd:FuncData} {N ps:List Str} {k:Nat} {sp:Sp} (F:b9 K x qual st f fd) (S:bB N ps (aF st)) (len:∀ vs H Q E,sp vs H Q E->vs.length=ps.length)
  (hbody:∀ (cdv:Value) (A:Around) (outer:List Env) (s:Shared) (H:Hp) (vs:List V) (Q:VK) (E:XK),cS k (A.deeper (envOfC qual (aF st) s.heap.objs.size f cdv))->sp vs H Q E ->
   ∃ t,oG (mG (rJ P w) P w K mg base N qual (aF st) f cdv A outer s H E).nox (bA st) t/\t { nx:=fun _ H'=>Q .non H',rt:=Q } (fun c d _ H'=>E c d H') (start N vs) H):dJ P w K mg base (rJ P w) (k + 1) f fd ps sp:=by
 obtain ⟨oc,od,kV,doc,pm,an,cdv,ct,osl,rfl,lk,hcd⟩:=F.ex
 exact SW lk hcd S len fun A outer s H vs Q E hr hsp=>hbody cdv A outer s H vs Q E hr hsp
section
variable {X:Cx} {pins:List (Addr × Obj)} {σ:St} {H:Hp} {s:Shared}
theorem name_goes {M:Model} {A:Around} {E:Value->Shared->Prop} {i:Nat} {n:Str} {pos:Pos} {Q:Unit->Shared->Prop} (I:Inv X pins σ H s) (hN:X.N.Nodup) (hi:X.N[i]?=some n) (hk:X.env.scope.names.lookup n=some .local)
  (h:∀ s',Inv X pins (σ.set i none) H s'->Q () s'):wpAny M A (do bindName X.env n .none;unbindBehindTheSuite X.env n pos) Q E s:=by
 obtain ⟨m,hn,hl⟩:=id I.loc
 have hcls:(X.env.scope.kind == .class || (X.env.scope.kind == .module && X.env.locals != X.env.globals))=false:=by rw [I.ok.kind];rfl
 have hiσ:i < σ.length:=by rw [I.len];exact (List.getElem?_eq_some_iff.mp hi).1
 have cne:=I.cne
 refine wpAny_nameGoes_keeps hk hn hcls fun h' v hn' hs=>?_
 obtain ⟨oL,_,_,hoL,_⟩:=id hn
 have tracked:dR X.prog X.w H h':=fun b ob e=>by
  refine (I.hok b ob e).stay (fun c w' hc q=>(hs.2 c ?_).trans q) (fun _ q=>q) fun _ _ q=>q
  rintro rfl
  rcases hc with rfl | hc
  ·rw [I.free] at e;cases e
  ·rw [I.free] at hc;cases hc
 refine h _ ⟨I.ok,I.os,I.bare,⟨fun b o e n hb hx=>?_,fun b o e n hb hx=>?_,I.base.free,fun b o e hx=>?_,I.base.tups,I.base.frzs,I.base.tbls⟩,⟨_,hn',fun j y v' e1 e2 e3=>?_⟩,fun y c e=>?_,I.free,I.freeC,fun p hp=>?_,tracked,by simpa using I.len⟩
 ·exact (hs.2 b (Nat.ne_of_lt (Nat.lt_of_lt_of_le (Heap.lt_size e) I.ok.above))).trans (I.base.keep b o e n hb hx)
 ·obtain ⟨sl,e1⟩:=I.base.slot b o e n hb hx
  exact ⟨sl,(hs.2 b (Nat.ne_of_lt (Nat.lt_of_lt_of_le (Heap.lt_size e) I.ok.above))).trans e1⟩
 ·obtain ⟨o',e1⟩:=I.base.there b o e hx
  exact ⟨o',(hs.2 b (Nat.ne_of_lt (Nat.lt_of_lt_of_le (Heap.lt_size e) I.ok.above))).trans e1⟩
 ·by_cases hj:j=i
  ·subst hj
   rw [List.getElem?_set_self hiσ] at e2
   cases e2
  ·rw [List.getElem?_set_ne (Ne.symm hj)] at e2
   obtain ⟨u',r',q⟩:=hl j y v' e1 e2 e3
   refine ⟨u',r',?_⟩
   rcases q with ⟨k,e⟩ | ⟨k,c,e,z⟩
   ·refine .inl ⟨k,?_⟩
    have:y≠n:=fun e=>hj (uZ hN e1 (e ▸ hi))
    simp [this,e]
   ·exact .inr ⟨k,c,e,z.sameBut hs (cne y c e)⟩
 ·obtain ⟨w',z⟩:=I.cell y c e
  exact ⟨w',z.sameBut hs (cne y c e)⟩
 ·obtain ⟨e,n,ne,nf,d⟩:=I.pin p hp
  exact ⟨(hs.2 p.1 ne).trans e,n,ne,nf,d⟩
end
end L2
namespace L2
open PySem PySem.Spec PyProof.Rows
structure JK (K:PySem.W.Frag) (C:Addr):Prop where
 ty:PySem.W.typeIn K (.ref C)=some (.type "type")
 cls:(PySem.W.clsIn K C).isSome=true
 ex:PySem.W.subIn K (.ref C) (.type "BaseException")=some true
theorem DC {K:PySem.W.Frag} {M:Model} {A:Around} {E:Value->Shared->Prop} {s:Shared} {a C Cn:Addr} {oe:Obj} {b:Bool} {Q:Bool->Shared->Prop} (KX:K.In s.heap) (c:JK K Cn) (he:s.heap.get? a=some oe) (hc:oe.cls=.ref C) (hs:PySem.W.subIn K (.ref C) (.ref Cn)=some b)
  (hq:Q b s):wpAny M A (excMatches (.ref a) (.ref Cn)) Q E s:=by
 have L1:PySem.W.Looks M s.heap (typeOf (.ref Cn)) (.type "type"):=PySem.W.looks_typeIn KX c.ty
 have L2':PySem.W.Looks M s.heap (isSubtype (.ref Cn) (.type "BaseException")) true:=PySem.W.looks_subIn KX c.ex
 have L3:PySem.W.Looks M s.heap (isSubtype (.ref C) (.ref Cn)) b:=PySem.W.looks_subIn KX hs
 have L4:PySem.W.Looks M s.heap (isType (.ref Cn)) true:=by
  have z:=c.cls
  unfold PySem.W.clsIn at z
  split at z
  ·rename_i c' d' cd' sl' ho
   intro A' Q' E' s' k q
   unfold isType loadHead
   exact wpAny_bind (wpAny_loadPart (k _ _ (KX _ _ ho)) (wpAny_pure q))
  ·cases z
 have f:=tc_notTuple
 unfold excMatches isInstance isExcClass
 refine wpAny_bind (wpAny_bind (L1.here ?_))
 rw [f]
 refine wpAny_pure ?_
 simp only [Bool.false_eq_true,if_false]
 refine wpAny_bind (wpAny_pure ?_)
 obtain ⟨hp,g,d,tk,os⟩:=s
 have L4':∀ {Q':Bool->Shared->Prop} {E':Value->Shared->Prop},Q' true ⟨hp,g,d,tk,os⟩->wpAny M A (isType (.ref Cn)) Q' E' ⟨hp,g,d,tk,os⟩:=fun q=>L4.here q
 have L2'':∀ {Q':Bool->Shared->Prop} {E':Value->Shared->Prop},Q' true ⟨hp,g,d,tk,os⟩->wpAny M A (isSubtype (.ref Cn) (.type "BaseException")) Q' E' ⟨hp,g,d,tk,os⟩:=fun q=>L2'.here q
 have L3':∀ {Q':Bool->Shared->Prop} {E':Value->Shared->Prop},Q' b ⟨hp,g,d,tk,os⟩->wpAny M A (isSubtype (.ref C) (.ref Cn)) Q' E' ⟨hp,g,d,tk,os⟩:=fun q=>L3.here q
 repeat (first | with_reducible refine L4' ?_ | with_reducible refine L2'' ?_ | with_reducible refine L3' ?_ | (with_reducible refine wpAny_loadPart_at he ?_;rw [hc]) | wp_step)
 cases b <;> (wp_walk;exact hq)
noncomputable def Cx.inX (X:Cx) (a:Addr) (pl:List (Addr × Obj)):Cx:={ X with A:=X.A.mark (some (.ref a)),calm:=false,pn:=X.pn++pl }
section
variable {X:Cx} {pins pl:List (Addr × Obj)} {σ:St} {H:Hp} {s:Shared} {a C d:Addr} {fs:List (Str × V)}
theorem Inv.inX (I:Inv X pins σ H s) (hp:∀ p∈pl,s.heap.get? p.1=some p.2/\H p.1=none/\p.1≠X.env.locals/\p.1 ∉ X.fs/\∀ v,p.2.data≠.cell v):Inv (X.inX a pl) pins σ H s :=
 ⟨⟨I.ok.mod,I.ok.kind,I.ok.glob,I.ok.blt,I.ok.above,I.ok.inj,I.ok.has,I.ok.cab,(fun z=>nomatch z),I.ok.frames,I.ok.stk,I.ok.exf,I.ok.bs,I.ok.bsz,I.ok.noex,I.ok.exfs,I.ok.funs,I.ok.frf⟩,I.os,I.bare,I.base,I.loc,I.cell,I.free,I.freeC,fun p h=>by
  rcases List.mem_append.mp h with h | h
  ·rcases List.mem_append.mp h with h | h
   ·exact I.pin p (List.mem_append_left _ h)
   ·exact hp p h
  ·exact I.pin p (List.mem_append_right _ h),I.hok,I.len⟩
theorem Inv.outX (ok:X.Ok) (I:Inv (X.inX a pl) pins σ H s):Inv X pins σ H s :=
 ⟨ok,I.os,I.bare,I.base,I.loc,I.cell,I.free,I.freeC,fun p h=>by
  rcases List.mem_append.mp h with h | h
  ·exact I.pin p (List.mem_append_left _ (List.mem_append_left _ h))
  ·exact I.pin p (List.mem_append_right _ h),I.hok,I.len⟩
noncomputable def Ke (od:Obj) (fs:List (Str × V)):Prop:=∃ es ep,∃ mA:Str->Option Value,od.data=.dict es ep/\StrKeys es/\UniqKeys es/\(∀ name,nsFind es name=mA name)/\∀ f,Cu (fs.lookup f) (mA f)
theorem HA (I:Inv X pins σ H s) (r:m5 X pins H s.heap a C d fs):∃ oe od,oe.cls=.ref C/\oe.dict=some d/\(∃ vs,oe.data=.fields vs)/\Ke od fs/\∀ p∈[(a,oe),(d,od)],s.heap.get? p.1=some p.2/\H p.1=none/\p.1≠X.env.locals/\p.1 ∉ X.fs/\∀ v,p.2.data≠.cell v:=by
 obtain ⟨oe,vs,T,e1,e2,e3,e4,e5,e6⟩:=r.obj
 obtain ⟨mA,⟨od,esd,epd,f1,f2,f3,f4,f5⟩,n2⟩:=r.att
 have nofs:∀ b,oS X pins H b->b ∉ X.fs:=fun b n hb=>by
  obtain ⟨_,o,ho,_⟩:=I.ok.funs.mem hb
  rw [n.1] at ho;cases ho
 refine ⟨oe,od,e2,e3,⟨vs,e4⟩,⟨esd,epd,mA,f2,f3,f4,f5,n2⟩,fun p hp=>?_⟩
 rcases List.mem_cons.mp hp with rfl | hp
 ·exact ⟨e1,r.na.2.1,r.na.2.2.1,nofs _ r.na,fun v z=>by rw [e4] at z;cases z⟩
 ·obtain rfl:p=(d,od):=by simpa using hp
  exact ⟨f1,r.nd.2.1,r.nd.2.2.1,nofs _ r.nd,fun v z=>by rw [f2] at z;cases z⟩
noncomputable def U1 (i:Nat) (Cn:Addr) (K:PySem.W.Frag) (tb:rH) (th:Addr->Addr->Addr->List (Str × V)->TS):TS:=fun D σ H=>tb D (fun c dx σ' H'=>∀ C d H1 fs,c=.ref C->dx=some d->H'=upd H1 d (.xd fs)->H1 d=none ->
 PySem.W.subIn K (.ref C) (.ref Cn)=some true/\∀ a,th a C d fs { nx:=fun σ H=>D.nx (σ.set i none) H,rt:=D.rt,bk:=fun σ H=>D.bk (σ.set i none) H,ct:=fun σ H=>D.ct (σ.set i none) H } (σ'.set i (some (.ref a))) H1) σ H
theorem Tb {i:Nat} {n cn:Str} {Cn:Addr} {body suite:List Stmt} {b₀:Stmt} {tb:rH} {th:Addr->Addr->Addr->List (Str × V)->TS} {cp hp pos:Pos} (hx:GW X) (hex:X.ex=[]) (hst:X.stack=X.env :: X.outer) (hf:X.env.frame=some X.env.locals) (hN:X.N.Nodup) (hi:X.N[i]?=some n) (hk:X.env.scope.names.lookup n=some .local)
  (hbody:oG X body tb) (hg:Gl X cn) (hm:X.mg cn=some (.ref Cn)) (hc:JK X.K Cn) (hh:∀ a C d fs oe od,oe.cls=.ref C->oe.dict=some d->(∃ vs,oe.data=.fields vs)->Ke od fs->mF (X.inX a [(a,oe),(d,od)]) (b₀ :: suite) (th a C d fs)) (hdb:(cn == ("__debug__":Str))=false:=by decide) :
  PS X (.Try body [.ExceptHandler (some (.Name cn cp)) (some n) (b₀ :: suite) hp] [] [] pos) (U1 i Cn X.K tb th):=by
 intro pins s σ H D I h
 refine wpAny_Try_except (wpAny_mono (hbody pins s σ H D _ I h) (fun f s1 q=>?_) fun e s1 q=>?_)
 ·cases f with
  | next=>exact wpAny_execs_nil q
  | ret v=>exact q
  | brk=>exact q
  | cont=>exact q
 ·obtain ⟨a,C,d,fs,σ',H',rfl,I1,r,q⟩:=q
  obtain ⟨hsub,q⟩:=q C d H' fs rfl rfl rfl r.nd.2.1
  refine P5 I1 hst hf hex r fun s2 I2 r2=>?_
  refine wpAny_handleBy_cons (codeAny_handlers_test ?_) (by intro q;cases q)
  obtain ⟨oe,vs,T,e1,e2,e3,e4,e5,e6⟩:=r2.obj
  have I3:Inv (X.inX a []) pins σ' H' s2:=I2.inX fun p hp=>by cases hp
  refine mS (X:=X.inX a []) I3 hg hm ?_ hdb
  refine DC (K:=X.K) I2.kIn hc e1 e2 hsub ?_
  refine codeAny_handlers_suite_as (Ky none I2 hex r2.any fun s3 I4 r4=>?_)
  obtain ⟨oe,od,o1,o2,o3,o4,o5⟩:=HA I4 (rZ.any r4)
  have I5:Inv (X.inX a [(a,oe),(d,od)]) pins σ' H' s3:=I4.inX o5
  refine pY (X:=X.inX a [(a,oe),(d,od)]) I5 hN hi (.inl hk) (v:=.ref a) rfl (fun s5 I6=>?_) (.inr hk)
  refine wpAny_mono (hh a C d fs oe od o1 o2 o3 o4 pins s5 _ H' _ I6 (q a)) (fun f s6 q6=>?_) fun _ _ z=>by
   have z':X.xe _ _:=z
   rw [hx] at z';exact z'.elim
  cases f with
  | next =>
   obtain ⟨σ7,H7,I7,q7⟩:=q6
   exact name_goes (I7.outX I.ok) hN hi hk fun s8 I8=>⟨_,H7,I8,q7⟩
  | ret u =>
   obtain ⟨v,σ7,H7,I7,rv,q7⟩:=q6
   exact name_goes (I7.outX I.ok) hN hi hk fun s8 I8=>⟨v,_,H7,I8,rv,q7⟩
  | brk =>
   obtain ⟨σ7,H7,I7,q7⟩:=q6
   exact name_goes (I7.outX I.ok) hN hi hk fun s8 I8=>⟨_,H7,I8,q7⟩
  | cont =>
   obtain ⟨σ7,H7,I7,q7⟩:=q6
   exact name_goes (I7.outX I.ok) hN hi hk fun s8 I8=>⟨_,H7,I8,q7⟩
end
end L2
namespace L2
open PySem PySem.Spec
structure nM (K:PySem.W.Frag) (C R fI:Addr):Prop where
 cl:oM K C R fI
 ga:PySem.W.findIn K (.ref C) "__getattribute__"=some (some (.builtin "BaseException.__getattribute__"))
 gh:PySem.W.findIn K (.ref C) "__getattr__"=some none
 kl:PySem.W.findIn K (.ref C) "__class__"=some (some (.builtin "object.__class__"))
section
variable {prog:Program} {w:World} {A:Around} {E:Value->Shared->Prop} {h:Heap} {g:Array GenState} {d:Drawn} {t:Nat} {os:OsState} {K:PySem.W.Frag} {a C R fI:Addr} {o:Obj}
theorem vA:ExcAttrFacts "ValueError":=PySem.F.excAttr_ValueError
theorem IB {M:Model} {A':Around} {E':Value->Shared->Prop} {Q':Option Value->Shared->Prop} {t':Nat} {n:Str} {r:Option Value} (KX:K.In h) (e:PySem.W.findIn K (.ref C) n=some r) (q:Q' r ⟨h,g,d,t',os⟩):wpAny M A' (typeLookup (.ref C) n) Q' E' ⟨h,g,d,t',os⟩:=(PySem.W.looks_findIn KX e).here q
theorem La {M:Model} {nameV:Value} {Q:Unit->Shared->Prop} (KX:K.In h) (c:nM K C R fI) (hx:h.get? a=some o) (hc:o.cls=.ref C) (hq:Q () ⟨h,g,d,t,os⟩):wpAny M A (checkBuiltinCall "BaseException.__getattribute__" ⟨[.ref a,nameV],[]⟩) Q E ⟨h,g,d,t,os⟩:=by
 obtain ⟨nm,qq,N,bs,sn,sub,ab,col,dd,k0,k1,k2,k3,k5,hC⟩:=c.cl.obj
 have hC:=KX _ _ hC
 have hk:builtinKind "BaseException.__getattribute__"=some .slot:=by decide +kernel
 have hsplit:splitId "BaseException.__getattribute__"=some ("BaseException","__getattribute__"):=by decide +kernel
 have hcB:(Value.ref C :: oA R).contains (.type "BaseException")=true:=by rw [List.contains_cons];rfl
 have ha:=F.args_bexc_ga (.ref a) nameV
 simp only [checkBuiltinCall,hk,hsplit]
 refine wpAny_bind ?_
 ·unfold isInstance
  repeat (first | (with_reducible refine wpAny_loadPart_at hx ?_;rw [hc]) | (with_reducible refine wpAny_isSubtype_exc hC ?_;rw [hcB]) | wp_step)
  exact hq
theorem JP {Q:Fin->Shared->Prop} {tk:Tok} (KX:K.In h) (c:nM K C R fI) (hx:h.get? a=some o) (hc:o.cls=.ref C) (hq:Q (.done (.ret (.ref C))) ⟨h,g,d,t,os⟩) :
  wpAny (model prog w) A (Builtin.«object.__getattribute__» ⟨[.ref a,.str "__class__" tk],[]⟩) Q E ⟨h,g,d,t,os⟩:=by
 obtain ⟨nm,qq,N,bs,sn,sub,ab,col,dd,k0,k1,k2,k3,k5,hC⟩:=c.cl.obj
 have hC:=KX _ _ hC
 have hT5:(⟨h,g,d,t,os⟩:Shared).TypeIs (.builtin "object.__class__") "getset_descriptor":=F.typeOf_object_class
 have f5:=F.typeOf_object_class
 have f6:=F.slot_gs_get.lookup
 have f7:=F.slot_gs_set.lookup
 have hcB:(Value.ref C :: oA R).contains (.type (".".intercalate ("object.__class__".cutAt '.').dropLast))=true:=by
  rw [F.owner_object_class,List.contains_cons];rfl
 repeat (any_goals (first | assumption | (with_reducible refine wpAny_loadPart_at hx ?_;rw [hc]) | with_reducible refine IB KX c.kl ?_ | wp_step))
 refine codeAny_call_builtin F.slot_gs_get.plain F.entry_gs_get (F.slot_gs_get.check _ _ _ _ _ _ _ _ hT5 (F.args_gs_get _ _ _) ?_)
 repeat (any_goals (first | assumption | (with_reducible refine wpAny_loadPart_at hx ?_;rw [hc]) | (with_reducible refine wpAny_isSubtype_exc hC ?_;rw [hcB]) | wp_step))
 refine ⟨Code.quiet_builtin _ (by decide +kernel),codeAny_builtin F.entry_object_class ?_⟩
 repeat (any_goals (first | assumption | (with_reducible refine wpAny_loadPart_at hx ?_;rw [hc]) | wp_step))
theorem WY {tk:Tok} {fill expr:Bool} {n:Str} {v:Value} {Q:Value->Shared->Prop} (KX:K.In h) (c:nM K C R fI) (hx:h.get? a=some o) (hc:o.cls=.ref C) (hh:∀ id,v≠.builtin id)
  (hg:∀ {A':Around} {E':Value->Shared->Prop} {Q':Fin->Shared->Prop},Q' (.done (.ret v)) ⟨h,g,d,t,os⟩->wpAny (model prog w) A' (Builtin.«object.__getattribute__» ⟨[.ref a,.str n tk],[]⟩) Q' E' ⟨h,g,d,t,os⟩)
  (hq:Q v ⟨h,g,d,t,os⟩):wpAny (model prog w) A (getAttrBy (.ref a) (.str n tk) fill expr) Q E ⟨h,g,d,t,os⟩:=by
 have f3:=vA.ga.bind (.ref a)
 have hx0:(expr && onTheHeap (Value.builtin "BaseException.__getattribute__"))=false:=by cases expr <;> rfl
 have hx2:(Value.builtin "BaseException.__getattribute__" == Value.builtin "object.__getattribute__")=false:=by decide +kernel
 have hx1:(onTheHeap (Value.ref C) && Value.builtin "BaseException.__getattribute__" == Value.builtin "object.__getattribute__")=false:=by rw [hx2];rfl
 repeat (any_goals (first | assumption | (with_reducible refine wpAny_loadPart_at hx ?_;rw [hc]) | with_reducible refine IB KX c.ga ?_ | with_reducible refine IB KX c.gh ?_ | wp_step))
 refine codeAny_call_builtin vA.ga.plain F.entry_bexc_ga (La KX c hx hc (hg ?_))
 repeat (any_goals (first | assumption | wp_step))
 cases v <;> first | exact wpAny_pure hq | exact absurd rfl (hh _)
theorem EZ {Q:Option Value->Shared->Prop} (KX:K.In h) (c:nM K C R fI) (hx:h.get? a=some o) (hc:o.cls=.ref C) (hq:Q (some (.ref C)) ⟨h,g,d,t + 1,os⟩):wpAny (model prog w) A (getAttr? (.ref a) "__class__") Q E ⟨h,g,d,t,os⟩:=by
 unfold getAttr? getAttrBy?
 repeat (any_goals (first | assumption | with_reducible apply WY (t:=t + 1) KX c hx hc (fun _ z=>nomatch z) (fun q=>JP KX c hx hc q) | wp_step))
noncomputable def Wv (a C:Addr) (h:Heap):Prop:=∃ o,h.get? a=some o/\o.cls=.ref C
theorem CV (c:nM K C R fI):PySem.W.KitX K (.ref a) (.ref C) (Wv a C) where
 ty:=fun M h _ ⟨o,h1,h2⟩=>h2 ▸ (PySem.W.Looks.ld h1).andThen .now
 it:=fun M h X _=>by
  obtain ⟨nm,qq,N,bs,sn,sub,ab,col,dd,k0,k1,k2,k3,k5,hC⟩:=c.cl.obj
  intro A' Q' E' s' k q
  unfold isType loadHead
  exact wpAny_bind (wpAny_loadPart (k _ _ (X _ _ hC)) (wpAny_pure q))
 ne:=fun h tp dd its n sl X htp=>by
  obtain ⟨nm,qq,N,bs,sn,sub,ab,col,dd,k0,k1,k2,k3,k5,hC⟩:=c.cl.obj
  refine Bool.eq_false_iff.mpr fun q=>?_
  have e:C=tp:=Value.ref.inj (beq_iff_eq.mp q)
  subst e
  have z:=(X _ _ hC).symm.trans htp
  exact absurd (Value.type.inj (congrArg Obj.cls (Option.some.inj z))) (by decide)
 ca:=fun {prog w A E Q s} X ⟨o,h1,h2⟩ q=>by
  obtain ⟨h,g,d,t,os⟩:=s
  exact EZ X c h1 h2 q
end
end L2
namespace U2
open PySem PySem.Spec L2
abbrev Gj:=Addr->List (Str × U)->SU->aI->Prop
abbrev Wj:=Addr->List (Str × U)->aI->Prop
abbrev nV:=kW->Gj->SU->aI->Prop
abbrev Nn:=SU->aI->UK->Gj->Prop
abbrev xW:=List U->aI->UK->Wj->Prop
noncomputable def gE:U->Option V
 | .non=>some .non
 | .bl b=>some (.bl b)
 | .int i=>some (.int i)
 | .str x=>some (.str x)
 | _=>none
noncomputable def JQ (fs':List (Str × U)) (fs:List (Str × V)):Prop:=Paired (fun (p:Str × U) (q:Str × V)=>p.1=q.1/\gE p.2=some q.2) fs' fs
noncomputable def wR (K:PySem.W.Frag) (H:Hp) (M:aI) (E':Gj) (E:XS):Prop:=∀ C fs' fs σ τ H1 M1 d,bE H M H1 M1->RelM K H1 M1->cV K H1 M1 σ τ->JQ fs' fs->H1 d=none->E' C fs' τ M1->E (.ref C) (some d) σ (upd H1 d (.xd fs))
noncomputable def VG (K:PySem.W.Frag) (H:Hp) (M:aI) (E':Wj) (E:XK):Prop:=∀ C fs' fs H1 M1 d,bE H M H1 M1->RelM K H1 M1->JQ fs' fs->H1 d=none->E' C fs' M1->E (.ref C) (some d) (upd H1 d (.xd fs))
theorem wR.stp {K:PySem.W.Frag} {H H1:Hp} {M M1:aI} {E':Gj} {E:XS} (c:wR K H M E' E) (st:bE H M H1 M1):wR K H1 M1 E' E:=fun C fs' fs σ τ H2 M2 d s=>c C fs' fs σ τ H2 M2 d (st.trans s)
noncomputable def PY (K:PySem.W.Frag) (t:rH) (t':nV):Prop:=∀ (σ:St) (τ:SU) (H:Hp) (M:aI) (D':kW) (E':Gj),cV K H M σ τ->RelM K H M->t' D' E' τ M->∀ (D:Ends) (E:XS),Cw K H M D D'->wR K H M E' E->t D E σ H
noncomputable def VX (K:PySem.W.Frag) (t:Qg) (t':Nn):Prop:=∀ (σ:St) (τ:SU) (H:Hp) (M:aI) (Q':UK) (E':Gj),cV K H M σ τ->RelM K H M->t' τ M Q' E'->∀ (Q:VK) (E:XS),cP K H M Q' Q->wR K H M E' E->t σ H Q E
noncomputable def UZ (D:Dat) (e:Expr) (t':Nn):Prop:=∃ t,(∀ X,jM D X->U9 X e t)/\VX D.K t t'
noncomputable def xT (D:Dat) (s:Stmt) (t':nV):Prop:=∃ t,(∀ X,jM D X->AU X s t)/\PY D.K t t'
noncomputable def nY (D:Dat) (s:List Stmt) (t':nV):Prop:=∃ t,(∀ X,jM D X->oG X s t)/\PY D.K t t'
noncomputable def yN (K:PySem.W.Frag) (sp:xW):Sp:=fun vs H Q E=>∃ us M Q' E',RelM K H M/\aS K H M us vs/\sp us M Q' E'/\cP K H M Q' Q/\VG K H M E' E
section
variable {D:Dat} {e:Expr} {te:UE} {tx:Nn} {st:Stmt} {rest a b:List Stmt} {t u:US} {t' u':nV} {pos:Pos}
noncomputable def Qp (t:US):nV:=fun De _ τ M=>t De τ M
theorem Qa (h:pA D st t):xT D st (Qp t):=let ⟨_,p,s⟩:=h;⟨_,fun X h=>SR h.xe (p X h),fun σ τ H M D' E' rs rm q D E d _=>s σ τ H M D' rs rm q D d⟩
theorem U8 (h:mJ D rest t):nY D rest (Qp t):=let ⟨_,p,s⟩:=h;⟨_,fun X h=>R5 h.xe (p X h),fun σ τ H M D' E' rs rm q D E d _=>s σ τ H M D' rs rm q D d⟩
noncomputable def Qq (t u:nV):nV:=fun De E τ M=>t { De with nx:=u De E } E τ M
theorem Gg (h1:xT D st t') (h2:nY D rest u'):nY D (st :: rest) (Qq t' u'):=let ⟨_,p,s⟩:=h1;let ⟨_,q,r⟩:=h2;⟨_,fun X h=>MB (p X h) (q X h),fun σ τ H M D' E' rs rm z D E d c =>
 s σ τ H M _ E' rs rm z _ E ⟨fun σ1 τ1 H1 M1 s1 rm1 rs1 q1=>r σ1 τ1 H1 M1 D' E' rs1 rm1 q1 D E (d.stp s1) (c.stp s1),d.rt,d.bk,d.ct⟩ c⟩
theorem A9 (h1:xT D st t'):nY D [st] t':=let ⟨_,p,s⟩:=h1;⟨_,fun X h=>PB (p X h),s⟩
noncomputable def OY (c:UT) (t u:nV):nV:=fun De E τ M=>c τ M fun b M1=>if b=true then t De E τ M1 else u De E τ M1
theorem VM {c:Expr} {tc:UT} (hc:mL D c tc) (ha:nY D a t') (hb:nY D b u'):xT D (.If c a b pos) (OY tc t' u'):=by
 obtain ⟨_,p,s⟩:=ha;obtain ⟨_,q,r⟩:=hb;obtain ⟨_,x,y⟩:=hc
 refine ⟨_,fun X h=>Ug h.xe (x X h) (p X h) (q X h),fun σ τ H M D' E' rs rm z D E d c=>y σ τ H M _ rs rm z _ fun b M1 H1 s1 rm1 q1=>?_⟩
 cases b with
 | true=>exact s σ τ H1 M1 D' E' (rs.stp s1) rm1 q1 D E (d.stp s1) (c.stp s1)
 | false=>exact r σ τ H1 M1 D' E' (rs.stp s1) rm1 q1 D E (d.stp s1) (c.stp s1)
noncomputable def Qk (tx:Nn) (i:Nat):nV:=fun De E τ M=>tx τ M (fun u M1=>De.nx (τ.set i (some u)) M1) E
theorem SQ (i:Nat) {x:Str} {pos':Pos} (hN:D.N.Nodup) (he:UZ D e tx) (hi:D.N[i]?=some x:=by rfl) (hx:Loc D.sc x:=by first | exact Or.inl rfl | exact Or.inr rfl) (hs:∀ env,swapsWith e (some (.Name x pos')) pos.line env=pure false:=by intro _;rfl)
  (hf:D.fn=true\/D.sc.names.lookup x=some .local:=by first | exact .inl rfl | exact .inr rfl):xT D (.Assign [.Name x pos'] e pos) (Qk tx i):=by
 obtain ⟨_,p,s⟩:=he
 exact ⟨_,fun X h=>R3 (i:=i) (by rw [h.N];exact hN) (by rw [h.N];exact hi) (by rw [h.sc];exact hx) (p X h) (hs _) (by rcases hf with z | z;exact .inl (h.fn z x);exact .inr (by rw [h.sc];exact z)),fun σ τ H M D' E' rs rm z D E d c =>
  s σ τ H M _ E' rs rm z _ E (fun u v M1 H1 s1 rm1 ru q=>d.nx _ _ H1 M1 s1 rm1 ((rs.stp s1).set ru) q) c⟩
structure sX (P:Program) (w:World) (K:PySem.W.Frag) (mg:Str->Option Value) (base:Heap) (j:Nat) (x:Str) (sp:xW) (dus:List U):Prop where
 ex:∃ f fd ps dvs ds,dJ P w K mg base (rJ P w) j f fd ps (yN K sp)/\mg x=some (.ref f)/\PySem.W.keepIn K (.ref f)=true/\Binds K fd ps ds/\Vals dvs ds/\∀ H M,aS K H M dus dvs
abbrev WQ (D:Dat):=sX D.prog D.w D.K D.mg D.base
noncomputable def Ny (sp:xW) (dus:List U) (t:UA):Nn:=fun τ M Q E=>t τ M fun us M1=>sp (us++dus) M1 Q fun C fs M2=>E C fs τ M2
theorem RB {sp:xW} {dus:List U} {j:Nat} {x:Str} {p:Pos} {es:List Expr} {tas:UA} (F:WQ D j x sp dus) (ha:mE D (e :: es) tas) (hfn:D.fn=true:=by rfl) (hj:j<=D.k:=by first | exact Nat.le_refl _ | (dsimp only;omega) | omega) (hg:D.sc.names.lookup x=some .globalImplicit:=by rfl) (hdb:(x == ("__debug__":Str))=false:=by decide)
  (he:∀ env,starEach (e :: es) env=(false,eval e env) :: starEach es env:=by intro _;rfl) (hpl:∀ env,(backTo pos (starEach es env)).any (·.1)=false:=by intro _;rfl):UZ D (.Call (.Name x p) (e :: es) [] pos) (Ny sp dus tas):=by
 obtain ⟨f,fd,ps,dvs,ds,F,hm,kp,hb,hd,hr⟩:=F.ex
 obtain ⟨_,q,s⟩:=ha
 refine ⟨Qz (yN D.K sp) dvs _,fun X h=>?_,fun σ τ H M Q' E' rs rm z Q E c cx=>s σ τ H M _ rs rm z _ fun us vs M1 H1 s1 rm1 ru h1 =>
  ⟨us++dus,M1,Q',_,rm1,ru.append (hr _ _),h1,cP.stp c s1,fun C fs' fs H2 M2 d s2 rm2 ra hd q=>cx C fs' fs σ τ H2 M2 d (s1.trans s2) rm2 (rs.stp (s1.trans s2)) ra hd q⟩⟩
 have F':dJ X.prog X.w X.K X.mg X.base (rJ X.prog X.w) j f fd ps (yN D.K sp):=by rw [h.prog,h.w,h.K,h.mg,h.base];exact F
 exact N4 h.xe (h.dl hfn).1 F' (h.room.mono hj) (by show X.env.scope.names.lookup x=_;rw [h.sc];exact hg) (by rw [h.mg];exact hm) (by rw [h.K];exact kp) (by rw [h.K];exact hb) hd (q X h) hdb (he _) (hpl _)
theorem L0 {K:PySem.W.Frag} {H:Hp} {M:aI} {u:U} {v v':V} (e:gE u=some v') (r:aY K H M u v):v=v'/\∀ H M,aY K H M u v':=by
 cases u with
 | non=>cases e;exact ⟨r.non,fun _ _=>j7⟩
 | bl b=>cases e;exact ⟨r.bl,fun _ _=>cL⟩
 | int i=>cases e;exact ⟨r.int,fun _ _=>cO⟩
 | str x=>cases e;exact ⟨r.str,fun _ _=>gA⟩
 | _=>cases e
structure NR (P:Program) (w:World) (K:PySem.W.Frag) (mg:Str->Option Value) (base:Heap) (j:Nat) (cn:Str) (C:Addr) (attr:Str) (cond:V->Prop):Prop where
 ex:∃ R fI fd par,nM K C R fI/\mg cn=some (.ref C)/\dJ P w K mg base j4 j fI fd ["self",par] (nQ C attr cond)/\Binds K fd ["self",par] []
noncomputable def Gb (C:Addr) (attr:Str) (cond:V->Prop) (te:UE):nV:=fun _ E τ M=>te τ M fun u M1=>(∃ v,gE u=some v/\cond v)/\E C [(attr,u)] τ M1
theorem Ph {j:Nat} {cn attr:Str} {C:Addr} {cond:V->Prop} {np cpos:Pos} (c:NR D.prog D.w D.K D.mg D.base j cn C attr cond) (he:bG D e te) (hfn:D.fn=true:=by rfl) (hj:j + 1<=D.k:=by first | exact Nat.le_refl _ | (dsimp only;omega) | omega) (hg:D.sc.names.lookup cn=some .globalImplicit:=by rfl) (hdb:(cn == ("__debug__":Str))=false:=by decide)
  (hs:∀ env,starEach [e] env=[(false,eval e env)]:=by intro _;rfl):xT D (.Raise (some (.Call (.Name cn np) [e] [] cpos)) none pos) (Gb C attr cond te):=by
 obtain ⟨R,fI,fd,par,cc,hm,F,hb⟩:=c.ex
 obtain ⟨_,p,s⟩:=he
 refine ⟨Lj D.K C attr cond _,fun X h=>?_,fun σ τ H M D' E' rs rm z Q E d cx=>s σ τ H M _ rs rm z _ fun u v M1 H1 s1 rm1 ru ⟨⟨v',e1,e2⟩,q⟩=>?_⟩
 ·have cc':oM X.K C R fI:=by rw [h.K];exact cc.cl
  have F':dJ X.prog X.w X.K X.mg X.base j4 j fI fd ["self",par] (nQ C attr cond):=by rw [h.prog,h.w,h.K,h.mg,h.base];exact F
  have:=MF (pos:=pos) (np:=np) (cpos:=cpos) h.xe (h.dl hfn).1 h.calm cc' F' (h.room.mono hj) (by rw [h.K];exact hb) (by show X.env.scope.names.lookup cn=_;rw [h.sc];exact hg) (by rw [h.mg];exact hm) (p X h) hdb (hs _)
  exact this
 ·obtain ⟨rfl,r⟩:=L0 e1 ru
  exact ⟨e2,fun d hd=>cx C [(attr,u)] [(attr,v)] σ τ H1 M1 d s1 rm1 (rs.stp s1) (.cons ⟨rfl,e1⟩ .nil) hd q⟩
end
section
variable {P:Program} {w:World} {K:PySem.W.Frag} {mg:Str->Option Value} {base:Heap}
theorem IF {x:Str} {st:Stmt} {f:Addr} {fd:FuncData} {N ps:List Str} {k:Nat} {sp:xW} {t:nV} (F:b9 K x x st f fd) (hm:mg x=some (.ref f)) (S:bB N ps (aF st))
  (bind:∀ (kV doc pm:Value) (an:Option Addr) (cdv ct:Value) (us:List Value),us.length=ps.length->bindArgs (PySem.W.fnOf x x (bC st) (bA st) (aF st) .none kV doc pm an cdv ct) ⟨us,[]⟩=pure (ps.zip us))
  (len:∀ us M Q E,sp us M Q E->us.length=ps.length)
  (h:nY ⟨P,w,K,mg,base,N,aF st,k,true,.none,""⟩ (bA st) t)
  (q:∀ us M Q E,sp us M Q E->t { nx:=fun _ M'=>iY Q .non M',rt:=iY Q } (fun C fs _ M1=>∃ M',Sub M' M1/\E C fs M') (eP N us) M):sX P w K mg base (k + 1) x sp []:=by
 obtain ⟨t0,h1,h2⟩:=h
 refine ⟨f,fd,ps,[],[],F.okX S (fun vs H Q E ⟨us,M,Q',E',_,r,hs,_⟩=>by rw [<- r.length];exact len us M Q' E' hs) (fun cdv A outer s H vs Q E hr ⟨us,M,Q',E',rm,r,hs,c,cx⟩=>?_),hm,F.kp,F.binds bind,.nil,fun H M=>.nil⟩
 refine ⟨t0,h1 _ ⟨rfl,rfl,rfl,rfl,rfl,rfl,rfl,hr,rfl,rfl,fun _ _=>rfl,fun h=>absurd rfl h,fun _=>⟨rfl,rfl,rfl⟩⟩,?_⟩
 refine h2 _ (eP N us) H M _ _ (sO r) rm (q us M Q' E' hs) _ _ ⟨fun σ τ H1 M1 s1 rm1 rs1 q1=>?_,fun u v H1 M1 s1 rm1 ru q1=>iY.ok c s1 rm1 ru q1,fun _ _ _ _ _ _ _ z=>z.elim,fun _ _ _ _ _ _ _ z=>z.elim⟩ fun C fs' fs σ τ H1 M1 d s1 rm1 rs1 ra hd ⟨M',sb,q1⟩=>?_
 ·exact iY.ok c s1 rm1 j7 q1
 ·exact cx C fs' fs H1 M' d (s1.trans sb.less) (rm1.sub sb) ra hd q1
end
end U2
namespace U2
open PySem PySem.Spec L2
structure Cv (D:Dat) (a C d:Addr) (fs:List (Str × V)) (X:Cx):Prop where
 prog:X.prog=D.prog
 w:X.w=D.w
 K:X.K=D.K
 mg:X.mg=D.mg
 N:X.N=D.N
 sc:X.env.scope=D.sc
 fn:D.fn=true->∀ x,X.fn x=true
 exc:∃ oe od,(a,oe)∈X.pn/\(d,od)∈X.pn/\oe.cls=.ref C/\oe.dict=some d/\(∃ vs,oe.data=.fields vs)/\Ke od fs
noncomputable def T6:V->U
 | .non=>.non
 | .bl b=>.bl b
 | .int i=>.int i
 | .str x=>.str x
 | .ref a=>.ref a
 | .ty n=>.ty n
 | _=>.lst []
noncomputable def xI (fs:List (Str × V)):List (Str × U):=fs.map fun p=>(p.1,T6 p.2)
theorem JA {u:U} {v:V} (e:gE u=some v):u=T6 v:=by
 cases u <;> first | (cases e;rfl) | cases e
theorem JQ.eq {fs':List (Str × U)} {fs:List (Str × V)} (r:JQ fs' fs):fs'=xI fs:=by
 induction r with
 | nil=>rfl
 | cons h _ ih =>
  rename_i p q _ _ _
  obtain ⟨p1,p2⟩:=p
  obtain ⟨q1,q2⟩:=q
  obtain ⟨h1,h2⟩:=h
  dsimp only at h1 h2
  rw [ih,h1,JA h2]
  rfl
noncomputable def y9 (D:Dat) (a C:Addr) (fs':List (Str × U)) (e:Expr) (t':UE):Prop:=∃ t,(∀ X d fs,xI fs=fs'->Cv D a C d fs X->PE X e t)/\b6 D.K t t'
noncomputable def FX (D:Dat) (a C:Addr) (fs':List (Str × U)) (e:List Expr) (t':UA):Prop:=∃ t,(∀ X d fs,xI fs=fs'->Cv D a C d fs X->PA X e t)/\j6 D.K t t'
noncomputable def Tn (D:Dat) (a C:Addr) (fs':List (Str × U)) (s:Stmt) (t':US):Prop:=∃ t,(∀ X d fs,xI fs=fs'->Cv D a C d fs X->PS X s t)/\iG D.K t t'
noncomputable def JX (D:Dat) (a C:Addr) (fs':List (Str × U)) (s:List Stmt) (t':US):Prop:=∃ t,(∀ X d fs,xI fs=fs'->Cv D a C d fs X->mF X s t)/\iG D.K t t'
section
variable {D:Dat} {a0 C:Addr} {F:List (Str × U)} {e:Expr} {te:UE} {es:List Expr} {tas:UA} {pos:Pos} {st:Stmt} {sts:List Stmt} {t u:US}
theorem Az (i:Nat) {x:Str} (hN:D.N[i]?=some x:=by rfl) (hv:GO D.sc x:=by first | exact Or.inl rfl | exact Or.inr (Or.inl rfl) | exact Or.inr (Or.inr rfl)) (hd:(x == ("__debug__":Str))=false:=by decide)
  (hcd:(x == ("__classdict__":Str))=false:=by decide):y9 D a0 C F (.Name x pos) (jR i) :=
 ⟨_,fun X _ _ _ h=>mY (by rw [h.N];exact hN) (by rw [h.sc];exact hv) hd hcd,yX i⟩
theorem qB {x:Str} {f:Addr} (hm:D.mg x=some (.ref f)) (hg:D.sc.names.lookup x=some .globalImplicit:=by rfl) (hd:(x == ("__debug__":Str))=false:=by decide):y9 D a0 C F (.Name x pos) (uC (.ref f)) :=
 ⟨_,fun X _ _ _ h=>tF (v:=.ref f) (by show X.env.scope.names.lookup x=_;rw [h.sc];exact hg) (by rw [h.mg];exact hm) rfl hd,Gy⟩
theorem WH {x:Str} {n:String} (hm:D.mg x=none) (hv:bootBuiltins x=some (.type n):=by kernel_rfl) (hg:D.sc.names.lookup x=some .globalImplicit:=by rfl) (hn:x≠"__name__":=by decide) (hd:(x == ("__debug__":Str))=false:=by decide):y9 D a0 C F (.Name x pos) (uC (.ty n)) :=
 ⟨_,fun X _ _ _ h=>F2 (v:=.ty n) (by show X.env.scope.names.lookup x=_;rw [h.sc];exact hg) (by rw [h.mg];exact hm) hv rfl hn hd,Nw⟩
theorem vU:FX D a0 C F [] oP:=⟨_,fun _ _ _ _ h=>wW,Gs⟩
theorem eR (ha:y9 D a0 C F e te) (hr:FX D a0 C F es tas) (hs:∀ env,starEach (e :: es) env=(false,eval e env) :: starEach es env:=by intro _;rfl):FX D a0 C F (e :: es) (lR te tas):=let ⟨_,p,s⟩:=ha;let ⟨_,q,r⟩:=hr;⟨_,fun X d fs r h=>oV (p X d fs r h) (q X d fs r h) (hs _),B2 s r⟩
theorem VT {x1} (h:FX D a0 C F es tas):y9 D a0 C F (.Tuple es x1 pos) (sF tas):=let ⟨_,p,s⟩:=h;⟨_,fun X d fs r h=>MQ (p X d fs r h),Ge s⟩
theorem Vt (own:Bool:=false) (h:FX D a0 C F es tas):y9 D a0 C F (.List es pos) (sQ own tas):=let ⟨_,p,s⟩:=h;⟨_,fun X d fs r h=>Nc (p X d fs r h),Gm s⟩
theorem Qu (i:Nat) {x:Str} {pos':Pos} (hN:D.N.Nodup) (he:y9 D a0 C F e te) (hi:D.N[i]?=some x:=by rfl) (hx:Loc D.sc x:=by first | exact Or.inl rfl | exact Or.inr rfl) (hs:∀ env,swapsWith e (some (.Name x pos')) pos.line env=pure false:=by intro _;rfl)
  (hf:D.fn=true\/D.sc.names.lookup x=some .local:=by first | exact .inl rfl | exact .inr rfl):Tn D a0 C F (.Assign [.Name x pos'] e pos) (bQ te (hName i)):=by
 obtain ⟨_,p,s⟩:=he
 exact ⟨_,fun X d fs r h=>CI (i:=i) (by rw [h.N];exact hN) (by rw [h.N];exact hi) (by rw [h.sc];exact hx) (p X d fs r h) (hs _) (by rcases hf with z | z;exact .inl (h.fn z x);exact .inr (by rw [h.sc];exact z)),tR s (mC i)⟩
theorem RA (h1:Tn D a0 C F st t) (h2:JX D a0 C F sts u):JX D a0 C F (st :: sts) (qX t u):=let ⟨_,p,s⟩:=h1;let ⟨_,q,r⟩:=h2;⟨_,fun X d fs r h=>uT (p X d fs r h) (q X d fs r h),F6 s r⟩
theorem Vo (h1:Tn D a0 C F st t):JX D a0 C F [st] t:=let ⟨_,p,s⟩:=h1;⟨_,fun X d fs r h=>xR (p X d fs r h),s⟩
noncomputable def nK:V->Value
 | .ref a=>.ref a
 | .ty n=>.type n
 | _=>.none
noncomputable def PU (K:PySem.W.Frag) (a C:Addr):List V->Hp->VK->Prop:=fun xs H Q=>(∃ R fI,nM K C R fI)/\∃ c b,xs=[.ref a,c]/\((nK c≠.none/\PySem.W.kitOne K (.ref C) (nK c)=some b)\/(∃ tp vs,c=.ref tp/\H tp=some (.tup vs)/\(∀ v∈vs,nK v≠.none)/\PySem.W.kitAny K (.ref C) (vs.map nK)=some b))/\Q (.bl b) H
theorem A2 {v:V} {u:Value} (r:RelV v u) (n:nK v≠.none):u=nK v:=by
 cases v <;> first | exact r | exact absurd rfl n
theorem zM:∀ {vs:List V} {us:List Value},Vals vs us->(∀ v∈vs,nK v≠.none)->us=vs.map nK
 | _,_,.nil,_=>rfl
 | _,_,.cons r t,n=>by rw [A2 r (n _ List.mem_cons_self),zM t fun v hv=>n v (List.mem_cons_of_mem _ hv)];rfl
theorem KS {X:Cx} {a d:Addr} {fs:List (Str × V)} (h:Cv D a C d fs X):fJ X (.builtin "isinstance") (PU D.K a C):=by
 intro pins s σ H xs us Q I r ⟨⟨R,fI,cg⟩,c,b,e,hc,q⟩
 subst e
 obtain ⟨u,w',rfl,ru,rw'⟩:=vals2 r
 cases ru
 obtain ⟨oe,od,m1,_,o1,_⟩:=h.exc
 have KX:D.K.In s.heap:=by have:=I.kIn;rw [h.K] at this;exact this
 have XA:Wv a C s.heap:=⟨oe,(I.pin (a,oe) (List.mem_append_left _ m1)).1,o1⟩
 rcases hc with ⟨n,e⟩ | ⟨tp,vs,rfl,m,n,e⟩
 ·have:=A2 rw' n
  subst this
  exact PySem.W.kia_one (CV cg) KX XA e (fun z=>nomatch z) fun tk=>⟨.bl b,H,I.tok tk,rfl,q⟩
 ·cases rw'
  obtain ⟨_,its,rv,o,g1,g2,g3,k,g4⟩:=(show cW X.prog X.w H s.heap tp (.tup vs) from I.hok tp _ m)
  obtain ⟨oc,odi,odt,osl⟩:=o
  obtain rfl:oc=.type "tuple":=g2
  obtain rfl:odt=.seq its.toArray k:=g4
  rw [zM rv n] at g1
  exact PySem.W.kia_tup (CV cg) KX XA g1 e (fun z=>nomatch z) fun tk=>⟨.bl b,H,I.tok tk,rfl,q⟩
noncomputable def pW:U->Value
 | .ref a=>.ref a
 | .ty n=>.type n
 | _=>.none
noncomputable def Jb (K:PySem.W.Frag) (a C:Addr):List U->aI->UK->Prop:=fun us M Q=>(∃ R fI,nM K C R fI)/\match us with
 | [.ref x,.tup As]=>x=a/\(∀ v∈As,pW v≠.none)/\∃ b,PySem.W.kitAny K (.ref C) (As.map pW)=some b/\Q (.bl b) M
 | [.ref x,c]=>x=a/\pW c≠.none/\∃ b,PySem.W.kitOne K (.ref C) (pW c)=some b/\Q (.bl b) M
 | _=>False
theorem BJ {K:PySem.W.Frag} {H:Hp} {M:aI} {u:U} {v:V} (r:aY K H M u v) (n:pW u≠.none):nK v=pW u:=by
 cases u <;> first | (rw [r.ref];rfl) | (rw [r.ty];rfl) | exact absurd rfl n
theorem zZ {K:PySem.W.Frag} {H:Hp} {M:aI}:∀ {us:List U} {vs:List V},aS K H M us vs->(∀ v∈us,pW v≠.none)->vs.map nK=us.map pW/\∀ v∈vs,nK v≠.none
 | [],vs,r,_=>by simp only [aS] at r;subst r;exact ⟨rfl,fun v z=>nomatch z⟩
 | u :: us,vs,r,n=>by
  simp only [aS] at r
  obtain ⟨v,vs',rfl,r1,r2⟩:=r
  obtain ⟨e1,e2⟩:=zZ r2 fun v hv=>n v (List.mem_cons_of_mem _ hv)
  have e:=BJ r1 (n u List.mem_cons_self)
  refine ⟨by rw [List.map_cons,List.map_cons,e,e1],fun x hx=>?_⟩
  rcases List.mem_cons.mp hx with rfl | hx
  ·rw [e];exact n u List.mem_cons_self
  ·exact e2 x hx
theorem Oz {K:PySem.W.Frag} {a:Addr}:qF K (PU K a C) (Jb K a C):=fun xs us H M Q' rm rus h Q c=>by
 obtain ⟨cg,h⟩:=h
 refine ⟨cg,?_⟩
 split at h
 ·rename_i x As
  obtain ⟨rfl,n,b,e,q⟩:=h
  obtain ⟨v,z,rfl,a1,a2⟩:=rus.two
  cases a1.ref
  simp only [aY] at a2
  obtain ⟨tp,vs,rfl,m,r⟩:=a2
  obtain ⟨e1,e2⟩:=zZ r n
  exact ⟨_,b,rfl,.inr ⟨tp,vs,rfl,m.2,e2,by rw [e1];exact e⟩,c.here rm cL q⟩
 ·rename_i x c' _
  obtain ⟨rfl,n,b,e,q⟩:=h
  obtain ⟨v,z,rfl,a1,a2⟩:=rus.two
  cases a1.ref
  have e1:=BJ a2 n
  exact ⟨_,b,rfl,.inl ⟨by rw [e1];exact n,by rw [e1];exact e⟩,c.here rm cL q⟩
 ·exact h.elim
theorem II {x:Str} {p:Pos} (hx:x="isinstance") (hm:D.mg x=none) (ha:FX D a0 C F (e :: es) tas) (hg:D.sc.names.lookup x=some .globalImplicit:=by rfl)
  (he:∀ env,starEach (e :: es) env=(false,eval e env) :: starEach es env:=by intro _;rfl) (hpl:∀ env,(backTo pos (starEach es env)).any (·.1)=false:=by intro _;rfl):y9 D a0 C F (.Call (.Name x p) (e :: es) [] pos) (sR (Jb D.K a0 C) tas):=by
 subst hx
 obtain ⟨_,q,s⟩:=ha
 exact ⟨_,fun X d fs r h=>B8 (KS h) (by show X.env.scope.names.lookup _=_;rw [h.sc];exact hg) (by rw [h.mg];exact hm) (by kernel_rfl) (q X d fs r h) (by decide) (by decide) (he _) (hpl _),BV Oz s⟩
noncomputable def Vg (i:Nat) (Cn:Addr) (K:PySem.W.Frag) (tb:nV) (th:Addr->Addr->List (Str × U)->US):US:=fun De τ M=>tb De (fun C fs τ' M'=>PySem.W.subIn K (.ref C) (.ref Cn)=some true /\
 ∀ a,th a C fs { nx:=fun τ M=>De.nx (τ.set i none) M,rt:=De.rt,bk:=fun τ M=>De.bk (τ.set i none) M,ct:=fun τ M=>De.ct (τ.set i none) M } (τ'.set i (some (.ref a))) M') τ M
theorem cV.setNone {K:PySem.W.Frag} {H:Hp} {M:aI} {σ:St} {τ:SU} {i:Nat} (r:cV K H M σ τ):cV K H M (σ.set i none) (τ.set i none):=by
 refine ⟨by simp [r.1],fun j w e=>?_⟩
 rw [List.getElem?_set] at e ⊢
 split at e
 ·split at e <;> cases e
 ·rename_i hj
  rw [if_neg hj]
  exact r.2 j w e
theorem S4 (i:Nat) {n cn:Str} {Cn:Addr} {body suite:List Stmt} {b₀:Stmt} {tb:nV} {th:Addr->Addr->List (Str × U)->US} {cp hp:Pos} (hN:D.N.Nodup) (hm:D.mg cn=some (.ref Cn)) (hc:JK D.K Cn) (hbody:nY D body tb) (hh:∀ a C fs,JX D a C fs (b₀ :: suite) (th a C fs))
  (hi:D.N[i]?=some n:=by rfl) (hk:D.sc.names.lookup n=some .local:=by rfl) (hg:D.sc.names.lookup cn=some .globalImplicit:=by rfl) (hfn:D.fn=true:=by rfl) (hdb:(cn == ("__debug__":Str))=false:=by decide) :
  pA D (.Try body [.ExceptHandler (some (.Name cn cp)) (some n) (b₀ :: suite) hp] [] [] pos) (Vg i Cn D.K tb th):=by
 obtain ⟨t0,p,s⟩:=hbody
 refine ⟨U1 i Cn D.K t0 (fun a C d fs=>(hh a C (xI fs)).choose),fun X h=>?_,fun σ τ H M D' rs rm z De d=>s σ τ H M D' _ rs rm z De _ d ?_⟩
 ·have hd:=h.dl hfn
  have:=Tb (i:=i) (b₀:=b₀) (suite:=suite) (pos:=pos) (hp:=hp) (cp:=cp) (th:=fun a C d fs=>(hh a C (xI fs)).choose) h.xe hd.1 hd.2.1 hd.2.2 (by rw [h.N];exact hN) (by rw [h.N];exact hi) (by rw [h.sc];exact hk) (p X h) (by show X.env.scope.names.lookup cn=_;rw [h.sc];exact hg) (by rw [h.mg];exact hm) (by rw [h.K];exact hc) (fun a C d fs oe od o1 o2 o3 o4=>?_) hdb
  ·rw [h.K] at this
   exact this
  ·refine (hh a C (xI fs)).choose_spec.1 _ d fs rfl ⟨h.prog,h.w,h.K,h.mg,h.N,h.sc,h.fn,oe,od,?_,?_,o1,o2,o3,o4⟩
   ·exact List.mem_append_right _ List.mem_cons_self
   ·exact List.mem_append_right _ (List.mem_cons_of_mem _ List.mem_cons_self)
 ·intro C fs' fs σ1 τ1 H1 M1 d1 s1 rm1 rs1 ra SY ⟨q1,q2⟩ C' d' H' fsx e1 e2 e3 e4
  cases e1;cases e2
  have e5:fsx=fs:=by
   have:=congrFun e3 d1
   rw [b8,b8] at this
   cases this;rfl
  have e6:H'=H1:=by
   funext b
   by_cases hb:b=d1
   ·rw [hb,SY,e4]
   ·have:=congrFun e3 b
    rw [bD hb,bD hb] at this
    exact this.symm
  subst e5;subst e6
  refine ⟨q1,fun a=>?_⟩
  have q3:=q2 a
  rw [ra.eq] at q3
  refine (hh a C (xI fsx)).choose_spec.2 _ _ H' M1 _ (rs1.set pM) rm1 q3 _ ⟨fun σ2 τ2 H2 M2 s2 rm2 rs2 q=>?_,fun u v H2 M2 s2 rm2 ru q=>?_,fun σ2 τ2 H2 M2 s2 rm2 rs2 q=>?_,fun σ2 τ2 H2 M2 s2 rm2 rs2 q=>?_⟩
  ·exact d.nx _ _ H2 M2 (s1.trans s2) rm2 rs2.setNone q
  ·exact d.rt u v H2 M2 (s1.trans s2) rm2 ru q
  ·exact d.bk _ _ H2 M2 (s1.trans s2) rm2 rs2.setNone q
  ·exact d.ct _ _ H2 M2 (s1.trans s2) rm2 rs2.setNone q
end
end U2
namespace L2
open PySem
theorem Gp {q:List Value->Prop} (h:q []) (us:List Value) (e:us.length=0):q us:=by rw [List.length_eq_zero_iff.mp e];exact h
theorem jU {n:Nat} {q:List Value->Prop} (h:∀ x us,us.length=n->q (x :: us)) (us:List Value) (e:us.length=n + 1):q us:=by
 cases us with
 | nil=>cases e
 | cons x r=>exact h x r (Nat.succ.inj e)
abbrev Ar:=Value->Value->Value->Option Addr->Value->Value->List Value->Prop
theorem fY {p:Ar} (h:∀ a b c d e g x0,p a b c d e g [x0]) (a b c d e g):∀ us,us.length=1->p a b c d e g us:=jU fun x0=>Gp (h a b c d e g x0)
theorem rD {p:Ar} (h:∀ a b c d e g x0 x1,p a b c d e g [x0,x1]) (a b c d e g):∀ us,us.length=2->p a b c d e g us:=jU fun x0=>jU fun x1=>Gp (h a b c d e g x0 x1)
theorem QA {p:Ar} (h:∀ a b c d e g x0 x1 x2,p a b c d e g [x0,x1,x2]) (a b c d e g):∀ us,us.length=3->p a b c d e g us:=jU fun x0=>jU fun x1=>jU fun x2=>Gp (h a b c d e g x0 x1 x2)
theorem Tj {p:Ar} (h:∀ a b c d e g x0 x1 x2 x3,p a b c d e g [x0,x1,x2,x3]) (a b c d e g):∀ us,us.length=4->p a b c d e g us:=jU fun x0=>jU fun x1=>jU fun x2=>jU fun x3=>Gp (h a b c d e g x0 x1 x2 x3)
theorem Xd {p:Ar} (h:∀ a b c d e g x0 x1 x2 x3 x4,p a b c d e g [x0,x1,x2,x3,x4]) (a b c d e g):∀ us,us.length=5->p a b c d e g us:=jU fun x0=>jU fun x1=>jU fun x2=>jU fun x3=>jU fun x4=>Gp (h a b c d e g x0 x1 x2 x3 x4)
theorem Xf {p:Ar} (h:∀ a b c d e g x0 x1 x2 x3 x4 x5,p a b c d e g [x0,x1,x2,x3,x4,x5]) (a b c d e g):∀ us,us.length=6->p a b c d e g us:=jU fun x0=>jU fun x1=>jU fun x2=>jU fun x3=>jU fun x4=>jU fun x5=>Gp (h a b c d e g x0 x1 x2 x3 x4 x5)
end L2
namespace U2
open PySem PySem.Spec PyProof.Rows L2
theorem dA {N P:List Str} {sc:Scope} (a:sc.kind=.function:=by rfl) (b:sc.isCoroutine=false:=by rfl) (c:sc.isGenerator=false:=by rfl) (d:N.Nodup:=by decide +kernel) (e:N.take P.length=P:=by rfl) (f:∀ x∈P,sc.names.lookup x=some .local\/sc.names.lookup x=some .cell:=by decide +kernel) (g:∀ y∈sc.names,y.2≠.free:=by decide +kernel):bB N P sc:=⟨a,b,c,d,e,f,g⟩
theorem nk {xs:List U} {I:Nat->SU->aI->Prop}:∀ i τ M,I i τ M->(Src.mk none xs).ok M:=fun _ _ _ _ _ e=>nomatch e
theorem bL {P:Program} {w:World} {K:PySem.W.Frag} {mg:Str->Option Value} {base:Heap} {x:Str} {st:Stmt} {f:Addr} {fd:FuncData} {N ps:List Str} {k:Nat} {sp:cX} {t:US} (F:b9 K x x st f fd) (hm:mg x=some (.ref f)) (S:bB N ps (aF st))
  (bind:∀ (kV doc pm:Value) (an:Option Addr) (cdv ct:Value) (us:List Value),us.length=ps.length->bindArgs (PySem.W.fnOf x x (bC st) (bA st) (aF st) .none kV doc pm an cdv ct) ⟨us,[]⟩=pure (ps.zip us))
  (h:mJ ⟨P,w,K,mg,base,N,aF st,k,true,.none,""⟩ (bA st) t)
  (q:∀ us M Q,sp us M Q->us.length=ps.length/\t { nx:=fun _ M'=>iY Q .non M',rt:=iY Q } (eP N us) M):Callee P w K mg base (k + 1) x sp [] :=
 Kz F hm S bind (fun us M Q hs=>(q us M Q hs).1) h (fun us M Q hs=>(q us M Q hs).2)
end U2
namespace K86
open PySem L2 U2
noncomputable def top (i:Nat):Stmt:=PySem.Challenge.pw_rowsmith_k86_exchanges_done.main.body.getD i (.Pass ⟨0,0,0,0⟩)
abbrev jI:Stmt:=top 16
theorem Fq:bB ["thing"] ["thing"] (aF jI):=dA
abbrev iE:Stmt:=top 17
theorem Cr:bB ["thing"] ["thing"] (aF iE):=dA
abbrev kA:Stmt:=top 18
theorem J0:bB ["thing"] ["thing"] (aF kA):=dA
abbrev jA:Stmt:=top 19
theorem fG:bB ["thing","is_leaf","most_pieces","most_within","count","waiting","entry","piece","depth"] ["thing","is_leaf","most_pieces","most_within"] (aF jA):=dA
abbrev jK:Stmt:=top 20
theorem DT:bB ["shape"] ["shape"] (aF jK):=dA
abbrev jL:Stmt:=top 21
theorem lO:bB ["shape","place","here","number"] ["shape","place"] (aF jL):=dA
abbrev kF:Stmt:=top 23
theorem JS:bB ["thing"] ["thing"] (aF kF):=dA
abbrev eN:Stmt:=top 24
theorem xJ:bB ["thing"] ["thing"] (aF eN):=dA
abbrev kB:Stmt:=top 25
theorem JH:bB ["thing"] ["thing"] (aF kB):=dA
abbrev mU:Stmt:=top 26
theorem NZ:bB ["tree"] ["tree"] (aF mU):=dA
abbrev kE:Stmt:=top 27
theorem Kq:bB ["tree","place"] ["tree","place"] (aF kE):=dA
abbrev eK:Stmt:=top 30
theorem xC:bB ["tree"] ["tree"] (aF eK):=dA
abbrev eL:Stmt:=top 31
theorem wN:bB ["tree"] ["tree"] (aF eL):=dA
abbrev eX:Stmt:=top 32
theorem y0:bB ["tree"] ["tree"] (aF eX):=dA
abbrev eY:Stmt:=top 33
theorem xU:bB ["tree"] ["tree"] (aF eY):=dA
abbrev iB:Stmt:=top 34
theorem B9:bB ["tree"] ["tree"] (aF iB):=dA
abbrev eB:Stmt:=top 35
theorem uS:bB ["tree"] ["tree"] (aF eB):=dA
abbrev kD:Stmt:=top 36
theorem Jp:bB ["tree","word"] ["tree","word"] (aF kD):=dA
abbrev lG:Stmt:=top 37
theorem iI:bB ["tree","place","part","above","number","found","here"] ["tree","place","part"] (aF lG):=dA
abbrev i9:Stmt:=top 38
theorem lT:bB ["tree","thing","here","number"] ["tree","thing"] (aF i9):=dA
abbrev kC:Stmt:=top 39
theorem qO:bB ["tree","thing","part","come"] ["tree","thing"] (aF kC):=dA
abbrev hU:Stmt:=top 40
theorem rL:bB ["tree","exchange","come"] ["tree","exchange"] (aF hU):=dA
abbrev jB:Stmt:=top 42
theorem j0:bB ["script","k","cell","digits"] ["script","k"] (aF jB):=dA
abbrev jD:Stmt:=top 43
theorem uE:bB ["feed","many","found"] ["feed","many"] (aF jD):=dA
abbrev fV:Stmt:=top 44
theorem dH:bB ["feed","many","letters","filler","first","step","size","place","back"] ["feed","many"] (aF fV):=dA
abbrev hJ:Stmt:=top 45
theorem Dc:bB ["found"] ["found"] (aF hJ):=dA
abbrev gF:Stmt:=top 46
theorem lP:bB ["feed","names","deep","number","way","leaf","sign"] ["feed","names","deep","number"] (aF gF):=dA
abbrev kJ:Stmt:=top 47
theorem xB:bB ["feed","many","deep","names"] ["feed","many","deep"] (aF kJ):=dA
abbrev gJ:Stmt:=top 48
theorem En:bB ["tree"] ["tree"] (aF gJ):=dA
abbrev gB:Stmt:=top 49
theorem DN:bB ["tree"] ["tree"] (aF gB):=dA
abbrev fH:Stmt:=top 50
theorem iV:bB ["tree","found","k","part"] ["tree"] (aF fH):=dA
abbrev lD:Stmt:=top 51
theorem r9:bB ["tree","spot","k"] ["tree","spot"] (aF lD):=dA
abbrev gG:Stmt:=top 52
theorem tZ:bB ["tree","spot","other","k"] ["tree","spot","other"] (aF gG):=dA
abbrev eA:Stmt:=top 53
theorem mX:bB ["tree","found"] ["tree"] (aF eA):=dA
abbrev j9:Stmt:=top 54
theorem jE:bB ["tree","found","spot","word","other","whole"] ["tree"] (aF j9):=dA
abbrev kK:Stmt:=top 55
theorem pO:bB ["size","trees"] ["size"] (aF kK):=dA
abbrev iC:Stmt:=top 56
theorem kS:bB ["size","tree","k"] ["size"] (aF iC):=dA
abbrev hW:Stmt:=top 57
theorem rK:bB ["feed","way"] ["feed"] (aF hW):=dA
abbrev i7:Stmt:=top 58
abbrev fW:Stmt:=top 59
theorem eZ:bB ["tree","feed","spots","found","word","turn"] ["tree","feed"] (aF fW):=dA
abbrev mN:Stmt:=top 60
theorem gY:bB ["script","k","feed","tree","let_here","exchange","other","known","thing","kinds"] ["script"] (aF mN):=dA
section
variable {P:Program} {w:World} {K:PySem.W.Frag} {mg:Str->Option Value} {base:Heap} {f d d2 fl:Addr} {fd:FuncData}
inductive Op where
 | sum | less | by_
noncomputable def Op.word:Op->Str
 | .sum=>"sum" | .less=>"less" | .by_=>"by"
inductive Tr where
 | num (n:Int) | name (x:Str) | turn (a:Tr) | two (o:Op) (a b:Tr)
noncomputable def Tr.toU:Tr->U
 | .num n=>.tup [.str "num",.int n]
 | .name x=>.tup [.str "name",.str x]
 | .turn a=>.tup [.str "turn",a.toU]
 | .two o a b=>.tup [.str o.word,a.toU,b.toU]
noncomputable def Tr.dep:Tr->Nat
 | .num _=>1
 | .name _=>1
 | .turn a=>a.dep + 1
 | .two _ a b=>max a.dep b.dep + 1
noncomputable def dZ:List (Str × Fl):=[("turn",.int 1),("sum",.int 2),("less",.int 2),("by",.int 2)]
noncomputable def bI (p:List Nat):U:=.tup (p.map fun (n:Nat)=>.int (n:Int))
noncomputable def Tr.parts:Tr->List Tr
 | .turn a=>[a]
 | .two _ a b=>[a,b]
 | _=>[]
noncomputable def Tr.size:Tr->Nat
 | .turn a=>a.size + 1
 | .two _ a b=>a.size + b.size + 1
 | _=>1
theorem IW:(Str.ofString "num"=Str.ofString "name")=False:=eq_false (by decide +kernel)
theorem JZ:(Str.ofString "num" == Str.ofString "name")=false:=by decide +kernel
theorem Jh:(Str.ofString "num"=Str.ofString "turn")=False:=eq_false (by decide +kernel)
theorem Hd:(Str.ofString "num" == Str.ofString "turn")=false:=by decide +kernel
theorem Lp:(Str.ofString "num"=Str.ofString "sum")=False:=eq_false (by decide +kernel)
theorem LP:(Str.ofString "num" == Str.ofString "sum")=false:=by decide +kernel
theorem JM:(Str.ofString "num"=Str.ofString "less")=False:=eq_false (by decide +kernel)
theorem Hf:(Str.ofString "num" == Str.ofString "less")=false:=by decide +kernel
theorem Pa:(Str.ofString "num"=Str.ofString "by")=False:=eq_false (by decide +kernel)
theorem Pw:(Str.ofString "num" == Str.ofString "by")=false:=by decide +kernel
theorem JE:(Str.ofString "num"=Str.ofString "swap")=False:=eq_false (by decide +kernel)
theorem Jy:(Str.ofString "num" == Str.ofString "swap")=false:=by decide +kernel
theorem Eb:(Str.ofString "num"=Str.ofString "right")=False:=eq_false (by decide +kernel)
theorem FI:(Str.ofString "num" == Str.ofString "right")=false:=by decide +kernel
theorem Kv:(Str.ofString "num"=Str.ofString "left")=False:=eq_false (by decide +kernel)
theorem Hy:(Str.ofString "num" == Str.ofString "left")=false:=by decide +kernel
theorem HF:(Str.ofString "num"=Str.ofString "open")=False:=eq_false (by decide +kernel)
theorem Ks:(Str.ofString "num" == Str.ofString "open")=false:=by decide +kernel
theorem JI:(Str.ofString "num"=Str.ofString "shut")=False:=eq_false (by decide +kernel)
theorem G0:(Str.ofString "num" == Str.ofString "shut")=false:=by decide +kernel
theorem Nv:(Str.ofString "num"=Str.ofString "off")=False:=eq_false (by decide +kernel)
theorem Mr:(Str.ofString "num" == Str.ofString "off")=false:=by decide +kernel
theorem DK:(Str.ofString "num"=Str.ofString "piece")=False:=eq_false (by decide +kernel)
theorem Ey:(Str.ofString "num" == Str.ofString "piece")=false:=by decide +kernel
theorem IQ:(Str.ofString "name"=Str.ofString "num")=False:=eq_false (by decide +kernel)
theorem Ih:(Str.ofString "name" == Str.ofString "num")=false:=by decide +kernel
theorem FN:(Str.ofString "name"=Str.ofString "turn")=False:=eq_false (by decide +kernel)
theorem DA:(Str.ofString "name" == Str.ofString "turn")=false:=by decide +kernel
theorem Jq:(Str.ofString "name"=Str.ofString "sum")=False:=eq_false (by decide +kernel)
theorem Kp:(Str.ofString "name" == Str.ofString "sum")=false:=by decide +kernel
theorem EV:(Str.ofString "name"=Str.ofString "less")=False:=eq_false (by decide +kernel)
theorem FT:(Str.ofString "name" == Str.ofString "less")=false:=by decide +kernel
theorem Mf:(Str.ofString "name"=Str.ofString "by")=False:=eq_false (by decide +kernel)
theorem Me:(Str.ofString "name" == Str.ofString "by")=false:=by decide +kernel
theorem EH:(Str.ofString "name"=Str.ofString "swap")=False:=eq_false (by decide +kernel)
theorem FA:(Str.ofString "name" == Str.ofString "swap")=false:=by decide +kernel
theorem CK:(Str.ofString "name"=Str.ofString "right")=False:=eq_false (by decide +kernel)
theorem AO:(Str.ofString "name" == Str.ofString "right")=false:=by decide +kernel
theorem Fu:(Str.ofString "name"=Str.ofString "left")=False:=eq_false (by decide +kernel)
theorem EC:(Str.ofString "name" == Str.ofString "left")=false:=by decide +kernel
theorem E3:(Str.ofString "name"=Str.ofString "open")=False:=eq_false (by decide +kernel)
theorem Fb:(Str.ofString "name" == Str.ofString "open")=false:=by decide +kernel
theorem DV:(Str.ofString "name"=Str.ofString "shut")=False:=eq_false (by decide +kernel)
theorem DO:(Str.ofString "name" == Str.ofString "shut")=false:=by decide +kernel
theorem IZ:(Str.ofString "name"=Str.ofString "off")=False:=eq_false (by decide +kernel)
theorem HL:(Str.ofString "name" == Str.ofString "off")=false:=by decide +kernel
theorem BC:(Str.ofString "name"=Str.ofString "piece")=False:=eq_false (by decide +kernel)
theorem BH:(Str.ofString "name" == Str.ofString "piece")=false:=by decide +kernel
theorem Hk:(Str.ofString "turn"=Str.ofString "num")=False:=eq_false (by decide +kernel)
theorem IU:(Str.ofString "turn" == Str.ofString "num")=false:=by decide +kernel
theorem EX:(Str.ofString "turn"=Str.ofString "name")=False:=eq_false (by decide +kernel)
theorem ET:(Str.ofString "turn" == Str.ofString "name")=false:=by decide +kernel
theorem J8:(Str.ofString "turn"=Str.ofString "sum")=False:=eq_false (by decide +kernel)
theorem Ik:(Str.ofString "turn" == Str.ofString "sum")=false:=by decide +kernel
theorem Ea:(Str.ofString "turn"=Str.ofString "less")=False:=eq_false (by decide +kernel)
theorem Fn:(Str.ofString "turn" == Str.ofString "less")=false:=by decide +kernel
theorem KG:(Str.ofString "turn"=Str.ofString "by")=False:=eq_false (by decide +kernel)
theorem Ll:(Str.ofString "turn" == Str.ofString "by")=false:=by decide +kernel
theorem DE:(Str.ofString "turn"=Str.ofString "swap")=False:=eq_false (by decide +kernel)
theorem DY:(Str.ofString "turn" == Str.ofString "swap")=false:=by decide +kernel
theorem AE:(Str.ofString "turn"=Str.ofString "right")=False:=eq_false (by decide +kernel)
theorem A7:(Str.ofString "turn" == Str.ofString "right")=false:=by decide +kernel
theorem EM:(Str.ofString "turn"=Str.ofString "left")=False:=eq_false (by decide +kernel)
theorem DU:(Str.ofString "turn" == Str.ofString "left")=false:=by decide +kernel
theorem D6:(Str.ofString "turn"=Str.ofString "open")=False:=eq_false (by decide +kernel)
theorem DI:(Str.ofString "turn" == Str.ofString "open")=false:=by decide +kernel
theorem FD:(Str.ofString "turn"=Str.ofString "shut")=False:=eq_false (by decide +kernel)
theorem Fv:(Str.ofString "turn" == Str.ofString "shut")=false:=by decide +kernel
theorem Hc:(Str.ofString "turn"=Str.ofString "off")=False:=eq_false (by decide +kernel)
theorem G2:(Str.ofString "turn" == Str.ofString "off")=false:=by decide +kernel
theorem CY:(Str.ofString "turn"=Str.ofString "piece")=False:=eq_false (by decide +kernel)
theorem B7:(Str.ofString "turn" == Str.ofString "piece")=false:=by decide +kernel
theorem K9:(Str.ofString "sum"=Str.ofString "num")=False:=eq_false (by decide +kernel)
theorem Mv:(Str.ofString "sum" == Str.ofString "num")=false:=by decide +kernel
theorem Jl:(Str.ofString "sum"=Str.ofString "name")=False:=eq_false (by decide +kernel)
theorem G1:(Str.ofString "sum" == Str.ofString "name")=false:=by decide +kernel
theorem Km:(Str.ofString "sum"=Str.ofString "turn")=False:=eq_false (by decide +kernel)
theorem Kx:(Str.ofString "sum" == Str.ofString "turn")=false:=by decide +kernel
theorem Jr:(Str.ofString "sum"=Str.ofString "less")=False:=eq_false (by decide +kernel)
theorem Ki:(Str.ofString "sum" == Str.ofString "less")=false:=by decide +kernel
theorem N7:(Str.ofString "sum"=Str.ofString "by")=False:=eq_false (by decide +kernel)
theorem OA:(Str.ofString "sum" == Str.ofString "by")=false:=by decide +kernel
theorem JC:(Str.ofString "sum"=Str.ofString "swap")=False:=eq_false (by decide +kernel)
theorem Kc:(Str.ofString "sum" == Str.ofString "swap")=false:=by decide +kernel
theorem E5:(Str.ofString "sum"=Str.ofString "right")=False:=eq_false (by decide +kernel)
theorem Eh:(Str.ofString "sum" == Str.ofString "right")=false:=by decide +kernel
theorem Kl:(Str.ofString "sum"=Str.ofString "left")=False:=eq_false (by decide +kernel)
theorem Ie:(Str.ofString "sum" == Str.ofString "left")=false:=by decide +kernel
theorem Ic:(Str.ofString "sum"=Str.ofString "open")=False:=eq_false (by decide +kernel)
theorem JN:(Str.ofString "sum" == Str.ofString "open")=false:=by decide +kernel
theorem J4:(Str.ofString "sum"=Str.ofString "shut")=False:=eq_false (by decide +kernel)
theorem Hm:(Str.ofString "sum" == Str.ofString "shut")=false:=by decide +kernel
theorem KW:(Str.ofString "sum"=Str.ofString "off")=False:=eq_false (by decide +kernel)
theorem Mk:(Str.ofString "sum" == Str.ofString "off")=false:=by decide +kernel
theorem Fm:(Str.ofString "sum"=Str.ofString "piece")=False:=eq_false (by decide +kernel)
theorem EU:(Str.ofString "sum" == Str.ofString "piece")=false:=by decide +kernel
theorem Hi:(Str.ofString "less"=Str.ofString "num")=False:=eq_false (by decide +kernel)
theorem Kt:(Str.ofString "less" == Str.ofString "num")=false:=by decide +kernel
theorem EA:(Str.ofString "less"=Str.ofString "name")=False:=eq_false (by decide +kernel)
theorem Dl:(Str.ofString "less" == Str.ofString "name")=false:=by decide +kernel
theorem Ds:(Str.ofString "less"=Str.ofString "turn")=False:=eq_false (by decide +kernel)
theorem El:(Str.ofString "less" == Str.ofString "turn")=false:=by decide +kernel
theorem Hh:(Str.ofString "less"=Str.ofString "sum")=False:=eq_false (by decide +kernel)
theorem Iv:(Str.ofString "less" == Str.ofString "sum")=false:=by decide +kernel
theorem LQ:(Str.ofString "less"=Str.ofString "by")=False:=eq_false (by decide +kernel)
theorem Ml:(Str.ofString "less" == Str.ofString "by")=false:=by decide +kernel
theorem Dq:(Str.ofString "less"=Str.ofString "swap")=False:=eq_false (by decide +kernel)
theorem Fs:(Str.ofString "less" == Str.ofString "swap")=false:=by decide +kernel
theorem CW:(Str.ofString "less"=Str.ofString "right")=False:=eq_false (by decide +kernel)
theorem Di:(Str.ofString "less" == Str.ofString "right")=false:=by decide +kernel
theorem Fg:(Str.ofString "less"=Str.ofString "left")=False:=eq_false (by decide +kernel)
theorem Ef:(Str.ofString "less" == Str.ofString "left")=false:=by decide +kernel
theorem Dv:(Str.ofString "less"=Str.ofString "open")=False:=eq_false (by decide +kernel)
theorem EK:(Str.ofString "less" == Str.ofString "open")=false:=by decide +kernel
theorem ER:(Str.ofString "less"=Str.ofString "shut")=False:=eq_false (by decide +kernel)
theorem E2:(Str.ofString "less" == Str.ofString "shut")=false:=by decide +kernel
theorem He:(Str.ofString "less"=Str.ofString "off")=False:=eq_false (by decide +kernel)
theorem Jd:(Str.ofString "less" == Str.ofString "off")=false:=by decide +kernel
theorem BY:(Str.ofString "less"=Str.ofString "piece")=False:=eq_false (by decide +kernel)
theorem AV:(Str.ofString "less" == Str.ofString "piece")=false:=by decide +kernel
theorem OO:(Str.ofString "by"=Str.ofString "num")=False:=eq_false (by decide +kernel)
theorem Px:(Str.ofString "by" == Str.ofString "num")=false:=by decide +kernel
theorem LU:(Str.ofString "by"=Str.ofString "name")=False:=eq_false (by decide +kernel)
theorem Nt:(Str.ofString "by" == Str.ofString "name")=false:=by decide +kernel
theorem Ma:(Str.ofString "by"=Str.ofString "turn")=False:=eq_false (by decide +kernel)
theorem LG:(Str.ofString "by" == Str.ofString "turn")=false:=by decide +kernel
theorem OU:(Str.ofString "by"=Str.ofString "sum")=False:=eq_false (by decide +kernel)
theorem O0:(Str.ofString "by" == Str.ofString "sum")=false:=by decide +kernel
theorem MD:(Str.ofString "by"=Str.ofString "less")=False:=eq_false (by decide +kernel)
theorem KC:(Str.ofString "by" == Str.ofString "less")=false:=by decide +kernel
theorem NB:(Str.ofString "by"=Str.ofString "swap")=False:=eq_false (by decide +kernel)
theorem Lb:(Str.ofString "by" == Str.ofString "swap")=false:=by decide +kernel
theorem G5:(Str.ofString "by"=Str.ofString "right")=False:=eq_false (by decide +kernel)
theorem G3:(Str.ofString "by" == Str.ofString "right")=false:=by decide +kernel
theorem Lz:(Str.ofString "by"=Str.ofString "left")=False:=eq_false (by decide +kernel)
theorem Nx:(Str.ofString "by" == Str.ofString "left")=false:=by decide +kernel
theorem Lk:(Str.ofString "by"=Str.ofString "open")=False:=eq_false (by decide +kernel)
theorem Nl:(Str.ofString "by" == Str.ofString "open")=false:=by decide +kernel
theorem K0:(Str.ofString "by"=Str.ofString "shut")=False:=eq_false (by decide +kernel)
theorem KA:(Str.ofString "by" == Str.ofString "shut")=false:=by decide +kernel
theorem NS:(Str.ofString "by"=Str.ofString "off")=False:=eq_false (by decide +kernel)
theorem OP:(Str.ofString "by" == Str.ofString "off")=false:=by decide +kernel
theorem Js:(Str.ofString "by"=Str.ofString "piece")=False:=eq_false (by decide +kernel)
theorem JU:(Str.ofString "by" == Str.ofString "piece")=false:=by decide +kernel
theorem Iu:(Str.ofString "swap"=Str.ofString "num")=False:=eq_false (by decide +kernel)
theorem HG:(Str.ofString "swap" == Str.ofString "num")=false:=by decide +kernel
theorem Fd:(Str.ofString "swap"=Str.ofString "name")=False:=eq_false (by decide +kernel)
theorem Eo:(Str.ofString "swap" == Str.ofString "name")=false:=by decide +kernel
theorem FE:(Str.ofString "swap"=Str.ofString "turn")=False:=eq_false (by decide +kernel)
theorem DG:(Str.ofString "swap" == Str.ofString "turn")=false:=by decide +kernel
theorem HV:(Str.ofString "swap"=Str.ofString "sum")=False:=eq_false (by decide +kernel)
theorem HX:(Str.ofString "swap" == Str.ofString "sum")=false:=by decide +kernel
theorem E9:(Str.ofString "swap"=Str.ofString "less")=False:=eq_false (by decide +kernel)
theorem FK:(Str.ofString "swap" == Str.ofString "less")=false:=by decide +kernel
theorem KP:(Str.ofString "swap"=Str.ofString "by")=False:=eq_false (by decide +kernel)
theorem Mu:(Str.ofString "swap" == Str.ofString "by")=false:=by decide +kernel
theorem AR:(Str.ofString "swap"=Str.ofString "right")=False:=eq_false (by decide +kernel)
theorem Bl:(Str.ofString "swap" == Str.ofString "right")=false:=by decide +kernel
theorem Ep:(Str.ofString "swap"=Str.ofString "left")=False:=eq_false (by decide +kernel)
theorem EB:(Str.ofString "swap" == Str.ofString "left")=false:=by decide +kernel
theorem FU:(Str.ofString "swap"=Str.ofString "open")=False:=eq_false (by decide +kernel)
theorem Dw:(Str.ofString "swap" == Str.ofString "open")=false:=by decide +kernel
theorem ED:(Str.ofString "swap"=Str.ofString "shut")=False:=eq_false (by decide +kernel)
theorem Du:(Str.ofString "swap" == Str.ofString "shut")=false:=by decide +kernel
theorem IA:(Str.ofString "swap"=Str.ofString "off")=False:=eq_false (by decide +kernel)
theorem IC:(Str.ofString "swap" == Str.ofString "off")=false:=by decide +kernel
theorem AH:(Str.ofString "swap"=Str.ofString "piece")=False:=eq_false (by decide +kernel)
theorem CC:(Str.ofString "swap" == Str.ofString "piece")=false:=by decide +kernel
theorem DS:(Str.ofString "right"=Str.ofString "num")=False:=eq_false (by decide +kernel)
theorem E7:(Str.ofString "right" == Str.ofString "num")=false:=by decide +kernel
theorem C0:(Str.ofString "right"=Str.ofString "name")=False:=eq_false (by decide +kernel)
theorem Bn:(Str.ofString "right" == Str.ofString "name")=false:=by decide +kernel
theorem CO:(Str.ofString "right"=Str.ofString "turn")=False:=eq_false (by decide +kernel)
theorem A1:(Str.ofString "right" == Str.ofString "turn")=false:=by decide +kernel
theorem Fo:(Str.ofString "right"=Str.ofString "sum")=False:=eq_false (by decide +kernel)
theorem Fw:(Str.ofString "right" == Str.ofString "sum")=false:=by decide +kernel
theorem Ca:(Str.ofString "right"=Str.ofString "less")=False:=eq_false (by decide +kernel)
theorem BQ:(Str.ofString "right" == Str.ofString "less")=false:=by decide +kernel
theorem JF:(Str.ofString "right"=Str.ofString "by")=False:=eq_false (by decide +kernel)
theorem IG:(Str.ofString "right" == Str.ofString "by")=false:=by decide +kernel
theorem A8:(Str.ofString "right"=Str.ofString "swap")=False:=eq_false (by decide +kernel)
theorem AS:(Str.ofString "right" == Str.ofString "swap")=false:=by decide +kernel
theorem BM:(Str.ofString "right"=Str.ofString "left")=False:=eq_false (by decide +kernel)
theorem AJ:(Str.ofString "right" == Str.ofString "left")=false:=by decide +kernel
theorem Be:(Str.ofString "right"=Str.ofString "open")=False:=eq_false (by decide +kernel)
theorem AZ:(Str.ofString "right" == Str.ofString "open")=false:=by decide +kernel
theorem CB:(Str.ofString "right"=Str.ofString "shut")=False:=eq_false (by decide +kernel)
theorem BA:(Str.ofString "right" == Str.ofString "shut")=false:=by decide +kernel
theorem Fz:(Str.ofString "right"=Str.ofString "off")=False:=eq_false (by decide +kernel)
theorem DD:(Str.ofString "right" == Str.ofString "off")=false:=by decide +kernel
theorem Ac:(Str.ofString "right"=Str.ofString "piece")=False:=eq_false (by decide +kernel)
theorem An:(Str.ofString "right" == Str.ofString "piece")=false:=by decide +kernel
theorem Jv:(Str.ofString "left"=Str.ofString "num")=False:=eq_false (by decide +kernel)
theorem HZ:(Str.ofString "left" == Str.ofString "num")=false:=by decide +kernel
theorem Dn:(Str.ofString "left"=Str.ofString "name")=False:=eq_false (by decide +kernel)
theorem Dp:(Str.ofString "left" == Str.ofString "name")=false:=by decide +kernel
theorem Fh:(Str.ofString "left"=Str.ofString "turn")=False:=eq_false (by decide +kernel)
theorem Dy:(Str.ofString "left" == Str.ofString "turn")=false:=by decide +kernel
theorem Ig:(Str.ofString "left"=Str.ofString "sum")=False:=eq_false (by decide +kernel)
theorem IE:(Str.ofString "left" == Str.ofString "sum")=false:=by decide +kernel
theorem E4:(Str.ofString "left"=Str.ofString "less")=False:=eq_false (by decide +kernel)
theorem Dm:(Str.ofString "left" == Str.ofString "less")=false:=by decide +kernel
theorem MV:(Str.ofString "left"=Str.ofString "by")=False:=eq_false (by decide +kernel)
theorem MA:(Str.ofString "left" == Str.ofString "by")=false:=by decide +kernel
theorem Eu:(Str.ofString "left"=Str.ofString "swap")=False:=eq_false (by decide +kernel)
theorem FC:(Str.ofString "left" == Str.ofString "swap")=false:=by decide +kernel
theorem Br:(Str.ofString "left"=Str.ofString "right")=False:=eq_false (by decide +kernel)
theorem Bu:(Str.ofString "left" == Str.ofString "right")=false:=by decide +kernel
theorem E1:(Str.ofString "left"=Str.ofString "open")=False:=eq_false (by decide +kernel)
theorem FL:(Str.ofString "left" == Str.ofString "open")=false:=by decide +kernel
theorem Dt:(Str.ofString "left"=Str.ofString "shut")=False:=eq_false (by decide +kernel)
theorem Es:(Str.ofString "left" == Str.ofString "shut")=false:=by decide +kernel
theorem Hu:(Str.ofString "left"=Str.ofString "off")=False:=eq_false (by decide +kernel)
theorem Ji:(Str.ofString "left" == Str.ofString "off")=false:=by decide +kernel
theorem Bh:(Str.ofString "left"=Str.ofString "piece")=False:=eq_false (by decide +kernel)
theorem BR:(Str.ofString "left" == Str.ofString "piece")=false:=by decide +kernel
theorem Jz:(Str.ofString "open"=Str.ofString "num")=False:=eq_false (by decide +kernel)
theorem Ht:(Str.ofString "open" == Str.ofString "num")=false:=by decide +kernel
theorem Ft:(Str.ofString "open"=Str.ofString "name")=False:=eq_false (by decide +kernel)
theorem FO:(Str.ofString "open" == Str.ofString "name")=false:=by decide +kernel
theorem EL:(Str.ofString "open"=Str.ofString "turn")=False:=eq_false (by decide +kernel)
theorem Ff:(Str.ofString "open" == Str.ofString "turn")=false:=by decide +kernel
theorem IT:(Str.ofString "open"=Str.ofString "sum")=False:=eq_false (by decide +kernel)
theorem Ip:(Str.ofString "open" == Str.ofString "sum")=false:=by decide +kernel
theorem Ee:(Str.ofString "open"=Str.ofString "less")=False:=eq_false (by decide +kernel)
theorem Em:(Str.ofString "open" == Str.ofString "less")=false:=by decide +kernel
theorem Nd:(Str.ofString "open"=Str.ofString "by")=False:=eq_false (by decide +kernel)
theorem MS:(Str.ofString "open" == Str.ofString "by")=false:=by decide +kernel
theorem D3:(Str.ofString "open"=Str.ofString "swap")=False:=eq_false (by decide +kernel)
theorem EY:(Str.ofString "open" == Str.ofString "swap")=false:=by decide +kernel
theorem B5:(Str.ofString "open"=Str.ofString "right")=False:=eq_false (by decide +kernel)
theorem Bq:(Str.ofString "open" == Str.ofString "right")=false:=by decide +kernel
theorem DH:(Str.ofString "open"=Str.ofString "left")=False:=eq_false (by decide +kernel)
theorem Ec:(Str.ofString "open" == Str.ofString "left")=false:=by decide +kernel
theorem DB:(Str.ofString "open"=Str.ofString "shut")=False:=eq_false (by decide +kernel)
theorem Ei:(Str.ofString "open" == Str.ofString "shut")=false:=by decide +kernel
theorem Ho:(Str.ofString "open"=Str.ofString "off")=False:=eq_false (by decide +kernel)
theorem HB:(Str.ofString "open" == Str.ofString "off")=false:=by decide +kernel
theorem BL:(Str.ofString "open"=Str.ofString "piece")=False:=eq_false (by decide +kernel)
theorem Bi:(Str.ofString "open" == Str.ofString "piece")=false:=by decide +kernel
theorem HR:(Str.ofString "shut"=Str.ofString "num")=False:=eq_false (by decide +kernel)
theorem Iz:(Str.ofString "shut" == Str.ofString "num")=false:=by decide +kernel
theorem D7:(Str.ofString "shut"=Str.ofString "name")=False:=eq_false (by decide +kernel)
theorem D8:(Str.ofString "shut" == Str.ofString "name")=false:=by decide +kernel
theorem DX:(Str.ofString "shut"=Str.ofString "turn")=False:=eq_false (by decide +kernel)
theorem oO:(Str.ofString "shut" == Str.ofString "turn")=false:=by decide +kernel
theorem Kn:(Str.ofString "shut"=Str.ofString "sum")=False:=eq_false (by decide +kernel)
theorem J6:(Str.ofString "shut" == Str.ofString "sum")=false:=by decide +kernel
theorem Ed:(Str.ofString "shut"=Str.ofString "less")=False:=eq_false (by decide +kernel)
theorem Dz:(Str.ofString "shut" == Str.ofString "less")=false:=by decide +kernel
theorem MR:(Str.ofString "shut"=Str.ofString "by")=False:=eq_false (by decide +kernel)
theorem Lu:(Str.ofString "shut" == Str.ofString "by")=false:=by decide +kernel
theorem DQ:(Str.ofString "shut"=Str.ofString "swap")=False:=eq_false (by decide +kernel)
theorem D4:(Str.ofString "shut" == Str.ofString "swap")=false:=by decide +kernel
theorem Bz:(Str.ofString "shut"=Str.ofString "right")=False:=eq_false (by decide +kernel)
theorem AL:(Str.ofString "shut" == Str.ofString "right")=false:=by decide +kernel
theorem EW:(Str.ofString "shut"=Str.ofString "left")=False:=eq_false (by decide +kernel)
theorem Fi:(Str.ofString "shut" == Str.ofString "left")=false:=by decide +kernel
theorem FQ:(Str.ofString "shut"=Str.ofString "open")=False:=eq_false (by decide +kernel)
theorem Ek:(Str.ofString "shut" == Str.ofString "open")=false:=by decide +kernel
theorem Hg:(Str.ofString "shut"=Str.ofString "off")=False:=eq_false (by decide +kernel)
theorem JB:(Str.ofString "shut" == Str.ofString "off")=false:=by decide +kernel
theorem CF:(Str.ofString "shut"=Str.ofString "piece")=False:=eq_false (by decide +kernel)
theorem BK:(Str.ofString "shut" == Str.ofString "piece")=false:=by decide +kernel
theorem LW:(Str.ofString "off"=Str.ofString "num")=False:=eq_false (by decide +kernel)
theorem Mp:(Str.ofString "off" == Str.ofString "num")=false:=by decide +kernel
theorem Hx:(Str.ofString "off"=Str.ofString "name")=False:=eq_false (by decide +kernel)
theorem Ir:(Str.ofString "off" == Str.ofString "name")=false:=by decide +kernel
theorem Jj:(Str.ofString "off"=Str.ofString "turn")=False:=eq_false (by decide +kernel)
theorem HP:(Str.ofString "off" == Str.ofString "turn")=false:=by decide +kernel
theorem LC:(Str.ofString "off"=Str.ofString "sum")=False:=eq_false (by decide +kernel)
theorem Lg:(Str.ofString "off" == Str.ofString "sum")=false:=by decide +kernel
theorem HD:(Str.ofString "off"=Str.ofString "less")=False:=eq_false (by decide +kernel)
theorem Io:(Str.ofString "off" == Str.ofString "less")=false:=by decide +kernel
theorem OW:(Str.ofString "off"=Str.ofString "by")=False:=eq_false (by decide +kernel)
theorem Ox:(Str.ofString "off" == Str.ofString "by")=false:=by decide +kernel
theorem JL:(Str.ofString "off"=Str.ofString "swap")=False:=eq_false (by decide +kernel)
theorem Ib:(Str.ofString "off" == Str.ofString "swap")=false:=by decide +kernel
theorem DL:(Str.ofString "off"=Str.ofString "right")=False:=eq_false (by decide +kernel)
theorem E6:(Str.ofString "off" == Str.ofString "right")=false:=by decide +kernel
theorem G9:(Str.ofString "off"=Str.ofString "left")=False:=eq_false (by decide +kernel)
theorem ID:(Str.ofString "off" == Str.ofString "left")=false:=by decide +kernel
theorem J9:(Str.ofString "off"=Str.ofString "open")=False:=eq_false (by decide +kernel)
theorem HQ:(Str.ofString "off" == Str.ofString "open")=false:=by decide +kernel
theorem IV:(Str.ofString "off"=Str.ofString "shut")=False:=eq_false (by decide +kernel)
theorem HI:(Str.ofString "off" == Str.ofString "shut")=false:=by decide +kernel
theorem Ex:(Str.ofString "off"=Str.ofString "piece")=False:=eq_false (by decide +kernel)
theorem FR:(Str.ofString "off" == Str.ofString "piece")=false:=by decide +kernel
theorem EN:(Str.ofString "piece"=Str.ofString "num")=False:=eq_false (by decide +kernel)
theorem Et:(Str.ofString "piece" == Str.ofString "num")=false:=by decide +kernel
theorem BX:(Str.ofString "piece"=Str.ofString "name")=False:=eq_false (by decide +kernel)
theorem BO:(Str.ofString "piece" == Str.ofString "name")=false:=by decide +kernel
theorem C4:(Str.ofString "piece"=Str.ofString "turn")=False:=eq_false (by decide +kernel)
theorem B0:(Str.ofString "piece" == Str.ofString "turn")=false:=by decide +kernel
theorem Ej:(Str.ofString "piece"=Str.ofString "sum")=False:=eq_false (by decide +kernel)
theorem Fc:(Str.ofString "piece" == Str.ofString "sum")=false:=by decide +kernel
theorem BD:(Str.ofString "piece"=Str.ofString "less")=False:=eq_false (by decide +kernel)
theorem BP:(Str.ofString "piece" == Str.ofString "less")=false:=by decide +kernel
theorem Jf:(Str.ofString "piece"=Str.ofString "by")=False:=eq_false (by decide +kernel)
theorem J5:(Str.ofString "piece" == Str.ofString "by")=false:=by decide +kernel
theorem AG:(Str.ofString "piece"=Str.ofString "swap")=False:=eq_false (by decide +kernel)
theorem CU:(Str.ofString "piece" == Str.ofString "swap")=false:=by decide +kernel
theorem Ah:(Str.ofString "piece"=Str.ofString "right")=False:=eq_false (by decide +kernel)
theorem Aj:(Str.ofString "piece" == Str.ofString "right")=false:=by decide +kernel
theorem AI:(Str.ofString "piece"=Str.ofString "left")=False:=eq_false (by decide +kernel)
theorem Bw:(Str.ofString "piece" == Str.ofString "left")=false:=by decide +kernel
theorem C5:(Str.ofString "piece"=Str.ofString "open")=False:=eq_false (by decide +kernel)
theorem CG:(Str.ofString "piece" == Str.ofString "open")=false:=by decide +kernel
theorem CP:(Str.ofString "piece"=Str.ofString "shut")=False:=eq_false (by decide +kernel)
theorem Ce:(Str.ofString "piece" == Str.ofString "shut")=false:=by decide +kernel
theorem EG:(Str.ofString "piece"=Str.ofString "off")=False:=eq_false (by decide +kernel)
theorem FV:(Str.ofString "piece" == Str.ofString "off")=false:=by decide +kernel
theorem wx:(Str.ofString "num"=Str.ofString "name")=False/\(Str.ofString "num" == Str.ofString "name")=false/\(Str.ofString "num"=Str.ofString "turn")=False/\(Str.ofString "num" == Str.ofString "turn")=false/\(Str.ofString "num"=Str.ofString "sum")=False/\(Str.ofString "num" == Str.ofString "sum")=false/\(Str.ofString "num"=Str.ofString "less")=False/\(Str.ofString "num" == Str.ofString "less")=false/\(Str.ofString "num"=Str.ofString "by")=False/\(Str.ofString "num" == Str.ofString "by")=false/\(Str.ofString "num"=Str.ofString "swap")=False/\(Str.ofString "num" == Str.ofString "swap")=false/\(Str.ofString "num"=Str.ofString "right")=False/\(Str.ofString "num" == Str.ofString "right")=false/\(Str.ofString "num"=Str.ofString "left")=False/\(Str.ofString "num" == Str.ofString "left")=false/\(Str.ofString "num"=Str.ofString "open")=False/\(Str.ofString "num" == Str.ofString "open")=false/\(Str.ofString "num"=Str.ofString "shut")=False/\(Str.ofString "num" == Str.ofString "shut")=false/\(Str.ofString "num"=Str.ofString "off")=False/\(Str.ofString "num" == Str.ofString "off")=false/\(Str.ofString "num"=Str.ofString "piece")=False/\(Str.ofString "num" == Str.ofString "piece")=false/\(Str.ofString "name"=Str.ofString "num")=False/\(Str.ofString "name" == Str.ofString "num")=false/\(Str.ofString "name"=Str.ofString "turn")=False/\(Str.ofString "name" == Str.ofString "turn")=false/\(Str.ofString "name"=Str.ofString "sum")=False/\(Str.ofString "name" == Str.ofString "sum")=false/\(Str.ofString "name"=Str.ofString "less")=False/\(Str.ofString "name" == Str.ofString "less")=false/\(Str.ofString "name"=Str.ofString "by")=False/\(Str.ofString "name" == Str.ofString "by")=false/\(Str.ofString "name"=Str.ofString "swap")=False/\(Str.ofString "name" == Str.ofString "swap")=false/\(Str.ofString "name"=Str.ofString "right")=False/\(Str.ofString "name" == Str.ofString "right")=false/\(Str.ofString "name"=Str.ofString "left")=False/\(Str.ofString "name" == Str.ofString "left")=false/\(Str.ofString "name"=Str.ofString "open")=False/\(Str.ofString "name" == Str.ofString "open")=false/\(Str.ofString "name"=Str.ofString "shut")=False/\(Str.ofString "name" == Str.ofString "shut")=false/\(Str.ofString "name"=Str.ofString "off")=False/\(Str.ofString "name" == Str.ofString "off")=false/\(Str.ofString "name"=Str.ofString "piece")=False/\(Str.ofString "name" == Str.ofString "piece")=false/\(Str.ofString "turn"=Str.ofString "num")=False/\(Str.ofString "turn" == Str.ofString "num")=false/\(Str.ofString "turn"=Str.ofString "name")=False/\(Str.ofString "turn" == Str.ofString "name")=false/\(Str.ofString "turn"=Str.ofString "sum")=False/\(Str.ofString "turn" == Str.ofString "sum")=false/\(Str.ofString "turn"=Str.ofString "less")=False/\(Str.ofString "turn" == Str.ofString "less")=false/\(Str.ofString "turn"=Str.ofString "by")=False/\(Str.ofString "turn" == Str.ofString "by")=false/\(Str.ofString "turn"=Str.ofString "swap")=False/\(Str.ofString "turn" == Str.ofString "swap")=false/\(Str.ofString "turn"=Str.ofString "right")=False/\(Str.ofString "turn" == Str.ofString "right")=false/\(Str.ofString "turn"=Str.ofString "left")=False/\(Str.ofString "turn" == Str.ofString "left")=false/\(Str.ofString "turn"=Str.ofString "open")=False/\(Str.ofString "turn" == Str.ofString "open")=false/\(Str.ofString "turn"=Str.ofString "shut")=False/\(Str.ofString "turn" == Str.ofString "shut")=false/\(Str.ofString "turn"=Str.ofString "off")=False/\(Str.ofString "turn" == Str.ofString "off")=false/\(Str.ofString "turn"=Str.ofString "piece")=False/\(Str.ofString "turn" == Str.ofString "piece")=false/\(Str.ofString "sum"=Str.ofString "num")=False/\(Str.ofString "sum" == Str.ofString "num")=false/\(Str.ofString "sum"=Str.ofString "name")=False/\(Str.ofString "sum" == Str.ofString "name")=false/\(Str.ofString "sum"=Str.ofString "turn")=False/\(Str.ofString "sum" == Str.ofString "turn")=false/\(Str.ofString "sum"=Str.ofString "less")=False/\(Str.ofString "sum" == Str.ofString "less")=false/\(Str.ofString "sum"=Str.ofString "by")=False/\(Str.ofString "sum" == Str.ofString "by")=false/\(Str.ofString "sum"=Str.ofString "swap")=False/\(Str.ofString "sum" == Str.ofString "swap")=false/\(Str.ofString "sum"=Str.ofString "right")=False/\(Str.ofString "sum" == Str.ofString "right")=false/\(Str.ofString "sum"=Str.ofString "left")=False/\(Str.ofString "sum" == Str.ofString "left")=false/\(Str.ofString "sum"=Str.ofString "open")=False/\(Str.ofString "sum" == Str.ofString "open")=false/\(Str.ofString "sum"=Str.ofString "shut")=False/\(Str.ofString "sum" == Str.ofString "shut")=false/\(Str.ofString "sum"=Str.ofString "off")=False/\(Str.ofString "sum" == Str.ofString "off")=false/\(Str.ofString "sum"=Str.ofString "piece")=False/\(Str.ofString "sum" == Str.ofString "piece")=false/\(Str.ofString "less"=Str.ofString "num")=False/\(Str.ofString "less" == Str.ofString "num")=false/\(Str.ofString "less"=Str.ofString "name")=False/\(Str.ofString "less" == Str.ofString "name")=false/\(Str.ofString "less"=Str.ofString "turn")=False/\(Str.ofString "less" == Str.ofString "turn")=false/\(Str.ofString "less"=Str.ofString "sum")=False/\(Str.ofString "less" == Str.ofString "sum")=false/\(Str.ofString "less"=Str.ofString "by")=False/\(Str.ofString "less" == Str.ofString "by")=false/\(Str.ofString "less"=Str.ofString "swap")=False/\(Str.ofString "less" == Str.ofString "swap")=false/\(Str.ofString "less"=Str.ofString "right")=False/\(Str.ofString "less" == Str.ofString "right")=false/\(Str.ofString "less"=Str.ofString "left")=False/\(Str.ofString "less" == Str.ofString "left")=false/\(Str.ofString "less"=Str.ofString "open")=False/\(Str.ofString "less" == Str.ofString "open")=false/\(Str.ofString "less"=Str.ofString "shut")=False/\(Str.ofString "less" == Str.ofString "shut")=false/\(Str.ofString "less"=Str.ofString "off")=False/\(Str.ofString "less" == Str.ofString "off")=false/\(Str.ofString "less"=Str.ofString "piece")=False/\(Str.ofString "less" == Str.ofString "piece")=false/\(Str.ofString "by"=Str.ofString "num")=False/\(Str.ofString "by" == Str.ofString "num")=false/\(Str.ofString "by"=Str.ofString "name")=False/\(Str.ofString "by" == Str.ofString "name")=false/\(Str.ofString "by"=Str.ofString "turn")=False/\(Str.ofString "by" == Str.ofString "turn")=false/\(Str.ofString "by"=Str.ofString "sum")=False/\(Str.ofString "by" == Str.ofString "sum")=false/\(Str.ofString "by"=Str.ofString "less")=False/\(Str.ofString "by" == Str.ofString "less")=false/\(Str.ofString "by"=Str.ofString "swap")=False/\(Str.ofString "by" == Str.ofString "swap")=false/\(Str.ofString "by"=Str.ofString "right")=False/\(Str.ofString "by" == Str.ofString "right")=false/\(Str.ofString "by"=Str.ofString "left")=False/\(Str.ofString "by" == Str.ofString "left")=false/\(Str.ofString "by"=Str.ofString "open")=False/\(Str.ofString "by" == Str.ofString "open")=false/\(Str.ofString "by"=Str.ofString "shut")=False/\(Str.ofString "by" == Str.ofString "shut")=false/\(Str.ofString "by"=Str.ofString "off")=False/\(Str.ofString "by" == Str.ofString "off")=false/\(Str.ofString "by"=Str.ofString "piece")=False/\(Str.ofString "by" == Str.ofString "piece")=false/\(Str.ofString "swap"=Str.ofString "num")=False/\(Str.ofString "swap" == Str.ofString "num")=false/\(Str.ofString "swap"=Str.ofString "name")=False/\(Str.ofString "swap" == Str.ofString "name")=false/\(Str.ofString "swap"=Str.ofString "turn")=False/\(Str.ofString "swap" == Str.ofString "turn")=false/\(Str.ofString "swap"=Str.ofString "sum")=False/\(Str.ofString "swap" == Str.ofString "sum")=false/\(Str.ofString "swap"=Str.ofString "less")=False/\(Str.ofString "swap" == Str.ofString "less")=false/\(Str.ofString "swap"=Str.ofString "by")=False/\(Str.ofString "swap" == Str.ofString "by")=false/\(Str.ofString "swap"=Str.ofString "right")=False/\(Str.ofString "swap" == Str.ofString "right")=false/\(Str.ofString "swap"=Str.ofString "left")=False/\(Str.ofString "swap" == Str.ofString "left")=false/\(Str.ofString "swap"=Str.ofString "open")=False/\(Str.ofString "swap" == Str.ofString "open")=false/\(Str.ofString "swap"=Str.ofString "shut")=False/\(Str.ofString "swap" == Str.ofString "shut")=false/\(Str.ofString "swap"=Str.ofString "off")=False/\(Str.ofString "swap" == Str.ofString "off")=false/\(Str.ofString "swap"=Str.ofString "piece")=False/\(Str.ofString "swap" == Str.ofString "piece")=false/\(Str.ofString "right"=Str.ofString "num")=False/\(Str.ofString "right" == Str.ofString "num")=false/\(Str.ofString "right"=Str.ofString "name")=False/\(Str.ofString "right" == Str.ofString "name")=false/\(Str.ofString "right"=Str.ofString "turn")=False/\(Str.ofString "right" == Str.ofString "turn")=false/\(Str.ofString "right"=Str.ofString "sum")=False/\(Str.ofString "right" == Str.ofString "sum")=false/\(Str.ofString "right"=Str.ofString "less")=False/\(Str.ofString "right" == Str.ofString "less")=false/\(Str.ofString "right"=Str.ofString "by")=False/\(Str.ofString "right" == Str.ofString "by")=false/\(Str.ofString "right"=Str.ofString "swap")=False/\(Str.ofString "right" == Str.ofString "swap")=false/\(Str.ofString "right"=Str.ofString "left")=False/\(Str.ofString "right" == Str.ofString "left")=false/\(Str.ofString "right"=Str.ofString "open")=False/\(Str.ofString "right" == Str.ofString "open")=false/\(Str.ofString "right"=Str.ofString "shut")=False/\(Str.ofString "right" == Str.ofString "shut")=false/\(Str.ofString "right"=Str.ofString "off")=False/\(Str.ofString "right" == Str.ofString "off")=false/\(Str.ofString "right"=Str.ofString "piece")=False/\(Str.ofString "right" == Str.ofString "piece")=false/\(Str.ofString "left"=Str.ofString "num")=False/\(Str.ofString "left" == Str.ofString "num")=false/\(Str.ofString "left"=Str.ofString "name")=False/\(Str.ofString "left" == Str.ofString "name")=false/\(Str.ofString "left"=Str.ofString "turn")=False/\(Str.ofString "left" == Str.ofString "turn")=false/\(Str.ofString "left"=Str.ofString "sum")=False/\(Str.ofString "left" == Str.ofString "sum")=false/\(Str.ofString "left"=Str.ofString "less")=False/\(Str.ofString "left" == Str.ofString "less")=false/\(Str.ofString "left"=Str.ofString "by")=False/\(Str.ofString "left" == Str.ofString "by")=false/\(Str.ofString "left"=Str.ofString "swap")=False/\(Str.ofString "left" == Str.ofString "swap")=false/\(Str.ofString "left"=Str.ofString "right")=False/\(Str.ofString "left" == Str.ofString "right")=false/\(Str.ofString "left"=Str.ofString "open")=False/\(Str.ofString "left" == Str.ofString "open")=false/\(Str.ofString "left"=Str.ofString "shut")=False/\(Str.ofString "left" == Str.ofString "shut")=false/\(Str.ofString "left"=Str.ofString "off")=False/\(Str.ofString "left" == Str.ofString "off")=false/\(Str.ofString "left"=Str.ofString "piece")=False/\(Str.ofString "left" == Str.ofString "piece")=false/\(Str.ofString "open"=Str.ofString "num")=False/\(Str.ofString "open" == Str.ofString "num")=false/\(Str.ofString "open"=Str.ofString "name")=False/\(Str.ofString "open" == Str.ofString "name")=false/\(Str.ofString "open"=Str.ofString "turn")=False/\(Str.ofString "open" == Str.ofString "turn")=false/\(Str.ofString "open"=Str.ofString "sum")=False/\(Str.ofString "open" == Str.ofString "sum")=false/\(Str.ofString "open"=Str.ofString "less")=False/\(Str.ofString "open" == Str.ofString "less")=false/\(Str.ofString "open"=Str.ofString "by")=False/\(Str.ofString "open" == Str.ofString "by")=false/\(Str.ofString "open"=Str.ofString "swap")=False/\(Str.ofString "open" == Str.ofString "swap")=false/\(Str.ofString "open"=Str.ofString "right")=False/\(Str.ofString "open" == Str.ofString "right")=false/\(Str.ofString "open"=Str.ofString "left")=False/\(Str.ofString "open" == Str.ofString "left")=false/\(Str.ofString "open"=Str.ofString "shut")=False/\(Str.ofString "open" == Str.ofString "shut")=false/\(Str.ofString "open"=Str.ofString "off")=False/\(Str.ofString "open" == Str.ofString "off")=false/\(Str.ofString "open"=Str.ofString "piece")=False/\(Str.ofString "open" == Str.ofString "piece")=false/\(Str.ofString "shut"=Str.ofString "num")=False/\(Str.ofString "shut" == Str.ofString "num")=false/\(Str.ofString "shut"=Str.ofString "name")=False/\(Str.ofString "shut" == Str.ofString "name")=false/\(Str.ofString "shut"=Str.ofString "turn")=False/\(Str.ofString "shut" == Str.ofString "turn")=false/\(Str.ofString "shut"=Str.ofString "sum")=False/\(Str.ofString "shut" == Str.ofString "sum")=false/\(Str.ofString "shut"=Str.ofString "less")=False/\(Str.ofString "shut" == Str.ofString "less")=false/\(Str.ofString "shut"=Str.ofString "by")=False/\(Str.ofString "shut" == Str.ofString "by")=false/\(Str.ofString "shut"=Str.ofString "swap")=False/\(Str.ofString "shut" == Str.ofString "swap")=false/\(Str.ofString "shut"=Str.ofString "right")=False/\(Str.ofString "shut" == Str.ofString "right")=false/\(Str.ofString "shut"=Str.ofString "left")=False/\(Str.ofString "shut" == Str.ofString "left")=false/\(Str.ofString "shut"=Str.ofString "open")=False/\(Str.ofString "shut" == Str.ofString "open")=false/\(Str.ofString "shut"=Str.ofString "off")=False/\(Str.ofString "shut" == Str.ofString "off")=false/\(Str.ofString "shut"=Str.ofString "piece")=False/\(Str.ofString "shut" == Str.ofString "piece")=false/\(Str.ofString "off"=Str.ofString "num")=False/\(Str.ofString "off" == Str.ofString "num")=false/\(Str.ofString "off"=Str.ofString "name")=False/\(Str.ofString "off" == Str.ofString "name")=false/\(Str.ofString "off"=Str.ofString "turn")=False/\(Str.ofString "off" == Str.ofString "turn")=false/\(Str.ofString "off"=Str.ofString "sum")=False/\(Str.ofString "off" == Str.ofString "sum")=false/\(Str.ofString "off"=Str.ofString "less")=False/\(Str.ofString "off" == Str.ofString "less")=false/\(Str.ofString "off"=Str.ofString "by")=False/\(Str.ofString "off" == Str.ofString "by")=false/\(Str.ofString "off"=Str.ofString "swap")=False/\(Str.ofString "off" == Str.ofString "swap")=false/\(Str.ofString "off"=Str.ofString "right")=False/\(Str.ofString "off" == Str.ofString "right")=false/\(Str.ofString "off"=Str.ofString "left")=False/\(Str.ofString "off" == Str.ofString "left")=false/\(Str.ofString "off"=Str.ofString "open")=False/\(Str.ofString "off" == Str.ofString "open")=false/\(Str.ofString "off"=Str.ofString "shut")=False/\(Str.ofString "off" == Str.ofString "shut")=false/\(Str.ofString "off"=Str.ofString "piece")=False/\(Str.ofString "off" == Str.ofString "piece")=false/\(Str.ofString "piece"=Str.ofString "num")=False/\(Str.ofString "piece" == Str.ofString "num")=false/\(Str.ofString "piece"=Str.ofString "name")=False/\(Str.ofString "piece" == Str.ofString "name")=false/\(Str.ofString "piece"=Str.ofString "turn")=False/\(Str.ofString "piece" == Str.ofString "turn")=false/\(Str.ofString "piece"=Str.ofString "sum")=False/\(Str.ofString "piece" == Str.ofString "sum")=false/\(Str.ofString "piece"=Str.ofString "less")=False/\(Str.ofString "piece" == Str.ofString "less")=false/\(Str.ofString "piece"=Str.ofString "by")=False/\(Str.ofString "piece" == Str.ofString "by")=false/\(Str.ofString "piece"=Str.ofString "swap")=False/\(Str.ofString "piece" == Str.ofString "swap")=false/\(Str.ofString "piece"=Str.ofString "right")=False/\(Str.ofString "piece" == Str.ofString "right")=false/\(Str.ofString "piece"=Str.ofString "left")=False/\(Str.ofString "piece" == Str.ofString "left")=false/\(Str.ofString "piece"=Str.ofString "open")=False/\(Str.ofString "piece" == Str.ofString "open")=false/\(Str.ofString "piece"=Str.ofString "shut")=False/\(Str.ofString "piece" == Str.ofString "shut")=false/\(Str.ofString "piece"=Str.ofString "off")=False/\(Str.ofString "piece" == Str.ofString "off")=false:=⟨IW,JZ,Jh,Hd,Lp,LP,JM,Hf,Pa,Pw,JE,Jy,Eb,FI,Kv,Hy,HF,Ks,JI,G0,Nv,Mr,DK,Ey,IQ,Ih,FN,DA,Jq,Kp,EV,FT,Mf,Me,EH,FA,CK,AO,Fu,EC,E3,Fb,DV,DO,IZ,HL,BC,BH,Hk,IU,EX,ET,J8,Ik,Ea,Fn,KG,Ll,DE,DY,AE,A7,EM,DU,D6,DI,FD,Fv,Hc,G2,CY,B7,K9,Mv,Jl,G1,Km,Kx,Jr,Ki,N7,OA,JC,Kc,E5,Eh,Kl,Ie,Ic,JN,J4,Hm,KW,Mk,Fm,EU,Hi,Kt,EA,Dl,Ds,El,Hh,Iv,LQ,Ml,Dq,Fs,CW,Di,Fg,Ef,Dv,EK,ER,E2,He,Jd,BY,AV,OO,Px,LU,Nt,Ma,LG,OU,O0,MD,KC,NB,Lb,G5,G3,Lz,Nx,Lk,Nl,K0,KA,NS,OP,Js,JU,Iu,HG,Fd,Eo,FE,DG,HV,HX,E9,FK,KP,Mu,AR,Bl,Ep,EB,FU,Dw,ED,Du,IA,IC,AH,CC,DS,E7,C0,Bn,CO,A1,Fo,Fw,Ca,BQ,JF,IG,A8,AS,BM,AJ,Be,AZ,CB,BA,Fz,DD,Ac,An,Jv,HZ,Dn,Dp,Fh,Dy,Ig,IE,E4,Dm,MV,MA,Eu,FC,Br,Bu,E1,FL,Dt,Es,Hu,Ji,Bh,BR,Jz,Ht,Ft,FO,EL,Ff,IT,Ip,Ee,Em,Nd,MS,D3,EY,B5,Bq,DH,Ec,DB,Ei,Ho,HB,BL,Bi,HR,Iz,D7,D8,DX,oO,Kn,J6,Ed,Dz,MR,Lu,DQ,D4,Bz,AL,EW,Fi,FQ,Ek,Hg,JB,CF,BK,LW,Mp,Hx,Ir,Jj,HP,LC,Lg,HD,Io,OW,Ox,JL,Ib,DL,E6,G9,ID,J9,HQ,IV,HI,Ex,FR,EN,Et,BX,BO,C4,B0,Ej,Fc,BD,BP,Jf,J5,AG,CU,Ah,Aj,AI,Bw,C5,CG,CP,Ce,EG,FV⟩
theorem small {n:Nat} (h:n<=100000):n<=sizeLine:=Nat.le_trans h (by decide)
theorem big {k:Nat} (h:k < 100000):k < sizeLine:=Nat.lt_of_lt_of_le h (by decide)
theorem pX (x y:Str):(x++y).cps.toList=x.cps.toList++y.cps.toList:=by
 show (x.cps++y.cps).toList=_
 simp
theorem S7 {n:Nat} (h:n<=100000):(n<=sizeLine)=True:=eq_true (small h)
theorem xZ {neg:Bool} {i j:Int} {M:aI} {Q:UK}:jQ neg (.int i) (.int j) M Q=Q (.bl (if neg then !decide (i=j) else decide (i=j))) M:=rfl
theorem yQ {neg:Bool} {i j:Str} {M:aI} {Q:UK}:jQ neg (.str i) (.str j) M Q=Q (.bl (if neg then !decide (i=j) else decide (i=j))) M:=rfl
theorem aU {u v:US} {D:kW} {τ:SU} {M:aI} (h:∀ V:SU->aI->Prop,V=v D->u { D with nx:=V } τ M):qX u v D τ M:=h _ rfl
theorem cG {c:UT} {t u:US} {D:kW} {τ:SU} {M:aI} (h:∀ A B:aI->Prop,A=t D τ->B=u D τ->c τ M fun b M1=>if b=true then A M1 else B M1):uL c t u D τ M:=h _ _ rfl rfl
noncomputable def lA:cX:=fun us M Q=>∃ (z:Str) (r:List U) (b:Bool),us=[.tup (.str z :: r)]/\(cY dZ z).isSome=b/\r.length<=1000/\Q (.tup (if b then r else [])) M
def zzS (s : String) : Lean.MacroM (Array (Lean.TSyntax `Lean.Parser.Tactic.simpLemma)) := (s.splitOn " ").toArray.mapM fun n => `(Lean.Parser.Tactic.simpLemma| $(Lean.mkIdent n.toName):ident)
local macro_rules | `(tactic| simp! only [$xs,*] $[$l]?) => do `(tactic| simp only [$xs,*, $(← zzS "Bool.false_eq_true Bool.not_false Bool.not_true List.append_nil List.cons_append List.getElem?_cons_succ List.getElem?_cons_zero List.length_cons List.length_nil List.map_cons List.map_nil List.nil_append List.replicate List.set_cons_succ List.set_cons_zero Nat.add_sub_cancel Nat.reduceAdd Nat.reduceLeDiff Nat.reduceSub Nat.sub_self Option.getD_some Option.some.injEq and_true Mm M7 at2 LN uW Pu wZ oE nZ oK vY u0 u7 mD GN GH Gr Lm dQ decide_false decide_true xZ yQ exists_eq_left' if_false if_true yS fL eC eG eS eF eU d9 gO gX iW g6 iO fS gT gR iH gU iN fQ iX iP j3 iJ j1 g0 gZ gL iQ gM iR fN iL iK jZ iU jS gP fO fR gS fP gQ fC items fK kI r0 kH sN Cz kQ bZ aX reduceCtorEq eP S7 true_and oH nW vH fE y8 vI uC sR qW o7 lV lR qJ CQ BE uI oY BZ wV rV qD rB uK m8 sQ uR yK A4 oP lJ vE v9 q8 eQ CH B6 qK Cs qZ vZ uO mQ u4 sF CA jR BS pP m4 nD nF lX nI nE"),*] $[$l]?)
local macro_rules | `(tactic| simp? only [$xs,*] $[$l]?) => `(tactic| simp! only [$xs,*, lQ, hName, oF, lK, aD, aE, bQ, vM, AB, gH, uL, b7, cE, Ay, qX, vX] $[$l]?)
theorem Ez (F:b9 K "parts_of" "parts_of" jK f fd) (hm:mg "parts_of"=some (.ref f)) (lL:qH P w K d dZ) (lC:mg "SIGNS"=some (.ref d)):Callee P w K mg base 1 "parts_of" lA []:=by
 refine bL F hm DT (fY fun _ _ _ _ _ _ _=>rfl) (aJ (aZ (sW (bV (F8 lL) (aQ (uv 0) aK) (rP lC)) (fT (own:=false) (uv 0) (eJ aK) eM) (aW aB)))) ?_
 rintro us M Q ⟨z,r,b,rfl,hb,hl,q⟩
 refine ⟨rfl,?_⟩
 simp? only [hb]
 cases b with
 | true =>
  simp? only [vL]
  exact aO q
 | false =>
  simp? only [true_and]
  exact aO q
theorem N2 (F:b9 K "parts" "parts" mU f fd) (hm:mg "parts"=some (.ref f)) (qC:Callee P w K mg base 1 "parts_of" lA []):Callee P w K mg base 2 "parts" lA []:=by
 refine bL F hm NZ (fY fun _ _ _ _ _ _ _=>rfl) (aJ (aZ (aV qC (aA (uv 0) aB)))) ?_
 rintro us M Q ⟨z,r,b,rfl,hb,hl,q⟩
 refine ⟨rfl,?_⟩
 simp? only [true_and]
 exact ⟨z,r,b,rfl,hb,hl,aO q⟩
noncomputable def eV:Tr->Option Tr
 | .two .sum a b=>some (.two .sum b a)
 | .two .by_ a b=>some (.two .by_ b a)
 | _=>none
noncomputable def cI:Tr->Option Tr
 | .two .sum (.two .sum a b) c=>some (.two .sum a (.two .sum b c))
 | .two .by_ (.two .by_ a b) c=>some (.two .by_ a (.two .by_ b c))
 | _=>none
noncomputable def dU:Tr->Option Tr
 | .two .sum a (.two .sum b c)=>some (.two .sum (.two .sum a b) c)
 | .two .by_ a (.two .by_ b c)=>some (.two .by_ (.two .by_ a b) c)
 | _=>none
noncomputable def fA:Tr->Option Tr
 | .two .less a b=>some (.two .sum a (.turn b))
 | _=>none
noncomputable def eH:Tr->Option Tr
 | .two .sum a (.turn b)=>some (.two .less a b)
 | _=>none
noncomputable def jO:Tr->Option Tr
 | .turn (.turn a)=>some a
 | _=>none
noncomputable def sJ:Option Tr->U
 | some t=>t.toU
 | none=>.non
noncomputable def mH (g:Tr->Option Tr):cX:=fun us M Q=>∃ t:Tr,us=[t.toU]/\Q (sJ (g t)) M
local macro_rules | `(tactic| dsimp! only [$xs,*] $[$l]?) => do `(tactic| simp only [$xs,*, $(← zzS "Bool.and_self Bool.and_true Bool.false_eq_true Bool.false_or Bool.not_false Bool.not_true Bool.or_false Bool.or_self Bool.or_true Bool.true_or List.all_cons List.all_nil List.any_cons List.any_nil List.append_nil List.cons_append List.getElem?_cons_succ List.getElem?_cons_zero List.length_cons List.length_nil List.map_cons List.map_nil List.nil_append List.replicate List.set_cons_succ List.set_cons_zero Nat.add_sub_cancel Nat.reduceAdd Nat.reduceLeDiff Nat.reduceSub Nat.sub_self Op.word Option.getD_some Option.some.injEq Tr.toU and_true Mm M7 at2 LN uW Pu wZ oE nZ oK vY u0 u7 mD beq_self_eq_true GN GH Gr Lm dQ decide_false decide_true mZ xZ yQ exists_eq_left' fM lQ hName oF lK if_false if_true yS fL aD eC eG eS eF eU d9 gO gX iW g6 iO fS gT gR iH gU iN fQ iX iP j3 iJ j1 g0 gZ gL iQ gM iR fN iL iK jZ iU jS gP fO fR gS fP gQ fC items fK kI r0 kH sN Cz kQ bZ aX sJ reduceCtorEq eP S7 true_and aE oH nW vH fE bQ y8 vI vM uC sR qW o7 lV lR AB gH qJ CQ BE uI oY BZ uL wV rV qD rB uK m8 sQ uR yK A4 b7 oP lJ vE v9 q8 eQ CH B6 qK cE Ay Cs qZ vZ qX vX uO mQ u4 sF CA jR BS pP m4 nD nF lX nI nE wx"),*] $[$l]?)
theorem xO (F:b9 K "turned_about" "turned_about" eK f fd) (hm:mg "turned_about"=some (.ref f)):Callee P w K mg base 1 "turned_about" (mH eV) []:=by
 refine bL F hm xC (fY fun _ _ _ _ _ _ _=>rfl) (aJ (aZ (sW (bV U3 (aQ (uv 0) aK) (aW (aA bR (aA bR aB)))) (aW (aA (aQ (uv 0) aK) (aA (aQ (uv 0) aK) (aA (aQ (uv 0) aK) aB)))) nS))) ?_
 rintro us M Q ⟨t,rfl,q⟩
 refine ⟨rfl,?_⟩
 cases t with
 | num n=>(dsimp! only [eV] at q ⊢;exact aO q)
 | name x=>(dsimp! only [eV] at q ⊢;exact aO q)
 | turn a=>(dsimp! only [eV] at q ⊢;exact aO q)
 | two o a b=>cases o <;> (dsimp! only [eV] at q ⊢;exact aO q)
theorem xA (F:b9 K "to_the_right" "to_the_right" eL f fd) (hm:mg "to_the_right"=some (.ref f)):Callee P w K mg base 1 "to_the_right" (mH cI) []:=by
 refine bL F hm wN (fY fun _ _ _ _ _ _ _=>rfl) (aH (bX (g9.pt (jG (bV yO (aQ (uv 0) aK) (aW (aA bR (aA bR aB)))) (jY (bV tK (aQ (aQ (uv 0) aK) aK) (aQ (uv 0) aK)))))
 (aJ (aZ nS))
 bH)
 (aJ (aZ (aW (aA (aQ (uv 0) aK) (aA (aQ (aQ (uv 0) aK) aK) (aA (aW (aA (aQ (uv 0) aK) (aA (aQ (aQ (uv 0) aK) aK) (aA (aQ (uv 0) aK) aB)))) aB))))))) ?_
 rintro us M Q ⟨t,rfl,q⟩
 refine ⟨rfl,?_⟩
 cases t with
 | num n=>(dsimp! only [cI] at q ⊢;exact aO q)
 | name x=>(dsimp! only [cI] at q ⊢;exact aO q)
 | turn a=>(dsimp! only [cI] at q ⊢;exact aO q)
 | two o a b=>cases o <;> cases a <;> first | (dsimp! only [cI] at q ⊢;exact aO q) | (rename_i o2 _ _;cases o2 <;> (dsimp! only [cI] at q ⊢;exact aO q))
theorem yY (F:b9 K "to_the_left" "to_the_left" eX f fd) (hm:mg "to_the_left"=some (.ref f)):Callee P w K mg base 1 "to_the_left" (mH dU) []:=by
 refine bL F hm y0 (fY fun _ _ _ _ _ _ _=>rfl) (aH (bX (g9.pt (jG (bV yO (aQ (uv 0) aK) (aW (aA bR (aA bR aB)))) (jY (bV tK (aQ (aQ (uv 0) aK) aK) (aQ (uv 0) aK)))))
 (aJ (aZ nS))
 bH)
 (aJ (aZ (aW (aA (aQ (uv 0) aK) (aA (aW (aA (aQ (uv 0) aK) (aA (aQ (uv 0) aK) (aA (aQ (aQ (uv 0) aK) aK) aB)))) (aA (aQ (aQ (uv 0) aK) aK) aB))))))) ?_
 rintro us M Q ⟨t,rfl,q⟩
 refine ⟨rfl,?_⟩
 cases t with
 | num n=>(dsimp! only [dU] at q ⊢;exact aO q)
 | name x=>(dsimp! only [dU] at q ⊢;exact aO q)
 | turn a=>(dsimp! only [dU] at q ⊢;exact aO q)
 | two o a b=>cases o <;> cases b <;> first | (dsimp! only [dU] at q ⊢;exact aO q) | (rename_i o2 _ _;cases o2 <;> (dsimp! only [dU] at q ⊢;exact aO q))
theorem yR (F:b9 K "opened_less" "opened_less" eY f fd) (hm:mg "opened_less"=some (.ref f)):Callee P w K mg base 1 "opened_less" (mH fA) []:=by
 refine bL F hm xU (fY fun _ _ _ _ _ _ _=>rfl) (aJ (aZ (sW (bV cM (aQ (uv 0) aK) bR) (aW (aA bR (aA (aQ (uv 0) aK) (aA (aW (aA bR (aA (aQ (uv 0) aK) aB))) aB)))) nS))) ?_
 rintro us M Q ⟨t,rfl,q⟩
 refine ⟨rfl,?_⟩
 cases t with
 | num n=>(dsimp! only [fA] at q ⊢;exact aO q)
 | name x=>(dsimp! only [fA] at q ⊢;exact aO q)
 | turn a=>(dsimp! only [fA] at q ⊢;exact aO q)
 | two o a b=>cases o <;> (dsimp! only [fA] at q ⊢;exact aO q)
theorem BN (F:b9 K "shut_turn" "shut_turn" iB f fd) (hm:mg "shut_turn"=some (.ref f)):Callee P w K mg base 1 "shut_turn" (mH eH) []:=by
 refine bL F hm B9 (fY fun _ _ _ _ _ _ _=>rfl) (aJ (aZ (sW (g9.pt (nO (bV cM (aQ (uv 0) aK) bR) (kZ (bV cM (aQ (aQ (uv 0) aK) aK) bR)))) (aW (aA bR (aA (aQ (uv 0) aK) (aA (aQ (aQ (uv 0) aK) aK) aB)))) nS))) ?_
 rintro us M Q ⟨t,rfl,q⟩
 refine ⟨rfl,?_⟩
 cases t with
 | num n=>(dsimp! only [eH] at q ⊢;exact aO q)
 | name x=>(dsimp! only [eH] at q ⊢;exact aO q)
 | turn a=>(dsimp! only [eH] at q ⊢;exact aO q)
 | two o a b=>cases o <;> cases b <;> first | (dsimp! only [eH] at q ⊢;exact aO q) | (rename_i o2 _ _;cases o2 <;> (dsimp! only [eH] at q ⊢;exact aO q))
theorem vK (F:b9 K "without_turns" "without_turns" eB f fd) (hm:mg "without_turns"=some (.ref f)):Callee P w K mg base 1 "without_turns" (mH jO) []:=by
 refine bL F hm uS (fY fun _ _ _ _ _ _ _=>rfl) (aJ (aZ (sW (g9.pt (nO (bV cM (aQ (uv 0) aK) bR) (kZ (bV cM (aQ (aQ (uv 0) aK) aK) bR)))) (aQ (aQ (uv 0) aK) aK) nS))) ?_
 rintro us M Q ⟨t,rfl,q⟩
 refine ⟨rfl,?_⟩
 cases t with
 | num n=>(dsimp! only [jO] at q ⊢;exact aO q)
 | name x=>(dsimp! only [jO] at q ⊢;exact aO q)
 | turn a=>cases a <;> first | (dsimp! only [jO] at q ⊢;exact aO q) | (rename_i o2 _ _;cases o2 <;> (dsimp! only [jO] at q ⊢;exact aO q))
 | two o a b=>cases o <;> (dsimp! only [jO] at q ⊢;exact aO q)
noncomputable def Tr.at:Tr->List Nat->Option Tr
 | t,[]=>some t
 | .turn a,0 :: r=>a.at r
 | .two _ a _,0 :: r=>a.at r
 | .two _ _ b,1 :: r=>b.at r
 | _,_=>none
theorem cH (t:Tr):t.at []=some t:=by cases t <;> rfl
theorem lY:∀ (t:Tr) (p e:List Nat) (t':Tr),t.at p=some t'->t.at (p++e)=t'.at e
 | t,[],e,t',h=>by rw [cH] at h;cases h;rfl
 | .turn a,0 :: r,e,t',h=>lY a r e t' h
 | .two _ a b,0 :: r,e,t',h=>lY a r e t' h
 | .two _ a b,1 :: r,e,t',h=>lY b r e t' h
 | .turn _,(n + 1) :: r,_,_,h=>by simp [Tr.at] at h
 | .two _ _ _,(n + 2) :: r,_,_,h=>by simp [Tr.at] at h
 | .num _,n :: r,_,_,h=>by simp [Tr.at] at h
 | .name _,n :: r,_,_,h=>by simp [Tr.at] at h
inductive Wo where
 | swap | right | left | open_ | shut | off
noncomputable def Wo.word:Wo->Str
 | .swap=>"swap" | .right=>"right" | .left=>"left" | .open_=>"open" | .shut=>"shut" | .off=>"off"
noncomputable def Wo.chg:Wo->Tr->Option Tr
 | .swap=>eV | .right=>cI | .left=>dU | .open_=>fA | .shut=>eH | .off=>jO
noncomputable def zE:cX:=fun us M Q=>∃ (t:Tr) (o:Wo),us=[t.toU,.str o.word]/\Q (sJ (o.chg t)) M
theorem Iw (F:b9 K "changed" "changed" kD f fd) (hm:mg "changed"=some (.ref f)) (yZ:Callee P w K mg base 1 "turned_about" (mH eV) []) (yD:Callee P w K mg base 1 "to_the_right" (mH cI) []) (Au:Callee P w K mg base 1 "to_the_left" (mH dU) []) (Ab:Callee P w K mg base 1 "opened_less" (mH fA) []) (D5:Callee P w K mg base 1 "shut_turn" (mH eH) []) (vP:Callee P w K mg base 1 "without_turns" (mH jO) []):Callee P w K mg base 2 "changed" zE []:=by
 refine bL F hm Jp (rD fun _ _ _ _ _ _ _ _=>rfl) (aH (bX (bV cM (uv 1) bR)
 (aJ (aZ (aV yZ (aA (uv 0) aB))))
 bH)
 (aH (bX (bV cM (uv 1) bR)
 (aJ (aZ (aV yD (aA (uv 0) aB))))
 bH)
 (aH (bX (bV cM (uv 1) bR)
 (aJ (aZ (aV Au (aA (uv 0) aB))))
 bH)
 (aH (bX (bV cM (uv 1) bR)
 (aJ (aZ (aV Ab (aA (uv 0) aB))))
 bH)
 (aH (bX (bV cM (uv 1) bR)
 (aJ (aZ (aV D5 (aA (uv 0) aB))))
 bH)
 (aJ (aZ (aV vP (aA (uv 0) aB))))))))) ?_
 rintro us M Q ⟨t,o,rfl,q⟩
 refine ⟨rfl,?_⟩
 cases o <;> (simp? only [Wo.word,Wo.chg,wx,mZ,fM,List.all_cons,List.all_nil,List.any_cons,List.any_nil,beq_self_eq_true,Bool.or_false,Bool.or_true,Bool.and_true,Bool.true_or,Bool.false_or,Bool.and_self,Bool.or_self] at q ⊢;exact ⟨t,rfl,aO q⟩)
noncomputable def bY:Tr->List Nat->Tr->Tr
 | _,[],x=>x
 | .turn a,0 :: r,x=>.turn (bY a r x)
 | .two o a b,0 :: r,x=>.two o (bY a r x) b
 | .two o a b,1 :: r,x=>.two o a (bY b r x)
 | t,_,_=>t
theorem pH (t x:Tr):bY t [] x=x:=by cases t <;> rfl
noncomputable def UX (t:Tr) (k:Nat) (x:Tr):Tr:=match t,k with
 | .turn _,0=>.turn x
 | .two o _ b,0=>.two o x b
 | .two o a _,1=>.two o a x
 | t,_=>t
theorem Ba {t a:Tr} {k:Nat} (h:t.parts[k]?=some a) (r:List Nat) (x:Tr):bY t (k :: r) x=UX t k (bY a r x):=by
 cases t with
 | turn b =>
  match k,h with
  | 0,h=>cases h;rfl
  | k + 1,h=>simp [Tr.parts] at h
 | two o b c =>
  match k,h with
  | 0,h=>cases h;rfl
  | 1,h=>cases h;rfl
  | k + 2,h=>simp [Tr.parts] at h
 | num n=>simp [Tr.parts] at h
 | name x=>simp [Tr.parts] at h
theorem Uz (t:Tr) (k:Nat):t.at [k]=t.parts[k]?:=by
 cases t with
 | turn b=>match k with
  | 0=>simp [Tr.at,Tr.parts,cH]
  | k + 1=>simp [Tr.at,Tr.parts]
 | two o b c=>match k with
  | 0=>simp [Tr.at,Tr.parts,cH]
  | 1=>simp [Tr.at,Tr.parts,cH]
  | k + 2=>simp [Tr.at,Tr.parts]
 | num n=>simp [Tr.at,Tr.parts]
 | name x=>simp [Tr.at,Tr.parts]
theorem tI {t a:Tr} {p:List Nat} (ht:t.at p=some a):∀ i,i < p.length->∃ b c,t.at (p.take i)=some b/\t.at (p.take (i + 1))=some c/\b.parts[p[i]?.getD 0]?=some c:=by
 intro i hi
 have h1:p.take i++p.drop i=p:=List.take_append_drop i p
 have pre:∀ (q r:List Nat) (s:Tr),s.at (q++r)≠none->s.at q≠none:=by
  intro q
  induction q with
  | nil=>intro r s _;rw [cH];simp
  | cons k q ih =>
   intro r s h
   cases s with
   | turn b=>match k,h with
    | 0,h=>exact ih r b h
    | k + 1,h=>simp [Tr.at] at h
   | two o b c=>match k,h with
    | 0,h=>exact ih r b h
    | 1,h=>exact ih r c h
    | k + 2,h=>simp [Tr.at] at h
   | num n=>simp [Tr.at] at h
   | name x=>simp [Tr.at] at h
 have get:∀ j,∃ b,t.at (p.take j)=some b:=fun j=>by
  have:=pre (p.take j) (p.drop j) t (by rw [List.take_append_drop,ht];simp)
  exact Option.ne_none_iff_exists'.mp this
 obtain ⟨b,hb⟩:=get i
 obtain ⟨c,hc⟩:=get (i + 1)
 refine ⟨b,c,hb,hc,?_⟩
 have e:p.take (i + 1)=p.take i++[p[i]]:=by rw [List.take_add_one,List.getElem?_eq_getElem hi];rfl
 rw [e,lY t (p.take i) [p[i]] b hb,Uz] at hc
 rw [List.getElem?_eq_getElem hi]
 exact hc
theorem uM {t a:Tr} {k:Nat} (h:t.parts[k]?=some a):∃ z,t.toU=.tup (.str z :: t.parts.map Tr.toU)/\(cY dZ z).isSome=true/\t.parts.length<=2:=by
 cases t with
 | num n=>simp [Tr.parts] at h
 | name x=>simp [Tr.parts] at h
 | turn a=>exact ⟨"turn",rfl,by decide +kernel,by simp [Tr.parts]⟩
 | two o a b=>exact ⟨o.word,rfl,by cases o <;> decide +kernel,by simp [Tr.parts]⟩
noncomputable def Qd:cX:=fun us M Q=>∃ (t a x:Tr) (p:List Nat),us=[t.toU,bI p,x.toU]/\t.at p=some a/\p.length<=1000/\Q (bY t p x).toU M
theorem zR {xs:List U} {a:U}:dS (xs++[a]) (-1)=some a:=by
 unfold dS uB
 rw [if_neg (by omega),if_pos (by simp;omega)]
 have e:(-1 + ((xs++[a]).length:Int)).toNat=xs.length:=by simp;omega
 simp only [Option.bind_some]
 rw [e]
 simp
theorem tL {α:Type} (l:List α) (a b:Option Int):(dO l a b).length<=l.length:=by
 unfold dO
 rw [List.length_take,List.length_drop]
 omega
theorem F0 (t x:Tr) (k:Nat) {a:Tr} (h:t.parts[k]?=some a):∃ z,t.toU=.tup (.str z :: t.parts.map Tr.toU)/\(UX t k x).toU=.tup (dO (.str z :: t.parts.map Tr.toU) none (some (1 + (k:Int)))++[x.toU]++dO (.str z :: t.parts.map Tr.toU) (some (2 + (k:Int))) none):=by
 cases t with
 | num n=>simp [Tr.parts] at h
 | name x=>simp [Tr.parts] at h
 | turn a=>match k,h with
  | 0,h=>exact ⟨"turn",rfl,rfl⟩
  | k + 1,h=>simp [Tr.parts] at h
 | two o a b=>match k,h with
  | 0,h=>exact ⟨o.word,rfl,rfl⟩
  | 1,h=>exact ⟨o.word,rfl,rfl⟩
  | k + 2,h=>simp [Tr.parts] at h
theorem Mw (F:b9 K "put_at" "put_at" lG f fd) (hm:mg "put_at"=some (.ref f)) (Ci:mg "list"=none) (JT:mg "zip"=none) (pT:mg "reversed"=none) (tU:Callee P w K mg base 2 "parts" lA []):Callee P w K mg base 3 "put_at" Qd []:=by
 refine bL F hm iI (QA fun _ _ _ _ _ _ _ _ _=>rfl) (aH (bF 3 iI.nd (dB (own:=true) (aA (uv 0) aB)))
 (aH (fD (eD (uv 1)) (bW (k:=1000) 4 iI.nd)
 (aJ (hX (e8 (uv 3) (aA (aQ (aV tU (aA (aQ (uv 3) (xD aK)) aB)) (uv 4)) aB)))))
 (aH (bF 5 iI.nd (uv 2))
 (aH (fD (Fe pT (aA (Jm (own:=false) Ci JT (aA (uv 1) (aA (uv 3) aB))) aB)) (wJ (n:=2) (iT (bW (k:=1000) 4 iI.nd) (iT (bW (k:=1000) 6 iI.nd) tG)))
 (aJ (bF 5 iI.nd (bU (own:=false) (bU (own:=false) (fT (own:=false) (uv 6) eM (eJ (bU (own:=false) aK (uv 4)))) (aW (aA (uv 5) aB))) (fT (own:=false) (uv 6) (eJ (bU (own:=false) aK (uv 4))) eM)))))
 (aJ (aZ (uv 5))))))) ?_
 rintro us M Q ⟨t,a,x,p,rfl,ht,hpl,q⟩
 refine ⟨rfl,?_⟩
 have hst:=tI ht
 let ab:Nat->U:=fun i=>match t.at (p.take i) with | some b=>b.toU | none=>.non
 have ab0:ab 0=t.toU:=by show (match t.at (p.take 0) with | some b=>b.toU | none=>.non)=_;rw [List.take_zero,cH]
 have abS:∀ i b,t.at (p.take i)=some b->ab i=b.toU:=fun i b h=>by show (match t.at (p.take i) with | some b=>b.toU | none=>.non)=_;rw [h]
 refine aU fun V hV=>?_
 simp! only [bQ,hName,aE,aD]
 intro r hr
 subst hV
 refine aU fun V hV=>?_
 refine fX (S:=⟨none,p.map fun (n:Nat)=>U.int (n:Int)⟩) (M1:=mup M r (.lst [t.toU])) (fun R r=>by simp! only [bI,aE,aD];exact r)
  (fun i τ Mi=>∃ z4:Option U,τ=[some t.toU,some (bI p),some x.toU,some (.ref r),z4,none,none]/\Mi=mup M r (.lst ((List.range (i + 1)).map ab))) ⟨none,rfl,by rw [show List.range (0 + 1)=[0] from rfl];simp only [List.map_cons,List.map_nil,ab0]⟩ nk ?_ ?_
 ·rintro i u τ Mi e ⟨z4,rfl,rfl⟩
  have e':(p.map fun (n:Nat)=>U.int (n:Int))[i]?=some u:=e
  rw [List.getElem?_map] at e'
  cases hk:p[i]? with
  | none=>rw [hk] at e';cases e'
  | some k =>
   rw [hk] at e'
   cases e'
   have hi:=(List.getElem?_eq_some_iff.mp hk).1
   obtain ⟨b,c,hb,hc,hbc⟩:=hst i hi
   rw [hk] at hbc
   obtain ⟨z,hz,hsg,hl2⟩:=uM hbc
   have hrg:(List.range (i + 1)).map ab=(List.range i).map ab++[b.toU]:=by rw [List.range_succ,List.map_append,List.map_cons,List.map_nil,abS i b hb]
   have hrg2:(List.range (i + 1 + 1)).map ab=(List.range (i + 1)).map ab++[c.toU]:=by rw [List.range_succ (n:=i + 1),List.map_append,List.map_cons,List.map_nil,abS (i + 1) c hc]
   simp! only [gH,hName,aE,aD]
   have hat:dS (b.parts.map Tr.toU) (k:Int)=some c.toU:=dP (by rw [List.getElem?_map];rw [show b.parts[k]?=some c from hbc];rfl)
   refine ⟨⟨_,iM aX⟩,b.toU,by rw [hrg];exact zR,z,b.parts.map Tr.toU,true,by rw [hz],hsg,by rw [List.length_map];omega,?_⟩
   simp! only [hat,aE,aD]
   refine ⟨big (by rw [List.length_map,List.length_range];omega),_,rfl,?_⟩
   rw [hrg2]
 ·rintro τ Mi ⟨z4,rfl,rfl⟩
  show V _ _
  have hlen:(Src.mk none (p.map fun (n:Nat)=>U.int (n:Int))).xs.length=p.length:=by show (p.map _).length=_;rw [List.length_map]
  rw [hlen]
  have vr:view (mup M r (.lst ((List.range (p.length + 1)).map ab))) (.ref r)=.lst ((List.range (p.length + 1)).map ab):=iM aX
  generalize hMM:mup M r (.lst ((List.range (p.length + 1)).map ab))=MM at vr
  have hSub:Sub M MM:=by rw [<- hMM];exact (Sub.refl M).mup hr
  have hzg:∀ i,i < p.length->(fF (p.map fun (n:Nat)=>U.int (n:Int)) ((List.range (p.length + 1)).map ab))[i]?=some (.tup [.int ((p[i]?.getD 0:Nat):Int),ab i]):=fun i hi=>by
   rw [qM,List.getElem?_map]
   have:((p.map fun (n:Nat)=>U.int (n:Int)).zip ((List.range (p.length + 1)).map ab))[i]?=some (.int ((p[i]?.getD 0:Nat):Int),ab i):=by
    rw [List.getElem?_zip_eq_some]
    refine ⟨by rw [List.getElem?_map,List.getElem?_eq_getElem hi];rfl,by rw [List.getElem?_map,List.getElem?_range (by omega)];rfl⟩
   rw [this];rfl
  have hzl:(fF (p.map fun (n:Nat)=>U.int (n:Int)) ((List.range (p.length + 1)).map ab)).length=p.length:=by
   rw [wK,List.length_map,List.length_map,List.length_range];omega
  subst hV
  refine aU fun V hV=>?_
  simp! only [bQ,hName,aE,aD]
  subst hV
  refine aU fun V hV=>?_
  refine fX (S:=⟨none,(fF (p.map fun (n:Nat)=>U.int (n:Int)) ((List.range (p.length + 1)).map ab)).reverse⟩) (M1:=MM) (fun R r=>by simp! only [bI,vr,aE,aD];exact r)
   (fun i τ Mi=>∃ (z4 z6:Option U) (b:Tr),t.at (p.take (p.length - i))=some b/\τ=[some t.toU,some (bI p),some x.toU,some (.ref r),z4,some (bY b (p.drop (p.length - i)) x).toU,z6]/\Mi=MM) ⟨_,_,a,by rw [Nat.sub_zero,List.take_length];exact ht,by rw [Nat.sub_zero,List.drop_length,pH],rfl⟩ nk ?_ ?_
  ·rintro i u τ Mi e ⟨z4',z6,c,hc,rfl,rfl⟩
   have e':(fF (p.map fun (n:Nat)=>U.int (n:Int)) ((List.range (p.length + 1)).map ab)).reverse[i]?=some u:=e
   have hi:i < p.length:=by
    have:=(List.getElem?_eq_some_iff.mp e').1
    rw [List.length_reverse,hzl] at this;exact this
   rw [List.getElem?_reverse (by rw [hzl];exact hi),hzl,hzg _ (by omega)] at e'
   cases e'
   obtain ⟨b,c',hb,hc',hbc⟩:=hst (p.length - 1 - i) (by omega)
   have hidx:p.length - 1 - i + 1=p.length - i:=by omega
   rw [hidx,hc] at hc'
   cases hc'
   generalize hkk:p[p.length - 1 - i]?.getD 0=k at hbc
   obtain ⟨z,hz,hset⟩:=F0 b (bY c (p.drop (p.length - i)) x) k hbc
   have hl2:b.parts.length<=2:=(uM hbc).choose_spec.2.2
   have hdrop:p.drop (p.length - 1 - i)=k :: p.drop (p.length - i):=by
    rw [List.drop_eq_getElem_cons (show p.length - 1 - i < p.length by omega),hidx]
    congr 1
    rw [<- hkk,List.getElem?_eq_getElem (show p.length - 1 - i < p.length by omega)];rfl
   refine ⟨rfl,?_⟩
   simp! only [lK,lQ,oF,bQ,hName,abS _ b hb,hz,aE,aD]
   have c1:=tL (U.str z :: b.parts.map Tr.toU) none (some (1 + (k:Int)))
   have c2:=tL (U.str z :: b.parts.map Tr.toU) (some (2 + (k:Int))) none
   rw [List.length_cons,List.length_map] at c1 c2
   refine ⟨small (by omega),small (by rw [List.length_append,List.length_cons,List.length_nil];omega),some (.int (k:Int)),some (.tup (.str z :: b.parts.map Tr.toU)),b,by rw [show p.length - (i + 1)=p.length - 1 - i by omega];exact hb,?_⟩
   rw [show p.length - (i + 1)=p.length - 1 - i by omega,hdrop,Ba hbc,hset]
  ·rintro τ Mi ⟨z4',z6,b,hb,rfl,rfl⟩
   subst hV
   have hl:(Src.mk none (fF (p.map fun (n:Nat)=>U.int (n:Int)) ((List.range (p.length + 1)).map ab)).reverse).xs.length=p.length:=by show (List.reverse _).length=_;rw [List.length_reverse,hzl]
   rw [hl,Nat.sub_self,List.take_zero,cH] at hb
   cases hb
   simp! only [cE,hl,List.drop_zero,aE,aD]
   exact ⟨_,M,hSub,.inl rfl,q⟩
noncomputable def j2 (M:aI) (t r:Addr) (T R:List U):aI:=mup (mup M t (.lst T)) r (.lst R)
theorem W8 {M:aI} {t r:Addr} {T R:List U}:j2 M t r T R r=some (.lst R):=aX
mutual
noncomputable def Gh:U->Nat
 | .tup us=>Cy us
 | _=>0
noncomputable def Cy:List U->Nat
 | []=>0
 | _ :: r=>1 + yB r
noncomputable def yB:List U->Nat
 | []=>0
 | u :: r=>Gh u + yB r
end
theorem xY:∀ t:Tr,Gh t.toU=t.size
 | .num n=>by simp [Tr.toU,Gh,Cy,yB,Tr.size]
 | .name x=>by simp [Tr.toU,Gh,Cy,yB,Tr.size]
 | .turn a=>by simp [Tr.toU,Gh,Cy,yB,Tr.size,xY a];omega
 | .two o a b=>by simp [Tr.toU,Gh,Cy,yB,Tr.size,xY a,xY b];omega
noncomputable def GI:List Wo:=[.swap,.right,.left,.open_,.shut,.off]
noncomputable def jV (t:Tr) (e:List Nat × Tr):List (Wo × List Nat × Tr):=GI.filterMap fun o=>(o.chg e.2).map fun x=>(o,e.1,bY t e.1 x)
noncomputable def qA (k:Nat) (p:List Nat):List Tr->List (List Nat × Tr)
 | []=>[]
 | a :: r=>(p++[k],a) :: qA (k + 1) p r
noncomputable def cF (p:List Nat):Tr->List (List Nat × Tr)
 | .turn a=>(p,.turn a) :: cF (p++[0]) a
 | .two o a b=>(p,.two o a b) :: (cF (p++[0]) a++cF (p++[1]) b)
 | t=>[(p,t)]
theorem W4 (p:List Nat) (t:Tr):cF p t=(p,t) :: (qA 0 p t.parts).flatMap fun e=>cF e.1 e.2:=by
 cases t <;> simp [cF,Tr.parts,qA]
noncomputable def oJ (t:Tr):List (Wo × List Nat × Tr):=(cF [] t).flatMap (jV t)
noncomputable def Xb (e:List Nat × Tr):U:=.tup [bI e.1,e.2.toU]
noncomputable def eW (e:Wo × List Nat × Tr):U:=.tup [.tup [.str e.1.word,bI e.2.1],e.2.2.toU]
noncomputable def Xl (st:List (List Nat × Tr)):Nat:=(st.map fun e=>e.2.size).sum
theorem vQ (t:Tr):t.size=1 + (t.parts.map Tr.size).sum:=by cases t <;> simp [Tr.size,Tr.parts] <;> omega
theorem lB:∀ (t:Tr) (p:List Nat) (a:Tr),t.at p=some a->p.length < t.size
 | t,[],a,_=>by cases t <;> simp [Tr.size]
 | .turn b,0 :: r,a,h=>by have:=lB b r a h;simp only [Tr.size,List.length_cons];omega
 | .two _ b c,0 :: r,a,h=>by have:=lB b r a h;simp only [Tr.size,List.length_cons];omega
 | .two _ b c,1 :: r,a,h=>by have:=lB c r a h;simp only [Tr.size,List.length_cons];omega
 | .num _,_ :: _,a,h=>by simp [Tr.at] at h
 | .name _,_ :: _,a,h=>by simp [Tr.at] at h
 | .turn b,(k + 1) :: r,a,h=>by simp [Tr.at] at h
 | .two _ b c,(k + 2) :: r,a,h=>by simp [Tr.at] at h
theorem Ot (p:List Nat):∀ (l:List Tr) (k i:Nat) (a:Tr),l[i]?=some a->(qA k p l)[i]?=some (p++[k + i],a)
 | [],_,_,_,h=>by cases h
 | b :: r,k,0,a,h=>by cases h;rfl
 | b :: r,k,i + 1,a,h=>by
  show (qA (k + 1) p r)[i]?=_
  rw [Ot p r (k + 1) i a h,show k + 1 + i=k + (i + 1) by omega]
theorem PQ (p:List Nat):∀ (l:List Tr) (k:Nat),(qA k p l).length=l.length
 | [],_=>rfl
 | a :: r,k=>by simp only [qA,List.length_cons,PQ p r (k + 1)]
theorem Cf (t:Tr) (e:List Nat × Tr):(jV t e).length<=6:=List.length_filterMap_le _ _
theorem oW:∀ (t:Tr) (p:List Nat),(cF p t).length=t.size
 | .turn a,p=>by simp only [cF,List.length_cons,oW a,Tr.size]
 | .two o a b,p=>by simp only [cF,List.length_cons,List.length_append,oW a,oW b,Tr.size]
 | .num n,p=>rfl
 | .name x,p=>rfl
theorem A3 (t:Tr):∀ l:List (List Nat × Tr),(l.flatMap (jV t)).length<=6 * l.length
 | []=>by simp
 | e :: l=>by
  have h1:=A3 t l
  have h2:=Cf t e
  rw [List.flatMap_cons,List.length_append,List.length_cons];omega
noncomputable def rY:List Str:=GI.map Wo.word
noncomputable def zX:Str:="abcdefghijklmnopqrstuvwxyz"
noncomputable def isLetter (c:Nat):Bool:=!(Builtin.Str.occurrences zX ⟨#[c]⟩ 0 zX.length 1).isEmpty
noncomputable def isName:U->Bool
 | .str z=>decide (1<=z.length) && decide (z.length<=8) && z.cps.toList.all isLetter
 | _=>false
noncomputable def GJ:U->Prop
 | .str z=>z.length<=sizeLine
 | .ref _=>False
 | .ty _=>False
 | _=>True
noncomputable def Lc:cX:=fun us M Q=>∃ x,us=[x]/\GJ x/\Q (.bl (isName x)) M
theorem K3 {z:Str} {x:U} (h:x∈chars z):∃ c,x=.str ⟨#[c]⟩:=by
 obtain ⟨c,_,e⟩:=List.mem_map.mp h
 exact ⟨c,e.symm⟩
theorem KN (z:Str):(chars z).length=z.length:=by simp [chars,Str.length]
noncomputable def IJ:U->Option U
 | .str y=>some (.bl (!(Builtin.Str.occurrences zX y 0 zX.length 1).isEmpty))
 | _=>none
theorem UD:∀ l:List Nat,sH ((l.map fun c=>U.str ⟨#[c]⟩).filterMap IJ)=some (l.map isLetter)
 | []=>rfl
 | c :: r=>by
  have:=UD r
  simp only [List.map_cons,List.filterMap_cons,IJ] at this ⊢
  simp only [sH,this,Option.map_some]
  rfl
local macro_rules | `(tactic| simp_all! only [$xs,*]) => do `(tactic| simp only [$xs,*, $(← zzS "Bool.false_eq_true Bool.not_false Bool.not_true List.append_nil List.cons_append List.getElem?_cons_succ List.getElem?_cons_zero List.length_cons List.length_nil List.map_cons List.map_nil List.nil_append List.replicate List.set_cons_succ List.set_cons_zero Nat.add_sub_cancel Nat.reduceAdd Nat.reduceSub Nat.sub_self Option.some.injEq and_true Mm M7 at2 LN uW wZ oE nZ oK vY u0 u7 mD GN GH Gr Lm dQ decide_false decide_true zD exists_eq_left' lQ hName oF lK if_false if_true yS aD eC eG eS eF eU d9 gO gX iW g6 iO fS gT gR iH gU iN fQ iX iP j3 iJ j1 g0 gZ gL iQ gM iR fN iL iK jZ iU jS gP fO fR gS fP gQ fC items kI r0 kH sN kQ reduceCtorEq eP true_and aE oH nW vH bQ y8 vI vM uC sR qW o7 lV lR AB gH qJ HK BE jQ uI oY BZ uL wV rV qD rB sQ uR A4 b7 oP lJ vE v9 q8 eQ CH B6 qK cE Ay qZ vZ qX uO mQ u4 sF CA jR BS"),*])
theorem Hz {t1 t2:Tok} (F:b9 K "is_name" "is_name" kF f fd) (hm:mg "is_name"=some (.ref f)) (bT:mg "len"=none) (aP:mg "isinstance"=none) (tP:mg "str"=none) (Kh:mg "all"=none)
  (rX:mg "LETTERS"=some (.str zX t1)) (lN:mg "LONGEST_NAME"=some (.int 8 t2)):Callee P w K mg base 1 "is_name" Lc []:=by
 refine bL F hm JS (fY fun _ _ _ _ _ _ _=>rfl) (aH (bX (g9.pt (jG (gN (d8 (cQ fZ aP (aA (uv 0) (aA (gC (n:="str") tP) aB))))) (jY (gN (Qb u3 u3 aK (cQ gI bT (aA (uv 0) aB)) (w6 lN))))))
 (aJ (aZ lW))
 bH)
 (aJ (aZ (cQ VB Kh (aA (iD false ["sign"] 1 [] (eD (uv 0)) (bW (k:=1) 0 (by dsimp only [cJ];decide +kernel)) i8 (yT VD (uv 0) (Th rX))) aB))))) ?_
 rintro us M Q ⟨x,rfl,ok,q⟩
 refine ⟨rfl,?_⟩
 cases x with
 | str z =>
  simp_all! only [fL,fK,fE,view]
  refine ⟨ok,?_⟩
  simp only [isName] at q
  by_cases h1:1<=(z.length:Int)
  ·rw [if_pos (by simpa using h1)]
   by_cases h8:(z.length:Int)<=8
   ·rw [if_neg (by simp [h8])]
    refine Hw (S:=⟨none,chars z⟩) (M1:=M) (hw:=fun R r=>r) IJ (by rw [show (Src.mk none (chars z)).xs.length=z.length from KN z];exact ok) (fun a e=>by cases e) (fun x hx M' _ R r=>?_) ?_
    ·obtain ⟨c,rfl⟩:=K3 hx
     exact r
    ·show (match sH ((chars z).filterMap IJ) with | some bs=>iY Q (U.bl (bs.all fun b=>b)) M | none=>False)
     unfold chars
     rw [UD]
     refine aO ?_
     have e:((z.cps.toList.map isLetter).all fun b=>b)=(decide (1<=z.length) && decide (z.length<=8) && z.cps.toList.all isLetter):=by
      rw [decide_eq_true (show 1<=z.length by omega),decide_eq_true (show z.length<=8 by omega),List.all_map]
      rfl
     rw [e];exact q
   ·rw [if_pos (by simp [h8])]
    rw [decide_eq_false (show ¬ z.length<=8 by omega)] at q
    simp at q
    exact aO q
  ·rw [if_neg (by simpa using h1)]
   rw [decide_eq_false (show ¬ 1<=z.length by omega)] at q
   simp at q
   exact aO q
 | ref a=>exact ok.elim
 | ty a=>exact ok.elim
 | _=>simp_all! only [fL,fK,fE,view];exact aO q
noncomputable def AN:U->Bool
 | .int i=>decide (0<=i) && decide (i<=1000000000000000000)
 | _=>false
inductive LF:U->Bool->Prop
 | non:LF .non false
 | bl (b:Bool):LF (.bl b) false
 | int (i:Int):LF (.int i) false
 | str (z:Str):LF (.str z) false
 | lst (l:List U):LF (.lst l) false
 | tnil:LF (.tup []) false
 | tt (xs r:List U) (h:r.length=1->∀ (z:Str) (M:aI) (Q:UK),PyData.strOk z=true->Q (.bl false) M->jQ false (.tup xs) (.str z) M Q):LF (.tup (.tup xs :: r)) false
 | tl (xs r:List U) (h:r.length=1->∀ (z:Str) (M:aI) (Q:UK),PyData.strOk z=true->Q (.bl false) M->jQ false (.lst xs) (.str z) M Q):LF (.tup (.lst xs :: r)) false
 | word (z:Str) (r:List U) (h:cY dZ z=none\/∃ k:Nat,cY dZ z=some (.int k)/\r.length≠k) (h2:r.length=1->z≠Str.ofString "num"/\z≠Str.ofString "name"):LF (.tup (.str z :: r)) false
 | num (x:U) (h:GJ x):LF (.tup [.str (Str.ofString "num"),x]) (AN x)
 | name (x:U) (h:GJ x):LF (.tup [.str (Str.ofString "name"),x]) (isName x)
inductive G where
 | leaf (u:U) (b:Bool) | turn (a:G) | two (o:Op) (a b:G)
namespace G
noncomputable def toU:G->U
 | leaf u _=>u
 | turn a=>.tup [.str "turn",a.toU]
 | two o a b=>.tup [.str o.word,a.toU,b.toU]
noncomputable def size:G->Nat
 | leaf _ _=>1
 | turn a=>a.size + 1
 | two _ a b=>a.size + b.size + 1
noncomputable def dep:G->Nat
 | leaf _ _=>1
 | turn a=>a.dep + 1
 | two _ a b=>max a.dep b.dep + 1
noncomputable def fit:G->Bool
 | leaf _ b=>b
 | turn a=>a.fit
 | two _ a b=>a.fit && b.fit
noncomputable def wf:G->Prop
 | leaf u b=>LF u b
 | turn a=>a.wf
 | two _ a b=>a.wf/\b.wf
end G
noncomputable def uN:cX:=fun us M Q=>∃ u,us=[u]/\GJ u/\Q (.bl (match u with | .int _=>true | _=>false)) M
theorem DF (F:b9 K "is_whole" "is_whole" jI f fd) (hm:mg "is_whole"=some (.ref f)) (aP:mg "isinstance"=none) (tE:mg "int"=none) (o8:mg "bool"=none):Callee P w K mg base 1 "is_whole" uN []:=by
 refine bL F hm Fq (fY fun _ _ _ _ _ _ _=>rfl) (aJ (aZ (nJ (cQ fZ aP (aA (uv 0) (aA (gC (n:="int") tE) aB))) (pE (Na (cQ fZ aP (aA (uv 0) (aA (gC (n:="bool") o8) aB)))))))) ?_
 rintro us M Q ⟨u,rfl,ho,q⟩
 refine ⟨rfl,?_⟩
 cases u with
 | ref a=>exact ho.elim
 | ty a=>exact ho.elim
 | _=>simp_all! only [fL,fK,fE,view];exact aO q
noncomputable def AX:cX:=fun us M Q=>∃ u,us=[u]/\GJ u/\Q (.bl (AN u)) M
theorem AQ {t1:Tok} (F:b9 K "is_number" "is_number" iE f fd) (hm:mg "is_number"=some (.ref f)) (pK:mg "GREATEST"=some (.int 1000000000000000000 t1)) (qL:Callee P w K mg base 1 "is_whole" uN []):Callee P w K mg base 2 "is_number" AX []:=by
 refine bL F hm Cr (fY fun _ _ _ _ _ _ _=>rfl) (aJ (aZ (nJ (aV qL (aA (uv 0) aB)) (pE (VW u3 u3 aK (uv 0) (w6 pK)))))) ?_
 rintro us M Q ⟨u,rfl,ho,q⟩
 refine ⟨rfl,?_⟩
 simp_all! only [fL,fK,fE,view]
 refine ⟨u,rfl,ho,?_⟩
 cases u with
 | ref a=>exact ho.elim
 | ty a=>exact ho.elim
 | int i =>
  simp only [AN,dQ,lK,lQ,oF,jQ,HK,uR,wV,items,qJ,BS,kH,r0,Mm,M7,at2,LN,Option.some.injEq,exists_eq_left',true_and,and_true,y8,vI,kI,sN,o7,fL,fK,u0,u7,Lm,Gr,GH,GN,nW,eP,qX,uL,CH,vH,vE,u4,mQ,sR,lR,jR,uC,oP,b7,cE,Ay,bQ,hName,eQ,CA,lV,oY,uI,fE,B6,q8,BZ,sF,sQ,kQ,gH,qW,nZ,oK,uW,wZ,oE,vY,mD,view,aE,BE,A4,zD,rV,v9,aD,oH,rB,uO,lJ,qK,yS,qD,qZ,vZ,vM,AB,List.map_cons,List.map_nil,List.length_cons,List.length_nil,List.cons_append,List.nil_append,List.replicate,List.getElem?_cons_zero,List.getElem?_cons_succ,List.set_cons_zero,List.set_cons_succ,List.append_nil,Nat.reduceAdd,Nat.reduceSub,Nat.sub_self,Nat.add_sub_cancel,Bool.not_false,Bool.not_true,if_true,if_false,Bool.false_eq_true,reduceCtorEq,decide_true,decide_false,eC,eS,eU,d9,eF,eG,gO,iW,iO,fS,g6,gX,iX,j3,j1,g0,iJ,iP,iL,jZ,jS,gP,iU,iK,fO,gS,gQ,fC,fP,fR,gZ,iQ,iR,fN,gM,gL,gT,iH,iN,fQ,gU,gR] at q ⊢
  by_cases h:0<=i
  ·rw [if_pos (decide_eq_true h)]
   rw [decide_eq_true h,Bool.true_and] at q
   exact aO q
  ·rw [if_neg (by simpa using h)]
   rw [decide_eq_false h,Bool.false_and] at q
   exact aO q
 | _=>simp_all! only [fL,fK,fE,view];exact aO q
noncomputable def MP:cX:=fun us M Q=>∃ u,us=[u]/\((∃ b,LF u b/\Q (.bl false) M)\/(∃ (z:Str) (r:List U),u=.tup (.str z :: r)/\cY dZ z=some (.int (r.length:Nat))/\Q (.bl true) M))
theorem Ka (F:b9 K "is_sign" "is_sign" kA f fd) (hm:mg "is_sign"=some (.ref f)) (aP:mg "isinstance"=none) (bN:mg "tuple"=none) (bT:mg "len"=none) (tP:mg "str"=none) (lL:qH P w K d dZ) (lC:mg "SIGNS"=some (.ref d)):Callee P w K mg base 1 "is_sign" MP []:=by
 refine bL F hm J0 (fY fun _ _ _ _ _ _ _=>rfl) (aH (bX (g9.pt (jG (gN (d8 (cQ fZ aP (aA (uv 0) (aA (gC (n:="tuple") bN) aB))))) (jG (bV cM (cQ gI bT (aA (uv 0) aB)) aK) (jY (gN (d8 (cQ fZ aP (aA (aQ (uv 0) aK) (aA (gC (n:="str") tP) aB)))))))))
 (aJ (aZ lW))
 bH)
 (aJ (aZ (nJ (yT (F8 lL) (aQ (uv 0) aK) (rP lC)) (pE (yT cM (cQ gI bT (aA (uv 0) aB)) (bU (own:=false) aK (UW lL (rP lC) (aQ (uv 0) aK))))))))) ?_
 rintro us M Q ⟨u,rfl,h⟩
 refine ⟨rfl,?_⟩
 have hne:∀ n:Nat,decide (((n + 1:Nat):Int)=0)=false:=fun n=>decide_eq_false (by omega)
 have nn:cY dZ (Str.ofString "num")=none:=by decide +kernel
 have nm:cY dZ (Str.ofString "name")=none:=by decide +kernel
 have no:∀ (z:Str) (r:List U),cY dZ z=none->Q (.bl false) M->fE (eQ (fL d dZ false) (eQ rB (jR 0) (uC (U.int 0))) (uC (U.ref d))) (eQ (jQ false) (sR oK (lR (jR 0) oP)) (eQ (oH false) (uC (U.int 1)) (eQ (fK d dZ) (uC (U.ref d)) (eQ rB (jR 0) (uC (U.int 0)))))) [some (.tup (.str z :: r))] M (iY Q):=fun z r h q=>by
  simp_all! only [h,Option.isSome_none,fL,fK,fE,view]
  exact aO q
 have yes:∀ (z:Str) (r:List U) (k:Nat),cY dZ z=some (.int k)->Q (.bl (decide (r.length=k))) M->fE (eQ (fL d dZ false) (eQ rB (jR 0) (uC (U.int 0))) (uC (U.ref d))) (eQ (jQ false) (sR oK (lR (jR 0) oP)) (eQ (oH false) (uC (U.int 1)) (eQ (fK d dZ) (uC (U.ref d)) (eQ rB (jR 0) (uC (U.int 0)))))) [some (.tup (.str z :: r))] M (iY Q):=fun z r k h q=>by
  simp_all! only [h,Option.isSome_some,Fl.u,fL,fK,fE,view]
  refine aO ?_
  have e:decide (((r.length + 1:Nat):Int)=1 + (k:Int))=decide (r.length=k):=by
   by_cases e:r.length=k
   ·rw [decide_eq_true e];exact decide_eq_true (by omega)
   ·rw [decide_eq_false e];exact decide_eq_false (by omega)
  rw [e]
  exact q
 rcases h with ⟨b,hb,q⟩ | ⟨z,r,rfl,hz,q⟩
 ·cases hb with
  | word z r h h2 =>
   simp_all! only [hne,nF,pP,m4,nI,nE,nD,lX,aX,bZ]
   rcases h with h | ⟨k,h,hk⟩
   ·exact no z r h q
   ·exact yes z r k h (by rw [decide_eq_false hk];exact q)
  | num x h =>
   simp_all! only [hne,nF,pP,m4,nI,nE,nD,lX,aX,bZ]
   exact no _ _ nn q
  | name x h =>
   simp_all! only [hne,nF,pP,m4,nI,nE,nD,lX,aX,bZ]
   exact no _ _ nm q
  | tnil=>simp_all! only [show decide (((0:Nat):Int)=0)=true from rfl,fL,fK,fE,view];exact aO q
  | _=>simp_all! only [hne,fL,fK,fE,view];exact aO q
 ·simp_all! only [hne,nF,pP,m4,nI,nE,nD,lX,aX,bZ]
  exact yes z r r.length hz (by rw [decide_eq_true rfl];exact q)
noncomputable def yH:cX:=fun us M Q=>∃ u b,us=[u]/\LF u b/\Q (.bl b) M
local macro_rules | `(tactic| simp! only [$xs,*] $[$l]?) => do `(tactic| simp only [$xs,*, $(← zzS "Bool.false_eq_true Bool.not_false Bool.not_true List.append_nil List.cons_append List.getElem?_cons_succ List.getElem?_cons_zero List.length_cons List.length_nil List.map_cons List.map_nil List.nil_append List.replicate List.set_cons_succ List.set_cons_zero Nat.add_sub_cancel Nat.reduceAdd Nat.reduceLeDiff Nat.reduceSub Nat.sub_self Option.getD_some Option.some.injEq and_true Mm M7 at2 LN uW Pu wZ oE nZ oK vY u0 u7 mD GN GH Gr Lm dQ decide_false decide_true xZ yQ exists_eq_left' if_false if_true yS fL eC eG eS eF eU d9 gO gX iW g6 iO fS gT gR iH gU iN fQ iX iP j3 iJ j1 g0 gZ gL iQ gM iR fN iL iK jZ iU jS gP fO fR gS fP gQ fC items fK kI r0 kH sN Cz kQ bZ aX reduceCtorEq eP S7 true_and oH nW vH fE y8 vI uC sR qW o7 lV lR qJ CQ BE uI oY BZ wV rV qD rB uK m8 sQ uR yK A4 oP lJ vE v9 q8 eQ CH B6 qK Cs qZ vZ uO mQ u4 sF CA jR BS pP m4 nD nF lX nI nE"),*] $[$l]?)
theorem wO (F:b9 K "is_tree_leaf" "is_tree_leaf" eN f fd) (aP:mg "isinstance"=none) (bN:mg "tuple"=none) (bT:mg "len"=none) (FJ:Callee P w K mg base 2 "is_number" AX []) (ND:Callee P w K mg base 1 "is_name" Lc []):uQ P w K mg base 3 f yH:=by
 have h:dJ P w K mg base j4 3 f fd ["thing"] (fB K yH):=by
  refine Gk F xJ (fun us M Q h=>by obtain ⟨x,y,rfl,_⟩:=h;rfl) (aH (bX (g9.pt (jG (gN (d8 (cQ fZ aP (aA (uv 0) (aA (gC (n:="tuple") bN) aB))))) (jY (bV tK (cQ gI bT (aA (uv 0) aB)) aK))))
 (aJ (aZ lW))
 bH)
 (aH (bX (bV cM (aQ (uv 0) aK) bR)
 (aJ (aZ (aV FJ (aA (aQ (uv 0) aK) aB))))
 bH)
 (aJ (aZ (nJ (yT cM (aQ (uv 0) aK) bR) (pE (aV ND (aA (aQ (uv 0) aK) aB)))))))) ?_
  rintro us M Q ⟨u,b,rfl,hb,q⟩
  have hl:∀ n:Nat,(!decide (((n + 1:Nat):Int)=2))=!decide (n=1):=fun n=>by
   by_cases e:n=1
   ·subst e;rfl
   ·rw [decide_eq_false e,decide_eq_false (by omega)]
  have w1:decide (Str.ofString "num"=Str.ofString "num")=true:=by decide +kernel
  have w2:decide (Str.ofString "name"=Str.ofString "num")=false:=by decide +kernel
  have w3:decide (Str.ofString "name"=Str.ofString "name")=true:=by decide +kernel
  cases hb with
  | tnil=>simp? only [show (!decide (((0:Nat):Int)=2))=true from rfl];exact aO q
  | tt xs r h =>
   by_cases e:r.length=1
   ·simp? only [hl,e]
    refine h e _ _ _ (by decide +kernel) ?_
    simp? only [true_and]
    refine h e _ _ _ (by decide +kernel) ?_
    simp? only [true_and]
    exact aO q
   ·simp? only [hl,e]
    exact aO q
  | tl xs r h =>
   by_cases e:r.length=1
   ·simp? only [hl,e]
    refine h e _ _ _ (by decide +kernel) ?_
    simp? only [true_and]
    refine h e _ _ _ (by decide +kernel) ?_
    simp? only [true_and]
    exact aO q
   ·simp? only [hl,e]
    exact aO q
  | word z r h h2 =>
   by_cases e:r.length=1
   ·obtain ⟨n1,n2⟩:=h2 e
    simp? only [hl,e,n1,n2]
    exact aO q
   ·simp? only [hl,e]
    exact aO q
  | num x h =>
   simp? only [hl,w1]
   exact ⟨x,rfl,h,aO q⟩
  | name x h =>
   simp? only [hl,w2,w3]
   exact ⟨x,rfl,h,aO q⟩
  | _=>simp? only [true_and];exact aO q
 exact ⟨fd,_,h,F.kp,F.binds (fY fun _ _ _ _ _ _ _=>rfl)⟩
noncomputable def ent (x:G × Nat):U:=.tup [x.1.toU,.int (x.2:Nat)]
noncomputable def pB:List (G × Nat)->Nat
 | []=>0
 | x :: r=>x.1.size + pB r
theorem pF:∀ l r:List (G × Nat),pB (l++r)=pB l + pB r
 | [],_=>by simp [pB]
 | t :: l,r=>by simp [pB,pF l r];omega
noncomputable def VV (c:Nat) (st:List (G × Nat)):Prop:=c + pB st<=200/\(∀ x∈st,x.2 + x.1.dep<=41)/\∀ x∈st,x.1.fit=true
noncomputable def qT (g:G):Bool:=decide (g.size<=200) && (decide (g.dep<=40) && g.fit)
theorem CD (g:G):qT g=true ↔ VV 0 [(g,1)]:=by
 unfold qT VV
 simp only [Bool.and_eq_true,decide_eq_true_eq,pB,List.mem_cons,List.not_mem_nil,or_false,forall_eq]
 constructor
 ·rintro ⟨a,b,c⟩;exact ⟨by omega,by omega,c⟩
 ·rintro ⟨a,b,c⟩;exact ⟨by omega,by omega,c⟩
theorem QH {c d:Nat} {st:List (G × Nat)} {a:G}:VV (c + 1) (st++[(a,d + 1)]) ↔ VV c (st++[(G.turn a,d)]):=by
 unfold VV
 simp only [pF,pB,List.mem_append,List.mem_cons,List.not_mem_nil,or_false,G.size]
 constructor
 ·rintro ⟨h1,h2,h3⟩
  refine ⟨by omega,fun x hx=>?_,fun x hx=>?_⟩
  ·rcases hx with hx | rfl
   ·exact h2 x (.inl hx)
   ·have:=h2 (a,d + 1) (.inr rfl);simp only [G.dep] at this ⊢;omega
  ·rcases hx with hx | rfl
   ·exact h3 x (.inl hx)
   ·exact h3 (a,d + 1) (.inr rfl)
 ·rintro ⟨h1,h2,h3⟩
  refine ⟨by omega,fun x hx=>?_,fun x hx=>?_⟩
  ·rcases hx with hx | rfl
   ·exact h2 x (.inl hx)
   ·have:=h2 (G.turn a,d) (.inr rfl);simp only [G.dep] at this ⊢;omega
  ·rcases hx with hx | rfl
   ·exact h3 x (.inl hx)
   ·exact h3 (G.turn a,d) (.inr rfl)
theorem SX {c d:Nat} {st:List (G × Nat)} {a b:G} {o:Op}:VV (c + 1) (st++[(a,d + 1),(b,d + 1)]) ↔ VV c (st++[(G.two o a b,d)]):=by
 unfold VV
 simp only [pF,pB,List.mem_append,List.mem_cons,List.not_mem_nil,or_false,G.size]
 constructor
 ·rintro ⟨h1,h2,h3⟩
  refine ⟨by omega,fun x hx=>?_,fun x hx=>?_⟩
  ·rcases hx with hx | rfl
   ·exact h2 x (.inl hx)
   ·have e1:=h2 (a,d + 1) (.inr (.inl rfl));have e2:=h2 (b,d + 1) (.inr (.inr rfl));simp only [G.dep] at e1 e2 ⊢;omega
  ·rcases hx with hx | rfl
   ·exact h3 x (.inl hx)
   ·have e1:=h3 (a,d + 1) (.inr (.inl rfl));have e2:=h3 (b,d + 1) (.inr (.inr rfl));simp only [G.fit] at e1 e2 ⊢;rw [e1,e2];rfl
 ·rintro ⟨h1,h2,h3⟩
  have e1:=h2 (G.two o a b,d) (.inr rfl)
  have e2:=h3 (G.two o a b,d) (.inr rfl)
  simp only [G.dep,G.fit,Bool.and_eq_true] at e1 e2
  refine ⟨by omega,fun x hx=>?_,fun x hx=>?_⟩
  ·rcases hx with hx | rfl | rfl
   ·exact h2 x (.inl hx)
   ·simp only;omega
   ·simp only;omega
  ·rcases hx with hx | rfl | rfl
   ·exact h3 x (.inl hx)
   ·exact e2.1
   ·exact e2.2
theorem QI {c d:Nat} {st:List (G × Nat)} {u:U} (hd:d<=40):VV (c + 1) st ↔ VV c (st++[(G.leaf u true,d)]):=by
 unfold VV
 simp only [pF,pB,List.mem_append,List.mem_cons,List.not_mem_nil,or_false,G.size]
 constructor
 ·rintro ⟨h1,h2,h3⟩
  refine ⟨by omega,fun x hx=>?_,fun x hx=>?_⟩
  ·rcases hx with hx | rfl
   ·exact h2 x hx
   ·simp only [G.dep];omega
  ·rcases hx with hx | rfl
   ·exact h3 x hx
   ·rfl
 ·rintro ⟨h1,h2,h3⟩
  exact ⟨by omega,fun x hx=>h2 x (.inl hx),fun x hx=>h3 x (.inl hx)⟩
theorem RW {α:Type} (l:List α):l=[]\/∃ r x,l=r++[x]:=by
 rcases List.eq_nil_or_concat l with h | ⟨r,x,h⟩
 ·exact .inl h
 ·exact .inr ⟨r,x,by simpa using h⟩
noncomputable def GB (fl:Addr):cX:=fun us M Q=>∃ g:G,us=[g.toU,.ref fl,.int 200,.int 40]/\g.wf/\Q (.bl (qT g)) M
theorem Rw:cY dZ (Str.ofString "turn")=some (.int 1):=by kernel_rfl
theorem Va (o:Op):cY dZ o.word=some (.int 2):=by cases o <;> kernel_rfl
theorem E8 (F:b9 K "is_shape" "is_shape" jA f fd) (hm:mg "is_shape"=some (.ref f)) (LR:Callee P w K mg base 1 "is_sign" MP []) (A_is_leaf:uQ P w K mg base 3 fl yH):Callee P w K mg base 4 "is_shape" (GB fl) []:=by
 refine bL F hm fG (Tj fun _ _ _ _ _ _ _ _ _ _=>rfl) (aH (bF 4 fG.nd aK)
 (aH (bF 5 fG.nd (dB (own:=true) (aA (aW (aA (uv 0) (aA aK aB))) aB)))
 (aH (Df (d8 (uv 5))
 (aH (bF 6 fG.nd (Ta (uv 5)))
 (aH (bF 7 fG.nd (aQ (uv 6) aK))
 (aH (bF 8 fG.nd (aQ (uv 6) aK))
 (aH (bF 4 fG.nd (bU (own:=false) (uv 4) aK))
 (aH (bX (g9.pt (jG (bV Bt (uv 4) (uv 2)) (jY (bV Bt (uv 8) (uv 3)))))
 (aJ (aZ lW))
 bH)
 (aJ (bX (d8 (aV LR (aA (uv 7) aB)))
 (aJ (hX (Nm (uv 5) (aA (iD false ["part","depth"] 1 [8] (eD (fT (own:=false) (uv 7) (eJ aK) eM)) (bW (k:=1) 0 (by dsimp only [cJ];decide +kernel)) i8 (aW (aA (uv 0) (aA (bU (own:=false) (uv 1) aK) aB)))) aB))))
 (aJ (bX (gN (d8 (Pb 1 A_is_leaf (aA (uv 7) aB))))
 (aJ (aZ lW))
 bH))))))))))
 (aJ (aZ lW))))) ?_
 rintro us M Q ⟨g,rfl,hwf,q⟩
 refine ⟨rfl,?_⟩
 simp? only [true_and]
 refine fun p hp=>?_
 refine Bv (fun τ M'=>∃ (c:Nat) (st:List (G × Nat)) (e1 e2 e3:Option U),τ=[some g.toU,some (.ref fl),some (.int 200),some (.int 40),some (.int (c:Nat)),some (.ref p),e1,e2,e3]/\M'=mup M p (.lst (st.map ent))/\(∀ x∈st,x.1.wf)/\c<=200/\st.length<=c + 1/\(VV c st ↔ VV 0 [(g,1)]))
  (fun τ _=>match τ with | [_,_,_,_,some (.int c),_,_,_,_]=>201 - c.toNat | _=>0) ⟨0,[(g,1)],none,none,none,rfl,rfl,(fun x hx=>by cases List.mem_singleton.mp hx;exact hwf),by omega,by simp,Iff.rfl⟩ ?_
 rintro τ M' ⟨c,st,e1,e2,e3,rfl,rfl,hst,hc,hlen,hV⟩
 have no:¬ VV c st->Q (.bl false) M:=fun h=>by
  have:qT g=false:=by
   cases hv:qT g with
   | false=>rfl
   | true=>exact absurd (hV.mpr ((CD g).mp hv)) h
  rw [this] at q
  exact q
 have fin:∀ us,iY Q (.bl false) (mup M p (.lst us)) ↔ iY Q (.bl false) (mup M p (.lst us)):=fun _=>Iff.rfl
 have out:∀ us,Q (.bl false) M->iY Q (.bl false) (mup M p (.lst us)):=fun us h=>⟨_,M,(Sub.refl M).mup hp,.inl rfl,h⟩
 rcases RW st with rfl | ⟨st,⟨x,dd⟩,rfl⟩
 ·simp? only [List.isEmpty_nil]
  have:qT g=true:=by
   rw [CD,<- hV]
   exact ⟨by simp only [pB];omega,(fun x hx=>by cases hx),(fun x hx=>by cases hx)⟩
  rw [this] at q
  exact ⟨_,M,(Sub.refl M).mup hp,.inl rfl,q⟩
 ·have hlen':st.length<=c:=by simpa using hlen
  have hxw:x.wf:=hst (x,dd) (by simp)
  have hse:(st.map ent++[U.tup [x.toU,U.int (dd:Nat)]]).isEmpty=false:=by simp
  simp? only [List.map_append,hse,WL,Wy,ent]
  refine ⟨iA,fU (fun h=>?_) (fun h=>fU (fun h2=>?_) (fun h2=>?_))⟩
  ·refine out _ (no fun hv=>?_)
   have:=of_decide_eq_true h
   have h3:=hv.1
   rw [pF] at h3
   have h4:1<=x.size:=by cases x <;> simp only [G.size] <;> omega
   simp only [pB] at h3
   omega
  ·refine out _ (no fun hv=>?_)
   have:=of_decide_eq_true h2
   have h3:=hv.2.1 (x,dd) (by simp)
   have h4:1<=x.dep:=by cases x <;> simp only [G.dep] <;> omega
   simp only at h3
   omega
  ·have hc1:c + 1<=200:=by
    have:¬ (200:Int) < (c:Int) + 1:=fun z=>h (decide_eq_true z)
    omega
   have hdd:dd<=40:=by
    have:¬ (40:Int) < (dd:Int):=fun z=>h2 (decide_eq_true z)
    omega
   have hst':∀ y∈st,y.1.wf:=fun y hy=>hst y (by simp [hy])
   cases x with
   | leaf u b =>
    refine ⟨_,rfl,.inl ⟨b,hxw,?_⟩⟩
    simp? only [true_and]
    refine ⟨u,b,rfl,hxw,?_⟩
    cases b with
    | false =>
     simp? only [true_and]
     refine out _ (no fun hv=>?_)
     have:=hv.2.2 (G.leaf u false,dd) (by simp)
     cases this
    | true =>
     simp? only [true_and]
     refine ⟨⟨c + 1,st,_,_,_,rfl,rfl,hst',hc1,by omega,?_⟩,by omega⟩
     rw [<- hV]
     exact QI hdd
   | turn a =>
    refine ⟨_,rfl,.inr ⟨_,_,rfl,Rw,?_⟩⟩
    simp? only [G.toU]
    refine ⟨iA,e7 (S:=⟨none,[a.toU]⟩) (M1:=mup M p (.lst (st.map ent))) [ent (a,dd + 1)] (fun R r=>?_) rfl (show 1<=sizeLine by decide) (fun a e=>by cases e) ?_ ?_⟩
    ·simp? only [vL]
     exact r
    ·intro j x y hx hy M' _ R r'
     match j,hx,hy with
     | 0,hx,hy =>
      cases hx;cases hy
      simp? only [true_and]
      first | refine ⟨by decide,?_⟩ | skip
      have e:U.tup [a.toU,U.int ((dd:Int) + 1)]=ent (a,dd + 1):=rfl
      rw [e];exact r'
     | j + 1,hx,hy=>cases hx
    ·simp? only [true_and]
     refine ⟨small (by simp;omega),⟨c + 1,st++[(a,dd + 1)],_,_,_,rfl,by rw [List.map_append];rfl,?_,hc1,by simp;omega,?_⟩,by omega⟩
     ·intro y hy
      rcases List.mem_append.mp hy with hy | hy
      ·exact hst' y hy
      ·cases List.mem_singleton.mp hy;exact hxw
     ·rw [<- hV];exact QH
   | two o a b =>
    refine ⟨_,rfl,.inr ⟨_,_,rfl,Va o,?_⟩⟩
    simp? only [G.toU]
    refine ⟨iA,e7 (S:=⟨none,[a.toU,b.toU]⟩) (M1:=mup M p (.lst (st.map ent))) [ent (a,dd + 1),ent (b,dd + 1)] (fun R r=>?_) rfl (show 2<=sizeLine by decide) (fun a e=>by cases e) ?_ ?_⟩
    ·simp? only [vL]
     exact r
    ·intro j x y hx hy M' _ R r'
     match j,hx,hy with
     | 0,hx,hy =>
      cases hx;cases hy
      simp? only [true_and]
      first | refine ⟨by decide,?_⟩ | skip
      have e:U.tup [a.toU,U.int ((dd:Int) + 1)]=ent (a,dd + 1):=rfl
      rw [e];exact r'
     | 1,hx,hy =>
      cases hx;cases hy
      simp? only [true_and]
      first | refine ⟨by decide,?_⟩ | skip
      have e:U.tup [b.toU,U.int ((dd:Int) + 1)]=ent (b,dd + 1):=rfl
      rw [e];exact r'
     | j + 2,hx,hy=>cases hx
    ·simp? only [true_and]
     refine ⟨small (by simp;omega),⟨c + 1,st++[(a,dd + 1),(b,dd + 1)],_,_,_,rfl,by rw [List.map_append];rfl,?_,hc1,by simp;omega,?_⟩,by omega⟩
     ·intro y hy
      rcases List.mem_append.mp hy with hy | hy
      ·exact hst' y hy
      ·simp only [List.mem_cons,List.not_mem_nil,or_false] at hy
       rcases hy with rfl | rfl
       ·exact hxw.1
       ·exact hxw.2
     ·rw [<- hV];exact SX
noncomputable def Bp:cX:=fun us M Q=>∃ g:G,us=[g.toU]/\g.wf/\Q (.bl (qT g)) M
theorem GZ {t1 t2:Tok} (F:b9 K "is_tree" "is_tree" kB f fd) (hm:mg "is_tree"=some (.ref f)) (lF:mg "is_tree_leaf"=some (.ref fl)) (mK:mg "TREE_PIECES"=some (.int 200 t1)) (mI:mg "TREE_WITHIN"=some (.int 40 t2)) (Jg:Callee P w K mg base 4 "is_shape" (GB fl) []):Callee P w K mg base 5 "is_tree" Bp []:=by
 refine bL F hm JH (fY fun _ _ _ _ _ _ _=>rfl) (aJ (aZ (aV Jg (aA (uv 0) (aA (rP lF) (aA (w6 mK) (aA (w6 mI) aB))))))) ?_
 rintro us M Q ⟨g,rfl,hwf,q⟩
 refine ⟨rfl,?_⟩
 simp? only [true_and]
 exact ⟨g,rfl,hwf,aO q⟩
theorem zK {o:Bool} {k:Nat} {ix:List Nat} {wi:UI} {g:UG} {tc:UT} {te:UE} {τ:SU} {M M1:aI} {Q:UK} {S:Src} (zs:List (Option U)) (hw:∀ R:Src->aI->Prop,R S M1->wi τ M R) (hl:zs.length=S.xs.length) (hz:S.xs.length<=sizeLine) (hs:S.ok M1)
  (h:∀ (i:Nat) x z,S.xs[i]?=some x->zs[i]?=some z->∀ M,Sub M1 M->∀ R:Option U->aI->Prop,R z M->g x (dQ k ix τ) M fun τ2 M2=>tc τ2 M2 fun ok M3=>if ok=true then te τ2 M3 fun y M4=>R (some y) M4 else R none M3)
  (q:kQ o (zs.filterMap id) M1 Q):sV o k ix wi g tc te τ M Q:=by
 refine hw _ ⟨hz,fun D hD=>⟨fun i ys M=>ys=(zs.take i).filterMap id/\M=mup M1 D (.lst ys)/\i<=S.xs.length,⟨by simp,rfl,Nat.zero_le _⟩,?_,?_,?_⟩⟩
 ·rintro i ys M ⟨rfl,rfl,hi⟩
  refine ⟨fun a e=>?_,aX,?_⟩
  ·have:=hs a e
   rw [cB (fun z=>by subst z;rw [hD] at this;cases this)]
   exact this
  ·refine Nat.le_trans (List.length_filterMap_le _ _) ?_
   rw [List.length_take];omega
 ·rintro i x ys M e ⟨rfl,rfl,hi⟩
  have hlt:i < S.xs.length:=(List.getElem?_eq_some_iff.mp e).1
  have hy:zs[i]?=some zs[i]:=by simp [show i < zs.length by omega]
  have tk:zs.take (i + 1)=zs.take i++[zs[i]]:=by rw [List.take_add_one,hy];rfl
  generalize hzi:zs[i]=z at hy tk
  refine h i x z e hy (mup M1 D (.lst ((zs.take i).filterMap id))) ((Sub.refl M1).mup hD) (fun r M4=>match r with
   | some y=>M4 D=some (.lst ((zs.take i).filterMap id))/\((zs.take i).filterMap id++[y]=(zs.take (i + 1)).filterMap id/\mup M4 D (.lst ((zs.take i).filterMap id++[y]))=mup M1 D (.lst ((zs.take i).filterMap id++[y]))/\i + 1<=S.xs.length)
   | none=>(zs.take i).filterMap id=(zs.take (i + 1)).filterMap id/\M4=mup M1 D (.lst ((zs.take i).filterMap id))/\i + 1<=S.xs.length) ?_
  cases z with
  | some y=>exact ⟨aX,by rw [tk,List.filterMap_append];rfl,bZ,hlt⟩
  | none=>exact ⟨by rw [tk,List.filterMap_append];simp,rfl,hlt⟩
 ·rintro ys M ⟨rfl,rfl,hi⟩
  rw [show zs.take S.xs.length=zs by rw [<- hl];exact List.take_length]
  cases o with
  | true=>exact q D hD
  | false=>exact ⟨M1,(Sub.refl M1).mup hD,hD,q⟩
noncomputable def Tr.good:Tr->Prop
 | .num n=>0<=n/\n<=1000000000000000000
 | .name x=>isName (.str x)=true
 | .turn a=>a.good
 | .two _ a b=>a.good/\b.good
noncomputable def toG:Tr->G
 | .num n=>.leaf (Tr.num n).toU true
 | .name x=>.leaf (Tr.name x).toU true
 | .turn a=>.turn (toG a)
 | .two o a b=>.two o (toG a) (toG b)
theorem AD:∀ t:Tr,(toG t).toU=t.toU
 | .num n=>rfl
 | .name x=>rfl
 | .turn a=>by simp only [toG,G.toU,Tr.toU,AD a]
 | .two o a b=>by simp only [toG,G.toU,Tr.toU,AD a,AD b]
theorem wB:∀ t:Tr,t.good->(toG t).wf
 | .num n,h=>by
  have e:AN (.int n)=true:=by simp [AN,h.1,h.2]
  have:=LF.num (.int n) trivial
  rw [e] at this;exact this
 | .name x,h=>by
  have h':isName (.str x)=true:=h
  have hl:x.length<=sizeLine:=by
   have h2:x.length<=8:=by
    simp only [isName,Bool.and_eq_true,decide_eq_true_eq] at h'
    exact h'.1.2
   exact small (by omega)
  have:=LF.name (.str x) hl
  rw [h'] at this;exact this
 | .turn a,h=>wB a h
 | .two o a b,h=>⟨wB a h.1,wB b h.2⟩
theorem qE:∀ t:Tr,(toG t).size=t.size
 | .num n=>rfl
 | .name x=>rfl
 | .turn a=>by simp only [toG,G.size,Tr.size,qE a]
 | .two o a b=>by simp only [toG,G.size,Tr.size,qE a,qE b]
theorem tD:∀ t:Tr,(toG t).dep=t.dep
 | .num n=>rfl
 | .name x=>rfl
 | .turn a=>by simp only [toG,G.dep,Tr.dep,tD a]
 | .two o a b=>by simp only [toG,G.dep,Tr.dep,tD a,tD b]
theorem sZ:∀ t:Tr,(toG t).fit=true
 | .num n=>rfl
 | .name x=>rfl
 | .turn a=>sZ a
 | .two o a b=>by simp only [toG,G.fit,sZ a,sZ b];rfl
noncomputable def kP (t:Tr):Bool:=decide (t.size<=200) && decide (t.dep<=40)
theorem Vk (t:Tr):qT (toG t)=kP t:=by
 unfold qT kP
 rw [qE,tD,sZ,Bool.and_true]
theorem AW {o:Wo} {t x:Tr} (h:o.chg t=some x) (g:t.good):x.good:=by
 cases o <;> simp only [Wo.chg] at h
 ·unfold eV at h;split at h <;> cases h <;> exact ⟨g.2,g.1⟩
 ·unfold cI at h;split at h <;> cases h <;> exact ⟨g.1.1,g.1.2,g.2⟩
 ·unfold dU at h;split at h <;> cases h <;> exact ⟨⟨g.1,g.2.1⟩,g.2.2⟩
 ·unfold fA at h;split at h <;> cases h;exact ⟨g.1,g.2⟩
 ·unfold eH at h;split at h <;> cases h;exact ⟨g.1,g.2⟩
 ·unfold jO at h;split at h <;> cases h;exact g
theorem oU:∀ (t:Tr) (p:List Nat) (a:Tr),t.at p=some a->t.good->a.good
 | t,[],a,h,g=>by rw [cH] at h;cases h;exact g
 | .turn b,0 :: r,a,h,g=>oU b r a h g
 | .two _ b c,0 :: r,a,h,g=>oU b r a h g.1
 | .two _ b c,1 :: r,a,h,g=>oU c r a h g.2
 | .num _,_ :: _,a,h,g=>by simp [Tr.at] at h
 | .name _,_ :: _,a,h,g=>by simp [Tr.at] at h
 | .turn b,(k + 1) :: r,a,h,g=>by simp [Tr.at] at h
 | .two _ b c,(k + 2) :: r,a,h,g=>by simp [Tr.at] at h
theorem nG:∀ (t:Tr) (p:List Nat) (x:Tr),t.good->x.good->(bY t p x).good
 | t,[],x,g,gx=>by rw [pH];exact gx
 | .turn b,0 :: r,x,g,gx=>nG b r x g gx
 | .two _ b c,0 :: r,x,g,gx=>⟨nG b r x g.1 gx,g.2⟩
 | .two _ b c,1 :: r,x,g,gx=>⟨g.1,nG c r x g.2 gx⟩
 | .num _,_ :: _,x,g,gx=>by simpa [bY] using g
 | .name _,_ :: _,x,g,gx=>by simpa [bY] using g
 | .turn b,(k + 1) :: r,x,g,gx=>by simpa [bY] using g
 | .two _ b c,(k + 2) :: r,x,g,gx=>by simpa [bY] using g
theorem nR (t:Tr):∀ (a:Tr) (p:List Nat),t.at p=some a->∀ e∈cF p a,t.at e.1=some e.2
 | .num n,p,h,e,he=>by cases List.mem_singleton.mp he;exact h
 | .name x,p,h,e,he=>by cases List.mem_singleton.mp he;exact h
 | .turn b,p,h,e,he=>by
  simp only [cF,List.mem_cons] at he
  rcases he with rfl | he
  ·exact h
  ·exact nR t b (p++[0]) (by rw [lY t p [0] _ h];simp [Tr.at,cH]) e he
 | .two o b c,p,h,e,he=>by
  simp only [cF,List.mem_cons,List.mem_append] at he
  rcases he with rfl | he | he
  ·exact h
  ·exact nR t b (p++[0]) (by rw [lY t p [0] _ h];simp [Tr.at,cH]) e he
  ·exact nR t c (p++[1]) (by rw [lY t p [1] _ h];simp [Tr.at,cH]) e he
theorem ON {t:Tr} (g:t.good):∀ e∈oJ t,e.2.2.good:=by
 intro e he
 unfold oJ at he
 obtain ⟨q,hq,he⟩:=List.mem_flatMap.mp he
 have hat:=nR t t [] (cH t) q hq
 unfold jV at he
 obtain ⟨o,_,ho⟩:=List.mem_filterMap.mp he
 cases hc:o.chg q.2 with
 | none=>rw [hc] at ho;cases ho
 | some x =>
  rw [hc] at ho
  cases ho
  exact nG t q.1 x g (AW hc (oU t q.1 q.2 hat g))
noncomputable def o9 (e:Wo × List Nat × Tr):U:=.tup [.str e.1.word,bI e.2.1]
noncomputable def d7 (t:Tr):List (Wo × List Nat × Tr):=(oJ t).filter fun e=>kP e.2.2
theorem Nf (B:Nat):∀ ns:List Int,(∀ n∈ns,0<=n/\n<=B)->0<=ns.sum/\ns.sum<=B * ns.length
 | [],_=>by simp
 | n :: ns,h=>by
  obtain ⟨h1,h2⟩:=h n List.mem_cons_self
  obtain ⟨h3,h4⟩:=Nf B ns fun x hx=>h x (List.mem_cons_of_mem _ hx)
  rw [List.sum_cons,List.length_cons]
  have e:(B:Int) * ((ns.length + 1:Nat):Int)=B * ns.length + B:=by
   rw [Int.natCast_add,Int.mul_add];simp
  rw [e]
  exact ⟨by omega,by omega⟩
theorem fits_of {ns:List Int} (h:∀ n∈ns,0<=n/\n<=1000000) (hl:ns.length<=2000):PySem.SumFits ns:=by
 intro j hj
 have hm:ns.getD j 0∈ns:=by
  rw [List.getD_eq_getElem?_getD,List.getElem?_eq_getElem hj];exact List.getElem_mem hj
 obtain ⟨h1,h2⟩:=h _ hm
 obtain ⟨h3,h4⟩:=Nf 1000000 (ns.take (j + 1)) fun x hx=>h x (List.mem_of_mem_take hx)
 have h5:(ns.take (j + 1)).length<=2000:=by rw [List.length_take];omega
 have h6:((1000000:Nat):Int) * ((ns.take (j + 1)).length:Int)<=2000000000:=by omega
 constructor <;> (unfold InLong;constructor <;> omega)
theorem w5 (ns:List Int):intsOf (ns.map U.int)=some ns:=by
 induction ns with
 | nil=>rfl
 | cons a r ih=>simp only [List.map_cons,intsOf,ih,Option.map_some]
theorem kY (t:Tr):1<=t.dep:=by cases t <;> simp [Tr.dep]
theorem size_pos (t:Tr):1<=t.size:=by cases t <;> simp [Tr.size]
theorem CM (M:aI) (t:Tr):aE M t.toU=some "tuple":=by cases t <;> rfl
noncomputable def dD:Tr->List U
 | .num k=>[.int k]
 | .name x=>[.str x]
 | .turn a=>[a.toU]
 | .two _ a b=>[a.toU,b.toU]
noncomputable def qR (v:Tr->Int):Tr->List (Option U)
 | .num _=>[none]
 | .name _=>[none]
 | .turn a=>[some (.int (v a))]
 | .two _ a b=>[some (.int (v a)),some (.int (v b))]
theorem C7 {v:Tr->Int} {t:Tr} {i:Nat} {x:U} {z:Option U} (hx:(dD t)[i]?=some x) (hz:(qR v t)[i]?=some z):(z=none/\((∃ k,x=.int k)\/∃ y,x=.str y))\/∃ a,a∈t.parts/\x=a.toU/\z=some (.int (v a)):=by
 cases t with
 | num k=>match i,hx,hz with
  | 0,hx,hz=>cases hx;cases hz;exact .inl ⟨rfl,.inl ⟨k,rfl⟩⟩
  | i + 1,hx,hz=>cases hx
 | name y=>match i,hx,hz with
  | 0,hx,hz=>cases hx;cases hz;exact .inl ⟨rfl,.inr ⟨y,rfl⟩⟩
  | i + 1,hx,hz=>cases hx
 | turn a=>match i,hx,hz with
  | 0,hx,hz=>cases hx;cases hz;exact .inr ⟨a,List.mem_singleton.mpr rfl,rfl,rfl⟩
  | i + 1,hx,hz=>cases hx
 | two o a b=>match i,hx,hz with
  | 0,hx,hz=>cases hx;cases hz;exact .inr ⟨a,by simp [Tr.parts],rfl,rfl⟩
  | 1,hx,hz=>cases hx;cases hz;exact .inr ⟨b,by simp [Tr.parts],rfl,rfl⟩
  | i + 2,hx,hz=>cases hx
theorem Cg (v:Tr->Int) (t:Tr):(qR v t).length=(dD t).length/\(dD t).length<=2:=by cases t <;> simp [qR,dD]
theorem Cp (v:Tr->Int) (t:Tr):(qR v t).filterMap id=(t.parts.map v).map U.int:=by cases t <;> simp [qR,Tr.parts]
theorem qY (t:Tr):∃ z,t.toU=.tup (.str z :: dD t):=by cases t <;> exact ⟨_,rfl⟩
theorem nX {t a:Tr} (h:a∈t.parts):a.dep < t.dep/\a.size < t.size:=by
 cases t with
 | num k=>cases h
 | name x=>cases h
 | turn b=>cases List.mem_singleton.mp h;simp only [Tr.dep,Tr.size];omega
 | two o b c =>
  simp only [Tr.parts,List.mem_cons,List.not_mem_nil,or_false] at h
  have:=size_pos b
  have:=size_pos c
  rcases h with rfl | rfl <;> (simp only [Tr.dep,Tr.size];omega)
theorem sG (t:Tr):t.parts.length<=2:=by cases t <;> simp [Tr.parts]
noncomputable def sI (n:Nat):cX:=fun us M Q=>∃ t:Tr,us=[t.toU]/\t.dep<=n/\t.size<=2000/\Q (.int t.size) M
theorem RQ {n:Nat} (F:b9 K "_law_size" "_law_size" gJ f fd) (hm:mg "_law_size"=some (.ref f)) (tN:mg "sum"=none) (aP:mg "isinstance"=none) (bN:mg "tuple"=none) (pU:Callee P w K mg base n "_law_size" (sI n) []):Callee P w K mg base (n + 1) "_law_size" (sI (n + 1)) []:=by
 refine bL F hm En (fY fun _ _ _ _ _ _ _=>rfl) (aJ (aZ (bU (own:=false) aK (cQ VL tN (aA (iD false ["part"] 1 [] (eD (fT (own:=false) (uv 0) (eJ aK) eM)) (bW (k:=1) 0 (by dsimp only [cJ];decide +kernel)) (Gi (d8 (cQ fZ aP (aA (uv 0) (aA (gC (n:="tuple") bN) aB))))) (aV pU (aA (uv 0) aB))) aB))))) ?_
 rintro us M Q ⟨t,rfl,hd,hs,q⟩
 refine ⟨rfl,?_⟩
 obtain ⟨z,hz⟩:=qY t
 have ht:=Cg (fun a=>(a.size:Int)) t
 have h2:=sG t
 have hs0:=vQ t
 rw [hz]
 simp! only [cE,aE,aD]
 refine zK (S:=⟨none,dD t⟩) (M1:=M) (qR (fun a=>(a.size:Int)) t) (fun R r=>by simp! only [vL,aE,aD];exact r) ht.1 (small (by show (dD t).length<=_;omega)) (fun a e=>by cases e) ?_ ?_
 ·intro i x z hx hz M' hS R r'
  rcases C7 hx hz with ⟨rfl,⟨k,rfl⟩ | ⟨y,rfl⟩⟩ | ⟨a,ha,rfl,rfl⟩
  ·simp! only [hName,aE,aE,aD]
   exact r'
  ·simp! only [hName,aE,aE,aD]
   exact r'
  ·have hl:=nX ha
   simp! only [hName,CM,aD]
   exact ⟨a,rfl,by omega,by omega,r'⟩
 ·rw [Cp]
  simp! only [aE,aD]
  refine ⟨_,w5 _,fits_of (fun n hn=>?_) (by rw [List.length_map];omega),?_⟩
  ·obtain ⟨a,ha,rfl⟩:=List.mem_map.mp hn
   have:=nX ha
   exact ⟨by omega,by omega⟩
  ·have e:1 + (t.parts.map fun a=>(a.size:Int)).sum=(t.size:Int):=by
    rw [hs0]
    have:∀ l:List Tr,(l.map fun a=>(a.size:Int)).sum=((l.map Tr.size).sum:Nat):=fun l=>by
     induction l with
     | nil=>rfl
     | cons a l ih=>simp only [List.map_cons,List.sum_cons,ih];push_cast;rfl
    rw [this];push_cast;rfl
   rw [e]
   exact aO q
theorem C8 (F:b9 K "_law_size" "_law_size" gJ f fd) (hm:mg "_law_size"=some (.ref f)) (tN:mg "sum"=none) (aP:mg "isinstance"=none) (bN:mg "tuple"=none):∀ n,Callee P w K mg base n "_law_size" (sI n) []
 | 0=>by
  have no:∀ us M Q,¬ sI 0 us M Q:=fun us M Q h=>by
   obtain ⟨t,_,h,_⟩:=h
   have:=kY t
   omega
  refine ⟨f,fd,["tree"],[],[],⟨fun vs H Q E h=>?_,fun A outer s H args us vs Q E _ _ _ _ h=>?_⟩,hm,F.kp,F.binds (fY fun _ _ _ _ _ _ _=>rfl),.nil,fun H M=>.nil⟩
  ·obtain ⟨us,M,Q',_,_,h,_⟩:=h;exact absurd h (no us M Q')
  ·obtain ⟨us,M,Q',_,_,h,_⟩:=h;exact absurd h (no us M Q')
 | n + 1=>RQ F hm tN aP bN (C8 F hm tN aP bN n)
noncomputable def rM (n:Nat):cX:=fun us M Q=>∃ t:Tr,us=[t.toU]/\t.dep<=n/\t.size<=2000/\Q (.int t.dep) M
theorem Rt {n:Nat} (F:b9 K "_law_deep" "_law_deep" gB f fd) (hm:mg "_law_deep"=some (.ref f)) (mO:mg "max"=none) (aP:mg "isinstance"=none) (bN:mg "tuple"=none) (pJ:Callee P w K mg base n "_law_deep" (rM n) []):Callee P w K mg base (n + 1) "_law_deep" (rM (n + 1)) []:=by
 refine bL F hm DN (fY fun _ _ _ _ _ _ _=>rfl) (aJ (aZ (bU (own:=false) aK (cQ Lh mO (aA (bU (own:=false) (dB (own:=false) (aA aK aB)) (iD false ["part"] 1 [] (eD (fT (own:=false) (uv 0) (eJ aK) eM)) (bW (k:=1) 0 (by dsimp only [cJ];decide +kernel)) (Gi (d8 (cQ fZ aP (aA (uv 0) (aA (gC (n:="tuple") bN) aB))))) (aV pJ (aA (uv 0) aB)))) aB))))) ?_
 rintro us M Q ⟨t,rfl,hd,hs,q⟩
 refine ⟨rfl,?_⟩
 obtain ⟨z,hz⟩:=qY t
 have ht:=Cg (fun a=>(a.dep:Int)) t
 have h2:=sG t
 have hs0:=vQ t
 rw [hz]
 simp! only [cE,aE,aD]
 refine zK (S:=⟨none,dD t⟩) (M1:=M) (qR (fun a=>(a.dep:Int)) t) (fun R r=>by simp! only [vL,aE,aD];exact r) ht.1 (small (by show (dD t).length<=_;omega)) (fun a e=>by cases e) ?_ ?_
 ·intro i x z hx hz M' hS R r'
  rcases C7 hx hz with ⟨rfl,⟨k,rfl⟩ | ⟨y,rfl⟩⟩ | ⟨a,ha,rfl,rfl⟩
  ·simp! only [hName,aE,aE,aD]
   exact r'
  ·simp! only [hName,aE,aE,aD]
   exact r'
  ·have hl:=nX ha
   simp! only [hName,CM,aD]
   exact ⟨a,rfl,by omega,by omega,r'⟩
 ·rw [Cp]
  simp! only [aE,aD]
  refine ⟨small (by rw [List.length_map,List.length_map];omega),0,t.parts.map (fun a:Tr=>(a.dep:Int)),w5 (0 :: t.parts.map (fun a:Tr=>(a.dep:Int))),?_⟩
  have e:1 + j5 0 (t.parts.map fun a:Tr=>(a.dep:Int))=(t.dep:Int):=by
   cases t with
   | num k=>rfl
   | name x=>rfl
   | turn a =>
    have:=kY a
    simp only [Tr.parts,List.map_cons,List.map_nil,j5,List.foldl_cons,List.foldl_nil,Tr.dep]
    repeat' split
    all_goals (push_cast;omega)
   | two o a b =>
    have:=kY a
    have:=kY b
    simp only [Tr.parts,List.map_cons,List.map_nil,j5,List.foldl_cons,List.foldl_nil,Tr.dep]
    repeat' split
    all_goals (push_cast;omega)
  rw [e]
  exact aO q
theorem AK (F:b9 K "_law_deep" "_law_deep" gB f fd) (hm:mg "_law_deep"=some (.ref f)) (mO:mg "max"=none) (aP:mg "isinstance"=none) (bN:mg "tuple"=none):∀ n,Callee P w K mg base n "_law_deep" (rM n) []
 | 0=>by
  have no:∀ us M Q,¬ rM 0 us M Q:=fun us M Q h=>by
   obtain ⟨t,_,h,_⟩:=h
   have:=kY t
   omega
  refine ⟨f,fd,["tree"],[],[],⟨fun vs H Q E h=>?_,fun A outer s H args us vs Q E _ _ _ _ h=>?_⟩,hm,F.kp,F.binds (fY fun _ _ _ _ _ _ _=>rfl),.nil,fun H M=>.nil⟩
  ·obtain ⟨us,M,Q',_,_,h,_⟩:=h;exact absurd h (no us M Q')
  ·obtain ⟨us,M,Q',_,_,h,_⟩:=h;exact absurd h (no us M Q')
 | n + 1=>Rt F hm mO aP bN (AK F hm mO aP bN n)
noncomputable def Uu:cX:=fun us M Q=>∃ (t a:Tr) (p:List Nat),us=[t.toU,bI p]/\t.at p=some a/\Q a.toU M
theorem tail_at {t c:Tr} {k:Nat} (h:t.parts[k]?=some c):(dD t)[k]?=some c.toU:=by
 cases t with
 | num n=>simp [Tr.parts] at h
 | name x=>simp [Tr.parts] at h
 | turn a=>match k,h with
  | 0,h=>cases h;rfl
  | k + 1,h=>simp [Tr.parts] at h
 | two o a b=>match k,h with
  | 0,h=>cases h;rfl
  | 1,h=>cases h;rfl
  | k + 2,h=>simp [Tr.parts] at h
theorem V8 (F:b9 K "_law_at" "_law_at" lD f fd) (hm:mg "_law_at"=some (.ref f)):Callee P w K mg base 1 "_law_at" Uu []:=by
 refine bL F hm r9 (rD fun _ _ _ _ _ _ _ _=>rfl) (aH (fD (eD (uv 1)) (bW (k:=1000) 2 r9.nd)
 (aJ (bF 0 r9.nd (aQ (uv 0) (bU (own:=false) aK (uv 2))))))
 (aJ (aZ (uv 0)))) ?_
 rintro us M Q ⟨t,a,p,rfl,ht,q⟩
 refine ⟨rfl,?_⟩
 have hst:=tI ht
 refine aU fun V hV=>?_
 refine fX (S:=⟨none,p.map fun (n:Nat)=>U.int (n:Int)⟩) (M1:=M) (fun R r=>by simp! only [bI,aE,aD];exact r)
  (fun i τ Mi=>∃ (b:Tr) (z2:Option U),t.at (p.take i)=some b/\τ=[some b.toU,some (bI p),z2]/\Mi=M) ⟨t,none,by rw [List.take_zero,cH],rfl,rfl⟩ nk ?_ ?_
 ·rintro i u τ Mi e ⟨b,z2,hb,rfl,rfl⟩
  have e':(p.map fun (n:Nat)=>U.int (n:Int))[i]?=some u:=e
  rw [List.getElem?_map] at e'
  cases hk:p[i]? with
  | none=>rw [hk] at e';cases e'
  | some k =>
   rw [hk] at e'
   cases e'
   have hi:=(List.getElem?_eq_some_iff.mp hk).1
   obtain ⟨b',c,hb',hc,hbc⟩:=hst i hi
   rw [hb] at hb';cases hb'
   rw [hk] at hbc
   obtain ⟨z,hz⟩:=qY b
   have hat:dS (.str z :: dD b) (1 + (k:Int))=some c.toU:=by
    have:=dP (xs:=U.str z :: dD b) (j:=k + 1) (v:=c.toU) (tail_at hbc)
    rw [show 1 + (k:Int)=((k + 1:Nat):Int) by push_cast;omega];exact this
   simp! only [hName,bQ,hz,hat,aE,aD]
   exact ⟨c,_,hc,rfl⟩
 ·rintro τ Mi ⟨b,z2,hb,rfl,rfl⟩
  have hlen:(Src.mk none (p.map fun (n:Nat)=>U.int (n:Int))).xs.length=p.length:=by show (p.map _).length=_;rw [List.length_map]
  rw [hlen,List.take_length,ht] at hb
  cases hb
  subst hV
  simp! only [cE,aE,aD]
  exact aO q
noncomputable def sL (n:Nat):cX:=fun us M Q=>∃ (t a x:Tr) (p:List Nat),us=[t.toU,bI p,x.toU]/\t.at p=some a/\p.length < n/\p.length<=1000/\Q (bY t p x).toU M
theorem Rj {n:Nat} (F:b9 K "_law_with" "_law_with" gG f fd) (hm:mg "_law_with"=some (.ref f)) (bT:mg "len"=none) (pQ:Callee P w K mg base n "_law_with" (sL n) []):Callee P w K mg base (n + 1) "_law_with" (sL (n + 1)) []:=by
 refine bL F hm tZ (QA fun _ _ _ _ _ _ _ _ _=>rfl) (aH (bX (bV cM (cQ gI bT (aA (uv 1) aB)) aK)
 (aJ (aZ (uv 2)))
 bH)
 (aH (bF 3 tZ.nd (bU (own:=false) aK (aQ (uv 1) aK)))
 (aJ (aZ (bU (own:=false) (bU (own:=false) (fT (own:=false) (uv 0) eM (eJ (uv 3))) (aW (aA (aV pQ (aA (aQ (uv 0) (uv 3)) (aA (fT (own:=false) (uv 1) (eJ aK) eM) (aA (uv 2) aB)))) aB))) (fT (own:=false) (uv 0) (eJ (bU (own:=false) (uv 3) aK)) eM)))))) ?_
 rintro us M Q ⟨t,a,x,p,rfl,ht,hn,hpl,q⟩
 refine ⟨rfl,?_⟩
 cases p with
 | nil =>
  rw [pH] at q
  simp? only [bI]
  exact aO q
 | cons k p =>
  have hne:decide ((((p.map fun (n:Nat)=>U.int (n:Int)).length + 1:Nat):Int)=0)=false:=decide_eq_false (by omega)
  obtain ⟨b,c,hb,hc,hbc⟩:=tI ht 0 (by simp)
  rw [List.take_zero,cH] at hb;cases hb
  have hbc':t.parts[k]?=some c:=hbc
  obtain ⟨z,hz,hset⟩:=F0 t (bY c p x) k hbc'
  refine aU fun V hV=>?_
  refine cG fun A B hA hB=>?_
  simp! only [bI,hne,aE,aD]
  subst hB
  simp only [b7]
  subst hV
  refine aU fun V hV=>?_
  simp! only [bQ,hName,bI,aE,aD]
  subst hV
  have hat:dS (.str z :: t.parts.map Tr.toU) (1 + (k:Int))=some c.toU:=by
   have:=dP (xs:=U.str z :: t.parts.map Tr.toU) (j:=k + 1) (v:=c.toU) (by show (t.parts.map Tr.toU)[k]?=_;rw [List.getElem?_map,hbc'];rfl)
   rw [show 1 + (k:Int)=((k + 1:Nat):Int) by push_cast;omega];exact this
  have hca:c.at p=some a:=by
   have hc1:t.at [k]=some c:=hc
   have:=lY t [k] p c hc1
   rw [show [k]++p=k :: p from rfl,ht] at this
   exact this.symm
  have c1:=tL (U.str z :: t.parts.map Tr.toU) none (some (1 + (k:Int)))
  have c2:=tL (U.str z :: t.parts.map Tr.toU) (some (2 + (k:Int))) none
  have h2:=sG t
  rw [List.length_cons,List.length_map] at c1 c2
  have e2:1 + (k:Int) + 1=2 + (k:Int):=by omega
  simp! only [cE,hz,hat,vL,e2,aE,aD]
  refine ⟨c,a,x,p,rfl,hca,by simp only [List.length_cons] at hn;omega,by simp only [List.length_cons] at hpl;omega,?_⟩
  simp! only [aE,aD]
  refine ⟨small (by omega),small (by rw [List.length_append,List.length_cons,List.length_nil];omega),?_⟩
  rw [<- hset,<- Ba hbc']
  exact aO q
theorem Cd (F:b9 K "_law_with" "_law_with" gG f fd) (hm:mg "_law_with"=some (.ref f)) (bT:mg "len"=none):∀ n,Callee P w K mg base n "_law_with" (sL n) []
 | 0=>by
  have no:∀ us M Q,¬ sL 0 us M Q:=fun us M Q h=>by
   obtain ⟨t,a,x,p,_,_,h,_⟩:=h
   omega
  refine ⟨f,fd,["tree","spot","other"],[],[],⟨fun vs H Q E h=>?_,fun A outer s H args us vs Q E _ _ _ _ h=>?_⟩,hm,F.kp,F.binds (QA fun _ _ _ _ _ _ _ _ _=>rfl),.nil,fun H M=>.nil⟩
  ·obtain ⟨us,M,Q',_,_,h,_⟩:=h;exact absurd h (no us M Q')
  ·obtain ⟨us,M,Q',_,_,h,_⟩:=h;exact absurd h (no us M Q')
 | n + 1=>Rj F hm bT (Cd F hm bT n)
noncomputable def eT:Tr->List (List Nat)
 | .turn a=>[] :: (eT a).map (0 :: ·)
 | .two _ a b=>[] :: ((eT a).map (0 :: ·)++(eT b).map (1 :: ·))
 | _=>[[]]
theorem vV:∀ (t:Tr) (p:List Nat),(cF p t).map (·.1)=(eT t).map (p++·)
 | .num n,p=>by simp [cF,eT]
 | .name x,p=>by simp [cF,eT]
 | .turn a,p=>by simp [cF,eT,vV a,Function.comp_def]
 | .two o a b,p=>by simp [cF,eT,vV a,vV b,Function.comp_def]
theorem jT:∀ t:Tr,(eT t).length=t.size
 | .num n=>rfl
 | .name x=>rfl
 | .turn a=>by simp [eT,Tr.size,jT a]
 | .two o a b=>by simp [eT,Tr.size,jT a,jT b]
theorem nA:∀ (t:Tr),∀ p∈eT t,p.length < t.size
 | .num n,p,h=>by cases List.mem_singleton.mp h;simp [Tr.size]
 | .name x,p,h=>by cases List.mem_singleton.mp h;simp [Tr.size]
 | .turn a,p,h=>by
  simp only [eT,List.mem_cons,List.mem_map] at h
  rcases h with rfl | ⟨q,hq,rfl⟩
  ·simp [Tr.size]
  ·have:=nA a q hq;simp only [Tr.size,List.length_cons];omega
 | .two o a b,p,h=>by
  simp only [eT,List.mem_cons,List.mem_append,List.mem_map] at h
  rcases h with rfl | ⟨q,hq,rfl⟩ | ⟨q,hq,rfl⟩
  ·simp [Tr.size]
  ·have:=nA a q hq;simp only [Tr.size,List.length_cons];omega
  ·have:=nA b q hq;simp only [Tr.size,List.length_cons];omega
noncomputable def pG:Tr->Nat->List (List Nat)
 | .turn a,_ + 1=>[] :: (eT a).map (0 :: ·)
 | .two _ a _,1=>[] :: (eT a).map (0 :: ·)
 | .two _ a b,_ + 2=>[] :: ((eT a).map (0 :: ·)++(eT b).map (1 :: ·))
 | _,_=>[[]]
theorem Ry (t:Tr):pG t 0=[[]]:=by cases t <;> rfl
theorem Uq (t:Tr):pG t (dD t).length=eT t:=by cases t <;> rfl
theorem QO {t a:Tr} {i:Nat} (h:t.parts[i]?=some a):pG t (i + 1)=pG t i++(eT a).map (i :: ·):=by
 cases t with
 | num n=>simp [Tr.parts] at h
 | name x=>simp [Tr.parts] at h
 | turn b=>match i,h with
  | 0,h=>cases h;rfl
  | i + 1,h=>simp [Tr.parts] at h
 | two o b c=>match i,h with
  | 0,h=>cases h;rfl
  | 1,h=>cases h;rfl
  | i + 2,h=>simp [Tr.parts] at h
theorem F5 {t:Tr} {i:Nat} (h:t.parts=[]):pG t (i + 1)=pG t i:=by
 cases t with
 | num n=>rfl
 | name x=>rfl
 | turn b=>cases h
 | two o b c=>cases h
theorem UP (t:Tr) (i:Nat):(pG t i).length<=t.size:=by
 have h:∀ t:Tr,1<=t.size:=size_pos
 cases t with
 | num n=>exact Nat.le_refl 1
 | name x=>exact Nat.le_refl 1
 | turn a=>match i with
  | 0=>simp [pG,Tr.size]
  | i + 1=>simp [pG,Tr.size,jT a]
 | two o a b=>match i with
  | 0=>simp [pG,Tr.size]
  | 1=>simp [pG,Tr.size,jT a]
  | i + 2=>simp [pG,Tr.size,jT a,jT b]
theorem QL {t:Tr} {i:Nat} {x:U} (hx:(dD t)[i]?=some x):(t.parts=[]/\((∃ k,x=.int k)\/∃ y,x=.str y))\/∃ a,t.parts[i]?=some a/\x=a.toU:=by
 cases t with
 | num k=>match i,hx with
  | 0,hx=>cases hx;exact .inl ⟨rfl,.inl ⟨k,rfl⟩⟩
  | i + 1,hx=>cases hx
 | name y=>match i,hx with
  | 0,hx=>cases hx;exact .inl ⟨rfl,.inr ⟨y,rfl⟩⟩
  | i + 1,hx=>cases hx
 | turn a=>match i,hx with
  | 0,hx=>cases hx;exact .inr ⟨a,rfl,rfl⟩
  | i + 1,hx=>cases hx
 | two o a b=>match i,hx with
  | 0,hx=>cases hx;exact .inr ⟨a,rfl,rfl⟩
  | 1,hx=>cases hx;exact .inr ⟨b,rfl,rfl⟩
  | i + 2,hx=>cases hx
noncomputable def mT (n:Nat):cX:=fun us M Q=>∃ t:Tr,us=[t.toU]/\t.dep<=n/\t.size<=900/\Q (.lst ((eT t).map bI)) M
theorem O5 {n:Nat} (F:b9 K "_law_spots" "_law_spots" fH f fd) (hm:mg "_law_spots"=some (.ref f)) (hZ:mg "enumerate"=none) (aP:mg "isinstance"=none) (bN:mg "tuple"=none) (jX:Callee P w K mg base n "_law_spots" (mT n) []):Callee P w K mg base (n + 1) "_law_spots" (mT (n + 1)) []:=by
 refine bL F hm iV (fY fun _ _ _ _ _ _ _=>rfl) (aH (bF 1 iV.nd (dB (own:=false) (aA (aW aB) aB)))
 (aH (fD (Bo hZ (aA (fT (own:=false) (uv 0) (eJ aK) eM) aB)) (wJ (n:=2) (iT (bW (k:=1000) 2 iV.nd) (iT (bW (k:=1000) 3 iV.nd) tG)))
 (aJ (bX (d8 (cQ fZ aP (aA (uv 3) (aA (gC (n:="tuple") bN) aB))))
 (aJ (bF 1 iV.nd (bU (own:=false) (uv 1) (iD false ["spot","k"] 1 [2] (eD (aV jX (aA (uv 3) aB))) (bW (k:=1) 0 (by dsimp only [cJ];decide +kernel)) i8 (bU (own:=false) (aW (aA (uv 1) aB)) (uv 0))))))
 bH)))
 (aJ (aZ (uv 1))))) ?_
 rintro us M Q ⟨t,rfl,hd,hs,q⟩
 refine ⟨rfl,?_⟩
 obtain ⟨z,hz⟩:=qY t
 refine aU fun V hV=>?_
 simp! only [bQ,hName,aE,aD]
 subst hV
 refine aU fun V hV=>?_
 refine fX (S:=⟨none,numbered (dD t)⟩) (M1:=M) (fun R r=>by simp! only [hz,vL,aE,aD];exact r)
  (fun i τ Mi=>∃ z2 z3:Option U,τ=[some t.toU,some (.lst ((pG t i).map bI)),z2,z3]/\Mi=M) ⟨none,none,by rw [Ry];rfl,rfl⟩ nk ?_ ?_
 ·rintro i x τ Mi e ⟨z2,z3,rfl,rfl⟩
  obtain ⟨u,hu,rfl⟩:=rQ e
  refine ⟨rfl,?_⟩
  simp! only [lK,lQ,oF,hName,aE,aD]
  refine cG fun A B hA hB=>?_
  rcases QL hu with ⟨hp,⟨k,rfl⟩ | ⟨y,rfl⟩⟩ | ⟨a,ha,rfl⟩
  ·simp! only [aE,aE,aD]
   subst hB
   simp only [b7]
   exact ⟨_,_,by rw [F5 hp],trivial⟩
  ·simp! only [aE,aE,aD]
   subst hB
   simp only [b7]
   exact ⟨_,_,by rw [F5 hp],trivial⟩
  ·have hl:=nX (List.mem_of_getElem? ha)
   have hsl:=jT a
   have hst:=UP t i
   simp! only [CM,aD]
   subst hA
   simp! only [bQ,hName,aE,aD]
   refine e7 (S:=⟨none,(eT a).map bI⟩) (M1:=Mi) (((eT a).map (i :: ·)).map bI) (fun R r=>⟨a,rfl,by omega,by omega,r⟩) (by simp) (small (by show ((eT a).map bI).length<=_;rw [List.length_map];omega)) (fun a e=>by cases e) ?_ ?_
   ·intro j x y hx hy M' hS R r'
    have hx':((eT a).map bI)[j]?=some x:=hx
    rw [List.getElem?_map] at hx' hy
    rw [List.getElem?_map] at hy
    cases hj:(eT a)[j]? with
    | none=>rw [hj] at hx';cases hx'
    | some p =>
     rw [hj] at hx' hy
     cases hx';cases hy
     have hps:=nA a p (List.mem_of_getElem? hj)
     simp! only [hName,bI,aE,aD]
     exact ⟨small (by rw [List.length_map];omega),r'⟩
   ·simp! only [aE,aD]
    refine ⟨small (by simp only [List.length_map];omega),some (.int (i:Int)),some a.toU,?_⟩
    rw [QO ha,List.map_append]
 ·rintro τ Mi ⟨z2,z3,rfl,rfl⟩
  subst hV
  have hlen:(Src.mk none (numbered (dD t))).xs.length=(dD t).length:=by show (numbered (dD t)).length=_;rw [rT]
  rw [hlen,Uq]
  simp! only [cE,aE,aD]
  exact aO q
theorem zJ (F:b9 K "_law_spots" "_law_spots" fH f fd) (hm:mg "_law_spots"=some (.ref f)) (hZ:mg "enumerate"=none) (aP:mg "isinstance"=none) (bN:mg "tuple"=none):∀ n,Callee P w K mg base n "_law_spots" (mT n) []
 | 0=>by
  have no:∀ us M Q,¬ mT 0 us M Q:=fun us M Q h=>by
   obtain ⟨t,_,h,_⟩:=h
   have:=kY t
   omega
  refine ⟨f,fd,["tree"],[],[],⟨fun vs H Q E h=>?_,fun A outer s H args us vs Q E _ _ _ _ h=>?_⟩,hm,F.kp,F.binds (fY fun _ _ _ _ _ _ _=>rfl),.nil,fun H M=>.nil⟩
  ·obtain ⟨us,M,Q',_,_,h,_⟩:=h;exact absurd h (no us M Q')
  ·obtain ⟨us,M,Q',_,_,h,_⟩:=h;exact absurd h (no us M Q')
 | n + 1=>O5 F hm hZ aP bN (zJ F hm hZ aP bN n)
noncomputable def hd:Tr->Str
 | .num _=>"num"
 | .name _=>"name"
 | .turn _=>"turn"
 | .two o _ _=>o.word
theorem lU (t:Tr):t.toU=.tup (.str (hd t) :: dD t):=by cases t <;> rfl
noncomputable def gK (t:Tr):List (Wo × Tr):=GI.filterMap fun o=>(o.chg t).map fun x=>(o,x)
noncomputable def jP (e:Wo × Tr):U:=.tup [.str e.1.word,e.2.toU]
theorem oZ {a:Tr} {o:Op} (h:hd a=o.word):∃ x y,a=.two o x y:=by
 cases a with
 | num n=>cases o <;> simp only [hd,Op.word,wx] at h
 | name x=>cases o <;> simp only [hd,Op.word,wx] at h
 | turn b=>cases o <;> simp only [hd,Op.word,wx] at h
 | two o2 x y=>cases o <;> cases o2 <;> first | exact ⟨x,y,rfl⟩ | simp only [hd,Op.word,wx] at h
theorem xV {a:Tr} (h:hd a=Str.ofString "turn"):∃ x,a=.turn x:=by
 cases a with
 | num n=>simp only [hd,wx] at h
 | name x=>simp only [hd,wx] at h
 | turn b=>exact ⟨b,rfl⟩
 | two o2 x y=>cases o2 <;> simp only [hd,Op.word,wx] at h
theorem OK {o:Op} {a b:Tr} (h:¬ hd a=o.word):cI (.two o a b)=none:=by
 cases o <;> cases a <;> first | rfl | (rename_i o2 _ _;cases o2 <;> first | rfl | exact absurd rfl h)
theorem R8 {o:Op} {a b:Tr} (h:¬ hd b=o.word):dU (.two o a b)=none:=by
 cases o <;> cases b <;> first | rfl | (rename_i o2 _ _;cases o2 <;> first | rfl | exact absurd rfl h)
theorem Q7 {a b:Tr} (h:¬ hd b=Str.ofString "turn"):eH (.two .sum a b)=none:=by
 cases b <;> first | rfl | exact absurd rfl h
theorem TM {a:Tr} (h:¬ hd a=Str.ofString "turn"):jO (.turn a)=none:=by
 cases a <;> first | rfl | exact absurd rfl h
noncomputable def Qm:cX:=fun us M Q=>∃ t:Tr,us=[t.toU]/\Q (.lst ((gK t).map jP)) M
noncomputable def cK (o:Wo):Option Tr->List (Wo × Tr)
 | some x=>[(o,x)]
 | none=>[]
theorem SI (t:Tr):gK t=cK .swap (eV t)++cK .right (cI t)++cK .left (dU t)++cK .open_ (fA t)++cK .shut (eH t)++cK .off (jO t):=by
 unfold gK GI
 simp only [List.filterMap_cons,List.filterMap_nil,Wo.chg]
 cases eV t <;> cases cI t <;> cases dU t <;> cases fA t <;> cases eH t <;> cases jO t <;> rfl
theorem OL {o:Op} (ho:o≠.less) (a b:Tr):eV (.two o a b)=some (.two o b a):=by cases o <;> first | rfl | exact absurd rfl ho
theorem KO {o:Op} (ho:o≠.less) (x y b:Tr):cI (.two o (.two o x y) b)=some (.two o x (.two o y b)):=by cases o <;> first | rfl | exact absurd rfl ho
theorem Ov {o:Op} (ho:o≠.less) (a x y:Tr):dU (.two o a (.two o x y))=some (.two o (.two o a x) y):=by cases o <;> first | rfl | exact absurd rfl ho
theorem WS {o:Op} (ho:o≠.less):([U.str (Str.ofString "sum"),U.str (Str.ofString "by")].any fun u=>mZ u (.str o.word))=true:=by cases o <;> first | (decide +kernel) | exact absurd rfl ho
theorem V5 {z:Str} (h1:¬ z=Str.ofString "sum") (h2:¬ z=Str.ofString "by"):([U.str (Str.ofString "sum"),U.str (Str.ofString "by")].any fun u=>mZ u (.str z))=false:=by
 have e1:(Str.ofString "sum" == z)=false:=by simpa using fun e=>h1 e.symm
 have e2:(Str.ofString "by" == z)=false:=by simpa using fun e=>h2 e.symm
 simp only [List.any_cons,List.any_nil,mZ,e1,e2,Bool.or_self]
theorem VP {t:Tr} (h:∀ o a b,t=.two o a b->o=.less):¬ hd t=Str.ofString "sum"/\¬ hd t=Str.ofString "by":=by
 refine ⟨fun e=>?_,fun e=>?_⟩
 ·obtain ⟨x,y,rfl⟩:=oZ (o:=.sum) e
  have:=h _ _ _ rfl;cases this
 ·obtain ⟨x,y,rfl⟩:=oZ (o:=.by_) e
  have:=h _ _ _ rfl;cases this
theorem Pc {t:Tr} (h:∀ o a b,t=.two o a b->o=.less):eV t=none/\cI t=none/\dU t=none:=by
 cases t with
 | two o a b=>cases h o a b rfl;exact ⟨rfl,rfl,rfl⟩
 | _=>exact ⟨rfl,rfl,rfl⟩
theorem Sv {t:Tr} (h:¬ hd t=Str.ofString "less"):fA t=none:=by
 cases t with
 | two o a b=>cases o <;> first | rfl | exact absurd rfl h
 | _=>rfl
theorem NV {t:Tr} (h:¬ hd t=Str.ofString "sum"):eH t=none:=by
 cases t with
 | two o a b=>cases o <;> first | rfl | exact absurd rfl h
 | _=>rfl
theorem RV {t:Tr} (h:¬ hd t=Str.ofString "turn"):jO t=none:=by
 cases t with
 | turn a=>exact absurd rfl h
 | _=>rfl
theorem lI (L:List (Wo × Tr)) (h:L.length<=6):(L.map jP).length < sizeLine:=big (by rw [List.length_map];omega)
theorem lH (o:Wo) (x:Option Tr):(cK o x).length<=1:=by cases x <;> simp [cK]
theorem UL (F:b9 K "_law_otherwise" "_law_otherwise" eA f fd) (hm:mg "_law_otherwise"=some (.ref f)):Callee P w K mg base 1 "_law_otherwise" Qm []:=by
 refine bL F hm mX (fY fun _ _ _ _ _ _ _=>rfl) (aH (bF 1 mX.nd (dB (own:=true) aB))
 (aH (bX (bV U3 (aQ (uv 0) aK) (dB (own:=false) (aA bR (aA bR aB))))
 (aH (hX (e8 (uv 1) (aA (aW (aA bR (aA (aW (aA (aQ (uv 0) aK) (aA (aQ (uv 0) aK) (aA (aQ (uv 0) aK) aB)))) aB))) aB)))
 (aH (bX (bV cM (aQ (aQ (uv 0) aK) aK) (aQ (uv 0) aK))
 (aJ (hX (e8 (uv 1) (aA (aW (aA bR (aA (aW (aA (aQ (uv 0) aK) (aA (aQ (aQ (uv 0) aK) aK) (aA (aW (aA (aQ (uv 0) aK) (aA (aQ (aQ (uv 0) aK) aK) (aA (aQ (uv 0) aK) aB)))) aB)))) aB))) aB))))
 bH)
 (aJ (bX (bV cM (aQ (aQ (uv 0) aK) aK) (aQ (uv 0) aK))
 (aJ (hX (e8 (uv 1) (aA (aW (aA bR (aA (aW (aA (aQ (uv 0) aK) (aA (aW (aA (aQ (uv 0) aK) (aA (aQ (uv 0) aK) (aA (aQ (aQ (uv 0) aK) aK) aB)))) (aA (aQ (aQ (uv 0) aK) aK) aB)))) aB))) aB))))
 bH))))
 bH)
 (aH (bX (bV cM (aQ (uv 0) aK) bR)
 (aJ (hX (e8 (uv 1) (aA (aW (aA bR (aA (aW (aA bR (aA (aQ (uv 0) aK) (aA (aW (aA bR (aA (aQ (uv 0) aK) aB))) aB)))) aB))) aB))))
 bH)
 (aH (bX (g9.pt (nO (bV cM (aQ (uv 0) aK) bR) (kZ (bV cM (aQ (aQ (uv 0) aK) aK) bR))))
 (aJ (hX (e8 (uv 1) (aA (aW (aA bR (aA (aW (aA bR (aA (aQ (uv 0) aK) (aA (aQ (aQ (uv 0) aK) aK) aB)))) aB))) aB))))
 bH)
 (aH (bX (g9.pt (nO (bV cM (aQ (uv 0) aK) bR) (kZ (bV cM (aQ (aQ (uv 0) aK) aK) bR))))
 (aJ (hX (e8 (uv 1) (aA (aW (aA bR (aA (aQ (aQ (uv 0) aK) aK) aB))) aB))))
 bH)
 (aJ (aZ (uv 1)))))))) ?_
 rintro us M Q ⟨t,rfl,q⟩
 refine ⟨rfl,?_⟩
 refine aU fun V hV=>?_
 simp! only [bQ,hName,aE,aD]
 intro r hr
 subst hV
 have app:∀ (L:List (Wo × Tr)) (o:Wo) (x:Tr),(L.map jP)++[U.tup [.str o.word,x.toU]]=(L++[(o,x)]).map jP:=fun L o x=>by simp [jP]
 refine aU fun V hV=>?_
 have s4:V [some t.toU,some (.ref r)] (mup M r (.lst ((cK .swap (eV t)++cK .right (cI t)++cK .left (dU t)).map jP))):=by
  have hL:(cK .swap (eV t)++cK .right (cI t)++cK .left (dU t)).length<=3:=by
   have:=lH .swap (eV t);have:=lH .right (cI t);have:=lH .left (dU t)
   simp only [List.length_append];omega
  rw [SI] at q
  generalize cK .swap (eV t)++cK .right (cI t)++cK .left (dU t)=L3 at q hL
  subst hV
  refine aU fun V hV=>?_
  have s5:V [some t.toU,some (.ref r)] (mup M r (.lst ((L3++cK .open_ (fA t)).map jP))):=by
   have hL4:(L3++cK .open_ (fA t)).length<=4:=by have:=lH .open_ (fA t);rw [List.length_append];omega
   generalize L3++cK .open_ (fA t)=L4 at q hL4
   subst hV
   refine aU fun V hV=>?_
   have s6:V [some t.toU,some (.ref r)] (mup M r (.lst ((L4++cK .shut (eH t)).map jP))):=by
    have hL5:(L4++cK .shut (eH t)).length<=5:=by have:=lH .shut (eH t);rw [List.length_append];omega
    generalize L4++cK .shut (eH t)=L5 at q hL5
    subst hV
    refine aU fun V hV=>?_
    have s7:V [some t.toU,some (.ref r)] (mup M r (.lst ((L5++cK .off (jO t)).map jP))):=by
     subst hV
     simp! only [cE,aE,aD]
     exact ⟨_,M,(Sub.refl M).mup hr,.inr ⟨r,_,rfl,aX,hr,rfl⟩,q⟩
    refine cG fun A B hA hB=>?_
    have hu:=lU t
    simp! only [hu,aE,aD]
    refine fU (fun h=>?_) (fun h=>?_)
    ·obtain ⟨a,rfl⟩:=xV (of_decide_eq_true h)
     have hua:=lU a
     simp! only [dD,hua,aE,aD]
     refine fU (fun h=>?_) (fun h=>?_)
     ·obtain ⟨x,rfl⟩:=xV (of_decide_eq_true h)
      subst hA
      simp! only [gH,Tr.toU,aE,aD]
      refine ⟨iA,lI L5 (by omega),?_⟩
      have e:=app L5 .off x
      simp only [Wo.word] at e
      rw [e]
      exact s7
     ·rw [TM (fun e=>h (decide_eq_true e))] at s7
      simp only [cK,List.append_nil] at s7
      subst hB
      simp only [b7]
      exact s7
    ·rw [RV (fun e=>h (decide_eq_true e))] at s7
     simp only [cK,List.append_nil] at s7
     subst hB
     simp only [b7]
     try rw [<- hu]
     exact s7
   refine cG fun A B hA hB=>?_
   have hu:=lU t
   simp! only [hu,aE,aD]
   refine fU (fun h=>?_) (fun h=>?_)
   ·obtain ⟨a,b,rfl⟩:=oZ (o:=.sum) (of_decide_eq_true h)
    have hub:=lU b
    simp! only [dD,hub,aE,aD]
    refine fU (fun h=>?_) (fun h=>?_)
    ·obtain ⟨x,rfl⟩:=xV (of_decide_eq_true h)
     subst hA
     simp! only [gH,Tr.toU,aE,aD]
     refine ⟨iA,lI L4 (by omega),?_⟩
     have e:=app L4 .shut (.two .less a x)
     simp only [Wo.word,Tr.toU,Op.word] at e
     rw [e]
     exact s6
    ·rw [Q7 (fun e=>h (decide_eq_true e))] at s6
     simp only [cK,List.append_nil] at s6
     subst hB
     simp only [b7]
     exact s6
   ·rw [NV (fun e=>h (decide_eq_true e))] at s6
    simp only [cK,List.append_nil] at s6
    subst hB
    simp only [b7]
    try rw [<- hu]
    exact s6
  refine cG fun A B hA hB=>?_
  have hu:=lU t
  simp! only [hu,aE,aD]
  refine fU (fun h=>?_) (fun h=>?_)
  ·obtain ⟨a,b,rfl⟩:=oZ (o:=.less) (of_decide_eq_true h)
   subst hA
   simp! only [gH,dD,Tr.toU,aE,aD]
   refine ⟨iA,lI L3 (by omega),?_⟩
   have e:=app L3 .open_ (.two .sum a (.turn b))
   simp only [Wo.word,Tr.toU,Op.word] at e
   rw [e]
   exact s5
  ·rw [Sv (fun e=>h (decide_eq_true e))] at s5
   simp only [cK,List.append_nil] at s5
   subst hB
   simp only [b7]
   try rw [<- hu]
   exact s5
 refine cG fun A B hA hB=>?_
 have hu:=lU t
 by_cases hless:∀ o a b,t=.two o a b->o=.less
 ·obtain ⟨h1,h2⟩:=VP hless
  obtain ⟨e1,e2,e3⟩:=Pc hless
  simp! only [hu,fM,List.all_cons,List.all_nil,V5 h1 h2,Bool.and_self,aE,aD]
  rw [e1,e2,e3] at s4
  subst hB
  simp only [b7]
  try rw [<- hu]
  exact s4
 ·obtain ⟨o,a,b,ho,rfl⟩:∃ o a b,o≠Op.less/\t=.two o a b:=by
   cases t with
   | two o a b =>
    refine ⟨o,a,b,fun z=>hless fun o' a' b' e=>?_,rfl⟩
    cases e;exact z
   | _=>exact absurd (fun o a b e=>by cases e) hless
  simp! only [Tr.toU,fM,List.all_cons,List.all_nil,WS ho,Bool.and_self,aE,aD]
  subst hA
  refine aU fun V2 hV2=>?_
  simp! only [gH,Tr.toU,aE,aD]
  refine ⟨iA,lI [] (by simp),?_⟩
  have e0:=app [] .swap (.two o b a)
  simp only [Wo.word,Tr.toU,List.nil_append,List.map_nil] at e0
  rw [e0]
  rw [OL ho] at s4
  subst hV2
  refine aU fun V2 hV2=>?_
  have s3:V2 [some (Tr.two o a b).toU,some (.ref r)] (mup M r (.lst (([(Wo.swap,Tr.two o b a)]++cK .right (cI (.two o a b))).map jP))):=by
   have hL2:([(Wo.swap,Tr.two o b a)]++cK .right (cI (.two o a b))).length<=2:=by have:=lH .right (cI (.two o a b));rw [List.length_append];simp only [List.length_cons,List.length_nil];omega
   have s4':V [some (Tr.two o a b).toU,some (.ref r)] (mup M r (.lst (([(Wo.swap,Tr.two o b a)]++cK .right (cI (.two o a b))++cK .left (dU (.two o a b))).map jP))):=s4
   generalize [(Wo.swap,Tr.two o b a)]++cK .right (cI (.two o a b))=L2 at s4' hL2
   subst hV2
   refine cG fun A B hA hB=>?_
   have hub:=lU b
   simp! only [Tr.toU,hub,aE,aD]
   refine fU (fun h=>?_) (fun h=>?_)
   ·obtain ⟨x,y,rfl⟩:=oZ (of_decide_eq_true h)
    subst hA
    simp! only [gH,Tr.toU,dD,aE,aD]
    refine ⟨iA,lI L2 (by omega),?_⟩
    have e:=app L2 .left (.two o (.two o a x) y)
    simp only [Wo.word,Tr.toU] at e
    rw [e]
    rw [Ov ho] at s4'
    exact s4'
   ·rw [R8 (fun e=>h (decide_eq_true e))] at s4'
    simp only [cK,List.append_nil] at s4'
    subst hB
    simp only [b7]
    try rw [<- hub]
    exact s4'
  refine cG fun A B hA hB=>?_
  have hua:=lU a
  simp! only [Tr.toU,hua,aE,aD]
  refine fU (fun h=>?_) (fun h=>?_)
  ·obtain ⟨x,y,rfl⟩:=oZ (of_decide_eq_true h)
   subst hA
   simp! only [gH,Tr.toU,dD,aE,aD]
   refine ⟨iA,lI [(Wo.swap,Tr.two o b (.two o x y))] (by simp),?_⟩
   rw [KO ho] at s3
   exact s3
  ·rw [OK (fun e=>h (decide_eq_true e))] at s3
   simp only [cK,List.append_nil] at s3
   subst hB
   simp only [b7]
   try rw [<- hua]
   exact s3
theorem oC:∀ (t:Tr) (p:List Nat) (a:Tr),t.at p=some a->p.length < t.dep
 | t,[],a,_=>by cases t <;> simp [Tr.dep]
 | .turn b,0 :: r,a,h=>by have:=oC b r a h;simp only [Tr.dep,List.length_cons];omega
 | .two _ b c,0 :: r,a,h=>by have:=oC b r a h;simp only [Tr.dep,List.length_cons];omega
 | .two _ b c,1 :: r,a,h=>by have:=oC c r a h;simp only [Tr.dep,List.length_cons];omega
 | .num _,_ :: _,a,h=>by simp [Tr.at] at h
 | .name _,_ :: _,a,h=>by simp [Tr.at] at h
 | .turn b,(k + 1) :: r,a,h=>by simp [Tr.at] at h
 | .two _ b c,(k + 2) :: r,a,h=>by simp [Tr.at] at h
theorem RC {o:Wo} {t x:Tr} (h:o.chg t=some x):x.dep<=t.dep + 1:=by
 cases o <;> simp only [Wo.chg] at h
 ·unfold eV at h;split at h <;> cases h <;> (simp only [Tr.dep];omega)
 ·unfold cI at h;split at h <;> cases h <;> (simp only [Tr.dep];omega)
 ·unfold dU at h;split at h <;> cases h <;> (simp only [Tr.dep];omega)
 ·unfold fA at h;split at h <;> cases h;simp only [Tr.dep];omega
 ·unfold eH at h;split at h <;> cases h;simp only [Tr.dep];omega
 ·unfold jO at h;split at h <;> cases h;simp only [Tr.dep];omega
theorem Oy {o:Wo} {t x:Tr} (h:o.chg t=some x):x.size<=t.size + 1:=by
 cases o <;> simp only [Wo.chg] at h
 ·unfold eV at h;split at h <;> cases h <;> (simp only [Tr.size];omega)
 ·unfold cI at h;split at h <;> cases h <;> (simp only [Tr.size];omega)
 ·unfold dU at h;split at h <;> cases h <;> (simp only [Tr.size];omega)
 ·unfold fA at h;split at h <;> cases h;simp only [Tr.size];omega
 ·unfold eH at h;split at h <;> cases h;simp only [Tr.size];omega
 ·unfold jO at h;split at h <;> cases h;simp only [Tr.size];omega
theorem sS:∀ (t:Tr) (p:List Nat) (a x:Tr),t.at p=some a->x.dep<=a.dep + 1->(bY t p x).dep<=t.dep + 1
 | t,[],a,x,h,hx=>by rw [cH] at h;cases h;rw [pH];exact hx
 | .turn b,0 :: r,a,x,h,hx=>by have:=sS b r a x h hx;simp only [bY,Tr.dep];omega
 | .two _ b c,0 :: r,a,x,h,hx=>by have:=sS b r a x h hx;simp only [bY,Tr.dep];omega
 | .two _ b c,1 :: r,a,x,h,hx=>by have:=sS c r a x h hx;simp only [bY,Tr.dep];omega
 | .num _,_ :: _,a,x,h,hx=>by simp [Tr.at] at h
 | .name _,_ :: _,a,x,h,hx=>by simp [Tr.at] at h
 | .turn b,(k + 1) :: r,a,x,h,hx=>by simp [Tr.at] at h
 | .two _ b c,(k + 2) :: r,a,x,h,hx=>by simp [Tr.at] at h
theorem qS:∀ (t:Tr) (p:List Nat) (a x:Tr),t.at p=some a->x.size<=a.size + 1->(bY t p x).size<=t.size + 1
 | t,[],a,x,h,hx=>by rw [cH] at h;cases h;rw [pH];exact hx
 | .turn b,0 :: r,a,x,h,hx=>by have:=qS b r a x h hx;simp only [bY,Tr.size];omega
 | .two _ b c,0 :: r,a,x,h,hx=>by have:=qS b r a x h hx;simp only [bY,Tr.size];omega
 | .two _ b c,1 :: r,a,x,h,hx=>by have:=qS c r a x h hx;simp only [bY,Tr.size];omega
 | .num _,_ :: _,a,x,h,hx=>by simp [Tr.at] at h
 | .name _,_ :: _,a,x,h,hx=>by simp [Tr.at] at h
 | .turn b,(k + 1) :: r,a,x,h,hx=>by simp [Tr.at] at h
 | .two _ b c,(k + 2) :: r,a,x,h,hx=>by simp [Tr.at] at h
noncomputable def n9 (t:Tr) (e:List Nat × Tr):List (Wo × List Nat × Tr):=(jV t e).filter fun e=>kP e.2.2
theorem Q0 (t:Tr):d7 t=(cF [] t).flatMap (n9 t):=by
 unfold d7 oJ n9
 rw [List.filter_flatMap]
theorem Pd (t:Tr) (e:List Nat × Tr):jV t e=(gK e.2).map fun x=>(x.1,e.1,bY t e.1 x.2):=by
 unfold jV gK
 rw [List.map_filterMap]
 congr 1
 funext o
 cases o.chg e.2 <;> rfl
theorem Sx {t:Tr} {e:Wo × Tr} (h:e∈gK t):e.1.chg t=some e.2:=by
 unfold gK at h
 obtain ⟨o,_,ho⟩:=List.mem_filterMap.mp h
 cases hc:o.chg t with
 | none=>rw [hc] at ho;cases ho
 | some x=>rw [hc] at ho;cases ho;exact hc
theorem Q3 (t:Tr):(gK t).length<=6:=List.length_filterMap_le _ _
noncomputable def PZ:cX:=fun us M Q=>∃ t:Tr,us=[t.toU]/\t.dep<=45/\t.size<=900/\Q (.lst ((d7 t).map eW)) M
theorem SN (F:b9 K "_law_all" "_law_all" j9 f fd) (hm:mg "_law_all"=some (.ref f)) (jX:Callee P w K mg base 50 "_law_spots" (mT 50) []) (v8:Callee P w K mg base 1 "_law_otherwise" Qm []) (NU:Callee P w K mg base 1 "_law_at" Uu []) (pQ:Callee P w K mg base 50 "_law_with" (sL 50) []) (pU:Callee P w K mg base 50 "_law_size" (sI 50) []) (pJ:Callee P w K mg base 50 "_law_deep" (rM 50) []):Callee P w K mg base 51 "_law_all" PZ []:=by
 refine bL F hm jE (fY fun _ _ _ _ _ _ _=>rfl) (aH (bF 1 jE.nd (dB (own:=true) aB))
 (aH (fD (eD (aV jX (aA (uv 0) aB))) (bW (k:=1000) 2 jE.nd)
 (aJ (fD (eD (aV v8 (aA (aV NU (aA (uv 0) (aA (uv 2) aB))) aB))) (wJ (n:=2) (iT (bW (k:=1000) 3 jE.nd) (iT (bW (k:=1000) 4 jE.nd) tG)))
 (aH (bF 5 jE.nd (aV pQ (aA (uv 0) (aA (uv 2) (aA (uv 4) aB)))))
 (aJ (bX (g9.pt (nO (bV u3 (aV pU (aA (uv 5) aB)) aK) (kZ (bV u3 (aV pJ (aA (uv 5) aB)) aK))))
 (aJ (hX (e8 (uv 1) (aA (aW (aA (aW (aA (uv 3) (aA (uv 2) aB))) (aA (uv 5) aB))) aB))))
 bH))))))
 (aJ (aZ (uv 1))))) ?_
 rintro us M Q ⟨t,rfl,hd,hs,q⟩
 refine ⟨rfl,?_⟩
 have hpl:(cF [] t).length=t.size:=oW t []
 have hfst:(cF [] t).map (fun e=>bI e.1)=(eT t).map bI:=by
  have:=congrArg (List.map bI) (vV t [])
  rw [List.map_map,List.map_map] at this
  simpa [Function.comp_def] using this
 have hexl:∀ i,(((cF [] t).take i).flatMap (n9 t)).length<=6 * t.size:=fun i=>by
  have h1:∀ l:List (List Nat × Tr),(l.flatMap (n9 t)).length<=6 * l.length:=fun l=>by
   induction l with
   | nil=>simp
   | cons e l ih =>
    have:(n9 t e).length<=6:=Nat.le_trans (List.length_filter_le _ _) (Cf t e)
    rw [List.flatMap_cons,List.length_append,List.length_cons];omega
  have:=h1 ((cF [] t).take i)
  rw [List.length_take] at this
  omega
 refine aU fun V hV=>?_
 simp! only [bQ,hName,aE,aD]
 intro r hr
 subst hV
 refine aU fun V hV=>?_
 refine fX (S:=⟨none,(cF [] t).map fun e=>bI e.1⟩) (M1:=mup M r (.lst [])) (fun R r=>by rw [hfst] at r;exact ⟨t,rfl,by omega,by omega,r⟩)
  (fun i τ Mi=>∃ z2 z3 z4 z5:Option U,τ=[some t.toU,some (.ref r),z2,z3,z4,z5]/\Mi=mup M r (.lst ((((cF [] t).take i).flatMap (n9 t)).map eW))) ⟨none,none,none,none,rfl,by simp⟩ nk ?_ ?_
 ·rintro i x τ Mi e ⟨z2,z3,z4,z5,rfl,rfl⟩
  have e':((cF [] t).map fun e=>bI e.1)[i]?=some x:=e
  rw [List.getElem?_map] at e'
  cases hj:(cF [] t)[i]? with
  | none=>rw [hj] at e';cases e'
  | some pe =>
   rw [hj] at e'
   cases e'
   have hat:=nR t t [] (cH t) pe (List.mem_of_getElem? hj)
   have hshort:=lB t pe.1 pe.2 hat
   have htk:(cF [] t).take (i + 1)=(cF [] t).take i++[pe]:=by rw [List.take_add_one,hj];rfl
   have hdl:=hexl i
   generalize hdn:((cF [] t).take i).flatMap (n9 t)=dn at hdl
   simp! only [hName,aE,aD]
   refine fX (S:=⟨none,(gK pe.2).map jP⟩) (M1:=mup M r (.lst (dn.map eW))) (fun R r=>by
     simp! only [aE,aD]
     refine ⟨t,pe.2,pe.1,rfl,hat,?_⟩
     simp! only [aE,aD]
     exact ⟨pe.2,rfl,r⟩)
    (fun j τ Mi=>∃ z3 z4 z5:Option U,τ=[some t.toU,some (.ref r),some (bI pe.1),z3,z4,z5]/\Mi=mup M r (.lst ((dn++(((gK pe.2).take j).map fun x=>(x.1,pe.1,bY t pe.1 x.2)).filter fun e=>kP e.2.2).map eW))) ⟨z3,z4,z5,rfl,by simp⟩ nk ?_ ?_
   ·rintro j y τ Mi e2 ⟨y3,y4,y5,rfl,rfl⟩
    have e3:((gK pe.2).map jP)[j]?=some y:=e2
    rw [List.getElem?_map] at e3
    cases hoj:(gK pe.2)[j]? with
    | none=>rw [hoj] at e3;cases e3
    | some ox =>
     rw [hoj] at e3
     cases e3
     have hch:=Sx (List.mem_of_getElem? hoj)
     have hdw:=sS t pe.1 pe.2 ox.2 hat (RC hch)
     have hsw:=qS t pe.1 pe.2 ox.2 hat (Oy hch)
     have htj:(gK pe.2).take (j + 1)=(gK pe.2).take j++[ox]:=by rw [List.take_add_one,hoj];rfl
     have hfl:((((gK pe.2).take j).map fun x=>(x.1,pe.1,bY t pe.1 x.2)).filter fun e=>kP e.2.2).length<=6:=by
      refine Nat.le_trans (List.length_filter_le _ _) ?_
      rw [List.length_map,List.length_take]
      have:=Q3 pe.2
      omega
     refine ⟨rfl,?_⟩
     simp! only [lK,lQ,oF,hName,jP,aE,aD]
     refine aU fun V2 hV2=>?_
     simp! only [bQ,hName,aE,aD]
     refine ⟨t,pe.2,ox.2,pe.1,rfl,hat,by have:=oC t pe.1 pe.2 hat;omega,by omega,?_⟩
     subst hV2
     refine cG fun A B hA hB=>?_
     simp! only [aE,aD]
     refine ⟨bY t pe.1 ox.2,rfl,by omega,by omega,?_⟩
     have no:kP (bY t pe.1 ox.2)=false->B (mup M r (.lst ((dn++(((gK pe.2).take j).map fun x=>(x.1,pe.1,bY t pe.1 x.2)).filter fun e=>kP e.2.2).map eW))):=fun h=>by
      subst hB
      simp only [b7]
      refine ⟨_,_,_,rfl,?_⟩
      rw [htj]
      simp [h]
     dsimp only
     by_cases h1:(bY t pe.1 ox.2).size<=200
     ·rw [if_pos (decide_eq_true (by omega))]
      refine ⟨bY t pe.1 ox.2,rfl,by omega,by omega,?_⟩
      dsimp only
      by_cases h2:(bY t pe.1 ox.2).dep<=40
      ·rw [if_pos (decide_eq_true (by omega))]
       have hok:kP (bY t pe.1 ox.2)=true:=by simp [kP,h1,h2]
       subst hA
       simp! only [gH,aE,aD]
       refine ⟨iA,big (by rw [List.length_map,List.length_append];omega),_,_,_,rfl,?_⟩
       rw [htj]
       simp [hok,eW]
      ·rw [if_neg (by simp;omega)]
       exact no (by simp [kP];omega)
     ·rw [if_neg (by simp;omega)]
      exact no (by simp [kP];omega)
   ·rintro τ Mi ⟨y3,y4,y5,rfl,rfl⟩
    have hol:(Src.mk none ((gK pe.2).map jP)).xs.length=(gK pe.2).length:=by show ((gK pe.2).map jP).length=_;rw [List.length_map]
    refine ⟨_,_,_,_,rfl,?_⟩
    rw [hol,List.take_length,<- Pd t pe,htk,List.flatMap_append,hdn]
    simp [n9]
 ·rintro τ Mi ⟨z2,z3,z4,z5,rfl,rfl⟩
  subst hV
  have hlen:(Src.mk none ((cF [] t).map fun e=>bI e.1)).xs.length=(cF [] t).length:=by show ((cF [] t).map _).length=_;rw [List.length_map]
  rw [hlen,List.take_length,<- Q0]
  simp! only [cE,aE,aD]
  exact ⟨_,M,(Sub.refl M).mup hr,.inr ⟨r,_,rfl,aX,hr,rfl⟩,q⟩
theorem mulL {i j:Int} (h1:-(2 ^ 64) < i) (h2:i < 2 ^ 64):oB i j:=.inl (.inl ⟨h1,h2⟩)
theorem mulR {i j:Int} (h1:-(2 ^ 64) < j) (h2:j < 2 ^ 64):oB i j:=.inl (.inr ⟨h1,h2⟩)
noncomputable def cD (d x:Int):List U:=[.int d,.int x]
noncomputable def Mq:cX:=fun us M Q=>∃ (ns:List Int) (k:Nat),us=[.lst (ns.map U.int),.int (k:Int)]/\k<=100/\∀ (r:Addr) (d x:Int),M r=none->0<=d->0<=x->x<=2147484647->Q (.ref r) (mup M r (.lst (cD d x)))
noncomputable def mB:cX:=fun us M Q=>∃ (f:Addr) (d x m:Int),us=[.ref f,.int m]/\M f=some (.lst (cD d x))/\0<=d/\0<=x/\x<=2147484647/\0 < m/\m < 2 ^ 64/\∀ n d' x':Int,0<=n->n < m->0<=d'->0<=x'->x'<=2147484647->Q (.int n) (mup M f (.lst (cD d' x')))
theorem RY (F:b9 K "_law_take" "_law_take" jD f fd) (hm:mg "_law_take"=some (.ref f)):Callee P w K mg base 1 "_law_take" mB []:=by
 refine bL F hm uE (rD fun _ _ _ _ _ _ _ _=>rfl) (aH (bX (bV Bt (aQ (uv 0) aK) aK)
 (aH (bF 2 uE.nd (oR (aQ (uv 0) aK) (uv 1)))
 (aH (GR (sU (aQ (uv 0) aK) (uv 1)) (uv 0) aK)
 (aJ (aZ (uv 2)))))
 bH)
 (aH (GR (oR (bU (own:=false) (jJ (own:=false) (aQ (uv 0) aK) aK) aK) aK) (uv 0) aK)
 (aJ (aZ (oR (sU (aQ (uv 0) aK) aK) (uv 1)))))) ?_
 rintro us M Q ⟨r,d,x,m,rfl,hM,hd,hx,hx2,hm0,hm1,q⟩
 refine ⟨rfl,?_⟩
 have vr:view M (.ref r)=.lst (cD d x):=iM hM
 refine aU fun V hV=>?_
 refine cG fun A B hA hB=>?_
 simp! only [vr,cD,aE,aD]
 refine fU (fun h=>?_) (fun h=>?_)
 ·subst hA
  refine aU fun V2 hV2=>?_
  simp! only [bQ,hName,vr,cD,aE,aD]
  refine ⟨hm0,?_⟩
  subst hV2
  refine aU fun V2 hV2=>?_
  simp! only [vX,vr,cD,aE,aD]
  rw [hM]
  simp! only [cD,aE,aD]
  refine ⟨⟨hm0,hm1⟩,0,rfl,?_⟩
  subst hV2
  simp! only [cE,aE,aD]
  exact aO (q (d % m) (d / m) x (Int.emod_nonneg _ (by omega)) (Int.emod_lt_of_pos _ hm0) (Int.ediv_nonneg hd (by omega)) hx hx2)
 ·subst hB
  simp only [b7]
  subst hV
  refine aU fun V2 hV2=>?_
  simp! only [vX,vr,cD,aE,aD]
  rw [hM]
  refine ⟨mulR (by decide) (by decide),by decide,1,rfl,?_⟩
  have hxx:0<=(x * 69621 + 12345) % 2147483647/\(x * 69621 + 12345) % 2147483647<=2147484647:=by omega
  generalize (x * 69621 + 12345) % 2147483647=y at hxx
  have hy:mup M r (.lst ([U.int d,U.int x].set 1 (.int y)))=mup M r (.lst (cD d y)):=rfl
  show V2 _ (mup M r (.lst ([U.int d,U.int x].set 1 (.int y))))
  rw [hy]
  subst hV2
  have v2:view (mup M r (.lst (cD d y))) (.ref r)=.lst (cD d y):=iM aX
  simp! only [cE,v2,cD,aE,aD]
  exact ⟨⟨by decide,by decide⟩,hm0,aO (q (y / 8191 % m) d y (Int.emod_nonneg _ (by omega)) (Int.emod_lt_of_pos _ hm0) hd hxx.1 hxx.2)⟩
theorem RH (F:b9 K "_law_feed" "_law_feed" jB f fd) (hm:mg "_law_feed"=some (.ref f)) (bT:mg "len"=none):Callee P w K mg base 1 "_law_feed" Mq []:=by
 refine bL F hm j0 (rD fun _ _ _ _ _ _ _ _=>rfl) (aH (bF 2 j0.nd aK)
 (aH (bX (bV wC (uv 1) (cQ gI bT (aA (uv 0) aB)))
 (aJ (bF 2 j0.nd (aQ (uv 0) (uv 1))))
 bH)
 (aH (bF 3 j0.nd aK)
 (aH (bX (bV WC (uv 2) (CL aK aK))
 (aJ (bF 3 j0.nd (kT (uv 2) (CL aK aK))))
 bH)
 (aJ (aZ (dB (own:=true) (aA (uv 3) (aA (bU (own:=false) (bU (own:=false) (oR (jJ (own:=false) (oR (uv 2) aK) aK) aK) (jJ (own:=false) aK (uv 1))) aK) aB))))))))) ?_
 rintro us M Q ⟨ns,k,rfl,hk,q⟩
 refine ⟨rfl,?_⟩
 refine aU fun V hV=>?_
 simp! only [bQ,hName,aE,aD]
 subst hV
 refine aU fun V hV=>?_
 have rest:∀ c:Int,V [some (.lst (ns.map U.int)),some (.int (k:Int)),some (.int c),none] M:=by
  intro c
  subst hV
  refine aU fun V hV=>?_
  simp! only [bQ,hName,aE,aD]
  subst hV
  refine aU fun V hV=>?_
  have last:∀ d:Int,0<=d->V [some (.lst (ns.map U.int)),some (.int (k:Int)),some (.int c),some (.int d)] M:=by
   intro d hd
   subst hV
   simp! only [cE,aE,aD]
   refine ⟨by decide,mulR (by decide) (by decide),by decide,mulL (by decide) (by decide),fun r hr=>?_⟩
   have h1:=Int.emod_nonneg (c % 2147483647 * 48271) (show (2147483647:Int)≠0 by decide)
   have h2:=Int.emod_lt_of_pos (c % 2147483647 * 48271) (show (0:Int) < 2147483647 by decide)
   exact aO (q r d _ hr hd (by omega) (by omega))
  refine cG fun A B hA hB=>?_
  simp! only [aE,aD]
  refine ⟨⟨by decide,by decide⟩,fU (fun h=>?_) (fun h=>?_)⟩
  ·subst hA
   simp! only [bQ,hName,aE,aD]
   have h':=of_decide_eq_true h
   exact ⟨⟨by decide,by decide,by decide⟩,last _ (Int.sub_nonneg.mpr h')⟩
  ·subst hB
   simp only [b7]
   exact last 0 (by decide)
 refine cG fun A B hA hB=>?_
 simp! only [List.length_map,aE,aD]
 refine fU (fun h=>?_) (fun h=>?_)
 ·subst hA
  have hlt:k < ns.length:=by have:=of_decide_eq_true h;omega
  have hat:dS (ns.map U.int) (k:Int)=some (.int ns[k]):=dP (by rw [List.getElem?_map,List.getElem?_eq_getElem hlt];rfl)
  simp! only [bQ,hName,hat,aE,aD]
  exact rest _
 ·subst hB
  simp only [b7]
  exact rest 0
noncomputable def Bd:cX:=fun us M Q=>∃ (f:Addr) (d x:Int) (m:Nat),us=[.ref f,.int (m:Int)]/\M f=some (.lst (cD d x))/\0<=d/\0<=x/\x<=2147484647/\m<=3/\∀ (names:List Str) (d' x':Int),names.length=m->(∀ s∈names,isName (.str s)=true)->0<=d'->0<=x'->x'<=2147484647->Q (.lst (names.map U.str)) (mup M f (.lst (cD d' x')))
noncomputable def qN:Str:=Str.ofString "abcdefghijklmnopqrstuvwxyz"
theorem Mb {n:Int} (h0:0<=n) (h1:n < 26):∃ c,dS qN.cps.toList n=some c/\isLetter c=true:=by
 have hl:qN.cps.toList.length=26:=by decide +kernel
 have hlt:n.toNat < qN.cps.toList.length:=by omega
 refine ⟨qN.cps.toList[n.toNat],?_,?_⟩
 ·have:=dP (xs:=qN.cps.toList) (j:=n.toNat) (List.getElem?_eq_getElem hlt)
  rw [Int.toNat_of_nonneg h0] at this
  exact this
 ·have hall:qN.cps.toList.all isLetter=true:=by decide +kernel
  exact List.all_eq_true.mp hall _ (List.getElem_mem hlt)
theorem CJ (c:Nat):∀ (k:Nat) (acc:Array Nat),((List.replicate k (#[c]:Array Nat)).foldl (·++·) acc).toList=acc.toList++List.replicate k c
 | 0,acc=>by simp
 | k + 1,acc=>by
  rw [List.replicate_succ,List.foldl_cons,CJ c k,List.replicate_succ]
  simp
theorem tQ (c:Nat) (n:Int):(iF ⟨#[c]⟩ n).cps.toList=List.replicate n.toNat c:=by
 unfold iF
 by_cases h:n < 1
 ·rw [if_pos h,show n.toNat=0 by omega];rfl
 ·rw [if_neg h]
  by_cases h1:n=1
  ·subst h1;rfl
  ·rw [if_neg (by
    have:((n == 1)=false):=by simp [h1]
    rw [this]
    exact Bool.false_ne_true)]
   have:=CJ c n.toNat #[]
   simpa using this
theorem RP {z:Str} {l:List Nat} (e:z.cps.toList=l) (h:∀ c∈l,isLetter c=true) (h1:1<=l.length) (h8:l.length<=8):isName (.str z)=true:=by
 have hl:z.length=l.length:=by rw [<- e];rfl
 simp only [isName,Bool.and_eq_true,decide_eq_true_eq]
 exact ⟨⟨by omega,by omega⟩,by rw [e];exact List.all_eq_true.mpr h⟩
theorem step_at {n:Int} (h0:0<=n) (h1:n < 6):∃ k:Int,dS [U.int 1,U.int 3,U.int 5,U.int 7,U.int 9,U.int 11] n=some (.int k)/\0<=k/\k<=11:=by
 have e:n=0\/n=1\/n=2\/n=3\/n=4\/n=5:=by omega
 rcases e with rfl | rfl | rfl | rfl | rfl | rfl <;> exact ⟨_,rfl,by omega,by omega⟩
theorem Nh (F:b9 K "_law_unlike" "_law_unlike" fV f fd) (hm:mg "_law_unlike"=some (.ref f)) (cR:mg "range"=none) (bM:Callee P w K mg base 1 "_law_take" mB []):Callee P w K mg base 2 "_law_unlike" Bd []:=by
 refine bL F hm dH (rD fun _ _ _ _ _ _ _ _=>rfl) (aH (bF 2 dH.nd bR)
 (aH (bF 3 dH.nd (aQ (uv 2) (aV bM (aA (uv 0) (aA aK aB)))))
 (aH (bF 4 dH.nd (aV bM (aA (uv 0) (aA aK aB))))
 (aH (bF 5 dH.nd (aQ (dB (own:=false) (aA aK (aA aK (aA aK (aA aK (aA aK (aA aK aB))))))) (aV bM (aA (uv 0) (aA aK aB)))))
 (aH (bF 6 dH.nd (bU (own:=false) aK (aV bM (aA (uv 0) (aA aK aB)))))
 (aH (bF 7 dH.nd (aV bM (aA (uv 0) (aA (uv 6) aB))))
 (aH (bF 8 dH.nd (jJ (own:=false) (uv 3) (kT (kT (uv 6) aK) (uv 7))))
 (aJ (aZ (iD false ["k","back","filler","place","letters","first","step"] 1 [8,3,7,2,4,5] (mR cR (aA (uv 1) aB)) (bW (k:=1) 0 (by dsimp only [cJ];decide +kernel)) i8 (bU (own:=false) (bU (own:=false) (jJ (own:=false) (uv 2) (uv 3)) (aQ (uv 4) (oR (bU (own:=false) (uv 5) (jJ (own:=false) (uv 6) (uv 0))) aK))) (uv 1)))))))))))) ?_
 rintro us M Q ⟨r,d,x,m,rfl,hM,hd,hx,hx2,hm3,q⟩
 refine ⟨rfl,?_⟩
 refine aU fun V hV=>?_
 simp! only [bQ,hName,aE,aD]
 subst hV
 refine aU fun V hV=>?_
 simp! only [bQ,hName,aE,aD]
 refine ⟨r,d,x,26,rfl,hM,hd,hx,hx2,by decide,by decide,fun n1 d1 x1 a1 b1 c1 c2 c3=>?_⟩
 obtain ⟨cf,hcf,hlf⟩:=Mb a1 b1
 simp! only [aE,aD]
 have habc:(Str.ofString "abcdefghijklmnopqrstuvwxyz").length<=sizeLine:=by decide +kernel
 refine ⟨habc,cf,hcf,?_⟩
 subst hV
 refine aU fun V hV=>?_
 simp! only [bQ,hName,aE,aD]
 refine ⟨r,d1,x1,26,rfl,aX,c1,c2,c3,by decide,by decide,fun n2 d2 x2 a2 b2 f1 f2 f3=>?_⟩
 rw [bZ]
 subst hV
 refine aU fun V hV=>?_
 simp! only [bQ,hName,aE,aD]
 refine ⟨r,d2,x2,6,rfl,aX,f1,f2,f3,by decide,by decide,fun n3 d3 x3 a3 b3 g1 g2 g3=>?_⟩
 rw [bZ]
 obtain ⟨sp,hsp,hs0,hs1⟩:=step_at a3 b3
 simp! only [hsp,aE,aD]
 subst hV
 refine aU fun V hV=>?_
 simp! only [bQ,hName,aE,aD]
 refine ⟨r,d3,x3,8,rfl,aX,g1,g2,g3,by decide,by decide,fun n4 d4 x4 a4 b4 k1 k2 k3=>?_⟩
 rw [bZ]
 simp! only [aE,aD]
 subst hV
 refine aU fun V hV=>?_
 simp! only [bQ,hName,aE,aD]
 refine ⟨r,d4,x4,1 + n4,rfl,aX,k1,k2,k3,by omega,by omega,fun n5 d5 x5 a5 b5 l1 l2 l3=>?_⟩
 rw [bZ]
 subst hV
 refine aU fun V hV=>?_
 simp! only [bQ,hName,aE,aD]
 have h1c:(⟨#[cf]⟩:Str).length=1:=rfl
 refine ⟨by omega,by omega,by rw [h1c];decide,by rw [h1c];omega,?_⟩
 subst hV
 simp! only [cE,aE,aD]
 generalize hMM:mup M r (.lst (cD d5 x5))=MM
 let ck:Nat->Nat:=fun k=>(dS qN.cps.toList ((n2 + sp * (k:Int)) % 26)).getD 0
 have hck:∀ k:Nat,dS qN.cps.toList ((n2 + sp * (k:Int)) % 26)=some (ck k)/\isLetter (ck k)=true:=fun k=>by
  obtain ⟨c,h1,h2⟩:=Mb (Int.emod_nonneg (n2 + sp * (k:Int)) (show (26:Int)≠0 by decide)) (Int.emod_lt_of_pos _ (by decide))
  have e:ck k=c:=by show (dS qN.cps.toList ((n2 + sp * (k:Int)) % 26)).getD 0=c;rw [h1];rfl
  rw [e];exact ⟨h1,h2⟩
 let nk:Nat->Str:=fun k=>iF ⟨#[cf]⟩ n5++⟨#[ck k]⟩++iF ⟨#[cf]⟩ (1 + n4 - 1 - n5)
 have hnl:∀ k,(nk k).cps.toList=List.replicate n5.toNat cf++[ck k]++List.replicate (1 + n4 - 1 - n5).toNat cf:=fun k=>by
  show (iF ⟨#[cf]⟩ n5++⟨#[ck k]⟩++iF ⟨#[cf]⟩ (1 + n4 - 1 - n5)).cps.toList=_
  rw [pX,pX,tQ,tQ]
 have hnn:∀ k,isName (.str (nk k))=true:=fun k=>by
  refine RP (hnl k) (fun c hc=>?_) (by simp;omega) (by simp;omega)
  simp only [List.mem_append,List.mem_replicate,List.mem_singleton] at hc
  rcases hc with (⟨_,rfl⟩ | rfl) | ⟨_,rfl⟩
  ·exact hlf
  ·exact (hck k).2
  ·exact hlf
 have hrl:∀ n:Int,n<=8->(iF ⟨#[cf]⟩ n).length<=8:=fun n h=>by
  have e:(iF ⟨#[cf]⟩ n).length=(iF ⟨#[cf]⟩ n).cps.toList.length:=rfl
  rw [e,tQ,List.length_replicate];omega
 have hr1:=hrl n5 (by omega)
 have hr2:=hrl (1 + n4 - 1 - n5) (by omega)
 refine e7 (S:=⟨none,cA 0 m⟩) (M1:=MM) ((List.range m).map fun k=>.str (nk k)) (fun R r=>by simp! only [aE,aD];exact ⟨by omega,by omega,by simpa using r⟩) (by rw [List.length_map,List.length_range];show _=(cA 0 m).length;rw [gD]) (small (by show (cA 0 m).length<=_;rw [gD];omega)) (fun a e=>by cases e) ?_ ?_
 ·intro j x y hx hy M' hS R r'
  obtain ⟨rfl,hj⟩:=wU hx
  rw [List.getElem?_map,List.getElem?_range hj] at hy
  cases hy
  simp! only [hName,aE,aD]
  have e0:(0:Int) + (j:Int)=(j:Int):=by omega
  rw [e0]
  have hl2:(iF ⟨#[cf]⟩ n5++⟨#[ck j]⟩:Str).length<=100:=by
   have e:(iF ⟨#[cf]⟩ n5++⟨#[ck j]⟩:Str).length=(iF ⟨#[cf]⟩ n5++⟨#[ck j]⟩:Str).cps.toList.length:=rfl
   rw [e,pX,tQ];simp;omega
  have h1j:(⟨#[ck j]⟩:Str).length=1:=rfl
  refine ⟨by omega,by omega,by rw [h1c];decide,by rw [h1c];omega,mulL (by omega) (by omega),by decide,habc,ck j,(hck j).1,small (by rw [h1j];omega),small (by omega),r'⟩
 ·simp! only [aE,aD]
  rw [<- hMM]
  have e:(List.range m).map (fun k=>U.str (nk k))=((List.range m).map nk).map U.str:=by rw [List.map_map];rfl
  rw [e]
  exact aO (q ((List.range m).map nk) d5 x5 (by simp) (fun s hs=>by
   obtain ⟨k,_,rfl⟩:=List.mem_map.mp hs
   exact hnn k) l1 l2 l3)
noncomputable def pI (n:Nat):cX:=fun us M Q=>∃ (f:Addr) (d x:Int) (names:List Str) (k:Nat),us=[.ref f,.lst (names.map U.str),.int (k:Int),.int 0]/\M f=some (.lst (cD d x))/\0<=d/\0<=x/\x<=2147484647/\k < n/\k<=10/\1<=names.length/\names.length<=3/\(∀ s∈names,isName (.str s)=true)/\∀ (t:Tr) (d' x':Int),t.good->t.dep<=k + 1->t.size + 1<=2 ^ (k + 1)->0<=d'->0<=x'->x'<=2147484647->Q t.toU (mup M f (.lst (cD d' x')))
theorem Ri {n:Int} (h0:0<=n) (h1:n < 4):∃ o:Op,dS [U.str (Str.ofString "sum"),U.str (Str.ofString "less"),U.str (Str.ofString "by"),U.str (Str.ofString "sum")] n=some (.str o.word):=by
 have e:n=0\/n=1\/n=2\/n=3:=by omega
 rcases e with rfl | rfl | rfl | rfl
 ·exact ⟨.sum,rfl⟩
 ·exact ⟨.less,rfl⟩
 ·exact ⟨.by_,rfl⟩
 ·exact ⟨.sum,rfl⟩
theorem Nk {a b:U} {n:Int} (h0:0<=n) (h1:n < 2):dS [a,b] n=some a\/dS [a,b] n=some b:=by
 have e:n=0\/n=1:=by omega
 rcases e with rfl | rfl
 ·exact .inl rfl
 ·exact .inr rfl
theorem Rf {n:Nat} (F:b9 K "_law_tree" "_law_tree" gF f fd) (hm:mg "_law_tree"=some (.ref f)) (bT:mg "len"=none) (bM:Callee P w K mg base 1 "_law_take" mB []) (kM:Callee P w K mg base (n + 1) "_law_tree" (pI n) []):Callee P w K mg base (n + 2) "_law_tree" (pI (n + 1)) []:=by
 refine bL F hm lP (Tj fun _ _ _ _ _ _ _ _ _ _=>rfl) (aH (bF 4 lP.nd (aV bM (aA (uv 0) (aA aK aB))))
 (aH (bX (g9.pt (nO (bV Bt (uv 3) aK) (kZ (bV wC (uv 4) aK))))
 (aJ (aZ (aW (aA bR (aA (aQ (dB (own:=false) (aA (kT (uv 3) aK) (aA (aV bM (aA (uv 0) (aA (uv 3) aB))) aB))) (aV bM (aA (uv 0) (aA aK aB)))) aB)))))
 bH)
 (aH (bX (g9.pt (jG (bV cM (uv 2) aK) (jY (bV wC (uv 4) aK))))
 (aH (bF 5 lP.nd (aV bM (aA (uv 0) (aA aK aB))))
 (aH (bX (bV cM (uv 5) aK)
 (aJ (aZ (aW (aA bR (aA (aQ (dB (own:=false) (aA (aV bM (aA (uv 0) (aA aK aB))) (aA (aV bM (aA (uv 0) (aA (bU (own:=false) (CL aK aK) aK) aB))) aB))) (aV bM (aA (uv 0) (aA aK aB)))) aB)))))
 bH)
 (aJ (aZ (aW (aA bR (aA (aQ (uv 1) (aV bM (aA (uv 0) (aA (cQ gI bT (aA (uv 1) aB)) aB)))) aB)))))))
 bH)
 (aH (bX (bV cM (uv 4) aK)
 (aJ (aZ (aW (aA bR (aA (aV kM (aA (uv 0) (aA (uv 1) (aA (kT (uv 2) aK) (aA (uv 3) aB))))) aB)))))
 bH)
 (aH (bF 6 lP.nd (aQ (dB (own:=false) (aA bR (aA bR (aA bR (aA bR aB))))) (kT (uv 4) aK)))
 (aJ (aZ (aW (aA (uv 6) (aA (aV kM (aA (uv 0) (aA (uv 1) (aA (kT (uv 2) aK) (aA (uv 3) aB))))) (aA (aV kM (aA (uv 0) (aA (uv 1) (aA (kT (uv 2) aK) (aA (uv 3) aB))))) aB))))))))))) ?_
 rintro us M Q ⟨r,d,x,names,k,rfl,hM,hd,hx,hx2,hk,hk10,hn1,hn3,hnm,q⟩
 refine ⟨rfl,?_⟩
 refine aU fun V hV=>?_
 simp! only [bQ,hName,aE,aD]
 refine ⟨r,d,x,10,rfl,hM,hd,hx,hx2,by decide,by decide,fun w d1 x1 a1 b1 c1 c2 c3=>?_⟩
 subst hV
 refine aU fun V hV=>?_
 refine cG fun A B hA hB=>?_
 simp! only [show decide ((0:Int) < 0)=false from rfl,aE,aD]
 subst hB
 simp only [b7]
 subst hV
 refine aU fun V hV=>?_
 refine cG fun A B hA hB=>?_
 have goA:A (mup M r (.lst (cD d1 x1))):=by
  subst hA
  refine aU fun V2 hV2=>?_
  simp! only [bQ,hName,aE,aD]
  refine ⟨r,d1,x1,3,rfl,aX,c1,c2,c3,by decide,by decide,fun l d2 x2 a2 b2 f1 f2 f3=>?_⟩
  rw [bZ]
  subst hV2
  refine aU fun V2 hV2=>?_
  refine cG fun A B hA hB=>?_
  simp! only [aE,aD]
  refine fU (fun _=>?_) (fun _=>?_)
  ·subst hA
   simp! only [cE,aE,aD]
   refine ⟨r,d2,x2,6,rfl,aX,f1,f2,f3,by decide,by decide,fun p d3 x3 a3 b3 g1 g2 g3=>?_⟩
   rw [bZ]
   simp! only [aE,aD]
   refine ⟨⟨by decide,by decide,by decide⟩,r,d3,x3,1000000000000000001,rfl,aX,g1,g2,g3,by decide,by decide,fun p2 d4 x4 a4 b4 l1 l2 l3=>?_⟩
   rw [bZ]
   simp! only [aE,aD]
   refine ⟨r,d4,x4,2,rfl,aX,l1,l2,l3,by decide,by decide,fun p3 d5 x5 a5 b5 m1 m2 m3=>?_⟩
   rw [bZ]
   have hpw:2<=2 ^ (k + 1):=by rw [Nat.pow_succ];have:=Nat.one_le_two_pow (n:=k);omega
   rcases Nk (a:=U.int p) (b:=U.int p2) a5 b5 with h | h
   ·simp! only [h,aE,aD]
    exact aO (q (.num p) d5 x5 ⟨a3,by omega⟩ (by simp [Tr.dep]) (by simp only [Tr.size];omega) m1 m2 m3)
   ·simp! only [h,aE,aD]
    exact aO (q (.num p2) d5 x5 ⟨a4,by omega⟩ (by simp [Tr.dep]) (by simp only [Tr.size];omega) m1 m2 m3)
  ·subst hB
   simp only [b7]
   subst hV2
   simp! only [cE,List.length_map,aE,aD]
   refine ⟨r,d2,x2,names.length,rfl,aX,f1,f2,f3,by omega,by omega,fun i d3 x3 a3 b3 g1 g2 g3=>?_⟩
   rw [bZ]
   have hlt:i.toNat < names.length:=by omega
   have hat:dS (names.map U.str) i=some (.str names[i.toNat]):=by
    have:=dP (xs:=names.map U.str) (j:=i.toNat) (v:=.str names[i.toNat]) (by rw [List.getElem?_map,List.getElem?_eq_getElem hlt];rfl)
    rw [Int.toNat_of_nonneg a3] at this
    exact this
   have hpw:2<=2 ^ (k + 1):=by rw [Nat.pow_succ];have:=Nat.one_le_two_pow (n:=k);omega
   exact ⟨_,hat,aO (q (.name names[i.toNat]) d3 x3 (hnm _ (List.getElem_mem hlt)) (by simp [Tr.dep]) (by simp only [Tr.size];omega) g1 g2 g3)⟩
 simp! only [aE,aD]
 refine fU (fun _=>goA) (fun h=>?_)
 refine fU (fun _=>goA) (fun h5=>?_)
 have hk0:k≠0:=fun z=>h (by subst z;rfl)
 obtain ⟨k',rfl⟩:∃ k',k=k' + 1:=⟨k - 1,by omega⟩
 have ek:((k' + 1:Nat):Int) - 1=(k':Int):=by push_cast;omega
 have hw5:5<=w:=by
  have:¬ w < 5:=fun z=>h5 (by simpa using z)
  omega
 subst hB
 simp only [b7]
 subst hV
 refine aU fun V hV=>?_
 refine cG fun A B hA hB=>?_
 simp! only [aE,aD]
 refine fU (fun _=>?_) (fun hne=>?_)
 ·subst hA
  simp! only [cE,ek,aE,aD]
  refine ⟨r,d1,x1,names,k',rfl,aX,c1,c2,c3,by omega,by omega,hn1,hn3,hnm,fun t d2 x2 ht hdp hsz f1 f2 f3=>?_⟩
  rw [bZ]
  simp! only [aE,aD]
  exact aO (q (.turn t) d2 x2 ht (by simp only [Tr.dep];omega) (by simp only [Tr.size];rw [Nat.pow_succ];have:=Nat.one_le_two_pow (n:=k' + 1);omega) f1 f2 f3)
 ·subst hB
  simp only [b7]
  subst hV
  refine aU fun V hV=>?_
  have hw6:w≠5:=fun z=>hne (decide_eq_true z)
  obtain ⟨o,ho⟩:=Ri (n:=w - 6) (by omega) (by omega)
  simp! only [bQ,hName,ho,aE,aD]
  subst hV
  simp! only [cE,ek,aE,aD]
  refine ⟨r,d1,x1,names,k',rfl,aX,c1,c2,c3,by omega,by omega,hn1,hn3,hnm,fun t d2 x2 ht hdp hsz f1 f2 f3=>?_⟩
  rw [bZ]
  simp! only [ek,aE,aD]
  refine ⟨r,d2,x2,names,k',rfl,aX,f1,f2,f3,by omega,by omega,hn1,hn3,hnm,fun t2 d3 x3 ht2 hdp2 hsz2 g1 g2 g3=>?_⟩
  rw [bZ]
  simp! only [aE,aD]
  exact aO (q (.two o t t2) d3 x3 ⟨ht,ht2⟩ (by simp only [Tr.dep];omega) (by simp only [Tr.size];rw [Nat.pow_succ];omega) g1 g2 g3)
theorem Bm (F:b9 K "_law_tree" "_law_tree" gF f fd) (hm:mg "_law_tree"=some (.ref f)) (bT:mg "len"=none) (bM:Callee P w K mg base 1 "_law_take" mB []):∀ n,Callee P w K mg base (n + 1) "_law_tree" (pI n) []
 | 0=>by
  have no:∀ us M Q,¬ pI 0 us M Q:=fun us M Q h=>by
   obtain ⟨_,_,_,_,_,_,_,_,_,_,h,_⟩:=h
   omega
  refine ⟨f,fd,["feed","names","deep","number"],[],[],⟨fun vs H Q E h=>?_,fun A outer s H args us vs Q E _ _ _ _ h=>?_⟩,hm,F.kp,F.binds (Tj fun _ _ _ _ _ _ _ _ _ _=>rfl),.nil,fun H M=>.nil⟩
  ·obtain ⟨us,M,Q',_,_,h,_⟩:=h;exact absurd h (no us M Q')
  ·obtain ⟨us,M,Q',_,_,h,_⟩:=h;exact absurd h (no us M Q')
 | n + 1=>Rf F hm bT bM (Bm F hm bT bM n)
noncomputable def kN:Nat->Tr
 | 0=>.name "b"
 | n + 1=>.turn (kN n)
theorem zW:∀ n,(kN n).dep=n + 1
 | 0=>rfl
 | n + 1=>by simp only [kN,Tr.dep,zW n]
theorem v5:∀ n,(kN n).size=n + 1
 | 0=>rfl
 | n + 1=>by simp only [kN,Tr.size,v5 n]
theorem vS:∀ n,(kN n).good
 | 0=>by show isName (.str (Str.ofString "b"))=true;decide +kernel
 | n + 1=>vS n
noncomputable def Gq:cX:=fun us M Q=>∃ n:Nat,us=[.int ((n + 1:Nat):Int)]/\n<=100/\Q (kN n).toU M
theorem OX (F:b9 K "_law_chain" "_law_chain" iC f fd) (hm:mg "_law_chain"=some (.ref f)) (cR:mg "range"=none):Callee P w K mg base 1 "_law_chain" Gq []:=by
 refine bL F hm kS (fY fun _ _ _ _ _ _ _=>rfl) (aH (bF 1 kS.nd (aW (aA bR (aA bR aB))))
 (aH (fD (mR cR (aA (kT (uv 0) aK) aB)) (bW (k:=1000) 2 kS.nd)
 (aJ (bF 1 kS.nd (aW (aA bR (aA (uv 1) aB))))))
 (aJ (aZ (uv 1))))) ?_
 rintro us M Q ⟨n,rfl,hn,q⟩
 refine ⟨rfl,?_⟩
 have en:((n + 1:Nat):Int) - 1=(n:Int):=by push_cast;omega
 refine aU fun V hV=>?_
 simp! only [bQ,hName,aE,aD]
 subst hV
 refine aU fun V hV=>?_
 refine fX (S:=⟨none,cA 0 n⟩) (M1:=M) (fun R r=>by simp! only [en,aE,aD];exact ⟨by omega,by omega,by simpa using r⟩)
  (fun i τ Mi=>∃ z2:Option U,τ=[some (.int ((n + 1:Nat):Int)),some (kN i).toU,z2]/\Mi=M) ⟨none,rfl,rfl⟩ nk ?_ ?_
 ·rintro i x τ Mi e ⟨z2,rfl,rfl⟩
  simp! only [hName,bQ,aE,aD]
  first | exact ⟨_,rfl,rfl⟩ | exact ⟨_,rfl,trivial⟩ | exact ⟨_,rfl⟩
 ·rintro τ Mi ⟨z2,rfl,rfl⟩
  have hlen:(Src.mk none (cA 0 n)).xs.length=n:=gD 0 n
  rw [hlen]
  subst hV
  simp! only [cE,aE,aD]
  exact aO q
noncomputable def Qv:cX:=fun us M Q=>∃ (f:Addr) (d x:Int) (k:Nat),us=[.ref f,.int 1,.int (k:Int)]/\M f=some (.lst (cD d x))/\0<=d/\0<=x/\x<=2147484647/\k<=9/\∀ (t:Tr) (d' x':Int),t.good->t.dep<=k + 1->t.size + 1<=2 ^ (k + 1)->0<=d'->0<=x'->x'<=2147484647->Q (.tup [t.toU]) (mup M f (.lst (cD d' x')))
theorem Vh (F:b9 K "_law_web" "_law_web" kJ f fd) (hm:mg "_law_web"=some (.ref f)) (cR:mg "range"=none) (bN:mg "tuple"=none) (bM:Callee P w K mg base 1 "_law_take" mB []) (AF:Callee P w K mg base 2 "_law_unlike" Bd []) (kM:Callee P w K mg base 11 "_law_tree" (pI 10) []):Callee P w K mg base 12 "_law_web" Qv []:=by
 refine bL F hm xB (QA fun _ _ _ _ _ _ _ _ _=>rfl) (aH (bF 3 xB.nd (aV AF (aA (uv 0) (aA (bU (own:=false) aK (aV bM (aA (uv 0) (aA aK aB)))) aB))))
 (aJ (aZ (WK QX bN (aA (iD false ["number","feed","names","deep"] 1 [0,3,2] (mR cR (aA (uv 1) aB)) (bW (k:=1) 0 (by dsimp only [cJ];decide +kernel)) i8 (aV kM (aA (uv 1) (aA (uv 2) (aA (uv 3) (aA (uv 0) aB)))))) aB))))) ?_
 rintro us M Q ⟨r,d,x,k,rfl,hM,hd,hx,hx2,hk,q⟩
 refine ⟨rfl,?_⟩
 refine aU fun V hV=>?_
 simp! only [bQ,hName,aE,aD]
 refine ⟨r,d,x,3,rfl,hM,hd,hx,hx2,by decide,by decide,fun n1 d1 x1 a1 b1 c1 c2 c3=>?_⟩
 simp! only [aE,aD]
 obtain ⟨m,hmm⟩:∃ m:Nat,1 + n1=(m:Int):=⟨(1 + n1).toNat,by omega⟩
 rw [hmm]
 refine ⟨r,d1,x1,m,rfl,aX,c1,c2,c3,by omega,fun names d2 x2 hl hnm f1 f2 f3=>?_⟩
 rw [bZ]
 subst hV
 simp! only [cE,aE,aD]
 refine ⟨by decide,by decide,by decide,fun D hD=>⟨fun i ys M'=>(i=0/\ys=[]/\M'=mup (mup M r (.lst (cD d2 x2))) D (.lst []))\/(i=1/\∃ (t:Tr) (d' x':Int),ys=[t.toU]/\M'=mup (mup M r (.lst (cD d' x'))) D (.lst [t.toU])/\t.good/\t.dep<=k + 1/\t.size + 1<=2 ^ (k + 1)/\0<=d'/\0<=x'/\x'<=2147484647),.inl ⟨rfl,rfl,rfl⟩,?_,?_,?_⟩⟩
 ·rintro i ys M' (⟨rfl,rfl,rfl⟩ | ⟨rfl,t,d',x',rfl,rfl,_⟩)
  ·exact ⟨(fun a e=>by cases e),aX,by simp⟩
  ·exact ⟨(fun a e=>by cases e),aX,by simp⟩
 ·rintro i y ys M' hy (⟨rfl,rfl,rfl⟩ | ⟨rfl,t,d',x',rfl,rfl,_⟩)
  ·have hy':y=.int 0:=by
    have h:(cA 0 (Int.toNat 1))[0]?=some y:=hy
    cases h;rfl
   subst hy'
   have hDr:r≠D:=fun z=>by subst z;rw [aX] at hD;cases hD
   simp! only [hName,aE,aD]
   refine ⟨r,d2,x2,names,k,rfl,by rw [cB hDr,aX],f1,f2,f3,by omega,by omega,by omega,by omega,hnm,fun t d3 x3 ht hdp hsz g1 g2 g3=>?_⟩
   have e1:mup (mup (mup M r (.lst (cD d2 x2))) D (.lst [])) r (.lst (cD d3 x3)) D=some (.lst []):=by rw [cB (Ne.symm hDr),aX]
   first | refine ⟨e1,.inr ⟨rfl,t,d3,x3,rfl,?_,ht,hdp,hsz,g1,g2,g3⟩⟩ | refine ⟨e1,.inr ⟨t,d3,x3,rfl,?_,ht,hdp,hsz,g1,g2,g3⟩⟩ | refine ⟨e1,t,d3,x3,rfl,?_,ht,hdp,hsz,g1,g2,g3⟩
   funext z
   by_cases z1:z=D
   ·subst z1;rw [aX,aX]
   ·rw [cB z1,cB z1]
    by_cases z2:z=r
    ·subst z2;rw [aX,aX]
    ·rw [cB z2,cB z1,cB z2,cB z2]
  ·have h:(cA 0 (Int.toNat 1))[1]?=some y:=hy
   cases h
 ·rintro ys M' (⟨h,rfl,rfl⟩ | ⟨_,t,d',x',rfl,rfl,ht,hdp,hsz,g1,g2,g3⟩)
  ·cases h
  ·have hDr:r≠D:=fun z=>by subst z;rw [aX] at hD;cases hD
   have hMD:M D=none:=by rw [cB (Ne.symm hDr)] at hD;exact hD
   refine ⟨mup M r (.lst (cD d' x')),(Sub.refl _).mup (by rw [cB (Ne.symm hDr)];exact hMD),by rw [cB (Ne.symm hDr)];exact hMD,?_⟩
   simp! only [aE,aD]
   exact aO (q t d' x' ht hdp hsz g1 g2 g3)
theorem QM {α β:Type} (g:α->β) (l:List α) (a b:Option Int):dO (l.map g) a b=(dO l a b).map g:=by
 unfold dO
 rw [List.length_map,List.map_take,List.map_drop]
theorem U6 {α:Type} (l:List α) {j:Nat} (h:j<=l.length):dO l (some (j:Int)) none=l.drop j:=by
 unfold dO
 have e:HT.bS l.length 0 (some (j:Int))=j:=by
  simp only [HT.bS];rw [if_neg (by omega)];omega
 have e2:HT.bS l.length l.length none=l.length:=rfl
 rw [e,e2,List.take_of_length_le (by rw [List.length_drop];omega)]
theorem u5 {α:Type} {g:α->U} {gd:α->PyData}:∀ l:List α,(∀ x∈l,toD (g x)=some (gd x))->eO (l.map g)=some (l.map gd)
 | [],_=>rfl
 | x :: l,h=>by
  simp only [List.map_cons,eO]
  rw [h x List.mem_cons_self,u5 l fun y hy=>h y (List.mem_cons_of_mem _ hy)]
theorem yU {α:Type} {gd:α->PyData}:∀ l:List α,(∀ x∈l,(gd x).canLay0=true)->PyData.canLayAll0 (l.map gd)=true
 | [],_=>rfl
 | x :: l,h=>by
  simp only [List.map_cons,PyData.canLayAll0]
  rw [h x List.mem_cons_self,yU l fun y hy=>h y (List.mem_cons_of_mem _ hy)];rfl
noncomputable def wM (p:List Nat):PyData:=.tuple (p.map fun (n:Nat)=>.int (n:Int))
theorem Lo (p:List Nat):toD (bI p)=some (wM p):=by
 simp only [bI,toD]
 rw [u5 (gd:=fun n:Nat=>PyData.int (n:Int)) p fun c _=>rfl];rfl
theorem M8 (p:List Nat):(wM p).canLay0=true:=by
 simp only [wM,PyData.canLay0]
 exact yU p fun c _=>rfl
noncomputable def pairF:List Tr->List Tr
 | a :: b :: r=>.two .less a b :: pairF r
 | l=>l
noncomputable def pk (ts:List Tr) (k:Nat):Tr:=.two .less (ts[2 * k]?.getD (.num 0)) (ts[2 * k + 1]?.getD (.num 0))
theorem GA:∀ ts:List Tr,(List.range (ts.length / 2)).map (pk ts)++ts.drop (ts.length / 2 * 2)=pairF ts
 | []=>by simp [pairF]
 | [a]=>by simp [pairF]
 | a :: b :: r=>by
  have e:(a :: b :: r).length / 2=r.length / 2 + 1:=by simp only [List.length_cons];omega
  rw [e,List.range_succ_eq_map,List.map_cons,List.map_map,List.cons_append]
  have e2:(pk (a :: b :: r)) ∘ Nat.succ=pk r:=by
   funext k
   simp only [Function.comp,pk,show 2 * Nat.succ k=2 * k + 1 + 1 by omega,List.getElem?_cons_succ]
  rw [e2,show (r.length / 2 + 1) * 2=r.length / 2 * 2 + 1 + 1 by omega,List.drop_succ_cons,List.drop_succ_cons,GA r]
  rfl
theorem C9:∀ ts:List Tr,((pairF ts).map fun t=>t.size + 1).sum=(ts.map fun t=>t.size + 1).sum
 | []=>rfl
 | [a]=>rfl
 | a :: b :: r=>by
  simp only [pairF,List.map_cons,List.sum_cons,C9 r,Tr.size];omega
theorem C6:∀ ts:List Tr,(pairF ts).length=(ts.length + 1) / 2
 | []=>by simp [pairF]
 | [a]=>by simp [pairF]
 | a :: b :: r=>by simp only [pairF,List.length_cons,C6 r];omega
theorem zH:∀ ts:List Tr,(∀ t∈ts,t.good)->∀ t∈pairF ts,t.good
 | [],h,t,ht=>h t ht
 | [a],h,t,ht=>h t ht
 | a :: b :: r,h,t,ht=>by
  rcases List.mem_cons.mp ht with rfl | ht
  ·exact ⟨h a (by simp),h b (by simp)⟩
  ·exact zH r (fun t ht=>h t (by simp [ht])) t ht
theorem A5 {n:Nat}:∀ ts:List Tr,(∀ t∈ts,t.dep<=n)->∀ t∈pairF ts,t.dep<=n + 1
 | [],h,t,ht=>Nat.le_succ_of_le (h t ht)
 | [a],h,t,ht=>Nat.le_succ_of_le (h t ht)
 | a :: b :: r,h,t,ht=>by
  rcases List.mem_cons.mp ht with rfl | ht
  ·have:=h a (by simp)
   have:=h b (by simp)
   simp only [Tr.dep];omega
  ·exact A5 r (fun t ht=>h t (by simp [ht])) t ht
noncomputable def Bg:Tr:=.turn (.name "a")
theorem KQ:Bg.good:=by show isName (.str (Str.ofString "a"))=true;decide +kernel
noncomputable def Qh:cX:=fun us M Q=>us=[.int 66]/\∀ t:Tr,t.good->t.dep<=20->t.size=197->Q t.toU M
noncomputable def wQ (ts:List Tr):Prop:=(∀ t∈ts,t.good)/\1<=ts.length/\ts.length<=66/\(ts.map fun t=>t.size + 1).sum=198/\∃ r,(ts.length - 1) * 2 ^ r<=65/\r<=7/\∀ t∈ts,t.dep<=2 + r
theorem OI {ts:List Tr} (h:wQ ts) (h1:1 < ts.length):wQ (pairF ts)/\(pairF ts).length < ts.length:=by
 obtain ⟨g,l1,l2,s,r,hr,hr7,hd⟩:=h
 have hl:=C6 ts
 have h6:r<=6:=by
  by_cases h:r=7
  ·subst h
   have:1 * 2 ^ 7<=(ts.length - 1) * 2 ^ 7:=Nat.mul_le_mul_right _ (by omega)
   omega
  ·omega
 refine ⟨⟨zH ts g,by omega,by omega,by rw [C9,s],r + 1,?_,by omega,A5 ts hd⟩,by omega⟩
 have:((pairF ts).length - 1) * 2<=ts.length - 1:=by omega
 have:=Nat.mul_le_mul_right (2 ^ r) this
 rw [Nat.pow_succ,Nat.mul_comm (2 ^ r) 2,<- Nat.mul_assoc]
 omega
theorem K2:wQ (List.replicate 66 Bg):=by
 refine ⟨fun t ht=>?_,by simp,by simp,by decide +kernel,0,by simp,by omega,fun t ht=>?_⟩
 ·rw [(List.mem_replicate.mp ht).2];exact KQ
 ·rw [(List.mem_replicate.mp ht).2];simp [Bg,Tr.dep]
theorem SJ (F:b9 K "_law_row" "_law_row" kK f fd) (hm:mg "_law_row"=some (.ref f)) (cR:mg "range"=none) (bT:mg "len"=none):Callee P w K mg base 1 "_law_row" Qh []:=by
 refine bL F hm pO (fY fun _ _ _ _ _ _ _=>rfl) (aH (Sk 1 pO.nd (iD false ["k"] 1 [] (mR cR (aA (uv 0) aB)) (bW (k:=1) 0 (by dsimp only [cJ];decide +kernel)) i8 (aW (aA bR (aA (aW (aA bR (aA bR aB))) aB)))))
 (aH (Df (bV Bt (cQ gI bT (aA (uv 1) aB)) aK)
 (aJ (bF 1 pO.nd (bU (own:=false) (iD false ["k","trees"] 1 [1] (mR cR (aA (sU (cQ gI bT (aA (uv 1) aB)) aK) aB)) (bW (k:=1) 0 (by dsimp only [cJ];decide +kernel)) i8 (aW (aA bR (aA (aQ (uv 1) (jJ (own:=false) aK (uv 0))) (aA (aQ (uv 1) (bU (own:=false) (jJ (own:=false) aK (uv 0)) aK)) aB))))) (fT (own:=false) (uv 1) (eJ (jJ (own:=false) (sU (cQ gI bT (aA (uv 1) aB)) aK) aK)) eM)))))
 (aJ (aZ (aQ (uv 1) aK))))) ?_
 rintro us M Q ⟨rfl,q⟩
 refine ⟨rfl,?_⟩
 refine aU fun V hV=>?_
 simp only [bQ]
 refine e7 (S:=⟨none,cA 0 66⟩) (M1:=M) ((List.replicate 66 Bg).map Tr.toU) (fun R r=>by simp! only [aE,aD];exact ⟨by omega,by omega,r⟩) (by rw [List.length_map,List.length_replicate];show _=(cA 0 66).length;rw [gD]) (by show (cA 0 66).length<=_;rw [gD];decide) (fun a e=>by cases e) ?_ ?_
 ·intro i x y hx hy M' hS R r'
  rw [List.map_replicate,List.getElem?_replicate] at hy
  split at hy
  ·cases hy
   simp! only [hName,aE,aD]
   exact r'
  ·cases hy
 simp! only [hName,aE,aD]
 subst hV
 refine aU fun V hV=>?_
 refine Bv (fun τ Mi=>∃ ts:List Tr,τ=[some (.int 66),some (.lst (ts.map Tr.toU))]/\Mi=M/\wQ ts) (fun τ _=>match τ with | [_,some (.lst l)]=>l.length | _=>0) ⟨List.replicate 66 Bg,rfl,rfl,K2⟩ ?_
 rintro τ Mi ⟨ts,rfl,rfl,inv⟩
 simp! only [List.length_map,aE,aD]
 refine fU (fun h=>?_) (fun h=>?_)
 ·have h1:1 < ts.length:=by have:=of_decide_eq_true h;omega
  obtain ⟨n1,n2⟩:=OI inv h1
  have hl:=inv.2.2.1
  have ed:((ts.length:Int) / 2)=((ts.length / 2:Nat):Int):=by omega
  have em:(((ts.length / 2:Nat):Int) * 2)=((ts.length / 2 * 2:Nat):Int):=by omega
  simp! only [bQ,hName,aE,aD]
  refine e7 (S:=⟨none,cA 0 (ts.length / 2)⟩) (M1:=Mi) (((List.range (ts.length / 2)).map (pk ts)).map Tr.toU) (fun R r=>by simp! only [List.length_map,ed,aE,aD];exact ⟨⟨by decide,by decide⟩,by omega,by omega,by rw [Int.toNat_natCast];exact r⟩) (by rw [List.length_map,List.length_map,List.length_range];show _=(cA 0 _).length;rw [gD]) (small (by show (cA 0 _).length<=_;rw [gD];omega)) (fun a e=>by cases e) ?_ ?_
  ·intro i x y hx hy M' hS R r'
   obtain ⟨rfl,hi⟩:=wU hx
   rw [List.getElem?_map,List.getElem?_map,List.getElem?_range hi] at hy
   cases hy
   have hlt:2 * i + 1 < ts.length:=by omega
   have a0:dS (ts.map Tr.toU) (2 * (0 + (i:Int)))=some (ts[2 * i]?.getD (.num 0)).toU:=by
    have:=dP (xs:=ts.map Tr.toU) (j:=2 * i) (v:=(ts[2 * i]?.getD (.num 0)).toU) (by rw [List.getElem?_map,List.getElem?_eq_getElem (by omega)];rfl)
    rw [<- this];congr 1;omega
   have a1:dS (ts.map Tr.toU) (2 * (0 + (i:Int)) + 1)=some (ts[2 * i + 1]?.getD (.num 0)).toU:=by
    have:=dP (xs:=ts.map Tr.toU) (j:=2 * i + 1) (v:=(ts[2 * i + 1]?.getD (.num 0)).toU) (by rw [List.getElem?_map,List.getElem?_eq_getElem (by omega)];rfl)
    rw [<- this];congr 1;omega
   simp! only [hName,aE,aD]
   refine ⟨mulL (by decide) (by decide),_,a0,mulL (by decide) (by decide),_,a1,?_⟩
   exact r'
  ·simp! only [QM,List.length_map,ed,em,U6 ts (show ts.length / 2 * 2<=ts.length by omega),aE,aD]
   refine ⟨⟨by decide,by decide⟩,mulR (by decide) (by decide),small (by simp only [List.length_map,List.length_range,List.length_drop];omega),?_⟩
   rw [<- List.map_append,GA]
   exact ⟨⟨pairF ts,rfl,n1⟩,by simp only [List.length_map];exact n2⟩
 ·have h1:ts.length<=1:=by
   have:¬ (1 < (ts.length:Int)):=fun z=>h (decide_eq_true z)
   omega
  show V _ _
  subst hV
  obtain ⟨g,l1,l2,s,r,hr,hr7,hd⟩:=inv
  match ts,h1,l1,g,s,hd with
  | [t],_,_,g,s,hd =>
   simp! only [cE,aE,aD]
   refine aO (q t (g t (by simp)) ?_ ?_)
   ·have:=hd t (by simp);omega
   ·simp only [List.map_cons,List.map_nil,List.sum_cons,List.sum_nil] at s;omega
noncomputable def Gu:cX:=fun us M Q=>∃ (f:Addr) (d x:Int),us=[.ref f]/\M f=some (.lst (cD d x))/\0<=d/\0<=x/\x<=2147484647/\∀ (t:Tr) (d' x':Int),t.good->t.dep<=45->t.size<=900->Q t.toU (mup M f (.lst (cD d' x')))
theorem N6 (F:b9 K "_law_great" "_law_great" hW f fd) (hm:mg "_law_great"=some (.ref f)) (bM:Callee P w K mg base 1 "_law_take" mB []) (LH:Callee P w K mg base 1 "_law_row" Qh []) (Dr:Callee P w K mg base 1 "_law_chain" Gq []):Callee P w K mg base 2 "_law_great" Gu []:=by
 refine bL F hm rK (fY fun _ _ _ _ _ _ _=>rfl) (aH (bF 1 rK.nd (aV bM (aA (uv 0) (aA aK aB))))
 (aH (bX (bV wC (uv 1) aK)
 (aJ (aZ (aW (aA bR (aA (aV LH (aA aK aB)) (aA (aQ (dB (own:=false) (aA (aW (aA bR (aA bR aB))) (aA (aW (aA bR (aA (aW (aA bR (aA bR aB))) aB))) aB))) (uv 1)) aB))))))
 bH)
 (aJ (aZ (aW (aA bR (aA (aW (aA bR (aA aK aB))) (aA (aW (aA bR (aA (aV Dr (aA (bU (own:=false) aK (uv 1)) aB)) (aA (aW (aA bR (aA aK aB))) aB)))) aB)))))))) ?_
 rintro us M Q ⟨r,d,x,rfl,hM,hd,hx,hx2,q⟩
 refine ⟨rfl,?_⟩
 have gx:(Tr.name (Str.ofString "x")).good:=by show isName (.str (Str.ofString "x"))=true;decide +kernel
 refine aU fun V hV=>?_
 simp! only [bQ,hName,aE,aD]
 refine ⟨r,d,x,4,rfl,hM,hd,hx,hx2,by decide,by decide,fun n1 d1 x1 a1 b1 c1 c2 c3=>?_⟩
 subst hV
 refine aU fun V hV=>?_
 refine cG fun A B hA hB=>?_
 simp! only [aE,aD]
 refine fU (fun h=>?_) (fun h=>?_)
 ·have h2:n1 < 2:=of_decide_eq_true h
  subst hA
  simp! only [cE,aE,aD]
  refine ⟨rfl,fun t gt dt st=>?_⟩
  rcases Nk (a:=(Tr.name (Str.ofString "x")).toU) (b:=(Tr.turn (.name (Str.ofString "x"))).toU) a1 h2 with h | h
  ·refine ⟨_,h,?_⟩
   exact aO (q (.two .less t (.name (Str.ofString "x"))) d1 x1 ⟨gt,gx⟩ (by simp only [Tr.dep];omega) (by simp only [Tr.size];omega))
  ·refine ⟨_,h,?_⟩
   exact aO (q (.two .less t (.turn (.name (Str.ofString "x")))) d1 x1 ⟨gt,gx⟩ (by simp only [Tr.dep];omega) (by simp only [Tr.size];omega))
 ·have h2:2<=n1:=by
   have:¬ n1 < 2:=fun z=>h (decide_eq_true z)
   omega
  subst hB
  simp only [b7]
  subst hV
  simp! only [cE,aE,aD]
  obtain ⟨n,hn⟩:∃ n:Nat,35 + n1=((n + 1:Nat):Int):=⟨(34 + n1).toNat,by omega⟩
  rw [hn]
  refine ⟨n,rfl,by omega,?_⟩
  have:=zW n
  have:=v5 n
  exact aO (q (.two .less (.num 7) (.two .less (kN n) (.num 1))) d1 x1 ⟨⟨by decide,by decide⟩,vS n,by decide,by decide⟩ (by simp only [Tr.dep];omega) (by simp only [Tr.size];omega))
theorem ne_self {u:U} {d:PyData} {M:aI} {Q:UK} (hn:zD u u=none) (h:pL M u=some d) (hl:d.canLay0=true) (hd:d.depth<=64) (q:Q (.bl false) M):jQ true u u M Q:=by
 unfold jQ
 rw [hn]
 refine ⟨d,d,h,h,hl,hl,by omega,?_⟩
 rw [PySem.SeqAt.eqv_refl d hl]
 exact q
noncomputable def Aw:cX:=fun us M Q=>∃ (t a:Tr) (p:List Nat),us=[t.toU,bI p]/\t.at p=some a/\Q a.toU M
theorem DW (F:b9 K "shape_at" "shape_at" jL f fd) (hm:mg "shape_at"=some (.ref f)) (qC:Callee P w K mg base 1 "parts_of" lA []):Callee P w K mg base 2 "shape_at" Aw []:=by
 refine bL F hm lO (rD fun _ _ _ _ _ _ _ _=>rfl) (aH (bF 2 lO.nd (uv 0))
 (aH (fD (eD (uv 1)) (bW (k:=1000) 3 lO.nd)
 (aJ (bF 2 lO.nd (aQ (aV qC (aA (uv 2) aB)) (uv 3)))))
 (aJ (aZ (uv 2))))) ?_
 rintro us M Q ⟨t,a,p,rfl,ht,q⟩
 refine ⟨rfl,?_⟩
 have hst:=tI ht
 refine aU fun V hV=>?_
 simp! only [bQ,hName,aE,aD]
 subst hV
 refine aU fun V hV=>?_
 refine fX (S:=⟨none,p.map fun (n:Nat)=>U.int (n:Int)⟩) (M1:=M) (fun R r=>by simp! only [bI,aE,aD];exact r)
  (fun i τ Mi=>∃ (b:Tr) (z2:Option U),t.at (p.take i)=some b/\τ=[some t.toU,some (bI p),some b.toU,z2]/\Mi=M) ⟨t,none,by rw [List.take_zero,cH],rfl,rfl⟩ nk ?_ ?_
 ·rintro i u τ Mi e ⟨b,z2,hb,rfl,rfl⟩
  have e':(p.map fun (n:Nat)=>U.int (n:Int))[i]?=some u:=e
  rw [List.getElem?_map] at e'
  cases hk:p[i]? with
  | none=>rw [hk] at e';cases e'
  | some k =>
   rw [hk] at e'
   cases e'
   have hi:=(List.getElem?_eq_some_iff.mp hk).1
   obtain ⟨b',c,hb',hc,hbc⟩:=hst i hi
   rw [hb] at hb';cases hb'
   rw [hk] at hbc
   obtain ⟨z,hz,hsg,hl2⟩:=uM hbc
   have hat:dS (b.parts.map Tr.toU) (k:Int)=some c.toU:=dP (by rw [List.getElem?_map];rw [show b.parts[k]?=some c from hbc];rfl)
   simp! only [hName,bQ,aE,aD]
   refine ⟨z,b.parts.map Tr.toU,true,by rw [hz],hsg,by rw [List.length_map];omega,?_⟩
   simp! only [hat,aE,aD]
   exact ⟨c,_,hc,rfl⟩
 ·rintro τ Mi ⟨b,z2,hb,rfl,rfl⟩
  have hlen:(Src.mk none (p.map fun (n:Nat)=>U.int (n:Int))).xs.length=p.length:=by show (p.map _).length=_;rw [List.length_map]
  rw [hlen,List.take_length,ht] at hb
  cases hb
  subst hV
  simp! only [cE,aE,aD]
  exact aO q
theorem HH (F:b9 K "tree_at" "tree_at" kE f fd) (hm:mg "tree_at"=some (.ref f)) (IS:Callee P w K mg base 2 "shape_at" Aw []):Callee P w K mg base 3 "tree_at" Aw []:=by
 refine bL F hm Kq (rD fun _ _ _ _ _ _ _ _=>rfl) (aJ (aZ (aV IS (aA (uv 0) (aA (uv 1) aB))))) ?_
 rintro us M Q ⟨t,a,p,rfl,ht,q⟩
 refine ⟨rfl,?_⟩
 simp! only [cE,aE,aD]
 exact ⟨t,a,p,rfl,ht,aO q⟩
theorem tM:∀ (t:Tr) (p:List Nat) (a:Tr) (q:List Nat),t.at p=some a->(q++p,a)∈cF q t
 | .num n,[],a,q,h=>by rw [cH] at h;cases h;simp [cF]
 | .name n,[],a,q,h=>by rw [cH] at h;cases h;simp [cF]
 | .turn c,[],a,q,h=>by rw [cH] at h;cases h;simp [cF]
 | .two _ c d,[],a,q,h=>by rw [cH] at h;cases h;simp [cF]
 | .turn c,0 :: r,a,q,h=>by
  have:=tM c r a (q++[0]) h
  simp only [cF,List.mem_cons]
  right;simpa using this
 | .two _ c d,0 :: r,a,q,h=>by
  have:=tM c r a (q++[0]) h
  simp only [cF,List.mem_cons,List.mem_append]
  right;left;simpa using this
 | .two _ c d,1 :: r,a,q,h=>by
  have:=tM d r a (q++[1]) h
  simp only [cF,List.mem_cons,List.mem_append]
  right;right;simpa using this
 | .num _,_ :: _,a,q,h=>by simp [Tr.at] at h
 | .name _,_ :: _,a,q,h=>by simp [Tr.at] at h
 | .turn c,(k + 1) :: r,a,q,h=>by simp [Tr.at] at h
 | .two _ c d,(k + 2) :: r,a,q,h=>by simp [Tr.at] at h
theorem UC {t a b:Tr} {p:List Nat} {o:Wo} (ht:t.at p=some a) (hc:o.chg a=some b) (hok:kP (bY t p b)=true):(o,p,bY t p b)∈d7 t:=by
 refine List.mem_filter.mpr ⟨?_,hok⟩
 unfold oJ
 refine List.mem_flatMap.mpr ⟨(p,a),?_,?_⟩
 ·have:=tM t p a [] ht
  simpa using this
 ·unfold jV
  refine List.mem_filterMap.mpr ⟨o,by cases o <;> simp [GI],?_⟩
  simp only [hc];rfl
theorem VC {t:Tr} {e:Wo × List Nat × Tr} (h:e∈d7 t):∃ a b,t.at e.2.1=some a/\e.1.chg a=some b/\e.2.2=bY t e.2.1 b/\kP (bY t e.2.1 b)=true:=by
 obtain ⟨he,hok⟩:=List.mem_filter.mp h
 unfold oJ at he
 obtain ⟨q,hq,he⟩:=List.mem_flatMap.mp he
 have hat:=nR t t [] (cH t) q hq
 unfold jV at he
 obtain ⟨o,_,ho⟩:=List.mem_filterMap.mp he
 cases hc:o.chg q.2 with
 | none=>rw [hc] at ho;cases ho
 | some x =>
  rw [hc] at ho
  cases ho
  exact ⟨q.2,x,hat,hc,rfl,hok⟩
noncomputable def dat:Tr->PyData
 | .num n=>.tuple [.str "num",.int n]
 | .name x=>.tuple [.str "name",.str x]
 | .turn a=>.tuple [.str "turn",dat a]
 | .two o a b=>.tuple [.str o.word,dat a,dat b]
theorem tB:∀ t:Tr,toD t.toU=some (dat t)
 | .num n=>by simp [Tr.toU,toD,eO,dat]
 | .name x=>by simp [Tr.toU,toD,eO,dat]
 | .turn a=>by simp [Tr.toU,toD,eO,dat,tB a]
 | .two o a b=>by simp [Tr.toU,toD,eO,dat,tB a,tB b]
theorem RN {x:Str} (h:isName (.str x)=true):PyData.strOk x=true:=by
 unfold PyData.strOk
 rw [<- Array.all_toList,List.all_eq_true]
 intro c hc
 simp only [isName,Bool.and_eq_true,decide_eq_true_eq] at h
 have:=List.all_eq_true.mp h.2 c hc
 have h2:c∈zX.cps.toList:=by
  have h3:=this
  unfold isLetter at h3
  rw [PySem.StrLaws.found_one] at h3
  exact of_decide_eq_true h3
 have hall:zX.cps.toList.all (fun c=>decide (c < 1114112))=true:=by decide +kernel
 exact List.all_eq_true.mp hall c h2
theorem sT:∀ t:Tr,t.good->(dat t).canLay0=true
 | .num n,_=>by simp only [dat,PyData.canLay0,PyData.canLayAll0];decide +kernel
 | .name x,h=>by
  have:=RN h
  simp only [dat,PyData.canLay0,PyData.canLayAll0,this];decide +kernel
 | .turn a,h=>by simp only [dat,PyData.canLay0,PyData.canLayAll0,sT a h];decide +kernel
 | .two o a b,h=>by
  have:PyData.strOk o.word=true:=by cases o <;> decide +kernel
  simp only [dat,PyData.canLay0,PyData.canLayAll0,sT a h.1,sT b h.2,this];decide
theorem n6:∀ t:Tr,(dat t).depth<=t.dep
 | .num n=>by simp [dat,PyData.depth,PyData.depthAll,Tr.dep]
 | .name x=>by simp [dat,PyData.depth,PyData.depthAll,Tr.dep]
 | .turn a=>by have:=n6 a;simp only [dat,PyData.depth,PyData.depthAll,Tr.dep];omega
 | .two o a b=>by have:=n6 a;have:=n6 b;simp only [dat,PyData.depth,PyData.depthAll,Tr.dep];omega
theorem O6 (M:aI) (t:Tr):pL M t.toU=some (dat t):=by
 have:pL M t.toU=toD t.toU:=by cases t <;> rfl
 rw [this,tB]
theorem RF {t:Tr} {M:aI} {Q:UK} (h:t.good) (hd:t.dep<=60) (q:Q (.bl false) M):jQ true t.toU t.toU M Q :=
 ne_self (by cases t <;> rfl) (O6 M t) (sT t h) (by have:=n6 t;omega) q
noncomputable def uF (e:Wo × List Nat × Tr):PyData:=.tuple [.str e.1.word,wM e.2.1]
theorem L7 (e:Wo × List Nat × Tr):toD (o9 e)=some (uF e):=by
 simp only [o9,uF,toD,eO,Lo];rfl
theorem MW (e:Wo × List Nat × Tr):(uF e).canLay0=true:=by
 have:(PyData.str e.1.word).canLay0=true:=by cases e.1 <;> decide +kernel
 simp only [uF,PyData.canLay0,PyData.canLayAll0,M8] at this ⊢
 first | rfl | simpa using this
theorem Oa {t:Tr} (hs:t.size<=900):∀ e∈d7 t,e.2.1.length<=1000:=by
 intro e he
 have he:=(List.mem_filter.mp he).1
 unfold oJ at he
 obtain ⟨q,hq,he⟩:=List.mem_flatMap.mp he
 have hat:=nR t t [] (cH t) q hq
 unfold jV at he
 obtain ⟨o,_,ho⟩:=List.mem_filterMap.mp he
 cases hc:o.chg q.2 with
 | none=>rw [hc] at ho;cases ho
 | some x =>
  rw [hc] at ho
  cases ho
  have:=lB t q.1 q.2 hat
  show q.1.length<=1000
  omega
theorem TU {t:Tr} (hs:t.size<=900):(d7 t).length<=5400:=by
 have hAl:(oJ t).length<=6 * t.size:=by unfold oJ;have:=A3 t (cF [] t);rw [oW] at this;exact this
 have:(d7 t).length<=(oJ t).length:=List.length_filter_le _ _
 omega
noncomputable def rC (b:Tr):U->Option Tr
 | .int k=>if 0<=k then b.parts[k.toNat]? else none
 | _=>none
noncomputable def iZ:Tr->List U->Bool
 | _,[]=>true
 | t,u :: r=>match rC t u with
  | some c=>iZ c r
  | none=>false
noncomputable def nP:U->Nat
 | .int k=>k.toNat
 | _=>0
noncomputable def sA (u:U):Prop:=(∃ k,u=.int k)\/∃ b,u=.bl b
noncomputable def nH (u:U):Prop:=u=.non\/(∃ k,u=.int k)\/(∃ x:Str,u=.str x/\x.length<=1000)\/∃ us,u=.lst us
theorem Rh {t c:Tr} {k:Nat} {r:List Nat} (h:t.parts[k]?=some c):t.at (k :: r)=c.at r:=by
 cases t with
 | num n=>simp [Tr.parts] at h
 | name x=>simp [Tr.parts] at h
 | turn a=>match k with
  | 0=>simp [Tr.parts] at h;subst h;simp [Tr.at]
  | k + 1=>simp [Tr.parts] at h
 | two o a b=>match k with
  | 0=>simp [Tr.parts] at h;subst h;simp [Tr.at]
  | 1=>simp [Tr.parts] at h;subst h;simp [Tr.at]
  | k + 2=>simp [Tr.parts] at h
theorem y2:∀ {ws:List U} {t:Tr},iZ t ws=true->∃ a,t.at (ws.map nP)=some a/\U.tup ws=bI (ws.map nP)
 | [],t,_=>⟨t,cH t,rfl⟩
 | u :: ws,t,h=>by
  unfold iZ at h
  cases u with
  | int k =>
   simp only [rC] at h
   by_cases hk:0<=k
   ·rw [if_pos hk] at h
    cases e:t.parts[k.toNat]? with
    | none=>rw [e] at h;cases h
    | some c =>
     rw [e] at h
     obtain ⟨a,h1,h2⟩:=y2 (ws:=ws) h
     refine ⟨a,by rw [List.map_cons];show t.at (k.toNat :: _)=_;rw [Rh e];exact h1,?_⟩
     have h2':ws=(ws.map nP).map fun (n:Nat)=>U.int (n:Int):=by
      unfold bI at h2;injection h2
     unfold bI
     rw [List.map_cons,List.map_cons,<- h2']
     have:U.int ((nP (.int k):Nat):Int)=U.int k:=by show U.int ((k.toNat:Nat):Int)=_;rw [Int.toNat_of_nonneg hk]
     rw [this]
   ·rw [if_neg hk] at h;cases h
  | _=>simp only [rC] at h;cases h
theorem FW:∀ {p:List Nat} {t a:Tr},t.at p=some a->iZ t (p.map fun (n:Nat)=>U.int (n:Int))=true
 | [],_,_,_=>rfl
 | k :: p,t,a,h=>by
  have key:∃ c,t.parts[k]?=some c/\c.at p=some a:=by
   cases t with
   | num n=>simp [Tr.at] at h
   | name x=>simp [Tr.at] at h
   | turn b=>match k,h with
    | 0,h=>exact ⟨b,rfl,by simpa [Tr.at] using h⟩
    | k + 1,h=>simp [Tr.at] at h
   | two o b c=>match k,h with
    | 0,h=>exact ⟨b,rfl,by simpa [Tr.at] using h⟩
    | 1,h=>exact ⟨c,rfl,by simpa [Tr.at] using h⟩
    | k + 2,h=>simp [Tr.at] at h
  obtain ⟨c,h1,h2⟩:=key
  rw [List.map_cons]
  have e:rC t (.int (k:Int))=some c:=by simp only [rC,if_pos (Int.natCast_nonneg k),Int.toNat_natCast,h1]
  unfold iZ
  rw [e]
  exact FW h2
theorem zQ:∀ {ws:List U} {t:Tr},iZ t ws=true->∀ u∈ws,∃ k,u=.int k
 | [],_,_,_,h=>nomatch h
 | u :: ws,t,h,x,hx=>by
  unfold iZ at h
  cases u with
  | int k =>
   rcases List.mem_cons.mp hx with rfl | hx
   ·exact ⟨k,rfl⟩
   ·cases e:rC t (.int k) with
    | none=>rw [e] at h;cases h
    | some c=>rw [e] at h;exact zQ (t:=c) h x hx
  | _=>simp only [rC] at h;cases h
theorem KY (b:Tr):∃ z r bb,b.toU=.tup (.str z :: r)/\(cY dZ z).isSome=bb/\r.length<=1000/\(if bb=true then r else [])=b.parts.map Tr.toU/\b.parts.length<=2:=by
 cases b with
 | num n=>exact ⟨"num",_,false,rfl,by decide +kernel,by simp,rfl,by simp [Tr.parts]⟩
 | name x=>exact ⟨"name",_,false,rfl,by decide +kernel,by simp,rfl,by simp [Tr.parts]⟩
 | turn a=>exact ⟨"turn",[a.toU],true,rfl,by decide +kernel,by simp,rfl,by simp [Tr.parts]⟩
 | two o a b=>exact ⟨o.word,[a.toU,b.toU],true,rfl,by cases o <;> decide +kernel,by simp,rfl,by simp [Tr.parts]⟩
noncomputable def Dh:cX:=fun us M Q=>∃ (t:Tr) (v:U),us=[t.toU,v]/\((nH v/\Q (.bl false) M)\/∃ ws,v=.tup ws/\(∀ x∈ws,sA x)/\Q (.bl (iZ t ws)) M)
theorem RZ {u:U} (h:sA u):GJ u:=by rcases h with ⟨k,rfl⟩ | ⟨b,rfl⟩ <;> trivial
theorem Fx (F:b9 K "is_place" "is_place" i9 f fd) (hm:mg "is_place"=some (.ref f)) (aP:mg "isinstance"=none) (bN:mg "tuple"=none) (bT:mg "len"=none) (qL:Callee P w K mg base 1 "is_whole" uN []) (tU:Callee P w K mg base 2 "parts" lA []):Callee P w K mg base 3 "is_place" Dh []:=by
 refine bL F hm lT (rD fun _ _ _ _ _ _ _ _=>rfl) (aH (bX (gN (d8 (cQ fZ aP (aA (uv 1) (aA (gC (n:="tuple") bN) aB)))))
 (aJ (aZ lW))
 bH)
 (aH (bF 2 lT.nd (uv 0))
 (aH (fD (eD (uv 1)) (bW (k:=1000) 3 lT.nd)
 (aH (bX (g9.pt (jG (gN (d8 (aV qL (aA (uv 3) aB)))) (jY (gN (Qb u3 wC aK (uv 3) (cQ gI bT (aA (aV tU (aA (uv 2) aB)) aB)))))))
 (aJ (aZ lW))
 bH)
 (aJ (bF 2 lT.nd (aQ (aV tU (aA (uv 2) aB)) (uv 3))))))
 (aJ (aZ lW))))) ?_
 rintro us M Q ⟨t,v,rfl,h⟩
 refine ⟨rfl,?_⟩
 rcases h with ⟨nt,q⟩ | ⟨p,rfl,hp,q⟩
 ·refine aU fun V hV=>?_
  refine cG fun A B hA hB=>?_
  rcases nt with rfl | ⟨k,rfl⟩ | ⟨x,rfl,_⟩ | ⟨us,rfl⟩ <;> (simp! only [aE,aE,aD];subst hA;simp! only [cE,aE,aD];exact aO q)
 refine aU fun V hV=>?_
 refine cG fun A B hA hB=>?_
 simp! only [aE,aE,aD]
 subst hB
 simp only [b7]
 subst hV
 refine aU fun V hV=>?_
 simp! only [bQ,hName,aE,aD]
 subst hV
 refine aU fun V hV=>?_
 refine fX (S:=⟨none,p⟩) (M1:=M) (fun R r=>by simp! only [aE,aD];exact r)
  (fun i τ Mi=>∃ (b:Tr) (z2:Option U),iZ t p=iZ b (p.drop i)/\τ=[some t.toU,some (.tup p),some b.toU,z2]/\Mi=M) ⟨t,none,by rw [List.drop_zero],rfl,rfl⟩ nk ?_ ?_
 ·rintro i u τ Mi e ⟨b,z2,hb,rfl,rfl⟩
  have e':p[i]?=some u:=e
  have hi:=(List.getElem?_eq_some_iff.mp e').1
  have hd:p.drop i=u :: p.drop (i + 1):=by
   rw [List.drop_eq_getElem_cons hi,(List.getElem?_eq_some_iff.mp e').2]
  rw [hd] at hb
  have hu:=hp u (List.mem_of_getElem? e')
  obtain ⟨z,r,bb,hz,hsg,hl1,hpt,hl2⟩:=KY b
  simp! only [hName,aE,aD]
  refine aU fun V2 hV2=>?_
  refine cG fun A B hA hB=>?_
  have fail:rC b u=none->A Mi:=fun hn=>by
   subst hA
   simp! only [cE,aE,aD]
   have:iZ t p=false:=by rw [hb];unfold iZ;rw [hn]
   rw [this] at q
   exact aO q
  simp! only [aE,aD]
  refine ⟨u,rfl,RZ hu,?_⟩
  rcases hu with ⟨k,rfl⟩ | ⟨c,rfl⟩
  ·simp! only [aE,aD]
   have key:(0<=k/\k < (b.parts.length:Int))\/rC b (.int k)=none:=by
    by_cases h0:0<=k
    ·by_cases h1:k < (b.parts.length:Int)
     ·exact .inl ⟨h0,h1⟩
     ·refine .inr ?_
      simp only [rC,if_pos h0]
      exact List.getElem?_eq_none (by omega)
    ·exact .inr (by simp only [rC,if_neg h0])
   by_cases h0:0<=k
   ·simp! only [decide_eq_true h0,aE,aD]
    refine ⟨z,r,bb,by rw [hz],hsg,hl1,?_⟩
    rw [hpt]
    simp! only [List.length_map,aE,aD]
    by_cases h1:k < (b.parts.length:Int)
    ·simp! only [decide_eq_true h1,aE,aD]
     subst hB
     simp only [b7]
     subst hV2
     obtain ⟨c,hc⟩:∃ c,b.parts[k.toNat]?=some c:=⟨_,List.getElem?_eq_getElem (by omega)⟩
     have hat:dS (b.parts.map Tr.toU) k=some c.toU:=by
      have:=dP (j:=k.toNat) (v:=c.toU) (xs:=b.parts.map Tr.toU) (by rw [List.getElem?_map,hc];rfl)
      rw [Int.toNat_of_nonneg h0] at this
      exact this
     simp! only [bQ,hName,aE,aD]
     refine ⟨z,r,bb,by rw [hz],hsg,hl1,?_⟩
     rw [hpt]
     simp! only [hat,aE,aD]
     refine ⟨c,_,?_,rfl⟩
     rw [hb]
     conv=>lhs;unfold iZ
     simp only [rC,if_pos h0,hc]
    ·simp! only [decide_eq_false h1,aE,aD]
     exact fail (key.resolve_left fun z=>h1 z.2)
   ·simp! only [decide_eq_false h0,aE,aD]
    exact fail (key.resolve_left fun z=>h0 z.1)
  ·simp! only [aE,aD]
   exact fail rfl
 ·rintro τ Mi ⟨b,z2,hb,rfl,rfl⟩
  subst hV
  simp! only [cE,aE,aD]
  have:iZ t p=true:=by rw [hb];show iZ b (p.drop p.length)=true;rw [List.drop_length];rfl
  rw [this] at q
  exact aO q
noncomputable def C3 (x:Str):Option Wo:=GI.find? fun o=>decide (o.word=x)
theorem Py (o:Wo):C3 o.word=some o:=by cases o <;> kernel_rfl
theorem AM {x:Str} {o:Wo} (h:C3 x=some o):o.word=x:=by
 have:=List.find?_some h
 exact of_decide_eq_true this
theorem Sy (x:Str):(rY.map U.str).any (fun u=>mZ u (.str x))=(C3 x).isSome:=by
 unfold rY C3
 rw [List.map_map,List.any_map,List.isSome_find?]
 congr 1
theorem PN:(rY.map U.str).any (fun u=>mZ u .non)=false:=by decide +kernel
noncomputable def jC (t:Tr) (x:Str) (ws:List U):Option Tr:=if iZ t ws=true then (C3 x).bind fun o=>(t.at (ws.map nP)).bind fun a=>(o.chg a).bind fun b=>if kP (bY t (ws.map nP) b)=true then some (bY t (ws.map nP) b) else none else none
noncomputable def cT (t:Tr):U->Option Tr
 | .tup [.str x,.tup ws]=>jC t x ws
 | _=>none
noncomputable def J1 (u:U):Prop:=nH u\/(∃ us,u=.tup us/\us.length≠2/\us.length<=1000)\/∃ x y,u=.tup [x,y]/\(x=.non\/∃ z,x=.str z)/\(nH y\/∃ ws,y=.tup ws/\∀ x∈ws,sA x)
noncomputable def Ga:cX:=fun us M Q=>∃ (t:Tr) (u:U),us=[t.toU,u]/\J1 u/\t.good/\t.size<=900/\Q (sJ (cT t u)) M
theorem BI {t:Tr} {us:List U} (h:us.length≠2):cT t (.tup us)=none:=by
 match us,h with
 | [],_=>rfl
 | [_],_=>unfold cT;split <;> first | rfl | (rename_i e;cases e)
 | [_,_],h=>exact absurd rfl h
 | _ :: _ :: _ :: _,_=>unfold cT;split <;> first | rfl | (rename_i e;cases e)
theorem Gw {t:Tr} {u:U} (h:nH u):cT t u=none:=by
 rcases h with rfl | ⟨k,rfl⟩ | ⟨x,rfl,_⟩ | ⟨us,rfl⟩ <;> rfl
theorem BW {t:Tr} {x y:U} (h:nH y):cT t (.tup [x,y])=none:=by
 rcases h with rfl | ⟨k,rfl⟩ | ⟨z,rfl,_⟩ | ⟨us,rfl⟩ <;> (unfold cT;split <;> first | rfl | (rename_i e;cases e))
theorem Ij {dW:Addr} (F:b9 K "come_by" "come_by" kC f fd) (hm:mg "come_by"=some (.ref f)) (aP:mg "isinstance"=none) (bN:mg "tuple"=none) (bT:mg "len"=none) (yM:KT K dW (rY.map V.str)) (xS:mg "WORDS"=some (.ref dW)) (JY:Callee P w K mg base 3 "is_place" Dh []) (MZ:Callee P w K mg base 2 "changed" zE []) (K4:Callee P w K mg base 3 "tree_at" Aw []) (OD:Callee P w K mg base 3 "put_at" Qd []) (MT:Callee P w K mg base 5 "is_tree" Bp []):Callee P w K mg base 6 "come_by" Ga []:=by
 refine bL F hm qO (rD fun _ _ _ _ _ _ _ _=>rfl) (aH (bX (g9.pt (jG (gN (d8 (cQ fZ aP (aA (uv 1) (aA (gC (n:="tuple") bN) aB))))) (jG (bV tK (cQ gI bT (aA (uv 1) aB)) aK) (jG (bV (Pj yM) (aQ (uv 1) aK) (rP xS)) (jY (gN (d8 (aV JY (aA (uv 0) (aA (aQ (uv 1) aK) aB))))))))))
 (aJ (aZ nS))
 bH)
 (aH (bF 2 qO.nd (aV MZ (aA (aV K4 (aA (uv 0) (aA (aQ (uv 1) aK) aB))) (aA (aQ (uv 1) aK) aB))))
 (aH (bX (bV Qo (uv 2) nS)
 (aJ (aZ nS))
 bH)
 (aH (bF 3 qO.nd (aV OD (aA (uv 0) (aA (aQ (uv 1) aK) (aA (uv 2) aB)))))
 (aJ (aZ (sW (d8 (aV MT (aA (uv 3) aB))) (uv 3) nS))))))) ?_
 rintro us M Q ⟨t,u,rfl,hu,hg,hs,q⟩
 refine ⟨rfl,?_⟩
 refine aU fun V hV=>?_
 refine cG fun A B hA hB=>?_
 have fail:cT t u=none->A M:=fun hn=>by
  subst hA
  simp! only [cE,aE,aD]
  rw [hn] at q
  exact aO q
 rcases hu with nt | ⟨us,rfl,hl,hl2⟩ | ⟨x,y,rfl,hx,hy⟩
 ·have:=fail (Gw nt)
  rcases nt with rfl | ⟨k,rfl⟩ | ⟨x,rfl,_⟩ | ⟨us,rfl⟩ <;> (simp! only [aE,aE,aD];exact this)
 ·have:=fail (BI hl)
  have hd:decide ((us.length:Int)=2)=false:=decide_eq_false (by omega)
  simp! only [aE,hd,aE,aD]
  exact this
 ·rcases hx with rfl | ⟨z,rfl⟩
  ·have:=fail (by unfold cT;split <;> first | rfl | (rename_i e;cases e))
   simp! only [aE,IY,fM,PN,show decide (((2:Nat):Int)=2)=true from rfl,aE,aD]
   exact this
  ·simp! only [aE,IY,fM,Sy,show decide (((2:Nat):Int)=2)=true from rfl,aE,aD]
   cases hw:C3 z with
   | none =>
    have:=fail (by
     rcases hy with hy | ⟨ws,rfl,_⟩
     ·exact BW hy
     ·show jC t z ws=none
      unfold jC
      rw [hw];simp)
    simp! only [Option.isSome_none,aE,aD]
    exact this
   | some o =>
    obtain rfl:=AM hw
    simp! only [Option.isSome_some,aE,aD]
    refine ⟨t,y,rfl,?_⟩
    rcases hy with hy | ⟨ws,rfl,hws⟩
    ·refine .inl ⟨hy,?_⟩
     simp! only [aE,aD]
     exact fail (BW hy)
    ·refine .inr ⟨ws,rfl,hws,?_⟩
     cases hp:iZ t ws with
     | false =>
      simp! only [aE,aD]
      exact fail (by show jC t _ ws=none;unfold jC;rw [hp];rfl)
     | true =>
      obtain ⟨a,ht,hpu⟩:=y2 hp
      have hc:cT t (.tup [.str o.word,.tup ws])=(o.chg a).bind fun b=>if kP (bY t (ws.map nP) b)=true then some (bY t (ws.map nP) b) else none:=by
       show jC t _ ws=_
       unfold jC
       rw [hp,hw,ht];rfl
      rw [hc] at q
      clear fail hc hp
      simp! only [aE,aD]
      subst hB
      simp only [b7]
      subst hV
      rw [hpu]
      generalize ws.map nP=p at ht hpu q ⊢
      clear hpu hws
      have hpl:p.length<=1000:=by have:=lB t p a ht;omega
      refine aU fun V hV=>?_
      simp! only [bQ,hName,aE,aD]
      refine ⟨t,a,p,rfl,ht,?_⟩
      simp! only [aE,aD]
      refine ⟨a,o,rfl,?_⟩
      subst hV
      refine aU fun V hV=>?_
      refine cG fun A B hA hB=>?_
      cases hcb:o.chg a with
      | none =>
       rw [hcb] at q
       simp! only [sJ,aE,aD]
       subst hA
       simp! only [cE,aE,aD]
       exact aO q
      | some b =>
       rw [hcb] at q
       have hbn:aD b.toU=false:=by cases b <;> rfl
       simp! only [sJ,hbn,aE]
       subst hB
       simp only [b7]
       subst hV
       refine aU fun V hV=>?_
       simp! only [bQ,hName,aE,aD]
       refine ⟨t,a,b,p,by rw [hcb];rfl,ht,hpl,?_⟩
       subst hV
       simp! only [cE,aE,aD]
       refine ⟨toG (bY t p b),by rw [AD],wB _ (nG t p b hg (AW hcb (oU t p a ht hg))),?_⟩
       rw [Vk]
       simp only [Option.bind_some] at q
       cases hok:kP (bY t p b) with
       | true =>
        rw [hok] at q
        simp! only [aE,aD]
        exact aO q
       | false =>
        rw [hok] at q
        simp! only [aE,aD]
        exact aO q
noncomputable def Ha:Str:="no exchange that can be done at this tree"
noncomputable def Qy (C:Addr):xW:=fun us M Q E=>∃ (t:Tr) (u:U),us=[t.toU,u]/\J1 u/\t.good/\t.size<=900/\(∀ c,cT t u=some c->Q c.toU M)/\(cT t u=none->E C [("text",.str Ha)] M)
theorem Bs {C:Addr} {j:Nat} {cond:L2.V->Prop} (hj:j + 1<=6) (F:b9 K "exchanged" "exchanged" hU f fd) (hm:mg "exchanged"=some (.ref f)) (MX:Callee P w K mg base 6 "come_by" Ga []) (xNE:NR P w K mg base j "NoExchange" C "text" cond) (hcond:cond (.str Ha)):sX P w K mg base 7 "exchanged" (Qy C) []:=by
 refine IF F hm rL (rD fun _ _ _ _ _ _ _ _=>rfl) (fun us M Q E h=>by obtain ⟨_,_,rfl,_⟩:=h;rfl) (Gg (Qa (bF 2 rL.nd (aV MX (aA (uv 0) (aA (uv 1) aB)))))
  (Gg (VM (bV Qo (uv 2) nS)
  (A9 (Ph xNE bR))
  (U8 bH))
  (A9 (Qa (aZ (uv 2)))))) ?_
 rintro us M Q E ⟨t,u,rfl,hu,hg,hs,q1,q2⟩
 simp! only [Qq,Qp,bQ,hName,aE,aD]
 refine ⟨t,u,rfl,hu,hg,hs,?_⟩
 cases hc:cT t u with
 | none =>
  simp! only [sJ,OY,Gb,aE,aD]
  exact ⟨⟨.str Ha,rfl,hcond⟩,M,Sub.refl M,q2 hc⟩
 | some c =>
  have hbn:aD c.toU=false:=by cases c <;> rfl
  simp! only [sJ,hbn,OY,Qp,b7,cE,aE]
  exact aO (q1 c hc)
noncomputable def q9 (t:Tr) (u:U):U:=match cT t u with
 | some c=>c.toU
 | none=>.lst [.bl true,.bl true,.bl false]
noncomputable def Lv:cX:=fun us M Q=>∃ (t:Tr) (u:U),us=[t.toU,u]/\J1 u/\t.good/\t.size<=900/\Q (q9 t u) M
theorem hG:bB ["tree","exchange","found","e","others"] ["tree","exchange"] (aF i7):=dA
theorem Se {C R aL aN aR aT aG aM:Addr} (F:b9 K "_law_done" "_law_done" i7 f fd) (hm:mg "_law_done"=some (.ref f)) (aP:mg "isinstance"=none) (Wz:mg "ValueError"=none) (FG:sX P w K mg base 7 "exchanged" (Qy C) [])
  (WE:mg "RowsmithError"=some (.ref R)) (WA:mg "NoExchange"=some (.ref C)) (OZ:mg "NoLine"=some (.ref aL)) (O4:mg "NoName"=some (.ref aN)) (RX:mg "NoRow"=some (.ref aR)) (N5:mg "NoText"=some (.ref aT)) (Jk:mg "NotRight"=some (.ref aG)) (K5:mg "TooMany"=some (.ref aM))
  (hR:JK K R) (cg:∃ R fI,nM K C R fI) (hs:PySem.W.subIn K (.ref C) (.ref R)=some true) (k1:PySem.W.kitOne K (.ref C) (.ref C)=some true) (k2:PySem.W.kitOne K (.ref C) (.type "ValueError")=some true) (k3:PySem.W.kitAny K (.ref C) [.ref aL,.ref aN,.ref aR,.ref aT,.ref aG,.ref aM]=some false):Callee P w K mg base 8 "_law_done" Lv []:=by
 refine bL F hm hG (rD fun _ _ _ _ _ _ _ _=>rfl) (aH (bF 2 hG.nd nS)
  (aH (S4 3 hG.nd WE hR (A9 (SQ 2 hG.nd (RB FG (aA (uv 0) (aA (uv 1) aB)))))
   (fun a C fs=>RA (Qu 4 hG.nd (II rfl aP (eR (Az 3) (eR (VT (eR (qB OZ) (eR (qB O4) (eR (qB RX) (eR (qB N5) (eR (qB Jk) (eR (qB K5) vU))))))) vU))))
    (Vo (Qu 2 hG.nd (Vt (own:=false) (eR (II rfl aP (eR (Az 3) (eR (qB WA) vU))) (eR (II rfl aP (eR (Az 3) (eR (WH (n:="ValueError") Wz) vU))) (eR (Az 4) vU))))))))
  (aJ (aZ (uv 2))))) ?_
 rintro us M Q ⟨t,u,rfl,hu,hg,hsz,q⟩
 refine ⟨rfl,?_⟩
 simp! only [qX,bQ,hName,Vg,Qk,Ny,aE,aD]
 refine ⟨t,u,rfl,hu,hg,hsz,fun c hc=>?_,fun hc=>⟨hs,fun a=>?_⟩⟩
 ·simp! only [cE,aE,aD]
  unfold q9 at q
  rw [hc] at q
  exact aO q
 ·simp! only [cE,Jb,pW,aE,aD]
  unfold q9 at q
  rw [hc] at q
  refine ⟨cg,fun v hv=>?_,false,k3,cg,(fun z=>nomatch z),true,k1,cg,(fun z=>nomatch z),true,k2,aO q⟩
  simp only [List.mem_cons,List.not_mem_nil,or_false] at hv
  rcases hv with rfl | rfl | rfl | rfl | rfl | rfl <;> exact fun z=>nomatch z
noncomputable def vD (u:U):Prop:=nH u\/(∃ us,u=.tup us/\us.length≠2/\us.length<=1000)\/∃ x y,u=.tup [x,y]/\(x=.non\/∃ z,x=.str z/\PyData.strOk z=true)/\(nH y\/∃ ws,y=.tup ws/\ws.length<=1000/\∀ x∈ws,sA x)
theorem vD.ok {u:U} (h:vD u):J1 u:=by
 rcases h with h | h | ⟨x,y,e,hx,hy⟩
 ·exact .inl h
 ·exact .inr (.inl h)
 ·refine .inr (.inr ⟨x,y,e,?_,?_⟩)
  ·rcases hx with h | ⟨z,h,_⟩
   ·exact .inl h
   ·exact .inr ⟨z,h⟩
  ·rcases hy with h | ⟨ws,h,_,h2⟩
   ·exact .inl h
   ·exact .inr ⟨ws,h,h2⟩
theorem kG {z:Str} {ws:List U} (hz:PyData.strOk z=true) (hl:ws.length<=1000) (hw:∀ x∈ws,sA x):vD (.tup [.str z,.tup ws]):=.inr (.inr ⟨_,_,rfl,.inr ⟨z,rfl,hz⟩,.inr ⟨ws,rfl,hl,hw⟩⟩)
theorem Oi {z:Str} {p:List Nat} (hz:PyData.strOk z=true) (hl:p.length<=1000):vD (.tup [.str z,bI p]):=kG hz (by rw [List.length_map];exact hl) fun x hx=>by
 obtain ⟨n,_,rfl⟩:=List.mem_map.mp hx;exact .inl ⟨_,rfl⟩
noncomputable def C2:cX:=fun us M Q=>∃ (t:Tr) (f:Addr) (d x:Int),us=[t.toU,.ref f]/\M f=some (.lst (cD d x))/\0<=d/\0<=x/\x<=2147484647/\t.dep<=45/\t.size<=900/\∀ (L:List U) (d' x':Int),(∀ u∈L,vD u)->L.length<=1000->Q (.lst L) (mup M f (.lst (cD d' x')))
noncomputable def Wn (M:aI) (f g:Addr) (n:Nat) (Mi:aI):Prop:=∃ d x xs,Mi f=some (.lst (cD d x))/\0<=d/\0<=x/\x<=2147484647/\Mi g=some (.lst xs)/\g≠f/\M g=none/\(∀ u∈xs,vD u)/\xs.length<=n/\∀ b mo,b≠f->M b=some mo->Mi b=some mo
noncomputable def Qx:List Str:=["swap","right","left","open","shut","off"]
theorem Td:∀ z∈Qx,PyData.strOk z=true:=by decide +kernel
theorem Ld (F:b9 K "_law_things" "_law_things" fW f fd) (hm:mg "_law_things"=some (.ref f)) (cR:mg "range"=none) (bT:mg "len"=none) (jX:Callee P w K mg base 50 "_law_spots" (mT 50) []) (bM:Callee P w K mg base 1 "_law_take" mB []):Callee P w K mg base 51 "_law_things" C2 []:=by
 refine bL F hm eZ (rD fun _ _ _ _ _ _ _ _=>rfl) (aH (bF 2 eZ.nd (aV jX (aA (uv 0) aB)))
 (aH (bF 3 eZ.nd (dB (own:=true) aB))
 (aH (fD (eD (dB (own:=false) (aA bR (aA bR (aA bR (aA bR (aA bR (aA bR aB)))))))) (bW (k:=1000) 4 eZ.nd)
 (aH (fD (mR cR (aA aK aB)) (bW (k:=1000) 5 eZ.nd)
 (aJ (hX (e8 (uv 3) (aA (aW (aA (uv 4) (aA (aQ (uv 2) (aV bM (aA (uv 1) (aA (cQ gI bT (aA (uv 2) aB)) aB)))) aB))) aB)))))
 (aJ (bF 3 eZ.nd (bU (own:=true) (uv 3) (dB (own:=false) (aA (aW (aA (uv 4) (aA (aW (aA aK aB)) aB))) (aA (aW (aA (uv 4) (aA (bU (own:=false) (aQ (uv 2) (xD aK)) (aW (aA aK aB))) aB))) (aA (aW (aA (uv 4) (aA (aW (aA lW aB)) aB))) (aA (aW (aA (uv 4) (aA (dB (own:=false) aB) aB))) aB))))))))))
 (aJ (aZ (bU (own:=false) (uv 3) (dB (own:=false) (aA (aW (aA bR (aA (aW aB) aB))) (aA (aW (aA bR (aA (aW aB) aB))) (aA (aW (aA bR (aA (aW aB) aB))) (aA (dB (own:=false) (aA bR (aA (aW aB) aB))) (aA (aW (aA bR aB)) (aA (aW (aA bR (aA (aW aB) (aA (aW aB) aB)))) (aA nS (aA aK (aA bR (aA (aW (aA bR (aA nS aB))) (aA (aW (aA nS (aA (aW aB) aB))) (aA (aW (aA bR (aA (aW (aA (xD aK) aB)) aB))) (aA (aW (aA bR (aA bR aB))) aB)))))))))))))))))))) ?_
 rintro us M Q ⟨t,f,d,x,rfl,hf,hd,hx,hx2,dt,st,q⟩
 refine ⟨rfl,?_⟩
 refine aU fun V hV=>?_
 simp! only [bQ,hName,aE,aD]
 refine ⟨t,rfl,by omega,st,?_⟩
 subst hV
 refine aU fun V hV=>?_
 simp! only [bQ,hName,aE,aD]
 intro g hg
 have hgf:g≠f:=fun z=>by subst z;rw [hg] at hf;cases hf
 subst hV
 refine aU fun V hV=>?_
 have hsl:((eT t).map bI).length<=900:=by rw [List.length_map,jT];exact st
 have hs1:1<=((eT t).map bI).length:=by rw [List.length_map,jT];exact size_pos t
 have hsm:∀ u∈(eT t).map bI,∃ p,u=bI p/\p.length<=900:=fun u hu=>by
  obtain ⟨p,hp,rfl⟩:=List.mem_map.mp hu
  have:=nA t p hp
  exact ⟨p,rfl,by omega⟩
 generalize (eT t).map bI=sp at hsl hs1 hsm
 refine fX (S:=⟨none,Qx.map U.str⟩) (M1:=mup M g (.lst [])) (fun R r=>by simp! only [aE,aD];exact r)
  (fun i τ Mi=>∃ (g:Addr) (z4 z5:Option U),τ=[some t.toU,some (.ref f),some (.lst sp),some (.ref g),z4,z5]/\Wn M f g (8 * i) Mi)
  ⟨g,none,none,rfl,d,x,[],by rw [cB (Ne.symm hgf)];exact hf,hd,hx,hx2,aX,hgf,hg,(fun u hu=>by cases hu),Nat.zero_le _,fun b mo _ e=>by rw [cB (fun z=>by subst z;rw [hg] at e;cases e)];exact e⟩ nk ?_ ?_
 ·rintro i u τ Mi e ⟨g,z4,z5,rfl,hS⟩
  have e':(Qx.map U.str)[i]?=some u:=e
  rw [List.getElem?_map] at e'
  cases hk:Qx[i]? with
  | none=>rw [hk] at e';cases e'
  | some z =>
   rw [hk] at e'
   cases e'
   have hi:i < 6:=(List.getElem?_eq_some_iff.mp hk).1
   have hz:=Td z (List.mem_of_getElem? hk)
   simp! only [hName,aE,aD]
   refine aU fun V2 hV2=>?_
   refine fX (S:=⟨none,cA 0 4⟩) (M1:=Mi) (fun R r=>by simp! only [aE,aD];exact ⟨by decide,by decide,r⟩)
    (fun j τ Mj=>∃ z5,τ=[some t.toU,some (.ref f),some (.lst sp),some (.ref g),some (.str z),z5]/\Wn M f g (8 * i + j) Mj) ⟨z5,rfl,hS⟩ nk ?_ ?_
   ·rintro j u τ Mj e ⟨z5,rfl,d,x,xs,h1,h2,h3,h4,h5,h6,h7,h8,h9,h10⟩
    simp! only [hName,gH,aE,aD]
    refine ⟨⟨xs,iM h5⟩,f,d,x,(sp.length:Int),rfl,h1,h2,h3,h4,by omega,by omega,fun n d' x' n0 n1 g2 g3 g4=>?_⟩
    obtain ⟨k,rfl⟩:∃ k:Nat,n=(k:Int):=⟨n.toNat,by omega⟩
    have hkl:k < sp.length:=by omega
    refine ⟨sp[k],dP (List.getElem?_eq_getElem hkl),?_⟩
    obtain ⟨p,hp,hpl⟩:=hsm sp[k] (List.getElem_mem hkl)
    rw [hp,cB h6,h5]
    have hj:j < 4:=by have:=(List.getElem?_eq_some_iff.mp e).1;simpa [cA] using this
    refine ⟨big (by omega),_,rfl,d',x',_,by rw [cB (Ne.symm h6),aX],g2,g3,g4,aX,h6,h7,fun v hv=>?_,by rw [List.length_append,List.length_cons,List.length_nil];omega,fun b mo hb e=>?_⟩
    ·rcases List.mem_append.mp hv with hv | hv
     ·exact h8 v hv
     ·obtain rfl:v=.tup [.str z,bI p]:=by simpa using hv
      exact Oi hz (by omega)
    ·rw [cB (fun z=>by subst z;rw [h7] at e;cases e),cB hb]
     exact h10 b mo hb e
   ·rintro τ Mj ⟨z5,rfl,d,x,xs,h1,h2,h3,h4,h5,h6,h7,h8,h9,h10⟩
    subst hV2
    simp! only [bQ,hName,h5,aE,aD]
    obtain ⟨sp0,last,rfl⟩:∃ sp0 last,sp=sp0++[last]:=by
     rcases List.eq_nil_or_concat sp with h | ⟨a,b,h⟩
     ·rw [h] at hs1;cases hs1
     ·exact ⟨a,b,by rw [h,List.concat_eq_append]⟩
    refine ⟨last,zR,?_⟩
    obtain ⟨p,rfl,hpl⟩:=hsm last (List.mem_append_right _ List.mem_cons_self)
    have hj4:8 * i + (cA 0 4).length=8 * i + 4:=by simp [cA]
    have h9':xs.length<=8 * i + 4:=by rw [<- hj4];exact h9
    unfold bI
    dsimp only
    refine ⟨small (by rw [List.length_map,List.length_cons,List.length_nil];omega),?_⟩
    rw [iM h5]
    refine ⟨small (by rw [List.length_cons,List.length_cons,List.length_cons,List.length_cons,List.length_nil];omega),fun g' hg'=>?_⟩
    have hgf':g'≠f:=fun z=>by subst z;rw [hg'] at h1;cases h1
    refine ⟨g',_,_,rfl,d,x,_,by rw [cB (Ne.symm hgf')];exact h1,h2,h3,h4,aX,hgf',?_,fun v hv=>?_,by rw [List.length_append,List.length_cons,List.length_cons,List.length_cons,List.length_cons,List.length_nil];omega,fun b mo hb e=>?_⟩
    ·cases hM:M g' with
     | none=>rfl
     | some mo=>rw [h10 g' mo hgf' hM] at hg';cases hg'
    ·rcases List.mem_append.mp hv with hv | hv
     ·exact h8 v hv
     ·simp only [List.mem_cons,List.not_mem_nil,or_false] at hv
      rcases hv with rfl | rfl | rfl | rfl
      ·exact kG hz (by simp) fun y hy=>by obtain rfl:y=.int 2:=(by simpa using hy);exact .inl ⟨_,rfl⟩
      ·refine kG hz (by rw [List.length_append,List.length_map,List.length_cons,List.length_nil];omega) fun y hy=>?_
       rcases List.mem_append.mp hy with hy | hy
       ·obtain ⟨n,_,rfl⟩:=List.mem_map.mp hy;exact .inl ⟨_,rfl⟩
       ·obtain rfl:y=.int 0:=(by simpa using hy);exact .inl ⟨_,rfl⟩
      ·exact kG hz (by simp) fun y hy=>by obtain rfl:y=.bl false:=(by simpa using hy);exact .inr ⟨_,rfl⟩
      ·exact .inr (.inr ⟨_,_,rfl,.inr ⟨z,rfl,hz⟩,.inl (.inr (.inr (.inr ⟨_,rfl⟩)))⟩)
    ·rw [cB (fun z=>by subst z;rw [h10 b mo hb e] at hg';cases hg')]
     exact h10 b mo hb e
 ·rintro τ Mi ⟨g,z4,z5,rfl,d,x,xs,h1,h2,h3,h4,h5,h6,h7,h8,h9,h10⟩
  subst hV
  simp! only [cE,h5,aE,aD]
  rw [iM h5]
  have h9':xs.length<=48:=h9
  refine ⟨small (by simp only [List.length_cons,List.length_nil];omega),?_⟩
  refine ⟨_,mup M f (.lst (cD d x)),fun b mo e=>?_,.inl rfl,q _ d x (fun v hv=>?_) (by rw [List.length_append];simp only [List.length_cons,List.length_nil];omega)⟩
  ·by_cases hb:b=f
   ·subst hb;rw [aX] at e;rw [h1];exact e
   ·rw [cB hb] at e;exact h10 b mo hb e
  ·rcases List.mem_append.mp hv with hv | hv
   ·exact h8 v hv
   ·simp only [List.mem_cons,List.not_mem_nil,or_false] at hv
    rcases hv with rfl | rfl | rfl | rfl | rfl | rfl | rfl | rfl | rfl | rfl | rfl | rfl | rfl
    ·exact kG (by decide +kernel) (by simp) fun y hy=>by cases hy
    ·exact kG (by decide +kernel) (by simp) fun y hy=>by cases hy
    ·exact kG (by decide +kernel) (by simp) fun y hy=>by cases hy
    ·exact .inl (.inr (.inr (.inr ⟨_,rfl⟩)))
    ·exact .inr (.inl ⟨_,rfl,by decide,by decide⟩)
    ·exact .inr (.inl ⟨_,rfl,by decide,by decide⟩)
    ·exact .inl (.inl rfl)
    ·exact .inl (.inr (.inl ⟨_,rfl⟩))
    ·exact .inl (.inr (.inr (.inl ⟨_,rfl,by decide⟩)))
    ·exact .inr (.inr ⟨_,_,rfl,.inr ⟨_,rfl,by decide +kernel⟩,.inl (.inl rfl)⟩)
    ·exact .inr (.inr ⟨_,_,rfl,.inl rfl,.inr ⟨_,rfl,by simp,fun y hy=>by cases hy⟩⟩)
    ·exact kG (by decide +kernel) (by simp) fun y hy=>by obtain rfl:y=.int (-1):=(by simpa using hy);exact .inl ⟨_,rfl⟩
    ·exact .inr (.inr ⟨_,_,rfl,.inr ⟨_,rfl,by decide +kernel⟩,.inl (.inr (.inr (.inl ⟨_,rfl,by decide⟩)))⟩)
theorem Rb (p:List Nat):(p.map fun (n:Nat)=>U.int (n:Int)).map nP=p:=by
 rw [List.map_map]
 conv=>rhs;rw [<- List.map_id p]
 apply List.map_congr_left
 intro n _
 show ((n:Int)).toNat=n
 omega
theorem Su {t:Tr} {e:Wo × List Nat × Tr} (h:e∈d7 t):cT t (o9 e)=some e.2.2:=by
 obtain ⟨a,b,h1,h2,h3,h4⟩:=VC h
 show jC t e.1.word (e.2.1.map fun (n:Nat)=>U.int (n:Int))=_
 unfold jC
 rw [if_pos (FW h1),Py,Rb,h1,h3]
 simp only [Option.bind_some]
 rw [h2]
 simp only [Option.bind_some]
 rw [if_pos h4]
theorem Sh {t c:Tr} {z:Str} {ws:List U} (h:cT t (.tup [.str z,.tup ws])=some c):∃ e∈d7 t,o9 e=.tup [.str z,.tup ws]:=by
 have h':jC t z ws=some c:=h
 unfold jC at h'
 split at h'
 ·rename_i hp
  obtain ⟨a,h1,h2⟩:=y2 hp
  cases hw:C3 z with
  | none=>rw [hw] at h';cases h'
  | some o =>
   rw [hw,h1] at h'
   simp only [Option.bind_some] at h'
   cases hc:o.chg a with
   | none=>rw [hc] at h';cases h'
   | some b =>
    rw [hc] at h'
    simp only [Option.bind_some] at h'
    split at h'
    ·rename_i hok
     refine ⟨_,UC h1 hc hok,?_⟩
     show U.tup [.str o.word,bI _]=_
     rw [AM hw,h2]
    ·cases h'
 ·cases h'
theorem OR {t:Tr} {ws:List U}:cT t (.tup [.non,.tup ws])=none:=by unfold cT;split <;> first | rfl | (rename_i e;cases e)
theorem N1 {t:Tr} {x:U} {ws:List U} (h:¬ ∀ u∈ws,∃ k,u=.int k):cT t (.tup [x,.tup ws])=none:=by
 cases hc:cT t (.tup [x,.tup ws]) with
 | none=>rfl
 | some c =>
  exfalso
  cases x with
  | str z =>
   have h':jC t z ws=some c:=hc
   unfold jC at h'
   split at h'
   ·rename_i hp;exact h (zQ hp)
   ·cases h'
  | _=>unfold cT at hc;split at hc <;> first | (rename_i e;cases e) | cases hc
noncomputable def JR:U->Bool
 | .int _=>true
 | _=>false
theorem zT:∀ {ws:List U},(∀ u∈ws,∃ k,u=.int k)->∃ ds,eO ws=some ds/\PyData.canLayAll0 ds=true/\PyData.depthAll ds<=0
 | [],_=>⟨[],rfl,rfl,by simp [PyData.depthAll]⟩
 | u :: ws,h=>by
  obtain ⟨k,rfl⟩:=h u List.mem_cons_self
  obtain ⟨ds,h1,h2,h3⟩:=zT fun v hv=>h v (List.mem_cons_of_mem _ hv)
  refine ⟨.int k :: ds,by simp only [eO,toD,h1],?_,?_⟩
  ·simp only [PyData.canLayAll0,PyData.canLay0,h2,Bool.and_self]
  ·simp only [PyData.depthAll,PyData.depth];omega
theorem Rz {x:U} {ws:List U} (hx:x=.non\/∃ z,x=.str z/\PyData.strOk z=true) (h:∀ u∈ws,∃ k,u=.int k):∃ d,toD (.tup [x,.tup ws])=some d/\d.canLay0=true/\d.depth<=60:=by
 obtain ⟨ds,h1,h2,h3⟩:=zT h
 rcases hx with rfl | ⟨z,rfl,hz⟩
 ·refine ⟨.tuple [.none,.tuple ds],by simp only [toD,eO,h1,Option.map_some],?_,?_⟩
  ·simp only [PyData.canLay0,PyData.canLayAll0,h2,Bool.and_self]
  ·simp only [PyData.depth,PyData.depthAll];omega
 ·refine ⟨.tuple [.str z,.tuple ds],by simp only [toD,eO,h1,Option.map_some],?_,?_⟩
  ·simp only [PyData.canLay0,PyData.canLayAll0,h2,hz,Bool.and_self]
  ·simp only [PyData.depth,PyData.depthAll];omega
theorem Dk {t:Tr} {M:aI} {Q:UK} {x:U} {ws:List U} (hx:x=.non\/∃ z,x=.str z/\PyData.strOk z=true) (h:∀ u∈ws,∃ k,u=.int k) (q1:cT t (.tup [x,.tup ws])=none->Q (.bl true) M) (q2:Q (.bl false) M) :
  NX true (.tup [x,.tup ws]) (.lst ((d7 t).map o9)) M Q:=by
 obtain ⟨d,h1,h2,h3⟩:=Rz hx h
 refine ⟨(d7 t).map o9,(d7 t).map uF,d,rfl,u5 (g:=o9) (gd:=uF) (d7 t) (fun e _=>L7 e),h1,yU _ fun e _=>MW e,h2,h3,?_⟩
 simp only [if_true]
 cases ha:((d7 t).map uF).any (fun e=>PyData.eqv e d) with
 | true=>exact q2
 | false =>
  refine q1 ?_
  cases hc:cT t (.tup [x,.tup ws]) with
  | none=>rfl
  | some c =>
   exfalso
   rcases hx with rfl | ⟨z,rfl,_⟩
   ·rw [OR] at hc;cases hc
   ·obtain ⟨e,he,hu⟩:=Sh hc
    have hd:d=uF e:=by
     have:=L7 e
     rw [hu,h1] at this
     exact Option.some.inj this
    have:((d7 t).map uF).any (fun e=>PyData.eqv e d)=true:=List.any_eq_true.mpr ⟨uF e,List.mem_map.mpr ⟨e,he,rfl⟩,by rw [hd];exact PySem.SeqAt.eqv_refl _ (MW e)⟩
    rw [ha] at this;cases this
theorem Sd {t:Tr} {u:U} {M:aI} {Q:UK} (h:cT t u=none) (q:Q (.bl false) M):jQ true (q9 t u) (.lst [.bl true,.bl true,.bl false]) M Q:=by
 unfold q9
 rw [h]
 exact ne_self (d:=.list [.bool true,.bool true,.bool false]) rfl rfl (by decide +kernel) (by decide +kernel) q
noncomputable def Cb:cX:=fun us M Q=>∃ u,us=[u]/\sA u/\Q (.bl (JR u)) M
theorem Ls (F:b9 K "_law_whole" "_law_whole" hJ f fd) (hm:mg "_law_whole"=some (.ref f)) (aP:mg "isinstance"=none) (tE:mg "int"=none) (o8:mg "bool"=none):Callee P w K mg base 1 "_law_whole" Cb []:=by
 refine bL F hm Dc (fY fun _ _ _ _ _ _ _=>rfl) (aJ (aZ (nJ (cQ fZ aP (aA (uv 0) (aA (gC (n:="int") tE) aB))) (pE (Na (cQ fZ aP (aA (uv 0) (aA (gC (n:="bool") o8) aB)))))))) ?_
 rintro us M Q ⟨u,rfl,hu,q⟩
 refine ⟨rfl,?_⟩
 rcases hu with ⟨k,rfl⟩ | ⟨b,rfl⟩
 ·simp! only [cE,aE,aE,aD]
  exact aO q
 ·simp! only [cE,aE,aE,aD]
  exact aO q
theorem Gx {α:Type} {l:List α} {a b:Option Int} {x:α} (h:x∈dO l a b):x∈l:=by
 unfold dO at h
 exact List.mem_of_mem_drop (List.mem_of_mem_take h)
theorem zY {α:Type} {l:List α} {a b:Option Int}:(dO l a b).length<=l.length:=by
 unfold dO
 rw [List.length_take,List.length_drop]
 omega
theorem Rc {wi:UI} {g:UG} {tb:US} {D:kW} {τ:SU} {M:aI} (G:Src->aI->Prop) (hw:∀ R:Src->aI->Prop,(∀ S M1,G S M1->R S M1)->wi τ M R) (P:Nat->SU->aI->Prop) (h0:∀ S M1,G S M1->P 0 τ M1) (hok:∀ S M1,G S M1->∀ i τ M,P i τ M->S.ok M)
  (turn:∀ S M1,G S M1->∀ i x τ M,S.xs[i]?=some x->P i τ M->g x τ M fun τ2 M2=>tb { D with nx:=P (i + 1),ct:=P (i + 1),bk:=D.nx } τ2 M2) (fin:∀ S M1,G S M1->∀ τ M,P S.xs.length τ M->D.nx τ M):Jt wi g tb D τ M:=hw _ fun S M1 h1=>⟨P,h0 S M1 h1,hok S M1 h1,turn S M1 h1,fin S M1 h1⟩
noncomputable def wD:cX:=fun us M Q=>∃ ns:List Int,us=[.lst (ns.map .int)]/\ns.length<=63/\Q (.bl true) M
theorem NQ {ws:List U} (hw:∀ x∈ws,sA x):(ws.map fun u=>U.bl (JR u)).any (fun u=>mZ u (.bl false))=false ↔ ∀ u∈ws,∃ k,u=.int k:=by
 rw [List.any_eq_false]
 constructor
 ·intro h u hu
  rcases hw u hu with h1 | ⟨b,rfl⟩
  ·exact h1
  ·exact absurd rfl (h (.bl false) (List.mem_map.mpr ⟨_,hu,rfl⟩))
 ·intro h v hv
  obtain ⟨u,hu,rfl⟩:=List.mem_map.mp hv
  obtain ⟨k,rfl⟩:=h u hu
  show ¬ (true == false)=true
  decide
theorem TB (F:b9 K "law" "law" mN f fd) (cR:mg "range"=none) (mO:mg "max"=none) (IX:mg "min"=none) (bT:mg "len"=none) (aP:mg "isinstance"=none) (bN:mg "tuple"=none) (xG:Callee P w K mg base 1 "_law_feed" Mq []) (bM:Callee P w K mg base 1 "_law_take" mB []) (L6:Callee P w K mg base 12 "_law_web" Qv []) (Er:Callee P w K mg base 2 "_law_great" Gu []) (LY:Callee P w K mg base 51 "_law_all" PZ [])
  (wL:Callee P w K mg base 8 "_law_done" Lv []) (Bc:Callee P w K mg base 51 "_law_things" C2 []) (EO:Callee P w K mg base 1 "_law_whole" Cb []):dJ P w K mg base j4 52 f fd ["script"] (fB K wD):=by
 refine Gk F gY (fun us M Q h=>by obtain ⟨x,rfl,_⟩:=h;rfl) (aH (fD (RI cR (aA aK (aA (cQ Lh mO (aA aK (aA (cQ VQ IX (aA aK (aA (cQ gI bT (aA (uv 0) aB)) aB))) aB))) (aA aK aB)))) (bW (k:=1000) 1 gY.nd)
 (aH (bF 2 gY.nd (aV xG (aA (uv 0) (aA (uv 1) aB))))
 (aH (bF 3 gY.nd (aQ (aV L6 (aA (uv 2) (aA aK (aA (bU (own:=false) aK (aV bM (aA (uv 2) (aA aK aB)))) aB)))) aK))
 (aH (bX (g9.pt (nO (bV cM (uv 1) aK) (kZ (bV cM (aV bM (aA (uv 2) (aA aK aB))) aK))))
 (aJ (bF 3 gY.nd (aV Er (aA (uv 2) aB))))
 bH)
 (aH (bF 4 gY.nd (aV LY (aA (uv 3) aB)))
 (aH (fD (eD (bU (own:=false) (fT (own:=false) (uv 4) eM (eJ aK)) (fT (own:=false) (uv 4) (eJ (xD aK)) eM))) (wJ (n:=2) (iT (bW (k:=1000) 5 gY.nd) (iT (bW (k:=1000) 6 gY.nd) tG)))
 (aJ (bX (bV tK (aV wL (aA (uv 3) (aA (uv 5) aB))) (uv 6))
 (aJ (aZ lW))
 bH)))
 (aH (Sz 7 gY.nd false ["one"] 1 [] (eD (uv 4)) (bW (k:=1) 0 (by dsimp only [cJ];decide +kernel)) i8 (aQ (uv 0) aK))
 (aJ (fD (eD (aV Bc (aA (uv 3) (aA (aV xG (aA (uv 0) (aA (bU (own:=false) (uv 1) aK) aB))) aB)))) (bW (k:=1000) 8 gY.nd)
 (aH (bF 9 gY.nd (nJ (cQ fZ aP (aA (uv 8) (aA (gC (n:="tuple") bN) aB))) (nJ (yT cM (cQ gI bT (aA (uv 8) aB)) aK) (pE (cQ fZ aP (aA (aQ (uv 8) aK) (aA (gC (n:="tuple") bN) aB)))))))
 (aH (bX (d8 (uv 9))
 (aJ (bF 9 gY.nd (yT yO lW (iD false ["part"] 1 [] (eD (aQ (uv 8) aK)) (bW (k:=1) 0 (by dsimp only [cJ];decide +kernel)) i8 (aV EO (aA (uv 0) aB))))))
 bH)
 (aJ (bX (g9.pt (jG (gN (d8 (uv 9))) (jY (bV O3 (uv 8) (uv 7)))))
 (aJ (bX (bV tK (aV wL (aA (uv 3) (aA (uv 8) aB))) (dB (own:=false) (aA lW (aA lW (aA lW aB)))))
 (aJ (aZ lW))
 bH))
 bH)))))))))))))
 (aJ (aZ lW))) ?_
 rintro us M Q ⟨ns,rfl,hl,q⟩
 refine aU fun V hV=>?_
 generalize hj:(if (if (ns.length:Int) < 8 then (ns.length:Int) else 8) > 2 then (if (ns.length:Int) < 8 then (ns.length:Int) else 8) else 2)=j
 have hj8:0<=j/\j<=8:=by rw [<- hj];split <;> split <;> omega
 refine fX (S:=⟨none,jF (half j)⟩) (M1:=M) (fun R r=>by simp! only [Kr,List.length_map,aE,aD];rw [hj];exact ⟨hj8.1,by omega,r⟩)
  (fun i τ Mi=>∃ z1 z2 z3 z4 z5 z6 z7 z8 z9:Option U,τ=[some (.lst (ns.map U.int)),z1,z2,z3,z4,z5,z6,z7,z8,z9]/\Sub M Mi) ⟨none,none,none,none,none,none,none,none,none,rfl,Sub.refl M⟩ nk ?_ ?_
 ·rintro i x τ Mi e ⟨z1,z2,z3,z4,z5,z6,z7,z8,z9,rfl,hSub⟩
  obtain ⟨rfl,hi⟩:=uJ e
  have hi4:i<=4:=by unfold half at hi;omega
  have ei:((i:Int) * 2)=((i * 2:Nat):Int):=by omega
  rw [ei]
  simp! only [hName,aE,aD]
  refine aU fun V2 hV2=>?_
  simp! only [bQ,hName,aE,aD]
  refine ⟨ns,i * 2,rfl,by omega,fun r d x hr hd hx hx2=>?_⟩
  subst hV2
  refine aU fun V2 hV2=>?_
  simp! only [bQ,hName,aE,aD]
  refine ⟨r,d,x,4,rfl,aX,hd,hx,hx2,by decide,by decide,fun n1 d1 x1 a1 b1 c1 c2 c3=>?_⟩
  rw [bZ]
  simp! only [aE,aD]
  obtain ⟨k,hk⟩:∃ k:Nat,1 + n1=(k:Int):=⟨(1 + n1).toNat,by omega⟩
  rw [hk]
  refine ⟨r,d1,x1,k,rfl,aX,c1,c2,c3,by omega,fun t0 d2 x2 gt0 dt0 st0 f1 f2 f3=>?_⟩
  rw [bZ]
  have hk4:k<=4:=by omega
  have hsz0:t0.size<=31:=by
   have:2 ^ (k + 1)<=2 ^ 5:=Nat.pow_le_pow_right (by omega) (by omega)
   omega
  have hdp0:t0.dep<=5:=by omega
  simp! only [aE,aD]
  subst hV2
  refine aU fun V2 hV2=>?_
  have rest2:∀ (t:Tr) (d x:Int),t.good->t.dep<=45->t.size<=900->V2 [some (.lst (ns.map U.int)),some (.int ((i * 2:Nat):Int)),some (.ref r),some t.toU,z4,z5,z6,z7,z8,z9] (mup Mi r (.lst (cD d x))):=by
   intro t d x gt dt st
   have hel:=TU st
   subst hV2
   generalize hMM:mup Mi r (.lst (cD d x))=MM
   have hSub2:Sub M MM:=by
    rw [<- hMM];exact fun b mo e=>by rw [cB (fun z=>by subst z;rw [hSub b mo e] at hr;cases hr)];exact hSub b mo e
   refine aU fun V2 hV2=>?_
   simp! only [bQ,hName,aE,aD]
   refine ⟨t,rfl,dt,st,?_⟩
   subst hV2
   refine aU fun V2 hV2=>?_
   refine fX (S:=⟨none,dO ((d7 t).map eW) none (some 8)++dO ((d7 t).map eW) (some (-4)) none⟩) (M1:=MM) (fun R r=>by
     have h1:=zY (l:=(d7 t).map eW) (a:=none) (b:=some 8)
     have h2:=zY (l:=(d7 t).map eW) (a:=some (-4)) (b:=none)
     rw [List.length_map] at h1 h2
     simp! only [aE,aD]
     exact ⟨small (by omega),r⟩)
    (fun i' τ Mi=>∃ z5 z6,τ=[some (.lst (ns.map U.int)),some (.int ((i * 2:Nat):Int)),some (.ref r),some t.toU,some (.lst ((d7 t).map eW)),z5,z6,z7,z8,z9]/\Mi=MM) ⟨_,_,rfl,rfl⟩ nk ?_ ?_
   ·rintro j u τ Mj e ⟨z5,z6,rfl,rfl⟩
    have hmem:u∈dO ((d7 t).map eW) none (some 8)++dO ((d7 t).map eW) (some (-4)) none:=List.mem_of_getElem? e
    have hmem':u∈(d7 t).map eW:=(List.mem_append.mp hmem).elim Gx Gx
    obtain ⟨ex,hex,rfl⟩:=List.mem_map.mp hmem'
    have hgx:ex.2.2.good:=ON gt ex (List.mem_filter.mp hex).1
    have hox:kP ex.2.2=true:=(List.mem_filter.mp hex).2
    have hdx:ex.2.2.dep<=40:=by unfold kP at hox;rw [Bool.and_eq_true] at hox;exact of_decide_eq_true hox.2
    have hlx:=Oa st ex hex
    refine ⟨rfl,?_⟩
    simp! only [eW,lK,lQ,oF,hName,aE,aD]
    refine cG fun A B hA hB=>?_
    simp! only [aE,aD]
    refine ⟨t,o9 ex,rfl,.inr (.inr ⟨_,_,rfl,.inr ⟨_,rfl⟩,.inr ⟨_,rfl,fun y hy=>by obtain ⟨n,_,rfl⟩:=List.mem_map.mp hy;exact .inl ⟨_,rfl⟩⟩⟩),gt,st,?_⟩
    have hdn:q9 t (o9 ex)=ex.2.2.toU:=by unfold q9;rw [Su hex]
    rw [hdn]
    refine RF hgx (by omega) ?_
    simp! only [aE,aD]
    subst hB
    simp only [b7]
    exact ⟨_,_,rfl,trivial⟩
   ·rintro τ Mj ⟨z5,z6,rfl,rfl⟩
    show V2 _ _
    subst hV2
    refine aU fun V2 hV2=>?_
    simp only [bQ]
    refine e7 (S:=⟨none,(d7 t).map eW⟩) (M1:=Mj) ((d7 t).map o9) (fun R r=>by simp! only [aE,aD];exact r) (by simp) (small (by show ((d7 t).map eW).length<=_;rw [List.length_map];omega)) (fun a e=>by cases e) ?_ ?_
    ·intro j x y hx hy M' hS R r'
     have hx':((d7 t).map eW)[j]?=some x:=hx
     rw [List.getElem?_map] at hx' hy
     cases hk:(d7 t)[j]? with
     | none=>rw [hk] at hx';cases hx'
     | some ex =>
      rw [hk] at hx' hy
      cases hx';cases hy
      simp! only [hName,eW,aE,aD]
      exact r'
    simp! only [hName,aE,aD]
    subst hV2
    refine Rc (fun S M1=>S.own=none/\(∀ u∈S.xs,vD u)/\Sub M M1) (fun R r'=>?_)
     (fun i' τ Mi=>∃ z8 z9,τ=[some (.lst (ns.map U.int)),some (.int ((i * 2:Nat):Int)),some (.ref r),some t.toU,some (.lst ((d7 t).map eW)),z5,z6,some (.lst ((d7 t).map o9)),z8,z9]/\Sub M Mi) (fun S M1 h=>⟨_,_,rfl,h.2.2⟩) (fun S M1 h i τ M' _ a e=>by rw [h.1] at e;cases e) ?_ ?_
    ·have e2:((i * 2:Nat):Int) + 1=((i * 2 + 1:Nat):Int):=by omega
     simp! only [aE,aD]
     rw [e2]
     refine ⟨ns,i * 2 + 1,rfl,by omega,fun r2 d x hr2 hd hx hx2=>?_⟩
     refine ⟨t,r2,d,x,rfl,aX,hd,hx,hx2,dt,st,fun L d' x' hL hLl=>?_⟩
     rw [bZ]
     simp! only [aE,aD]
     exact r' ⟨none,L⟩ _ ⟨rfl,hL,hSub2.mup (hSub2.none hr2)⟩
    ·rintro S M1 ⟨hS1,hS2,hS3⟩ j u τ Mi e ⟨z8,z9,rfl,hS4⟩
     have hu:=hS2 u (List.mem_of_getElem? e)
     simp only [hName]
     refine aU fun V3 hV3=>?_
     have go:∀ k0:Bool,(k0=false->cT t u=none)->(k0=true->∃ x ws,u=.tup [x,.tup ws]/\(x=.non\/∃ z,x=.str z/\PyData.strOk z=true)/\ws.length<=1000/\∀ x∈ws,sA x)->V3 [some (.lst (ns.map U.int)),some (.int ((i * 2:Nat):Int)),some (.ref r),some t.toU,some (.lst ((d7 t).map eW)),z5,z6,some (.lst ((d7 t).map o9)),some u,some (.bl k0)] Mi:=by
      intro k0 h0 h1
      subst hV3
      refine aU fun V4 hV4=>?_
      have last:∀ kb:Bool,(kb=false->cT t u=none)->(kb=true->∃ x ws,u=.tup [x,.tup ws]/\(x=.non\/∃ z,x=.str z/\PyData.strOk z=true)/\∀ v∈ws,∃ k,v=.int k)->V4 [some (.lst (ns.map U.int)),some (.int ((i * 2:Nat):Int)),some (.ref r),some t.toU,some (.lst ((d7 t).map eW)),z5,z6,some (.lst ((d7 t).map o9)),some u,some (.bl kb)] Mi:=by
       intro kb h0 h1
       subst hV4
       refine cG fun A B hA hB=>?_
       have ask:cT t u=none->A Mi:=fun hn=>by
        subst hA
        refine cG fun A B hA hB=>?_
        simp! only [aE,aD]
        refine ⟨t,u,rfl,hu.ok,gt,st,?_⟩
        refine Sd hn ?_
        simp! only [aE,aD]
        subst hB
        simp only [b7]
        exact ⟨_,_,rfl,hS4⟩
       have skip:B Mi:=by
        subst hB
        simp only [b7]
        exact ⟨_,_,rfl,hS4⟩
       cases kb with
       | false =>
        simp! only [aE,aD]
        exact ask (h0 rfl)
       | true =>
        obtain ⟨x,ws,rfl,hx,hw⟩:=h1 rfl
        simp! only [aE,aD]
        refine Dk hx hw (fun hn=>?_) ?_
        ·simp! only [aE,aD]
         exact ask hn
        ·simp! only [aE,aD]
         exact skip
      refine cG fun A B hA hB=>?_
      cases k0 with
      | false =>
       simp! only [aE,aD]
       subst hB
       simp only [b7]
       exact last false h0 fun z=>nomatch z
      | true =>
       obtain ⟨x,ws,rfl,hx,hwl,hw⟩:=h1 rfl
       simp! only [aE,aD]
       subst hA
       simp! only [bQ,hName,aE,aD]
       refine e7 (S:=⟨none,ws⟩) (M1:=Mi) (ws.map fun u=>U.bl (JR u)) (fun R r=>by simp! only [aE,aD];exact r) (by simp) (small (by show ws.length<=_;omega)) (fun a e=>by cases e) ?_ ?_
       ·intro j' v y hx' hy M' hS R r'
        have hx'':ws[j']?=some v:=hx'
        rw [List.getElem?_map,hx''] at hy
        cases hy
        simp! only [hName,aE,aD]
        exact ⟨v,rfl,hw v (List.mem_of_getElem? hx''),r'⟩
       have hall:=NQ hw
       simp! only [aE,aD]
       refine ⟨rfl,List.all_eq_true.mpr fun v hv=>by obtain ⟨u,_,rfl⟩:=List.mem_map.mp hv;rfl,?_⟩
       cases ha:(ws.map fun u=>U.bl (JR u)).any (fun u=>mZ u (.bl false)) with
       | true=>exact last false (fun _=>N1 fun h=>by have:=hall.mpr h;rw [ha] at this;cases this) fun z=>nomatch z
       | false=>exact last true (fun z=>nomatch z) fun _=>⟨x,ws,rfl,hx,hall.mp ha⟩
     rcases hu with nt | ⟨us,rfl,hl1,hl2⟩ | ⟨x,y,rfl,hx,hy⟩
     ·have:=go false (fun _=>Gw nt) fun z=>nomatch z
      rcases nt with rfl | ⟨k,rfl⟩ | ⟨x,rfl,_⟩ | ⟨us,rfl⟩ <;> (simp! only [bQ,aE,hName,aE,aD];exact this)
     ·have hd:decide ((us.length:Int)=2)=false:=decide_eq_false (by omega)
      simp! only [bQ,aE,hName,hd,aE,aD]
      exact go false (fun _=>BI hl1) fun z=>nomatch z
     ·rcases hy with nt | ⟨ws,rfl,hwl,hw⟩
      ·have:=go false (fun _=>BW nt) fun z=>nomatch z
       rcases nt with rfl | ⟨k,rfl⟩ | ⟨x',rfl,_⟩ | ⟨us,rfl⟩ <;> (simp! only [bQ,aE,hName,show decide (((2:Nat):Int)=2)=true from rfl,aE,aD];exact this)
      ·simp! only [bQ,aE,hName,show decide (((2:Nat):Int)=2)=true from rfl,aE,aD]
       exact go true (fun z=>nomatch z) fun _=>⟨x,ws,rfl,hx,hwl,hw⟩
    ·rintro S M1 ⟨hS1,hS2,hS3⟩ τ Mi ⟨z8,z9,rfl,hS4⟩
     exact ⟨_,_,_,_,_,_,_,_,_,rfl,hS4⟩
  refine cG fun A B hA hB=>?_
  simp! only [aE,aD]
  refine fU (fun h=>?_) (fun h=>?_)
  ·refine ⟨r,d2,x2,4,rfl,aX,f1,f2,f3,by decide,by decide,fun n1 d1 x1 a1 b1 c1 c2 c3=>?_⟩
   rw [bZ]
   simp! only [aE,aD]
   refine fU (fun h=>?_) (fun h=>?_)
   ·subst hA
    simp! only [bQ,hName,aE,aD]
    refine ⟨r,d1,x1,rfl,aX,c1,c2,c3,fun t d' x' gt dt st=>?_⟩
    rw [bZ]
    exact rest2 t d' x' gt dt st
   ·subst hB
    simp only [b7]
    exact rest2 t0 d1 x1 gt0 (by omega) (by omega)
  ·subst hB
   simp only [b7]
   exact rest2 t0 d2 x2 gt0 (by omega) (by omega)
 ·rintro τ Mi ⟨z1,z2,z3,z4,z5,z6,z7,z8,z9,rfl,hSub⟩
  subst hV
  simp! only [cE,aE,aD]
  exact ⟨_,M,hSub,.inl rfl,q⟩
end
end K86
namespace K86
open PySem L2 U2
noncomputable def Ts (s:Stmt) (i:Nat):Stmt:=match s with
 | .ClassDef _ _ _ b _ _ _ _ _ _ _=>b.getD i (.Pass ⟨0,0,0,0⟩)
 | _=>.Pass ⟨0,0,0,0⟩
noncomputable def C1 (n:Str):List Stmt->Stmt
 | []=>.Pass ⟨0,0,0,0⟩
 | s :: r=>match s with
  | .ClassDef m _ _ _ _ _ _ _ _ _ _=>if m=n then s else C1 n r
  | _=>C1 n r
noncomputable def pN:Stmt:=Ts (C1 "NoExchange" PySem.Challenge.pw_rowsmith_k86_exchanges_done.main.body) 0
theorem Tw:bB ["self","text"] ["self","text"] (aF pN):=dA
section
variable {P:Program} {w:World} {K:PySem.W.Frag} {mg:Str->Option Value} {base:Heap}
theorem RR {R C fI:Addr} {fd:FuncData} (F:b9 K "__init__" "NoExchange.__init__" pN fI fd) (hm:mg "RowsmithError"=some (.ref R)) (B:Av K R) (c:oM K C R fI) (n:wH K C "text"):dJ P w K mg base j4 1 fI fd ["self","text"] (nQ C "text" fun _=>True) :=
 Q5 (k:=0) (t2:=uX 1) F hm B c n rfl Tw rfl (fun X h1 h2 h3=>mY (by rw [h1];rfl) (by rw [h2];exact .inl rfl)) (fun a y H Q _ q=>⟨y,rfl,q y⟩)
theorem TF {R C fI:Addr} {fd:FuncData} (F:b9 K "__init__" "NoExchange.__init__" pN fI fd) (hm:mg "RowsmithError"=some (.ref R)) (hc:mg "NoExchange"=some (.ref C)) (B:Av K R) (c:nM K C R fI) (n:wH K C "text"):NR P w K mg base 1 "NoExchange" C "text" fun _=>True :=
 ⟨R,fI,fd,"text",c,hc,RR F hm B c.cl n,F.binds fun _ _ _ _ _ _ us hl=>match us,hl with | [_,_],_=>rfl⟩
end
end K86
namespace K86
open PySem L2 U2
theorem Ct {K:PySem.W.Frag} {H:Hp} {M:aI}:∀ ns:List Int,aS K H M (ns.map U.int) (ns.map V.int)
 | []=>.nil
 | _ :: r=>.cons cO (Ct r)
theorem LX {K:PySem.W.Frag} {H:Hp} {a:Addr} {ns:List Int} {E:XK} (hl:ns.length<=63) (hS:dE K H a (ns.map V.int)):fB K wD [.ref a] H (fun v _=>v=.bl true) E:=by
 refine ⟨[.lst (ns.map .int)],fun _=>none,fun u _=>u=.bl true,(fun a mo e=>by cases e),.cons ?_ .nil,⟨ns,rfl,hl,rfl⟩,fun u v M1 H1 _ _ ru q=>by subst q;exact ru.bl⟩
 simp only [aY]
 refine ⟨a,_,rfl,?_,Ct ns⟩
 rcases hS with h | h
 ·exact .inl ⟨trivial,h⟩
 ·exact .inr h
open PyProof.Rows in
theorem all_mk {cNE cRE fI aL aN aR aT aG aM xN:Addr} {xnm xqq:Str} {xbs xsub:List Value} {xsn:List Str} {xab:Bool} {xcol:Option Bool} {xdd xod xan:Option Addr} {xk0 xk1 xk2 xk3 xk5:Option Value} {xosl:Array (Option Value)} {xoc xkV xdoc xpm xcdv xct:Value} {l:PySem.W.OpenLaw} {w:World} {K:PySem.W.Frag} {h:Heap} {mg:Str->Option Value} {fa f0 f1 f2 f3 f4 f5 f6 f7 f8 f9 f10 f11 f12 f13 f14 f15 f16 f17 f18 f19 f20 f21 f22 f23 f24 f25 f26 f27 f28 f29 f30 f31 f32 f33 f34 f35 f36 f37 f38 f39 f40:Addr} (X:K.In h) (G:h.Ns mainGlobals mg) (hfa:mg "law"=some (.ref fa))
  {od0 an0:Option Addr} {sl0:Array (Option Value)} {oc0 kV0 dc0 pm0 cd0 ct0:Value}
  {od1 an1:Option Addr} {sl1:Array (Option Value)} {oc1 kV1 dc1 pm1 cd1 ct1:Value}
  {od2 an2:Option Addr} {sl2:Array (Option Value)} {oc2 kV2 dc2 pm2 cd2 ct2:Value}
  {od3 an3:Option Addr} {sl3:Array (Option Value)} {oc3 kV3 dc3 pm3 cd3 ct3:Value}
  {od4 an4:Option Addr} {sl4:Array (Option Value)} {oc4 kV4 dc4 pm4 cd4 ct4:Value}
  {od5 an5:Option Addr} {sl5:Array (Option Value)} {oc5 kV5 dc5 pm5 cd5 ct5:Value}
  {od6 an6:Option Addr} {sl6:Array (Option Value)} {oc6 kV6 dc6 pm6 cd6 ct6:Value}
  {od7 an7:Option Addr} {sl7:Array (Option Value)} {oc7 kV7 dc7 pm7 cd7 ct7:Value}
  {od8 an8:Option Addr} {sl8:Array (Option Value)} {oc8 kV8 dc8 pm8 cd8 ct8:Value}
  {od9 an9:Option Addr} {sl9:Array (Option Value)} {oc9 kV9 dc9 pm9 cd9 ct9:Value}
  {od10 an10:Option Addr} {sl10:Array (Option Value)} {oc10 kV10 dc10 pm10 cd10 ct10:Value}
  {od11 an11:Option Addr} {sl11:Array (Option Value)} {oc11 kV11 dc11 pm11 cd11 ct11:Value}
  {od12 an12:Option Addr} {sl12:Array (Option Value)} {oc12 kV12 dc12 pm12 cd12 ct12:Value}
  {od13 an13:Option Addr} {sl13:Array (Option Value)} {oc13 kV13 dc13 pm13 cd13 ct13:Value}
  {od14 an14:Option Addr} {sl14:Array (Option Value)} {oc14 kV14 dc14 pm14 cd14 ct14:Value}
  {od15 an15:Option Addr} {sl15:Array (Option Value)} {oc15 kV15 dc15 pm15 cd15 ct15:Value}
  {od16 an16:Option Addr} {sl16:Array (Option Value)} {oc16 kV16 dc16 pm16 cd16 ct16:Value}
  {od17 an17:Option Addr} {sl17:Array (Option Value)} {oc17 kV17 dc17 pm17 cd17 ct17:Value}
  {od18 an18:Option Addr} {sl18:Array (Option Value)} {oc18 kV18 dc18 pm18 cd18 ct18:Value}
  {od19 an19:Option Addr} {sl19:Array (Option Value)} {oc19 kV19 dc19 pm19 cd19 ct19:Value}
  {od20 an20:Option Addr} {sl20:Array (Option Value)} {oc20 kV20 dc20 pm20 cd20 ct20:Value}
  {od21 an21:Option Addr} {sl21:Array (Option Value)} {oc21 kV21 dc21 pm21 cd21 ct21:Value}
  {od22 an22:Option Addr} {sl22:Array (Option Value)} {oc22 kV22 dc22 pm22 cd22 ct22:Value}
  {od23 an23:Option Addr} {sl23:Array (Option Value)} {oc23 kV23 dc23 pm23 cd23 ct23:Value}
  {od24 an24:Option Addr} {sl24:Array (Option Value)} {oc24 kV24 dc24 pm24 cd24 ct24:Value}
  {od25 an25:Option Addr} {sl25:Array (Option Value)} {oc25 kV25 dc25 pm25 cd25 ct25:Value}
  {od26 an26:Option Addr} {sl26:Array (Option Value)} {oc26 kV26 dc26 pm26 cd26 ct26:Value}
  {od27 an27:Option Addr} {sl27:Array (Option Value)} {oc27 kV27 dc27 pm27 cd27 ct27:Value}
  {od28 an28:Option Addr} {sl28:Array (Option Value)} {oc28 kV28 dc28 pm28 cd28 ct28:Value}
  {od29 an29:Option Addr} {sl29:Array (Option Value)} {oc29 kV29 dc29 pm29 cd29 ct29:Value}
  {od30 an30:Option Addr} {sl30:Array (Option Value)} {oc30 kV30 dc30 pm30 cd30 ct30:Value}
  {od31 an31:Option Addr} {sl31:Array (Option Value)} {oc31 kV31 dc31 pm31 cd31 ct31:Value}
  {od32 an32:Option Addr} {sl32:Array (Option Value)} {oc32 kV32 dc32 pm32 cd32 ct32:Value}
  {od33 an33:Option Addr} {sl33:Array (Option Value)} {oc33 kV33 dc33 pm33 cd33 ct33:Value}
  {od34 an34:Option Addr} {sl34:Array (Option Value)} {oc34 kV34 dc34 pm34 cd34 ct34:Value}
  {od35 an35:Option Addr} {sl35:Array (Option Value)} {oc35 kV35 dc35 pm35 cd35 ct35:Value}
  {od36 an36:Option Addr} {sl36:Array (Option Value)} {oc36 kV36 dc36 pm36 cd36 ct36:Value}
  {od37 an37:Option Addr} {sl37:Array (Option Value)} {oc37 kV37 dc37 pm37 cd37 ct37:Value}
  {od38 an38:Option Addr} {sl38:Array (Option Value)} {oc38 kV38 dc38 pm38 cd38 ct38:Value}
  {od39 an39:Option Addr} {sl39:Array (Option Value)} {oc39 kV39 dc39 pm39 cd39 ct39:Value}
  {od40 an40:Option Addr} {sl40:Array (Option Value)} {oc40 kV40 dc40 pm40 cd40 ct40:Value}
  {tk0:Tok}
  {tk1:Tok}
  {tk2:Tok}
  {tk3:Tok}
  {tk4:Tok}
  (a0:PySem.W.nsIn K mainGlobals "is_tree"=some (some (.ref f0))) (l0:K.lookup f0=some ⟨oc0,od0,.func (PySem.W.fnOf "is_tree" "is_tree" (bC kB) (bA kB) (aF kB) .none kV0 dc0 pm0 an0 cd0 ct0),sl0⟩) (c0:PySem.W.codeIn K cd0 "is_tree"=true) (k0:PySem.W.keepIn K (.ref f0)=true)
  (a1:PySem.W.nsIn K mainGlobals "is_shape"=some (some (.ref f1))) (l1:K.lookup f1=some ⟨oc1,od1,.func (PySem.W.fnOf "is_shape" "is_shape" (bC jA) (bA jA) (aF jA) .none kV1 dc1 pm1 an1 cd1 ct1),sl1⟩) (c1:PySem.W.codeIn K cd1 "is_shape"=true) (k1:PySem.W.keepIn K (.ref f1)=true)
  (a2:PySem.W.nsIn K mainGlobals "is_tree_leaf"=some (some (.ref f2))) (l2:K.lookup f2=some ⟨oc2,od2,.func (PySem.W.fnOf "is_tree_leaf" "is_tree_leaf" (bC eN) (bA eN) (aF eN) .none kV2 dc2 pm2 an2 cd2 ct2),sl2⟩) (c2:PySem.W.codeIn K cd2 "is_tree_leaf"=true) (k2:PySem.W.keepIn K (.ref f2)=true)
  (a3:PySem.W.nsIn K mainGlobals "is_name"=some (some (.ref f3))) (l3:K.lookup f3=some ⟨oc3,od3,.func (PySem.W.fnOf "is_name" "is_name" (bC kF) (bA kF) (aF kF) .none kV3 dc3 pm3 an3 cd3 ct3),sl3⟩) (c3:PySem.W.codeIn K cd3 "is_name"=true) (k3:PySem.W.keepIn K (.ref f3)=true)
  (a4:PySem.W.nsIn K mainGlobals "is_sign"=some (some (.ref f4))) (l4:K.lookup f4=some ⟨oc4,od4,.func (PySem.W.fnOf "is_sign" "is_sign" (bC kA) (bA kA) (aF kA) .none kV4 dc4 pm4 an4 cd4 ct4),sl4⟩) (c4:PySem.W.codeIn K cd4 "is_sign"=true) (k4:PySem.W.keepIn K (.ref f4)=true)
  (a5:PySem.W.nsIn K mainGlobals "is_number"=some (some (.ref f5))) (l5:K.lookup f5=some ⟨oc5,od5,.func (PySem.W.fnOf "is_number" "is_number" (bC iE) (bA iE) (aF iE) .none kV5 dc5 pm5 an5 cd5 ct5),sl5⟩) (c5:PySem.W.codeIn K cd5 "is_number"=true) (k5:PySem.W.keepIn K (.ref f5)=true)
  (a6:PySem.W.nsIn K mainGlobals "is_whole"=some (some (.ref f6))) (l6:K.lookup f6=some ⟨oc6,od6,.func (PySem.W.fnOf "is_whole" "is_whole" (bC jI) (bA jI) (aF jI) .none kV6 dc6 pm6 an6 cd6 ct6),sl6⟩) (c6:PySem.W.codeIn K cd6 "is_whole"=true) (k6:PySem.W.keepIn K (.ref f6)=true)
  (a7:PySem.W.nsIn K mainGlobals "parts_of"=some (some (.ref f7))) (l7:K.lookup f7=some ⟨oc7,od7,.func (PySem.W.fnOf "parts_of" "parts_of" (bC jK) (bA jK) (aF jK) .none kV7 dc7 pm7 an7 cd7 ct7),sl7⟩) (c7:PySem.W.codeIn K cd7 "parts_of"=true) (k7:PySem.W.keepIn K (.ref f7)=true)
  (a8:PySem.W.nsIn K mainGlobals "parts"=some (some (.ref f8))) (l8:K.lookup f8=some ⟨oc8,od8,.func (PySem.W.fnOf "parts" "parts" (bC mU) (bA mU) (aF mU) .none kV8 dc8 pm8 an8 cd8 ct8),sl8⟩) (c8:PySem.W.codeIn K cd8 "parts"=true) (k8:PySem.W.keepIn K (.ref f8)=true)
  (a9:PySem.W.nsIn K mainGlobals "without_turns"=some (some (.ref f9))) (l9:K.lookup f9=some ⟨oc9,od9,.func (PySem.W.fnOf "without_turns" "without_turns" (bC eB) (bA eB) (aF eB) .none kV9 dc9 pm9 an9 cd9 ct9),sl9⟩) (c9:PySem.W.codeIn K cd9 "without_turns"=true) (k9:PySem.W.keepIn K (.ref f9)=true)
  (a10:PySem.W.nsIn K mainGlobals "shut_turn"=some (some (.ref f10))) (l10:K.lookup f10=some ⟨oc10,od10,.func (PySem.W.fnOf "shut_turn" "shut_turn" (bC iB) (bA iB) (aF iB) .none kV10 dc10 pm10 an10 cd10 ct10),sl10⟩) (c10:PySem.W.codeIn K cd10 "shut_turn"=true) (k10:PySem.W.keepIn K (.ref f10)=true)
  (a11:PySem.W.nsIn K mainGlobals "opened_less"=some (some (.ref f11))) (l11:K.lookup f11=some ⟨oc11,od11,.func (PySem.W.fnOf "opened_less" "opened_less" (bC eY) (bA eY) (aF eY) .none kV11 dc11 pm11 an11 cd11 ct11),sl11⟩) (c11:PySem.W.codeIn K cd11 "opened_less"=true) (k11:PySem.W.keepIn K (.ref f11)=true)
  (a12:PySem.W.nsIn K mainGlobals "to_the_left"=some (some (.ref f12))) (l12:K.lookup f12=some ⟨oc12,od12,.func (PySem.W.fnOf "to_the_left" "to_the_left" (bC eX) (bA eX) (aF eX) .none kV12 dc12 pm12 an12 cd12 ct12),sl12⟩) (c12:PySem.W.codeIn K cd12 "to_the_left"=true) (k12:PySem.W.keepIn K (.ref f12)=true)
  (a13:PySem.W.nsIn K mainGlobals "to_the_right"=some (some (.ref f13))) (l13:K.lookup f13=some ⟨oc13,od13,.func (PySem.W.fnOf "to_the_right" "to_the_right" (bC eL) (bA eL) (aF eL) .none kV13 dc13 pm13 an13 cd13 ct13),sl13⟩) (c13:PySem.W.codeIn K cd13 "to_the_right"=true) (k13:PySem.W.keepIn K (.ref f13)=true)
  (a14:PySem.W.nsIn K mainGlobals "turned_about"=some (some (.ref f14))) (l14:K.lookup f14=some ⟨oc14,od14,.func (PySem.W.fnOf "turned_about" "turned_about" (bC eK) (bA eK) (aF eK) .none kV14 dc14 pm14 an14 cd14 ct14),sl14⟩) (c14:PySem.W.codeIn K cd14 "turned_about"=true) (k14:PySem.W.keepIn K (.ref f14)=true)
  (a15:PySem.W.nsIn K mainGlobals "changed"=some (some (.ref f15))) (l15:K.lookup f15=some ⟨oc15,od15,.func (PySem.W.fnOf "changed" "changed" (bC kD) (bA kD) (aF kD) .none kV15 dc15 pm15 an15 cd15 ct15),sl15⟩) (c15:PySem.W.codeIn K cd15 "changed"=true) (k15:PySem.W.keepIn K (.ref f15)=true)
  (a16:PySem.W.nsIn K mainGlobals "put_at"=some (some (.ref f16))) (l16:K.lookup f16=some ⟨oc16,od16,.func (PySem.W.fnOf "put_at" "put_at" (bC lG) (bA lG) (aF lG) .none kV16 dc16 pm16 an16 cd16 ct16),sl16⟩) (c16:PySem.W.codeIn K cd16 "put_at"=true) (k16:PySem.W.keepIn K (.ref f16)=true)
  (a17:PySem.W.nsIn K mainGlobals "shape_at"=some (some (.ref f17))) (l17:K.lookup f17=some ⟨oc17,od17,.func (PySem.W.fnOf "shape_at" "shape_at" (bC jL) (bA jL) (aF jL) .none kV17 dc17 pm17 an17 cd17 ct17),sl17⟩) (c17:PySem.W.codeIn K cd17 "shape_at"=true) (k17:PySem.W.keepIn K (.ref f17)=true)
  (a18:PySem.W.nsIn K mainGlobals "tree_at"=some (some (.ref f18))) (l18:K.lookup f18=some ⟨oc18,od18,.func (PySem.W.fnOf "tree_at" "tree_at" (bC kE) (bA kE) (aF kE) .none kV18 dc18 pm18 an18 cd18 ct18),sl18⟩) (c18:PySem.W.codeIn K cd18 "tree_at"=true) (k18:PySem.W.keepIn K (.ref f18)=true)
  (a19:PySem.W.nsIn K mainGlobals "is_place"=some (some (.ref f19))) (l19:K.lookup f19=some ⟨oc19,od19,.func (PySem.W.fnOf "is_place" "is_place" (bC i9) (bA i9) (aF i9) .none kV19 dc19 pm19 an19 cd19 ct19),sl19⟩) (c19:PySem.W.codeIn K cd19 "is_place"=true) (k19:PySem.W.keepIn K (.ref f19)=true)
  (a20:PySem.W.nsIn K mainGlobals "come_by"=some (some (.ref f20))) (l20:K.lookup f20=some ⟨oc20,od20,.func (PySem.W.fnOf "come_by" "come_by" (bC kC) (bA kC) (aF kC) .none kV20 dc20 pm20 an20 cd20 ct20),sl20⟩) (c20:PySem.W.codeIn K cd20 "come_by"=true) (k20:PySem.W.keepIn K (.ref f20)=true)
  (a21:PySem.W.nsIn K mainGlobals "exchanged"=some (some (.ref f21))) (l21:K.lookup f21=some ⟨oc21,od21,.func (PySem.W.fnOf "exchanged" "exchanged" (bC hU) (bA hU) (aF hU) .none kV21 dc21 pm21 an21 cd21 ct21),sl21⟩) (c21:PySem.W.codeIn K cd21 "exchanged"=true) (k21:PySem.W.keepIn K (.ref f21)=true)
  (a22:PySem.W.nsIn K mainGlobals "_law_feed"=some (some (.ref f22))) (l22:K.lookup f22=some ⟨oc22,od22,.func (PySem.W.fnOf "_law_feed" "_law_feed" (bC jB) (bA jB) (aF jB) .none kV22 dc22 pm22 an22 cd22 ct22),sl22⟩) (c22:PySem.W.codeIn K cd22 "_law_feed"=true) (k22:PySem.W.keepIn K (.ref f22)=true)
  (a23:PySem.W.nsIn K mainGlobals "_law_take"=some (some (.ref f23))) (l23:K.lookup f23=some ⟨oc23,od23,.func (PySem.W.fnOf "_law_take" "_law_take" (bC jD) (bA jD) (aF jD) .none kV23 dc23 pm23 an23 cd23 ct23),sl23⟩) (c23:PySem.W.codeIn K cd23 "_law_take"=true) (k23:PySem.W.keepIn K (.ref f23)=true)
  (a24:PySem.W.nsIn K mainGlobals "_law_unlike"=some (some (.ref f24))) (l24:K.lookup f24=some ⟨oc24,od24,.func (PySem.W.fnOf "_law_unlike" "_law_unlike" (bC fV) (bA fV) (aF fV) .none kV24 dc24 pm24 an24 cd24 ct24),sl24⟩) (c24:PySem.W.codeIn K cd24 "_law_unlike"=true) (k24:PySem.W.keepIn K (.ref f24)=true)
  (a25:PySem.W.nsIn K mainGlobals "_law_whole"=some (some (.ref f25))) (l25:K.lookup f25=some ⟨oc25,od25,.func (PySem.W.fnOf "_law_whole" "_law_whole" (bC hJ) (bA hJ) (aF hJ) .none kV25 dc25 pm25 an25 cd25 ct25),sl25⟩) (c25:PySem.W.codeIn K cd25 "_law_whole"=true) (k25:PySem.W.keepIn K (.ref f25)=true)
  (a26:PySem.W.nsIn K mainGlobals "_law_tree"=some (some (.ref f26))) (l26:K.lookup f26=some ⟨oc26,od26,.func (PySem.W.fnOf "_law_tree" "_law_tree" (bC gF) (bA gF) (aF gF) .none kV26 dc26 pm26 an26 cd26 ct26),sl26⟩) (c26:PySem.W.codeIn K cd26 "_law_tree"=true) (k26:PySem.W.keepIn K (.ref f26)=true)
  (a27:PySem.W.nsIn K mainGlobals "_law_web"=some (some (.ref f27))) (l27:K.lookup f27=some ⟨oc27,od27,.func (PySem.W.fnOf "_law_web" "_law_web" (bC kJ) (bA kJ) (aF kJ) .none kV27 dc27 pm27 an27 cd27 ct27),sl27⟩) (c27:PySem.W.codeIn K cd27 "_law_web"=true) (k27:PySem.W.keepIn K (.ref f27)=true)
  (a28:PySem.W.nsIn K mainGlobals "_law_size"=some (some (.ref f28))) (l28:K.lookup f28=some ⟨oc28,od28,.func (PySem.W.fnOf "_law_size" "_law_size" (bC gJ) (bA gJ) (aF gJ) .none kV28 dc28 pm28 an28 cd28 ct28),sl28⟩) (c28:PySem.W.codeIn K cd28 "_law_size"=true) (k28:PySem.W.keepIn K (.ref f28)=true)
  (a29:PySem.W.nsIn K mainGlobals "_law_deep"=some (some (.ref f29))) (l29:K.lookup f29=some ⟨oc29,od29,.func (PySem.W.fnOf "_law_deep" "_law_deep" (bC gB) (bA gB) (aF gB) .none kV29 dc29 pm29 an29 cd29 ct29),sl29⟩) (c29:PySem.W.codeIn K cd29 "_law_deep"=true) (k29:PySem.W.keepIn K (.ref f29)=true)
  (a30:PySem.W.nsIn K mainGlobals "_law_spots"=some (some (.ref f30))) (l30:K.lookup f30=some ⟨oc30,od30,.func (PySem.W.fnOf "_law_spots" "_law_spots" (bC fH) (bA fH) (aF fH) .none kV30 dc30 pm30 an30 cd30 ct30),sl30⟩) (c30:PySem.W.codeIn K cd30 "_law_spots"=true) (k30:PySem.W.keepIn K (.ref f30)=true)
  (a31:PySem.W.nsIn K mainGlobals "_law_at"=some (some (.ref f31))) (l31:K.lookup f31=some ⟨oc31,od31,.func (PySem.W.fnOf "_law_at" "_law_at" (bC lD) (bA lD) (aF lD) .none kV31 dc31 pm31 an31 cd31 ct31),sl31⟩) (c31:PySem.W.codeIn K cd31 "_law_at"=true) (k31:PySem.W.keepIn K (.ref f31)=true)
  (a32:PySem.W.nsIn K mainGlobals "_law_with"=some (some (.ref f32))) (l32:K.lookup f32=some ⟨oc32,od32,.func (PySem.W.fnOf "_law_with" "_law_with" (bC gG) (bA gG) (aF gG) .none kV32 dc32 pm32 an32 cd32 ct32),sl32⟩) (c32:PySem.W.codeIn K cd32 "_law_with"=true) (k32:PySem.W.keepIn K (.ref f32)=true)
  (a33:PySem.W.nsIn K mainGlobals "_law_otherwise"=some (some (.ref f33))) (l33:K.lookup f33=some ⟨oc33,od33,.func (PySem.W.fnOf "_law_otherwise" "_law_otherwise" (bC eA) (bA eA) (aF eA) .none kV33 dc33 pm33 an33 cd33 ct33),sl33⟩) (c33:PySem.W.codeIn K cd33 "_law_otherwise"=true) (k33:PySem.W.keepIn K (.ref f33)=true)
  (a34:PySem.W.nsIn K mainGlobals "_law_all"=some (some (.ref f34))) (l34:K.lookup f34=some ⟨oc34,od34,.func (PySem.W.fnOf "_law_all" "_law_all" (bC j9) (bA j9) (aF j9) .none kV34 dc34 pm34 an34 cd34 ct34),sl34⟩) (c34:PySem.W.codeIn K cd34 "_law_all"=true) (k34:PySem.W.keepIn K (.ref f34)=true)
  (a35:PySem.W.nsIn K mainGlobals "_law_row"=some (some (.ref f35))) (l35:K.lookup f35=some ⟨oc35,od35,.func (PySem.W.fnOf "_law_row" "_law_row" (bC kK) (bA kK) (aF kK) .none kV35 dc35 pm35 an35 cd35 ct35),sl35⟩) (c35:PySem.W.codeIn K cd35 "_law_row"=true) (k35:PySem.W.keepIn K (.ref f35)=true)
  (a36:PySem.W.nsIn K mainGlobals "_law_chain"=some (some (.ref f36))) (l36:K.lookup f36=some ⟨oc36,od36,.func (PySem.W.fnOf "_law_chain" "_law_chain" (bC iC) (bA iC) (aF iC) .none kV36 dc36 pm36 an36 cd36 ct36),sl36⟩) (c36:PySem.W.codeIn K cd36 "_law_chain"=true) (k36:PySem.W.keepIn K (.ref f36)=true)
  (a37:PySem.W.nsIn K mainGlobals "_law_great"=some (some (.ref f37))) (l37:K.lookup f37=some ⟨oc37,od37,.func (PySem.W.fnOf "_law_great" "_law_great" (bC hW) (bA hW) (aF hW) .none kV37 dc37 pm37 an37 cd37 ct37),sl37⟩) (c37:PySem.W.codeIn K cd37 "_law_great"=true) (k37:PySem.W.keepIn K (.ref f37)=true)
  (a38:PySem.W.nsIn K mainGlobals "_law_done"=some (some (.ref f38))) (l38:K.lookup f38=some ⟨oc38,od38,.func (PySem.W.fnOf "_law_done" "_law_done" (bC i7) (bA i7) (aF i7) .none kV38 dc38 pm38 an38 cd38 ct38),sl38⟩) (c38:PySem.W.codeIn K cd38 "_law_done"=true) (k38:PySem.W.keepIn K (.ref f38)=true)
  (a39:PySem.W.nsIn K mainGlobals "_law_things"=some (some (.ref f39))) (l39:K.lookup f39=some ⟨oc39,od39,.func (PySem.W.fnOf "_law_things" "_law_things" (bC fW) (bA fW) (aF fW) .none kV39 dc39 pm39 an39 cd39 ct39),sl39⟩) (c39:PySem.W.codeIn K cd39 "_law_things"=true) (k39:PySem.W.keepIn K (.ref f39)=true)
  (a40:PySem.W.nsIn K mainGlobals "law"=some (some (.ref f40))) (l40:K.lookup f40=some ⟨oc40,od40,.func (PySem.W.fnOf "law" "law" (bC mN) (bA mN) (aF mN) .none kV40 dc40 pm40 an40 cd40 ct40),sl40⟩) (c40:PySem.W.codeIn K cd40 "law"=true) (k40:PySem.W.keepIn K (.ref f40)=true)
  (e0:PySem.W.nsIn K mainGlobals "LETTERS"=some (some (.str (zX) tk0)))
  (e1:PySem.W.nsIn K mainGlobals "LONGEST_NAME"=some (some (.int (8) tk1)))
  (e2:PySem.W.nsIn K mainGlobals "GREATEST"=some (some (.int (1000000000000000000) tk2)))
  (e3:PySem.W.nsIn K mainGlobals "TREE_PIECES"=some (some (.int (200) tk3)))
  (e4:PySem.W.nsIn K mainGlobals "TREE_WITHIN"=some (some (.int (40) tk4)))
  {dt0:Addr} (ta0:PySem.W.nsIn K mainGlobals "SIGNS"=some (some (.ref dt0))) (tb0:KTD.tabLook KTD.flatLooks (fun b=>K.lookup b) dt0 (yC dZ)=true) (tc0:KTD.hashesOf (fun b=>K.lookup b) dt0=(yC dZ).map fun p=>(PySem.strKind l.prog w).hash p.1)
  {du0:Addr} {nu0:Nat} {su0:Array (Option Value)} {wu0_0 wu0_1 wu0_2 wu0_3 wu0_4 wu0_5:Tok}
  (ua0:PySem.W.nsIn K mainGlobals "WORDS"=some (some (.ref du0))) (ub0:K.lookup du0=some ⟨.type "tuple",none,.seq #[.str "swap" wu0_0,.str "right" wu0_1,.str "left" wu0_2,.str "open" wu0_3,.str "shut" wu0_4,.str "off" wu0_5] nu0,su0⟩)
  (z0:PySem.W.nsIn K mainGlobals "len"=some none)
  (z1:PySem.W.nsIn K mainGlobals "isinstance"=some none)
  (z2:PySem.W.nsIn K mainGlobals "str"=some none)
  (z3:PySem.W.nsIn K mainGlobals "max"=some none)
  (z4:PySem.W.nsIn K mainGlobals "min"=some none)
  (z5:PySem.W.nsIn K mainGlobals "range"=some none)
  (z6:PySem.W.nsIn K mainGlobals "tuple"=some none)
  (z7:PySem.W.nsIn K mainGlobals "list"=some none)
  (z8:PySem.W.nsIn K mainGlobals "int"=some none)
  (z9:PySem.W.nsIn K mainGlobals "bool"=some none)
  (z10:PySem.W.nsIn K mainGlobals "all"=some none)
  (z11:PySem.W.nsIn K mainGlobals "zip"=some none)
  (z12:PySem.W.nsIn K mainGlobals "reversed"=some none)
  (z13:PySem.W.nsIn K mainGlobals "enumerate"=some none)
  (z14:PySem.W.nsIn K mainGlobals "sum"=some none)
  (z15:PySem.W.nsIn K mainGlobals "ValueError"=some none)
  (x1:PySem.W.nsIn K mainGlobals "NoExchange"=some (some (.ref cNE)))
  (x2:PySem.W.nsIn K mainGlobals "RowsmithError"=some (some (.ref cRE)))
  (x3:PySem.W.nsIn K mainGlobals "NoLine"=some (some (.ref aL)))
  (x4:PySem.W.nsIn K mainGlobals "NoName"=some (some (.ref aN)))
  (x5:PySem.W.nsIn K mainGlobals "NoRow"=some (some (.ref aR)))
  (x6:PySem.W.nsIn K mainGlobals "NoText"=some (some (.ref aT)))
  (x7:PySem.W.nsIn K mainGlobals "NotRight"=some (some (.ref aG)))
  (x8:PySem.W.nsIn K mainGlobals "TooMany"=some (some (.ref aM)))
  (x9:K.lookup cNE=some (excClassObj xnm xqq cNE xN xbs (oA cRE) true xsn xsub xab xcol xdd xk0 xk1 xk2 xk3 xk5 "ValueError.__new__"))
  (x10:PySem.W.findIn K (.ref cNE) "__init__"=some (some (.ref fI)))
  (x11:PySem.W.isFn K (.ref fI)=true)
  (x12:PySem.W.keepIn K (.ref cNE)=true)
  (x13:PySem.W.findIn K (.ref cNE) "__setattr__"=some (some (.builtin "object.__setattr__")))
  (x14:PySem.W.findIn K (.ref cNE) "__getattribute__"=some (some (.builtin "BaseException.__getattribute__")))
  (x15:PySem.W.findIn K (.ref cNE) "__getattr__"=some none)
  (x16:PySem.W.findIn K (.ref cNE) "__class__"=some (some (.builtin "object.__class__")))
  (x17:PySem.W.findIn K (.ref cNE) "text"=some none)
  (x18:PySem.W.readsIn K cRE (.type "type")=true)
  (x19:PySem.W.findCls K (.ref cRE) (.type "type") "__init__"=some (.val (.builtin "ValueError.__init__")))
  (x20:PySem.W.specialIn K (.ref cRE) "__getattribute__"=some (some (.builtin "type.__getattribute__")))
  (x21:K.lookup fI=some ⟨xoc,xod,.func (PySem.W.fnOf "__init__" "NoExchange.__init__" (bC pN) (bA pN) (aF pN) .none xkV xdoc xpm xan xcdv xct),xosl⟩)
  (x22:PySem.W.codeIn K xcdv "NoExchange.__init__"=true)
  (x23:PySem.W.keepIn K (.ref fI)=true)
  (x24:PySem.W.typeIn K (.ref cRE)=some (.type "type"))
  (x25:(PySem.W.clsIn K cRE).isSome=true)
  (x26:PySem.W.subIn K (.ref cRE) (.type "BaseException")=some true)
  (x27:PySem.W.subIn K (.ref cNE) (.ref cRE)=some true)
  (x28:PySem.W.kitOne K (.ref cNE) (.ref cNE)=some true)
  (x29:PySem.W.kitOne K (.ref cNE) (.type "ValueError")=some true)
  (x30:PySem.W.kitAny K (.ref cNE) [.ref aL,.ref aN,.ref aR,.ref aT,.ref aG,.ref aM]=some false)
  : ∃ fd:FuncData,(∀ (s:Shared) (v:Value),BindsTo s fd ⟨[v],[]⟩ [("script",v)])/\∀ base:Heap,K.In base->base.Ns mainGlobals mg->dJ l.prog w K mg base j4 52 fa fd ["script"] (fB K wD):=by
 have e:=hfa.symm.trans (PySem.W.mg_of X G a40)
 cases e
 have Ly:=bO (st:=kB) l0 c0 k0
 have NG:=PySem.W.mg_of X G a0
 have Ko:=bO (st:=jA) l1 c1 k1
 have Il:=PySem.W.mg_of X G a1
 have yI:=bO (st:=eN) l2 c2 k2
 have lF:=PySem.W.mg_of X G a2
 have MC:=bO (st:=kF) l3 c3 k3
 have LV:=PySem.W.mg_of X G a3
 have MY:=bO (st:=kA) l4 c4 k4
 have LB:=PySem.W.mg_of X G a4
 have DR:=bO (st:=iE) l5 c5 k5
 have Fp:=PySem.W.mg_of X G a5
 have HE:=bO (st:=jI) l6 c6 k6
 have Ia:=PySem.W.mg_of X G a6
 have IK:=bO (st:=jK) l7 c7 k7
 have Ku:=PySem.W.mg_of X G a7
 have Sg:=bO (st:=mU) l8 c8 k8
 have Ru:=PySem.W.mg_of X G a8
 have vN:=bO (st:=eB) l9 c9 k9
 have w4:=PySem.W.mg_of X G a9
 have Fj:=bO (st:=iB) l10 c10 k10
 have oO:=PySem.W.mg_of X G a10
 have Ak:=bO (st:=eY) l11 c11 k11
 have Af:=PySem.W.mg_of X G a11
 have Aq:=bO (st:=eX) l12 c12 k12
 have Ai:=PySem.W.mg_of X G a12
 have yE:=bO (st:=eL) l13 c13 k13
 have yV:=PySem.W.mg_of X G a13
 have yW:=bO (st:=eK) l14 c14 k14
 have xQ:=PySem.W.mg_of X G a14
 have LM:=bO (st:=kD) l15 c15 k15
 have KR:=PySem.W.mg_of X G a15
 have Oh:=bO (st:=lG) l16 c16 k16
 have Pr:=PySem.W.mg_of X G a16
 have Jx:=bO (st:=jL) l17 c17 k17
 have Kg:=PySem.W.mg_of X G a17
 have Mh:=bO (st:=kE) l18 c18 k18
 have Mz:=PySem.W.mg_of X G a18
 have JD:=bO (st:=i9) l19 c19 k19
 have Kd:=PySem.W.mg_of X G a19
 have LA:=bO (st:=kC) l20 c20 k20
 have MN:=PySem.W.mg_of X G a20
 have D0:=bO (st:=hU) l21 c21 k21
 have DJ:=PySem.W.mg_of X G a21
 have Hb:=bO (st:=jB) l22 c22 k22
 have Je:=PySem.W.mg_of X G a22
 have JG:=bO (st:=jD) l23 c23 k23
 have Jn:=PySem.W.mg_of X G a23
 have By:=bO (st:=fV) l24 c24 k24
 have Dg:=PySem.W.mg_of X G a24
 have Ew:=bO (st:=hJ) l25 c25 k25
 have Dx:=PySem.W.mg_of X G a25
 have Kk:=bO (st:=gF) l26 c26 k26
 have G6:=PySem.W.mg_of X G a26
 have Nj:=bO (st:=kJ) l27 c27 k27
 have Ng:=PySem.W.mg_of X G a27
 have Ju:=bO (st:=gJ) l28 c28 k28
 have Hl:=PySem.W.mg_of X G a28
 have Hs:=bO (st:=gB) l29 c29 k29
 have JW:=PySem.W.mg_of X G a29
 have ES:=bO (st:=fH) l30 c30 k30
 have EI:=PySem.W.mg_of X G a30
 have NK:=bO (st:=lD) l31 c31 k31
 have PK:=PySem.W.mg_of X G a31
 have HY:=bO (st:=gG) l32 c32 k32
 have Im:=PySem.W.mg_of X G a32
 have xH:=bO (st:=eA) l33 c33 k33
 have wF:=PySem.W.mg_of X G a33
 have LD:=bO (st:=j9) l34 c34 k34
 have KJ:=PySem.W.mg_of X G a34
 have LZ:=bO (st:=kK) l35 c35 k35
 have Nb:=PySem.W.mg_of X G a35
 have DZ:=bO (st:=iC) l36 c36 k36
 have EF:=PySem.W.mg_of X G a36
 have FH:=bO (st:=hW) l37 c37 k37
 have EJ:=PySem.W.mg_of X G a37
 have Kf:=bO (st:=i7) l38 c38 k38
 have HJ:=PySem.W.mg_of X G a38
 have Cc:=bO (st:=fW) l39 c39 k39
 have B3:=PySem.W.mg_of X G a39
 have Wc:=bO (st:=mN) l40 c40 k40
 have W9:=PySem.W.mg_of X G a40
 have rX:=PySem.W.mg_of X G e0
 have lN:=PySem.W.mg_of X G e1
 have pK:=PySem.W.mg_of X G e2
 have mK:=PySem.W.mg_of X G e3
 have mI:=PySem.W.mg_of X G e4
 have lC:=PySem.W.mg_of X G ta0
 have lL:qH l.prog w K dt0 dZ:=tab_of (by decide +kernel) tb0 tc0
 have xS:=PySem.W.mg_of X G ua0
 have yM:KT K du0 (rY.map V.str):=⟨_,_,_,ub0,rfl,rfl,rfl,(show (6:Nat)<=sizeLine by decide),(.cons ⟨_,rfl⟩ (.cons ⟨_,rfl⟩ (.cons ⟨_,rfl⟩ (.cons ⟨_,rfl⟩ (.cons ⟨_,rfl⟩ (.cons ⟨_,rfl⟩ .nil))))))⟩
 have bT:=PySem.W.mg_none_of X G z0
 have aP:=PySem.W.mg_none_of X G z1
 have tP:=PySem.W.mg_none_of X G z2
 have mO:=PySem.W.mg_none_of X G z3
 have IX:=PySem.W.mg_none_of X G z4
 have cR:=PySem.W.mg_none_of X G z5
 have bN:=PySem.W.mg_none_of X G z6
 have Ci:=PySem.W.mg_none_of X G z7
 have tE:=PySem.W.mg_none_of X G z8
 have o8:=PySem.W.mg_none_of X G z9
 have Kh:=PySem.W.mg_none_of X G z10
 have JT:=PySem.W.mg_none_of X G z11
 have pT:=PySem.W.mg_none_of X G z12
 have hZ:=PySem.W.mg_none_of X G z13
 have tN:=PySem.W.mg_none_of X G z14
 have CT:=PySem.W.mg_none_of X G z15
 refine ⟨PySem.W.fnOf "law" "law" (bC mN) (bA mN) (aF mN) .none kV40 dc40 pm40 an40 cd40 ct40,fun s v=>.of_eq rfl,fun base _ _=>?_⟩
 have i0:=DF (P:=l.prog) (w:=w) (base:=base) HE Ia aP tE o8
 have i1:=AQ DR Fp pK i0
 have i2:=Ka (P:=l.prog) (w:=w) (base:=base) MY LB aP bN bT tP lL lC
 have i3:=Hz (P:=l.prog) (w:=w) (base:=base) MC LV bT aP tP Kh rX lN
 have i4:=wO yI aP bN bT i1 i3
 have i5:=E8 Ko Il i2 i4
 have i6:=GZ Ly NG lF mK mI i5
 have p0:=Ez (P:=l.prog) (w:=w) (base:=base) IK Ku lL lC
 have p1:=N2 Sg Ru p0
 have p2:=Iw LM KR (xO (P:=l.prog) (w:=w) (base:=base) yW xQ) (xA yE yV) (yY Aq Ai) (yR Ak Af) (BN Fj oO) (vK vN w4)
 have p3:=Mw Oh Pr Ci JT pT p1
 have p6:=HH Mh Mz (DW Jx Kg p0)
 have p7:=Fx JD Kd aP bN bT i0 p1
 have p8:=Ij LA MN aP bN bT yM xS p7 p2 p6 p3 i6
 have vR:=PySem.W.mg_of X G x2
 have vC:=PySem.W.mg_of X G x1
 have cc:oM K cNE cRE fI:=⟨⟨_,_,_,_,_,_,_,_,_,_,_,_,_,_,x9⟩,x10,x11,x12,x13⟩
 have cg:nM K cNE cRE fI:=⟨cc,x14,x15,x16⟩
 have ex:=TF (P:=l.prog) (w:=w) (base:=base) (bO (st:=pN) x21 x22 x23) vR vC ⟨x18,x19,x20⟩ cg x17
 have p9:=Bs (by decide) D0 DJ p8 ex trivial
 have p10:=Se Kf HJ aP CT p9 vR vC (PySem.W.mg_of X G x3) (PySem.W.mg_of X G x4) (PySem.W.mg_of X G x5) (PySem.W.mg_of X G x6) (PySem.W.mg_of X G x7) (PySem.W.mg_of X G x8) ⟨x24,x25,x26⟩ ⟨_,_,cg⟩ x27 x28 x29 x30
 have q0:=C8 (P:=l.prog) (w:=w) (base:=base) Ju Hl tN aP bN 50
 have q1:=AK (P:=l.prog) (w:=w) (base:=base) Hs JW mO aP bN 50
 have q2:=V8 (P:=l.prog) (w:=w) (base:=base) NK PK
 have q3:=Cd (P:=l.prog) (w:=w) (base:=base) HY Im bT 50
 have q4:=zJ (P:=l.prog) (w:=w) (base:=base) ES EI hZ aP bN 50
 have q5:=UL (P:=l.prog) (w:=w) (base:=base) xH wF
 have q6:=SN LD KJ q4 q5 q2 q3 q0 q1
 have t0:=RY (P:=l.prog) (w:=w) (base:=base) JG Jn
 have t1:=RH (P:=l.prog) (w:=w) (base:=base) Hb Je bT
 have t2:=Nh By Dg cR t0
 have t3:=Bm Kk G6 bT t0 10
 have t4:=Vh Nj Ng cR bN t0 t2 t3
 have t5:=OX (P:=l.prog) (w:=w) (base:=base) DZ EF cR
 have t6:=SJ (P:=l.prog) (w:=w) (base:=base) LZ Nb cR bT
 have t7:=N6 FH EJ t0 t6 t5
 have t8:=Ld Cc B3 cR bT q4 t0
 have t9:=Ls (P:=l.prog) (w:=w) (base:=base) Ew Dx aP tE o8
 exact TB Wc cR mO IX bT aP bN t1 t0 t4 t7 q6 p10 t8 t9
theorem walk {l:PySem.W.OpenLaw} {q:Program} {loose:List Str} {XP:(Str->Option Value)->Heap->Prop} {YP:World->Heap->Prop} {d:DefRec} {K:Params->PySem.W.Frag} (hn:l.most=some 63) (hdf:d.params.defaults=[])
  (hY:∀ (w:World) (h:Heap),YP w h->(K w.params).In h)
  (F:∀ (w:World) (mg:Str->Option Value) (fa:Addr) (h:Heap),(K w.params).In h->h.Ns mainGlobals mg->mg d.name=some (.ref fa) ->
   ∃ fd:FuncData,(∀ (s:Shared) (u:Value),BindsTo s fd ⟨[u],[]⟩ [("script",u)])/\∀ base:Heap,(K w.params).In base->base.Ns mainGlobals mg->dJ l.prog w (K w.params) mg base j4 52 fa fd ["script"] (fB (K w.params) wD)) :
  PySem.W.WalkO q loose XP YP l.row.toRowW d [] (fun f vs=>PySem.call f vs) :=
 L2.Rq (n:=63) (k:=52) (x:="script") (CX:=fun _=>j4) (sp:=fun w=>fB (K w.params) wD) hn (by decide) hdf ⟨rfl,by decide,by decide⟩ hY F (fun _ _ a ns hl _ hS=>LX hl hS) fun _ _ _ _ _ z=>z
end K86
namespace PySem.W.Fast
noncomputable def tw10006589126459734887:=0
noncomputable def tw10026591034549507616:=0
noncomputable def tw10103424060897247532:=0
noncomputable def tw1011071379026886846:=0
noncomputable def tw10154429761720014958:=0
noncomputable def tw10175859532718264056:=0
noncomputable def tw1018605498050170835:=0
noncomputable def tw10201976023548896725:=0
noncomputable def tw10290625934748471231:=0
noncomputable def tw10322736930181842390:=0
noncomputable def tw10334345140939815508:=0
noncomputable def tw10359470276598913239:=0
noncomputable def tw10369495703682554749:=0
noncomputable def tw10428810995856962686:=0
noncomputable def tw10474693561405089162:=0
noncomputable def tw10549144986204013647:=0
noncomputable def tw10561875616724757089:=0
noncomputable def tw10574109561106119317:=0
noncomputable def tw10593294621653122943:=0
noncomputable def tw10697573602749276005:=0
noncomputable def tw10757771694283220265:=0
noncomputable def tw10761889694671202959:=0
noncomputable def tw10768138874898733213:=0
noncomputable def tw10801953679374557389:=0
noncomputable def tw1082880287642344321:=0
noncomputable def tw10912789891252685632:=0
noncomputable def tw11015016334393523521:=0
noncomputable def tw11114520091756005228:=0
noncomputable def tw111260175422081829:=0
noncomputable def tw11164230338110725967:=0
noncomputable def tw11164354589729379029:=0
noncomputable def tw11177356432203625298:=0
noncomputable def tw11214216059990922244:=0
noncomputable def tw11215885287905766774:=0
noncomputable def tw11229216897430446649:=0
noncomputable def tw11244489859699005776:=0
noncomputable def tw11253102337643321174:=0
noncomputable def tw11311926885192761890:=0
noncomputable def tw11345222065336302211:=0
noncomputable def tw11381638393143822590:=0
noncomputable def tw11396998061044154291:=0
noncomputable def tw11502892616645789509:=0
noncomputable def tw11504010014546254904:=0
noncomputable def tw11616779474572283960:=0
noncomputable def tw11626093814985258163:=0
noncomputable def tw1169602367949617539:=0
noncomputable def tw11720375361418264442:=0
noncomputable def tw11761120824218594721:=0
noncomputable def tw11779086015617675633:=0
noncomputable def tw11794663836939825670:=0
noncomputable def tw11858681444661723467:=0
noncomputable def tw11884818265858408083:=0
noncomputable def tw1193361744941298118:=0
noncomputable def tw11934792351872027486:=0
noncomputable def tw11945331747811167742:=0
noncomputable def tw12002597496996710463:=0
noncomputable def tw12118737049410737126:=0
noncomputable def tw12196690219042276972:=0
noncomputable def tw12205331087377043073:=0
noncomputable def tw12296413811393260379:=0
noncomputable def tw12329469154925748542:=0
noncomputable def tw12336254967452727886:=0
noncomputable def tw12351158889660766905:=0
noncomputable def tw12373576914556332333:=0
noncomputable def tw12404873472697948574:=0
noncomputable def tw12408275437904127142:=0
noncomputable def tw12438628472738607210:=0
noncomputable def tw12443812667720161028:=0
noncomputable def tw12502232419955205355:=0
noncomputable def tw12599839967302653290:=0
noncomputable def tw12684652529186364664:=0
noncomputable def tw1274003878808082704:=0
noncomputable def tw12792575541437753783:=0
noncomputable def tw12883125122219784323:=0
noncomputable def tw12912073195160819230:=0
noncomputable def tw13040657065580320879:=0
noncomputable def tw13092472545958546215:=0
noncomputable def tw13150923334050729049:=0
noncomputable def tw13152826495307046453:=0
noncomputable def tw1317792361737474916:=0
noncomputable def tw13183752393423563472:=0
noncomputable def tw13219372307970398188:=0
noncomputable def tw1325303167286518777:=0
noncomputable def tw13276050892674232086:=0
noncomputable def tw13276219480773455391:=0
noncomputable def tw13380022947216829437:=0
noncomputable def tw13399230539815729672:=0
noncomputable def tw133997920461232475:=0
noncomputable def tw13434174598612572141:=0
noncomputable def tw13448943387471987060:=0
noncomputable def tw13485123136214449519:=0
noncomputable def tw13562951386187824221:=0
noncomputable def tw13565941323238475542:=0
noncomputable def tw13576870029292136007:=0
noncomputable def tw13695550040464111959:=0
noncomputable def tw13699974583875534983:=0
noncomputable def tw13746244310034790928:=0
noncomputable def tw13869894601988005945:=0
noncomputable def tw13874756636773098212:=0
noncomputable def tw13881625084275109986:=0
noncomputable def tw14019439022284461967:=0
noncomputable def tw14107227995582384587:=0
noncomputable def tw14122631589436089282:=0
noncomputable def tw14137976190593861545:=0
noncomputable def tw14140924201500503210:=0
noncomputable def tw14149130347618342419:=0
noncomputable def tw14163617721433371559:=0
noncomputable def tw14170323098650654015:=0
noncomputable def tw14205153291687045100:=0
noncomputable def tw14235375012532145879:=0
noncomputable def tw14265161320320773987:=0
noncomputable def tw14383346292714434271:=0
noncomputable def tw14402171183855159043:=0
noncomputable def tw1445075867367513075:=0
noncomputable def tw14458847021142275593:=0
noncomputable def tw14660157109663777002:=0
noncomputable def tw14707377385964815568:=0
noncomputable def tw14762757945772771786:=0
noncomputable def tw14776210500403314735:=0
noncomputable def tw14802052821038670560:=0
noncomputable def tw14804030064686823395:=0
noncomputable def tw14813984185462657660:=0
noncomputable def tw14826424403157035860:=0
noncomputable def tw14826629227828286077:=0
noncomputable def tw1483832077164102943:=0
noncomputable def tw14939333524446327404:=0
noncomputable def tw15002374268480406158:=0
noncomputable def tw15043254296172661932:=0
noncomputable def tw15063908503043167995:=0
noncomputable def tw15154873096583533310:=0
noncomputable def tw15179296789566159855:=0
noncomputable def tw15252223552649888378:=0
noncomputable def tw15257362955493900260:=0
noncomputable def tw15297169567600120889:=0
noncomputable def tw15330912870022136676:=0
noncomputable def tw15362738757777978784:=0
noncomputable def tw15370705181015939631:=0
noncomputable def tw15388580230183555030:=0
noncomputable def tw15427834434347457835:=0
noncomputable def tw15431849462282001117:=0
noncomputable def tw15642481184116199410:=0
noncomputable def tw15648990090608387846:=0
noncomputable def tw15652955748110421880:=0
noncomputable def tw15660939968743766503:=0
noncomputable def tw15706204421257154673:=0
noncomputable def tw15728079441259606828:=0
noncomputable def tw15781464547439762362:=0
noncomputable def tw15837258359480272148:=0
noncomputable def tw15875748507936407704:=0
noncomputable def tw15978357983998875514:=0
noncomputable def tw15996438487242374233:=0
noncomputable def tw16008125991905893445:=0
noncomputable def tw16163097826336477324:=0
noncomputable def tw16175575886199879643:=0
noncomputable def tw16255196566901198283:=0
noncomputable def tw16324700721338859147:=0
noncomputable def tw16335440704823164405:=0
noncomputable def tw16360652879284101761:=0
noncomputable def tw1638721828917897416:=0
noncomputable def tw16456090349318345757:=0
noncomputable def tw1647118294789322527:=0
noncomputable def tw16488468023347818282:=0
noncomputable def tw16491471249065309056:=0
noncomputable def tw16512015277050967804:=0
noncomputable def tw16519503624841009671:=0
noncomputable def tw1654107260253777874:=0
noncomputable def tw1654607242651246804:=0
noncomputable def tw16586863624415434150:=0
noncomputable def tw16591815355588466825:=0
noncomputable def tw16666523485523427178:=0
noncomputable def tw16798006760493684439:=0
noncomputable def tw16889506941795518670:=0
noncomputable def tw16916261920343177518:=0
noncomputable def tw16919002574875852505:=0
noncomputable def tw16927446316085552763:=0
noncomputable def tw16945647955357324429:=0
noncomputable def tw17019551694661006051:=0
noncomputable def tw17067288698457959192:=0
noncomputable def tw17136219843731396726:=0
noncomputable def tw17238072126321790640:=0
noncomputable def tw17328727421060157383:=0
noncomputable def tw17335418391720410389:=0
noncomputable def tw17404097189838041241:=0
noncomputable def tw17456920903429613616:=0
noncomputable def tw17462700127967325655:=0
noncomputable def tw17680664738849454913:=0
noncomputable def tw17690488328810010577:=0
noncomputable def tw17692718933288926302:=0
noncomputable def tw17711380475693572561:=0
noncomputable def tw17719982330591245623:=0
noncomputable def tw17729036133093658624:=0
noncomputable def tw1782778300218359198:=0
noncomputable def tw17836935223566331175:=0
noncomputable def tw17879860545886751759:=0
noncomputable def tw17960390960284766195:=0
noncomputable def tw18048812243258323894:=0
noncomputable def tw18059115598976127657:=0
noncomputable def tw18077620246326501143:=0
noncomputable def tw18089648746726912855:=0
noncomputable def tw18105609549815149008:=0
noncomputable def tw18105746843476763242:=0
noncomputable def tw18109295470094255484:=0
noncomputable def tw18126360709388875053:=0
noncomputable def tw18127046257512305879:=0
noncomputable def tw18155457624737499246:=0
noncomputable def tw18196964270372625676:=0
noncomputable def tw182067147266883676:=0
noncomputable def tw18335842182323296497:=0
noncomputable def tw1840470989539739847:=0
noncomputable def tw18410528378568978151:=0
noncomputable def tw1924081423025681550:=0
noncomputable def tw2029081558133802180:=0
noncomputable def tw2051666304224254355:=0
noncomputable def tw2054654562271706215:=0
noncomputable def tw2077429005850835502:=0
noncomputable def tw2128413665531955871:=0
noncomputable def tw2179669576105172213:=0
noncomputable def tw2234338560897369704:=0
noncomputable def tw2242101160223168274:=0
noncomputable def tw2253830564964723701:=0
noncomputable def tw2277442763505357346:=0
noncomputable def tw2282511866539538830:=0
noncomputable def tw2349595522184168334:=0
noncomputable def tw241366613545492499:=0
noncomputable def tw245384417563240999:=0
noncomputable def tw2563113746274719967:=0
noncomputable def tw2574996012262610238:=0
noncomputable def tw267384503900516804:=0
noncomputable def tw2734060289770925199:=0
noncomputable def tw2774348257840981139:=0
noncomputable def tw2798181550190753918:=0
noncomputable def tw2984016986881758645:=0
noncomputable def tw3006421895929489827:=0
noncomputable def tw3007270034933250395:=0
noncomputable def tw3016028900338306470:=0
noncomputable def tw3097079376588418098:=0
noncomputable def tw3163913234119582435:=0
noncomputable def tw3202452718578404206:=0
noncomputable def tw3221256222697834822:=0
noncomputable def tw3267242211887361393:=0
noncomputable def tw3293107921009071640:=0
noncomputable def tw3294992191378276525:=0
noncomputable def tw3337693097473757972:=0
noncomputable def tw3347707139561680034:=0
noncomputable def tw3399210744428420543:=0
noncomputable def tw3410865642244984242:=0
noncomputable def tw3433017853140952656:=0
noncomputable def tw3556273439100223107:=0
noncomputable def tw3569344618097923678:=0
noncomputable def tw360582794239848240:=0
noncomputable def tw3617614658351999827:=0
noncomputable def tw3641489879154093926:=0
noncomputable def tw3661816249314282203:=0
noncomputable def tw3723773130053440458:=0
noncomputable def tw3750774493686179580:=0
noncomputable def tw3805376611119724432:=0
noncomputable def tw3828951861179430387:=0
noncomputable def tw3849047876959494360:=0
noncomputable def tw389407218284590445:=0
noncomputable def tw3987403592136743:=0
noncomputable def tw3991461984371474399:=0
noncomputable def tw4029882741067353345:=0
noncomputable def tw4080427972381115026:=0
noncomputable def tw4114347877907044045:=0
noncomputable def tw4144766002542605379:=0
noncomputable def tw419967682585164154:=0
noncomputable def tw4243125450196934135:=0
noncomputable def tw4268624228682208563:=0
noncomputable def tw4332122037086705800:=0
noncomputable def tw4342856954543310745:=0
noncomputable def tw4353791442732269304:=0
noncomputable def tw4432808812098217862:=0
noncomputable def tw4508423776595622997:=0
noncomputable def tw4510404277476548478:=0
noncomputable def tw4563210260075782094:=0
noncomputable def tw4611300423334749200:=0
noncomputable def tw4627987347597754195:=0
noncomputable def tw4645521019938877677:=0
noncomputable def tw4666870541653672839:=0
noncomputable def tw468369608350725731:=0
noncomputable def tw4714079539827504861:=0
noncomputable def tw4745146170275110611:=0
noncomputable def tw4836331807978890651:=0
noncomputable def tw4900281701249703:=0
noncomputable def tw4945350659974652705:=0
noncomputable def tw5048222709031685174:=0
noncomputable def tw5072753340564692683:=0
noncomputable def tw5073280397964700172:=0
noncomputable def tw507933029088784144:=0
noncomputable def tw5164937543226584074:=0
noncomputable def tw5226434323862910326:=0
noncomputable def tw5405126641782158236:=0
noncomputable def tw5424384497509819872:=0
noncomputable def tw5449756718946246794:=0
noncomputable def tw5527537130299255357:=0
noncomputable def tw5551233688313171176:=0
noncomputable def tw5582199009537147144:=0
noncomputable def tw5586274417348805051:=0
noncomputable def tw5672952737352071693:=0
noncomputable def tw567448886819542144:=0
noncomputable def tw5690832778760747074:=0
noncomputable def tw570907300540954291:=0
noncomputable def tw5711088916631581376:=0
noncomputable def tw5725498906218378014:=0
noncomputable def tw5769851979045721865:=0
noncomputable def tw5777101992709930718:=0
noncomputable def tw5854806990469351633:=0
noncomputable def tw5873914142824439940:=0
noncomputable def tw5878681599849894426:=0
noncomputable def tw5879120964149432859:=0
noncomputable def tw5948546895224637185:=0
noncomputable def tw6013991688915813734:=0
noncomputable def tw6163049027353100381:=0
noncomputable def tw6265673934237393491:=0
noncomputable def tw6288856689789444467:=0
noncomputable def tw6317463887565151608:=0
noncomputable def tw639315534670350502:=0
noncomputable def tw6441556101630141662:=0
noncomputable def tw647691839142781575:=0
noncomputable def tw652136114967583775:=0
noncomputable def tw6559088470738175540:=0
noncomputable def tw657829150421869381:=0
noncomputable def tw6591223268120789131:=0
noncomputable def tw6621611647411885290:=0
noncomputable def tw6647223644122675846:=0
noncomputable def tw6672747136343734127:=0
noncomputable def tw6685031719839887820:=0
noncomputable def tw6726531909305381024:=0
noncomputable def tw6765671674026569479:=0
noncomputable def tw6770624858080340675:=0
noncomputable def tw6793091298868735376:=0
noncomputable def tw6804727489294673446:=0
noncomputable def tw6899962299829506604:=0
noncomputable def tw6909525335086411979:=0
noncomputable def tw692411911290060176:=0
noncomputable def tw6924486137341789420:=0
noncomputable def tw695198452666610742:=0
noncomputable def tw6964702778018980958:=0
noncomputable def tw6968950525413119521:=0
noncomputable def tw6987529678198962105:=0
noncomputable def tw6999760819965004960:=0
noncomputable def tw7007509203238934681:=0
noncomputable def tw7144628622116055061:=0
noncomputable def tw7169758234946730920:=0
noncomputable def tw7258419586147239904:=0
noncomputable def tw7324496432800909794:=0
noncomputable def tw7331496935612762704:=0
noncomputable def tw739848903455060809:=0
noncomputable def tw742945048981551549:=0
noncomputable def tw7511556882011253642:=0
noncomputable def tw7526539541326413315:=0
noncomputable def tw7534167268205989816:=0
noncomputable def tw7543485200412958976:=0
noncomputable def tw757193282259401559:=0
noncomputable def tw7607483240364148590:=0
noncomputable def tw770892952162758618:=0
noncomputable def tw7738409835325845035:=0
noncomputable def tw7789743462291258750:=0
noncomputable def tw7800322202206154270:=0
noncomputable def tw7825748080997058154:=0
noncomputable def tw7830960740196928977:=0
noncomputable def tw7839032351132767990:=0
noncomputable def tw7871547347823934233:=0
noncomputable def tw7882177406938983153:=0
noncomputable def tw7919132084129180798:=0
noncomputable def tw7987052166888116218:=0
noncomputable def tw8001141603791209706:=0
noncomputable def tw8096679046042715228:=0
noncomputable def tw8240322025798894677:=0
noncomputable def tw8291513988146493249:=0
noncomputable def tw831788585962573136:=0
noncomputable def tw8382033888145518186:=0
noncomputable def tw839931944818650031:=0
noncomputable def tw8411487996594513706:=0
noncomputable def tw841719847194839951:=0
noncomputable def tw8446242694091986165:=0
noncomputable def tw8509169387414763324:=0
noncomputable def tw8528035400174779259:=0
noncomputable def tw8559820718018081363:=0
noncomputable def tw8605014458049273410:=0
noncomputable def tw8655388207692870372:=0
noncomputable def tw8696437166908139575:=0
noncomputable def tw8725329114943931368:=0
noncomputable def tw8749681229680179373:=0
noncomputable def tw8770362135512929054:=0
noncomputable def tw8794555180502496404:=0
noncomputable def tw8845518037051381339:=0
noncomputable def tw8866839843660059331:=0
noncomputable def tw8888077222067257211:=0
noncomputable def tw8926718737202911619:=0
noncomputable def tw8928463697960506639:=0
noncomputable def tw8942285139362410865:=0
noncomputable def tw8965475679634513292:=0
noncomputable def tw8977873779172736627:=0
noncomputable def tw9025570912973933681:=0
noncomputable def tw9029688722976977660:=0
noncomputable def tw9042797688023386218:=0
noncomputable def tw9084575166499146625:=0
noncomputable def tw9108511575601024265:=0
noncomputable def tw9130270853304666995:=0
noncomputable def tw914508362628547645:=0
noncomputable def tw9223548532785766257:=0
noncomputable def tw9362491610015886238:=0
noncomputable def tw9461035019288547877:=0
noncomputable def tw9565055126855859939:=0
noncomputable def tw9565074347774187381:=0
noncomputable def tw9625060583752691603:=0
noncomputable def tw965003841199412110:=0
noncomputable def tw9689303335287720085:=0
noncomputable def tw9784178444140519079:=0
noncomputable def tw9787048379647147605:=0
noncomputable def tw983199212737198209:=0
noncomputable def tw9839712835696632853:=0
noncomputable def tw9844315201602749617:=0
noncomputable def tw9965458449315969020:=0
end PySem.W.Fast
open PySem PySem.W PyProof.Rows
set_option maxRecDepth 100000 in
set_option maxHeartbeats 0 in
theorem PySem.Challenge.cw_rowsmith_k86_exchanges_done_holds : PySem.Challenge.rw_rowsmith_k86_exchanges_done.Holds := by
 w_on;o_law;k_head;(case hw=>w_witness2)
 k_fill
 refine K86.walk (l:=PySem.Challenge.rw_rowsmith_k86_exchanges_done) rfl rfl (fun w h Y=>PySem.W.kIn_of Y) ?F
 case F =>
  intro w mg fa h KX G hmg
  refine' K86.all_mk KX G hmg ?a0 ?l0 ?c0 ?k0 ?a1 ?l1 ?c1 ?k1 ?a2 ?l2 ?c2 ?k2 ?a3 ?l3 ?c3 ?k3 ?a4 ?l4 ?c4 ?k4 ?a5 ?l5 ?c5 ?k5 ?a6 ?l6 ?c6 ?k6 ?a7 ?l7 ?c7 ?k7 ?a8 ?l8 ?c8 ?k8 ?a9 ?l9 ?c9 ?k9 ?a10 ?l10 ?c10 ?k10 ?a11 ?l11 ?c11 ?k11 ?a12 ?l12 ?c12 ?k12 ?a13 ?l13 ?c13 ?k13 ?a14 ?l14 ?c14 ?k14 ?a15 ?l15 ?c15 ?k15 ?a16 ?l16 ?c16 ?k16 ?a17 ?l17 ?c17 ?k17 ?a18 ?l18 ?c18 ?k18 ?a19 ?l19 ?c19 ?k19 ?a20 ?l20 ?c20 ?k20 ?a21 ?l21 ?c21 ?k21 ?a22 ?l22 ?c22 ?k22 ?a23 ?l23 ?c23 ?k23 ?a24 ?l24 ?c24 ?k24 ?a25 ?l25 ?c25 ?k25 ?a26 ?l26 ?c26 ?k26 ?a27 ?l27 ?c27 ?k27 ?a28 ?l28 ?c28 ?k28 ?a29 ?l29 ?c29 ?k29 ?a30 ?l30 ?c30 ?k30 ?a31 ?l31 ?c31 ?k31 ?a32 ?l32 ?c32 ?k32 ?a33 ?l33 ?c33 ?k33 ?a34 ?l34 ?c34 ?k34 ?a35 ?l35 ?c35 ?k35 ?a36 ?l36 ?c36 ?k36 ?a37 ?l37 ?c37 ?k37 ?a38 ?l38 ?c38 ?k38 ?a39 ?l39 ?c39 ?k39 ?a40 ?l40 ?c40 ?k40 ?e0 ?e1 ?e2 ?e3 ?e4 ?ta0 ?tb0 ?tc0 ?ua0 ?ub0 ?z0 ?z1 ?z2 ?z3 ?z4 ?z5 ?z6 ?z7 ?z8 ?z9 ?z10 ?z11 ?z12 ?z13 ?z14 ?z15 ?x1 ?x2 ?x3 ?x4 ?x5 ?x6 ?x7 ?x8 ?x9 ?x10 ?x11 ?x12 ?x13 ?x14 ?x15 ?x16 ?x17 ?x18 ?x19 ?x20 ?x21 ?x22 ?x23 ?x24 ?x25 ?x26 ?x27 ?x28 ?x29 ?x30
  (case a0=>k_is)
  (case l0=>k_is)
  (case c0=>k_is)
  (case k0=>k_is)
  (case a1=>k_is)
  (case l1=>k_is)
  (case c1=>k_is)
  (case k1=>k_is)
  (case a2=>k_is)
  (case l2=>k_is)
  (case c2=>k_is)
  (case k2=>k_is)
  (case a3=>k_is)
  (case l3=>k_is)
  (case c3=>k_is)
  (case k3=>k_is)
  (case a4=>k_is)
  (case l4=>k_is)
  (case c4=>k_is)
  (case k4=>k_is)
  (case a5=>k_is)
  (case l5=>k_is)
  (case c5=>k_is)
  (case k5=>k_is)
  (case a6=>k_is)
  (case l6=>k_is)
  (case c6=>k_is)
  (case k6=>k_is)
  (case a7=>k_is)
  (case l7=>k_is)
  (case c7=>k_is)
  (case k7=>k_is)
  (case a8=>k_is)
  (case l8=>k_is)
  (case c8=>k_is)
  (case k8=>k_is)
  (case a9=>k_is)
  (case l9=>k_is)
  (case c9=>k_is)
  (case k9=>k_is)
  (case a10=>k_is)
  (case l10=>k_is)
  (case c10=>k_is)
  (case k10=>k_is)
  (case a11=>k_is)
  (case l11=>k_is)
  (case c11=>k_is)
  (case k11=>k_is)
  (case a12=>k_is)
  (case l12=>k_is)
  (case c12=>k_is)
  (case k12=>k_is)
  (case a13=>k_is)
  (case l13=>k_is)
  (case c13=>k_is)
  (case k13=>k_is)
  (case a14=>k_is)
  (case l14=>k_is)
  (case c14=>k_is)
  (case k14=>k_is)
  (case a15=>k_is)
  (case l15=>k_is)
  (case c15=>k_is)
  (case k15=>k_is)
  (case a16=>k_is)
  (case l16=>k_is)
  (case c16=>k_is)
  (case k16=>k_is)
  (case a17=>k_is)
  (case l17=>k_is)
  (case c17=>k_is)
  (case k17=>k_is)
  (case a18=>k_is)
  (case l18=>k_is)
  (case c18=>k_is)
  (case k18=>k_is)
  (case a19=>k_is)
  (case l19=>k_is)
  (case c19=>k_is)
  (case k19=>k_is)
  (case a20=>k_is)
  (case l20=>k_is)
  (case c20=>k_is)
  (case k20=>k_is)
  (case a21=>k_is)
  (case l21=>k_is)
  (case c21=>k_is)
  (case k21=>k_is)
  (case a22=>k_is)
  (case l22=>k_is)
  (case c22=>k_is)
  (case k22=>k_is)
  (case a23=>k_is)
  (case l23=>k_is)
  (case c23=>k_is)
  (case k23=>k_is)
  (case a24=>k_is)
  (case l24=>k_is)
  (case c24=>k_is)
  (case k24=>k_is)
  (case a25=>k_is)
  (case l25=>k_is)
  (case c25=>k_is)
  (case k25=>k_is)
  (case a26=>k_is)
  (case l26=>k_is)
  (case c26=>k_is)
  (case k26=>k_is)
  (case a27=>k_is)
  (case l27=>k_is)
  (case c27=>k_is)
  (case k27=>k_is)
  (case a28=>k_is)
  (case l28=>k_is)
  (case c28=>k_is)
  (case k28=>k_is)
  (case a29=>k_is)
  (case l29=>k_is)
  (case c29=>k_is)
  (case k29=>k_is)
  (case a30=>k_is)
  (case l30=>k_is)
  (case c30=>k_is)
  (case k30=>k_is)
  (case a31=>k_is)
  (case l31=>k_is)
  (case c31=>k_is)
  (case k31=>k_is)
  (case a32=>k_is)
  (case l32=>k_is)
  (case c32=>k_is)
  (case k32=>k_is)
  (case a33=>k_is)
  (case l33=>k_is)
  (case c33=>k_is)
  (case k33=>k_is)
  (case a34=>k_is)
  (case l34=>k_is)
  (case c34=>k_is)
  (case k34=>k_is)
  (case a35=>k_is)
  (case l35=>k_is)
  (case c35=>k_is)
  (case k35=>k_is)
  (case a36=>k_is)
  (case l36=>k_is)
  (case c36=>k_is)
  (case k36=>k_is)
  (case a37=>k_is)
  (case l37=>k_is)
  (case c37=>k_is)
  (case k37=>k_is)
  (case a38=>k_is)
  (case l38=>k_is)
  (case c38=>k_is)
  (case k38=>k_is)
  (case a39=>k_is)
  (case l39=>k_is)
  (case c39=>k_is)
  (case k39=>k_is)
  (case a40=>k_is)
  (case l40=>k_is)
  (case c40=>k_is)
  (case k40=>k_is)
  (case e0=>k_is)
  (case e1=>k_is)
  (case e2=>k_is)
  (case e3=>k_is)
  (case e4=>k_is)
  (case ta0=>k_is)
  (case tb0=>kernel_rfl)
  (case tc0=>kernel_rfl)
  (case ua0=>k_is)
  (case ub0=>k_is)
  (case z0=>k_is)
  (case z1=>k_is)
  (case z2=>k_is)
  (case z3=>k_is)
  (case z4=>k_is)
  (case z5=>k_is)
  (case z6=>k_is)
  (case z7=>k_is)
  (case z8=>k_is)
  (case z9=>k_is)
  (case z10=>k_is)
  (case z11=>k_is)
  (case z12=>k_is)
  (case z13=>k_is)
  (case z14=>k_is)
  (case z15=>k_is)
  (case x1=>k_is)
  (case x2=>k_is)
  (case x3=>k_is)
  (case x4=>k_is)
  (case x5=>k_is)
  (case x6=>k_is)
  (case x7=>k_is)
  (case x8=>k_is)
  (case x9=>k_is)
  (case x10=>k_is)
  (case x11=>k_is)
  (case x12=>k_is)
  (case x13=>k_is)
  (case x14=>k_is)
  (case x15=>k_is)
  (case x16=>k_is)
  (case x17=>k_is)
  (case x18=>k_is)
  (case x19=>kernel_rfl)
  (case x20=>k_is)
  (case x21=>k_is)
  (case x22=>k_is)
  (case x23=>k_is)
  (case x24=>k_is)
  (case x25=>kernel_rfl)
  (case x26=>k_is)
  (case x27=>k_is)
  (case x28=>kernel_rfl)
  (case x29=>kernel_rfl)
  (case x30=>kernel_rfl)
#print axioms PySem.Challenge.cw_rowsmith_k86_exchanges_done_holds