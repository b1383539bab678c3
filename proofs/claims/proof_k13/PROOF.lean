import PyProof.Rows.All
import Wide.All
import OpenK.AllK
import Wide.FinOn
import Lean
import PyProof.EqAt
import PyProof.EqKinds
import PyProof.TupleCall
import PySem.Challenge.RW_rowsmith_k13_tables_read_again
import PyProof.TupleKey
import KE.KRevIter
import PyProof.ListRange
import PyProof.CollectIter
import PyProof.Rows.SortWalk
import PyProof.ListMulRoad
import PyProof.AutoListH
import PyProof.Rows.SortStr
import PyProof.FactsAll.tuple_2
import KE.KLam
import KE.KNestM
import PyProof.ExcInit
import PyProof.InstStoreFacts
import PyProof.RulesAs
import PyProof.NsDelKeeps
import PyProof.ExcBaseAll.ValueError
import PyProof.ExcArgsOwn
import KE.KIsAll
import PyProof.Rows.FStr
import PyProof.Rows.SumAny
import PyProof.Rows.SetFrom
import PyProof.TupleOfGen
import PyProof.EnumMake
import PyProof.Rows.StrSplitMax
import PyProof.StrLawsTight
set_option linter.all false
noncomputable section
set_option maxRecDepth 100000
set_option maxHeartbeats 4000000
namespace PySem
open Sem (wp)
section
variable {prog:Program} {w:World} {K:Type} [DecidableEq K] (knd:KeyKind prog w K)
noncomputable def cW (h:Heap) (x:List K × K) (a:Addr):Prop:=∃ o n b v,h.get? a=some o/\o.cls=.type "tuple"/\o.data=.seq #[.ref b,v] n/\IsTupleKey knd h x.1 b/\knd.is x.2 v=true
variable {knd}
theorem cW.typeIs {s:Shared} {x:List K × K} {a:Addr} (p:cW knd s.heap x a):s.TypeIs (.ref a) "tuple":=let ⟨o,_,_,_,ho,hc,_⟩:=p;⟨o,ho,hc⟩
theorem cW.inj {h:Heap} {a:Addr} {x y:List K × K} (hx:cW knd h x a) (hy:cW knd h y a):x=y:=by
 obtain ⟨o,n,b,v,ho,_,hd,h1,h2⟩:=hx
 obtain ⟨o',n',b',v',ho',_,hd',h1',h2'⟩:=hy
 obtain rfl:o=o':=Option.some.inj (ho.symm.trans ho')
 rw [hd] at hd'
 injection hd' with e _
 have e1:(.ref b:Value)=.ref b'/\v=v':=by simpa using e
 obtain ⟨e2,rfl⟩:=e1
 cases e2
 exact Prod.ext (h1.inj h1') (knd.inj _ _ _ h2 h2')
theorem cW.keeps {h h':Heap} {x:List K × K} {a d:Addr} {o:Obj} {es ep} (p:cW knd h x a) (ho:h.get? d=some o) (hd:o.data=.dict es ep) (hs:Heap.SameBut d h h'):cW knd h' x a:=by
 obtain ⟨o',n,b,v,ho',hc,hd',h1,h2⟩:=p
 have hne:a≠d:=by
  rintro rfl
  obtain rfl:o'=o:=Option.some.inj (ho'.symm.trans ho)
  rw [hd] at hd';exact nomatch hd'
 exact ⟨o',n,b,v,(hs.2 a hne).trans ho',hc,hd',h1.keeps ho hd hs,h2⟩
noncomputable def rP (knd:KeyKind prog w K) (x:List K × K):Int:=reduceHash (Builtin.Tuple.tupleHashOf [tupleKeyHash knd x.1,knd.hash x.2])
variable {A:Around} {E:Value->Shared->Prop} {s:Shared}
theorem wD {x:List K × K} {a:Addr} {Q:Int->Shared->Prop} (hu:A.units + 1 < cLine) (hk:cW knd s.heap x a) (h:Q (rP knd x) { s with toks:=s.toks + (x.1.length + 3) }) :
  wpAny (model prog w) A (pyHash (.ref a)) Q E s:=by
 have hT:=hk.typeIs
 obtain ⟨o,n,b,v,ho,_,hd,h1,h2⟩:=hk
 unfold pyHash
 first | unfold pyHashByItsType | skip
 first | refine wpAny_bind (wpAny_cRoomFor_or (.inr (by omega)) ?_) | skip
 refine wpAny_bind (wpAny_specialOf hT F.slot_tuple_hash.lookup ?_)
 show wpAny _ _ (if (some (Value.builtin "tuple.__hash__") == some Value.none)=true then _ else _) Q E s
 rw [if_neg (by rw [beq_builtin_none];exact Bool.false_ne_true)]
 refine wpAny_bind (wpAny_specialOf hT F.slot_tuple_hash.lookup ?_)
 show wpAny _ _ (callSpecialIfBoundUnlessNone? (.ref a) "__hash__" _ >>= _) Q E s
 refine wpAny_bind (wpAny_callSpecialIfBoundUnlessNone?_slot hT F.slot_tuple_hash (wpAny_call_entry F.slot_tuple_hash hT F.entry_tuple_hash ?_ (F.args_tuple_hash_1 _)))
 show wpAny _ _ (Builtin.Tuple.tupleItemsOf (.ref a) >>= _) _ _ s
 refine wpAny_bind (wpAny_tupleItemsOf ho hd ?_)
 refine wpAny_bind ?_
 rw [<- Array.forIn_toList]
 refine wpAny_forIn_list _
  (fun rest (r:Array Int) s'=>(rest=[.ref b,v]/\r.toList=[]/\s'=s)\/(rest=[v]/\r.toList=[tupleKeyHash knd x.1]/\s'={ s with toks:=s.toks + (x.1.length + 1) })\/(rest=[]/\r.toList=[tupleKeyHash knd x.1,knd.hash x.2]/\s'={ s with toks:=s.toks + (x.1.length + 1) + 1 }))
  _ ?_ ?_ _ _ (.inl ⟨rfl,rfl,rfl⟩)
 ·rintro y rest r s' (⟨hr,hb,rfl⟩ | ⟨hr,hb,rfl⟩ | ⟨hr,_⟩)
  ·cases hr
   refine wpAny_bind (wpAny_pyHash_tuple (by first | exact hu | (show A.units + 1 < cLine;exact hu)) h1 ?_)
   first
    | exact wpAny_pure (.inr (.inl ⟨rfl,by simp [hb],rfl⟩))
    | exact wpAny_bind (wpAny_pure (wpAny_pure (.inr (.inl ⟨rfl,by simp [hb],rfl⟩))))
  ·cases hr
   refine wpAny_bind (knd.pyHash h2 ?_)
   first
    | exact wpAny_pure (.inr (.inr ⟨rfl,by simp [hb],rfl⟩))
    | exact wpAny_bind (wpAny_pure (wpAny_pure (.inr (.inr ⟨rfl,by simp [hb],rfl⟩))))
  ·cases hr
 ·rintro r s' (⟨hr,_⟩ | ⟨hr,_⟩ | ⟨_,hb,rfl⟩)
  ·cases hr
  ·cases hr
  ·show wpAny _ _ (retInt (Builtin.Tuple.tupleHashOf r.toList)) _ _ _
   rw [hb]
   refine wpAny_ret_mkInt ?_
   show wpAny _ _ (if (decide (-(2:Int) ^ 63<=Builtin.Tuple.tupleHashOf [tupleKeyHash knd x.1,knd.hash x.2]) && decide (Builtin.Tuple.tupleHashOf [tupleKeyHash knd x.1,knd.hash x.2] < 2 ^ 63))=true then _ else _) Q E _
   unfold rP reduceHash at h
   by_cases hr:(decide (-(2:Int) ^ 63<=Builtin.Tuple.tupleHashOf [tupleKeyHash knd x.1,knd.hash x.2]) && decide (Builtin.Tuple.tupleHashOf [tupleKeyHash knd x.1,knd.hash x.2] < 2 ^ 63))=true
   ·rw [if_pos hr]
    rw [if_pos hr] at h
    exact wpAny_pure (by simpa [Nat.add_assoc] using h)
   ·rw [if_neg hr]
    rw [if_neg hr] at h
    exact wpAny_bind (wpAny_rule (wpAny_pure (by simpa [Nat.add_assoc] using h)))
theorem Cu {x y:List K × K} {a b:Addr} {P:Fin->Shared->Prop} (hu:A.units < cLine) (hx:cW knd s.heap x a) (hy:cW knd s.heap y b) (h:P (.done (.ret (.bool (decide (x=y))))) s) :
  wpAny (model prog w) A (Builtin.«tuple.__eq__» ⟨[.ref a,.ref b],[]⟩) P E s:=by
 have hTb:=hy.typeIs
 obtain ⟨oa,na,a1,v1,hoa,_,hda,p1,q1⟩:=hx
 obtain ⟨ob,nb,a2,v2,hob,_,hdb,p2,q2⟩:=hy
 show wpAny _ _ (isInstance (.ref b) (.type "tuple") >>= _) _ _ s
 refine wpAny_bind (wpAny_isInstance hTb isSubtype_tuple_tuple ?_)
 simp only [Bool.not_true,Bool.false_eq_true,if_false]
 refine wpAny_bind (wpAny_tupleItemsOf hoa hda ?_)
 refine wpAny_bind (wpAny_tupleItemsOf hob hdb ?_)
 refine wpAny_bind ?_
 refine wpAny_forIn_list _
  (fun rest r s'=>r.1=none/\s'=s/\((rest=[(.ref a1,.ref a2),(v1,v2)])\/(rest=[(v1,v2)]/\x.1=y.1)\/(rest=[]/\x=y)))
  _ ?_ ?_ _ _ ⟨rfl,rfl,.inl rfl⟩
 ·rintro ⟨u,v⟩ rest r s' ⟨hr,rfl,hz | ⟨hz,e⟩ | ⟨hz,_⟩⟩
  ·cases hz
   refine wpAny_bind (wpAny_eqBool_tuple hu p1 p2 ?_)
   by_cases hk:x.1=y.1
   ·rw [decide_eq_true hk]
    simp only [Bool.not_true,Bool.false_eq_true,if_false]
    exact wpAny_pure ⟨rfl,rfl,by simp [hk]⟩
   ·rw [decide_eq_false hk]
    simp only [Bool.not_false,if_true]
    have hf:decide (x=y)=false:=decide_eq_false fun z=>hk (by rw [z])
    rw [hf] at h
    exact wpAny_bind (wpAny_pure (wpAny_pure (wpAny_pure h)))
  ·cases hz
   refine wpAny_bind (knd.eqBool (a:=x.2) (b:=y.2) q1 q2 ?_)
   by_cases hk:x.2=y.2
   ·rw [decide_eq_true hk]
    simp only [Bool.not_true,Bool.false_eq_true,if_false]
    exact wpAny_pure ⟨rfl,rfl,.inr (.inr ⟨trivial,Prod.ext e hk⟩)⟩
   ·rw [decide_eq_false hk]
    simp only [Bool.not_false,if_true]
    have hf:decide (x=y)=false:=decide_eq_false fun z=>hk (by rw [z])
    rw [hf] at h
    exact wpAny_bind (wpAny_pure (wpAny_pure (wpAny_pure h)))
  ·cases hz
 ·rintro ⟨r1,r2⟩ s' ⟨hr,rfl,hz | ⟨hz,_⟩ | ⟨_,e⟩⟩
  ·cases hz
  ·cases hz
  ·simp only at hr
   subst hr
   refine wpAny_pure ?_
   rw [decide_eq_true e] at h
   exact h
theorem wC {x y:List K × K} {a b:Addr} {Q:Bool->Shared->Prop} (hu:A.units + 1 < cLine) (hx:cW knd s.heap x a) (hy:cW knd s.heap y b) (h:Q (decide (x=y)) s) :
  wpAny (model prog w) A (eqBool (.ref a) (.ref b)) Q E s:=by
 unfold eqBool
 try with_reducible refine wpAny_holding ?_
 show wpAny _ _ (if (Value.ref a == Value.ref b)=true then _ else _) Q E s
 by_cases hab:(Value.ref a == Value.ref b)=true
 ·rw [if_pos hab]
  have e:a=b:=by have:=eq_of_beq hab;injection this
  subst e
  obtain rfl:=hx.inj hy
  exact wpAny_bind (wpAny_rule (wpAny_pure (by simpa using h)))
 ·rw [if_neg hab]
  exact wpAny_bind (wpAny_richCompare_same_room (op:=.Eq) hx.typeIs hy.typeIs F.slot_tuple_eq
   (wpAny_call_entry F.slot_tuple_eq hx.typeIs F.entry_tuple_eq (Cu (by first | exact hu | (show A.units + 1 < cLine;exact hu)) hx hy ⟨_,rfl,(fun e=>nomatch e),wpAny_truthy_bool h⟩) (F.args_tuple_eq_2 _ _)) (by omega))
theorem tL {x:List K × K} {a:Addr} {Q:Bool->Shared->Prop} (hk:cW knd s.heap x a) (h:Q true s):wpAny (model prog w) A (eqIsQuiet 8 (.ref a)) Q E s:=by
 have hT:=hk.typeIs
 obtain ⟨o,n,b,v,ho,_,hd,h1,h2⟩:=hk
 have inner:∀ {Q:Bool->Shared->Prop},Q true s->wpAny (model prog w) A (eqIsQuiet 7 (.ref b)) Q E s:=by
  intro Q h
  have hT:=h1.typeIs
  obtain ⟨o,items,n,ho,_,hd,hi⟩:=h1
  unfold eqIsQuiet
  refine wpAny_bind (wpAny_specialOf hT F.slot_tuple_eq.lookup ?_)
  show wpAny _ _ (isInstance (.ref b) (.type "tuple") >>= _) _ _ s
  refine wpAny_bind (wpAny_isInstance hT isSubtype_tuple_tuple ?_)
  simp only [Bool.not_true,Bool.false_eq_true,if_false]
  refine wpAny_bind (wpAny_seqItems ho hd ?_)
  refine wpAny_bind ?_
  show wpAny _ _ (forIn items _ _) _ _ s
  rw [<- Array.forIn_toList]
  refine wpAny_forIn_list _ (fun rest r s'=>r.1=none/\s'=s/\∀ v∈rest,carriedByValue v=true) _ ?_ ?_ _ _ ⟨rfl,rfl,hi.byValue⟩
  ·rintro v rest r s' ⟨hr,rfl,hall⟩
   rw [eqIsQuiet_byValue _ (hall v List.mem_cons_self)]
   refine wpAny_bind (wpAny_pure ?_)
   simp only [Bool.not_true,Bool.false_eq_true,if_false]
   exact wpAny_pure ⟨rfl,rfl,fun u hu'=>hall u (List.mem_cons_of_mem _ hu')⟩
  ·rintro ⟨r1,r2⟩ s' ⟨hr,rfl,_⟩
   simp only at hr
   subst hr
   exact wpAny_pure h
 unfold eqIsQuiet
 refine wpAny_bind (wpAny_specialOf hT F.slot_tuple_eq.lookup ?_)
 show wpAny _ _ (isInstance (.ref a) (.type "tuple") >>= _) _ _ s
 refine wpAny_bind (wpAny_isInstance hT isSubtype_tuple_tuple ?_)
 simp only [Bool.not_true,Bool.false_eq_true,if_false]
 refine wpAny_bind (wpAny_seqItems ho hd ?_)
 refine wpAny_bind ?_
 show wpAny _ _ (forIn #[Value.ref b,v] _ _) _ _ s
 rw [<- Array.forIn_toList]
 refine wpAny_forIn_list _ (fun rest r s'=>r.1=none/\s'=s/\(rest=[.ref b,v]\/rest=[v]\/rest=[])) _ ?_ ?_ _ _ ⟨rfl,rfl,.inl rfl⟩
 ·rintro u rest r s' ⟨hr,rfl,hz | hz | hz⟩
  ·cases hz
   refine wpAny_bind (inner ?_)
   simp only [Bool.not_true,Bool.false_eq_true,if_false]
   exact wpAny_pure ⟨rfl,rfl,by simp⟩
  ·cases hz
   rw [eqIsQuiet_byValue _ (knd.byValue _ _ h2)]
   refine wpAny_bind (wpAny_pure ?_)
   simp only [Bool.not_true,Bool.false_eq_true,if_false]
   exact wpAny_pure ⟨rfl,rfl,by simp⟩
  ·cases hz
 ·rintro ⟨r1,r2⟩ s' ⟨hr,rfl,_⟩
  simp only at hr
  subst hr
  exact wpAny_pure h
end
noncomputable def L3 {prog:Program} {w:World} {K:Type} [DecidableEq K] (knd:KeyKind prog w K):HeapKind prog w (List K × K) where
 is:=cW knd
 hash:=rP knd
 draws:=fun x=>x.1.length + 3
 room:=fun A=>A.units + 1 < cLine
 inj:=fun hx hy=>hx.inj hy
 keeps:=fun x ho hd hs=>x.keeps ho hd hs
 pyHash:=fun hu hk h=>wD hu hk h
 eqBool:=fun hu hx hy h=>wC hu hx hy h
 quiet:=fun hk h=>tL hk h
end PySem
set_option Elab.async false
namespace L2
open PySem PySem.Spec PyProof.Rows
abbrev Key:=Sum Int Str
noncomputable def Nq:Key->Value->Bool
 | .inl k,v=>Value.isInt k v
 | .inr x,v=>Value.isStrOf x v
noncomputable def Tt (w:World):Key->Int
 | .inl k=>hashInt k
 | .inr x=>hashStr w x
theorem eT:∀ {k:Key} {v:Value},Nq k v=true->(∃ i t,k=Sum.inl i/\v=Value.int i t)\/(∃ x t,k=Sum.inr x/\v=Value.str x t)
 | .inl i,v,h=>by
  obtain ⟨t,e⟩:=Value.isInt_shape (k:=i) (v:=v) h
  exact .inl ⟨i,t,rfl,e⟩
 | .inr x,v,h=>by
  obtain ⟨t,e⟩:=Value.isStrOf_shape (x:=x) (v:=v) h
  exact .inr ⟨x,t,rfl,e⟩
theorem PM (a b:Int):decide ((Sum.inl a:Key)=Sum.inl b)=(a == b):=by
 by_cases e:a=b
 ·subst e;simp
 ·have h:¬ (Sum.inl a:Key)=Sum.inl b:=fun q=>e (Sum.inl.inj q)
  rw [decide_eq_false h]
  exact (beq_eq_false_iff_ne.mpr e).symm
theorem Rp (a b:Str):decide ((Sum.inr a:Key)=Sum.inr b)=decide (a=b):=by
 by_cases e:a=b
 ·subst e;simp
 ·have h:¬ (Sum.inr a:Key)=Sum.inr b:=fun q=>e (Sum.inr.inj q)
  rw [decide_eq_false h,decide_eq_false e]
theorem Rw (a:Int) (b:Str):decide ((Sum.inl a:Key)=Sum.inr b)=false:=decide_eq_false (fun q=>nomatch q)
theorem Qf (a:Str) (b:Int):decide ((Sum.inr a:Key)=Sum.inl b)=false:=decide_eq_false (fun q=>nomatch q)
noncomputable def vK (prog:Program) (w:World):PySem.KeyKind prog w Key where
 is:=Nq
 hash:=Tt w
 inj:=fun v a b ha hb=>by
  rcases eT ha with ⟨i,t,rfl,rfl⟩ | ⟨x,t,rfl,rfl⟩
  ·rcases eT hb with ⟨j,u,rfl,e⟩ | ⟨y,u,rfl,e⟩
   ·injection e with e1 _;rw [e1]
   ·exact nomatch e
  ·rcases eT hb with ⟨j,u,rfl,e⟩ | ⟨y,u,rfl,e⟩
   ·exact nomatch e
   ·injection e with e1 _;rw [e1]
 byValue:=fun k v h=>by
  rcases eT h with ⟨i,t,rfl,rfl⟩ | ⟨x,t,rfl,rfl⟩ <;> rfl
 pyHash:=fun hv h=>by
  rcases eT hv with ⟨i,t,rfl,rfl⟩ | ⟨x,t,rfl,rfl⟩
  ·exact wpAny_pyHash_int h
  ·exact wpAny_pyHash_str h
 eqBool:=fun hu hv h=>by
  rcases eT hu with ⟨i,t,rfl,rfl⟩ | ⟨x,t,rfl,rfl⟩
  ·rcases eT hv with ⟨j,u,rfl,rfl⟩ | ⟨y,u,rfl,rfl⟩
   ·rw [PM] at h;exact wpAny_eqBool_int h
   ·rw [Rw] at h;exact SeqAt.EqAt.int_str i t y u _ _ _ _ h
  ·rcases eT hv with ⟨j,u,rfl,rfl⟩ | ⟨y,u,rfl,rfl⟩
   ·rw [Qf] at h;exact SeqAt.EqAt.str_int x t j u _ _ _ _ h
   ·rw [Rp] at h;exact wpAny_eqBool_str h
 «strs»:=fun k x t v h=>by
  rcases eT h with ⟨i,u,rfl,e⟩ | ⟨y,u,rfl,e⟩
  ·exact nomatch e
  ·injection e with e1 _
   subst e1
   cases v <;> rfl
inductive V where
 | non | bl (b:Bool) | int (i:Int) | str (x:Str) | byt (b:Array UInt8) | flt (b:UInt64) | ref (a:Addr) | ty (n:String)
 deriving DecidableEq
noncomputable def RelV:V->Value->Prop
 | .non,u=>u=Value.none
 | .bl b,u=>u=Value.bool b
 | .int i,u=>∃ t,u=Value.int i t
 | .str x,u=>∃ t,u=Value.str x t
 | .byt b,u=>∃ t,u=Value.bytes b t
 | .flt b,u=>∃ t,u=Value.float b t
 | .ref a,u=>u=Value.ref a
 | .ty n,u=>u=Value.type n
abbrev Vals:List V->List Value->Prop:=Paired RelV
theorem Vals.length {xs:List V} {us:List Value} (r:Vals xs us):xs.length=us.length:=Paired.length r
theorem Vals.get:∀ {xs:List V} {us:List Value} {i:Nat} {x:V},Vals xs us->xs[i]?=some x->∃ u,us[i]?=some u/\RelV x u
 | _,_,_,_,.nil,e=>by simp at e
 | _,_,0,_,.cons r _,e=>by simp at e;subst e;exact ⟨_,rfl,r⟩
 | _,_,i + 1,x,.cons _ t,e=>by
  obtain ⟨u,h1,h2⟩:=Vals.get (i:=i) (x:=x) t (by simpa using e)
  exact ⟨u,by simpa using h1,h2⟩
theorem Vals.append:∀ {xs ys:List V} {us ws:List Value},Vals xs us->Vals ys ws->Vals (xs++ys) (us++ws)
 | _,_,_,_,.nil,s=>s
 | _,_,_,_,.cons r t,s=>.cons r (Vals.append t s)
theorem Vals.take:∀ {xs:List V} {us:List Value} (n:Nat),Vals xs us->Vals (xs.take n) (us.take n)
 | _,_,0,_=>.nil
 | _,_,_ + 1,.nil=>.nil
 | _,_,n + 1,.cons r t=>.cons r (Vals.take n t)
theorem Vals.drop:∀ {xs:List V} {us:List Value} (n:Nat),Vals xs us->Vals (xs.drop n) (us.drop n)
 | _,_,0,r=>r
 | _,_,_ + 1,.nil=>.nil
 | _,_,n + 1,.cons _ t=>Vals.drop n t
noncomputable def F8:Option V->Option Value->Prop
 | some v,some u=>RelV v u
 | none,none=>True
 | _,_=>False
noncomputable def KV {κ:Type}:List (κ × V)->List (κ × Value)->Prop:=Paired fun (p:κ × V) (q:κ × Value)=>p.1=q.1/\RelV p.2 q.2
noncomputable def kV:Key->V
 | .inl i=>.int i
 | .inr x=>.str x
inductive HO where
  | lst (xs:List V)
  | tup (xs:List V)
  | dK (kvs:List (Key × V)) | dT (kvs:List (List Key × V)) | dN (kvs:List ((List Key × Key) × V))
  | set (S:Int->Bool) (n:Nat)
  | ins (C dx:Addr) (fs:List (Str × V))
  | own (x:Addr)
  | xd (fs:List (Str × V))
  | met (f x:Addr)
  | rng (lo hi:Int)
  | frz (o:Obj) (u:HO)
  | tbl (ps:Array Value)
  | ext (φ:Heap->Prop)
abbrev Hp:=Addr->Option HO
noncomputable def upd (H:Hp) (a:Addr) (o:HO):Hp:=fun b=>if b=a then some o else H b
theorem dY {H:Hp} {a:Addr} {o:HO}:upd H a o a=some o:=by unfold upd;rw [if_pos rfl]
theorem bY {H:Hp} {a b:Addr} {o:HO} (h:b≠a):upd H a o b=H b:=by unfold upd;rw [if_neg h]
theorem T8 {H:Hp} {a b:Addr} {o u:HO} (h:H a=some o) (h':H b=some u) (d:o≠u):a≠b:=by
 intro e;subst e;rw [h] at h';exact d (Option.some.inj h')
theorem cJ {H:Hp} {a b:Addr} {o:HO} (h:H a=some o) (h':H b=none):a≠b:=by
 intro e;subst e;rw [h] at h';cases h'
noncomputable def fZ (h:Heap) (a:Addr) (items:Array Value):Prop:=∃ o,h.get? a=some o/\o.cls=.type "tuple"/\o.dict=none/\∃ n,o.data=.seq items n
theorem fZ.tup {h:Heap} {a:Addr} {items:Array Value} (x:fZ h a items):IsTup h a items:=let ⟨o,h1,h2,_,h3⟩:=x;⟨o,h1,h2,h3⟩
theorem fZ.new (h:Heap) (items:Array Value):fZ (h.push { cls:=.type "tuple",data:=.seq items }) h.objs.size items:=⟨_,Heap.get?_push_size _ rfl,rfl,rfl,_,rfl⟩
section
variable (P:Program) (w:World)
noncomputable def eA (H:Hp) (h:Heap) (a:Addr):HO->Prop
 | .lst xs=>xs.length<=sizeLine/\∃ (its:List Value) (n:Nat),Vals xs its/\h.get? a=some { cls:=.type "list",data:=.seq its.toArray n }
 | .tup xs=>xs.length<=sizeLine/\∃ its:List Value,Vals xs its/\fZ h a its.toArray
 | .dK kvs=>kvs.length<=sizeLine/\(a == sysModules)=false/\∃ vs,KV kvs vs/\h.DictOf (vK P w) a vs
 | .dT kvs=>kvs.length<=sizeLine/\(a == sysModules)=false/\∃ xs:List (List Key × Addr × Value),
   Paired (fun (p:List Key × V) (q:List Key × Addr × Value)=>p.1=q.1/\H q.2.1=some (.tup (p.1.map kV))/\RelV p.2 q.2.2) kvs xs /\
   ∃ o es ep,h.get? a=some o/\o.ExactDict/\o.data=.dict es ep/\es.toList=xs.map (entryOfKey (tupleKind (vK P w)))/\(xs.map (·.1)).Nodup
 | .dN kvs=>kvs.length<=sizeLine/\(a == sysModules)=false/\∃ xs:List ((List Key × Key) × Addr × Value),
   Paired (fun (p:(List Key × Key) × V) (q:(List Key × Key) × Addr × Value)=>p.1=q.1/\(∃ c,H q.2.1=some (.tup [.ref c,kV p.1.2])/\H c=some (.tup (p.1.1.map kV)))/\RelV p.2 q.2.2) kvs xs /\
   ∃ o es ep,h.get? a=some o/\o.ExactDict/\o.data=.dict es ep/\es.toList=xs.map (entryOfKey (L3 (vK P w)))/\(xs.map (·.1)).Nodup
 | .set S n=>h.SetOf (intKind P w) a S n
 | .ins C dx fs=>H dx=some (.own a)/\fs.length<=1000/\dx≠a/\h.get? a=some (PySem.W.instObj C dx) /\
   ∃ mA,h.Ns1 dx mA/\(∀ f,F8 (fs.lookup f) (mA f))/\PySem.Within mA (fs.map (·.1))
 | .own _=>∃ o,h.get? a=some o
 | .xd fs=>∃ mA,h.Ns1 a mA/\∀ f,F8 (fs.lookup f) (mA f)
 | .rng lo hi=>∃ t u v,h.get? a=some { cls:=.type "range",data:=.fields #[.int lo t,.int hi u,.int 1 v] }
 | .frz o u=>h.get? a=some o/\eA H h a u
 | .tbl ps=>h.get? a=some { cls:=.none,data:=.fields ps }
 | .met f x=>h.get? a=some (PySem.W.methodObj (.ref f) (.ref x))
 | .ext φ=>φ h/\(∃ o,h.get? a=some o)/\∀ h1 h2:Heap,φ h1->(∀ o,h1.get? a=some o->h2.get? a=some o)->φ h2
noncomputable def iW (H:Hp) (h:Heap):Prop:=∀ a o,H a=some o->eA P w H h a o
end
section
variable {P:Program} {w:World} {H H':Hp} {h h':Heap} {a:Addr} {o:HO}
theorem eA.lt (x:eA P w H h a o):a < h.objs.size:=by
 cases o with
 | lst xs=>obtain ⟨_,_,_,_,e⟩:=x;exact Heap.lt_size e
 | tup xs=>obtain ⟨_,_,_,p⟩:=x;exact IsTup.lt (fZ.tup p)
 | dK kvs=>obtain ⟨_,_,_,_,o,_,_,e,_⟩:=x;exact Heap.lt_size e
 | dT kvs=>obtain ⟨_,_,_,_,o,_,_,e,_⟩:=x;exact Heap.lt_size e
 | dN kvs=>obtain ⟨_,_,_,_,o,_,_,e,_⟩:=x;exact Heap.lt_size e
 | set S n=>obtain ⟨o,_,_,_,e,_⟩:=x;exact Heap.lt_size e
 | ins C dx fs=>obtain ⟨_,_,_,e,_⟩:=x;exact Heap.lt_size e
 | own y=>obtain ⟨_,e⟩:=x;exact Heap.lt_size e
 | xd fs=>obtain ⟨_,⟨_,_,_,e,_⟩,_⟩:=x;exact Heap.lt_size e
 | rng lo hi=>obtain ⟨_,_,_,e⟩:=x;exact Heap.lt_size e
 | frz ob u=>obtain ⟨e,_⟩:=x;exact Heap.lt_size e
 | tbl ps=>exact Heap.lt_size (show h.get? a=some _ from x)
 | met f y=>exact Heap.lt_size (show h.get? a=some _ from x)
 | ext φ=>obtain ⟨_,⟨_,e⟩,_⟩:=x;exact Heap.lt_size e
theorem Paired.mapP {α β:Type} {F G:α->β->Prop}:∀ {l₁:List α} {l₂:List β},Paired F l₁ l₂->(∀ a b,F a b->G a b)->Paired G l₁ l₂
 | _,_,.nil,_=>.nil
 | _,_,.cons r t,f=>.cons (f _ _ r) (Paired.mapP t f)
theorem eA.stay (x:eA P w H h a o) (k:∀ b u,(b=a\/H b=some (.own a))->h.get? b=some u->h'.get? b=some u)
  (ho:∀ b,H b=some (.own a)->H' b=some (.own a)) (ht:∀ b xs,H b=some (.tup xs)->H' b=some (.tup xs)):eA P w H' h' a o:=by
 induction o with
 | lst xs=>obtain ⟨z,its,n,r,e⟩:=x;exact ⟨z,its,n,r,k _ _ (.inl rfl) e⟩
 | tup xs=>obtain ⟨z,its,r,ob,e,c⟩:=x;exact ⟨z,its,r,ob,k _ _ (.inl rfl) e,c⟩
 | dK kvs=>obtain ⟨z,y,vs,r,ob,es,ep,e,c⟩:=x;exact ⟨z,y,vs,r,ob,es,ep,k _ _ (.inl rfl) e,c⟩
 | dT kvs =>
  obtain ⟨z,y,xs,r,ob,es,ep,e,c⟩:=x
  exact ⟨z,y,xs,Paired.mapP r fun p q z=>⟨z.1,ht _ _ z.2.1,z.2.2⟩,ob,es,ep,k _ _ (.inl rfl) e,c⟩
 | dN kvs =>
  obtain ⟨z,y,xs,r,ob,es,ep,e,c⟩:=x
  exact ⟨z,y,xs,Paired.mapP r fun p q z=>⟨z.1,let ⟨c,h1,h2⟩:=z.2.1;⟨c,ht _ _ h1,ht _ _ h2⟩,z.2.2⟩,ob,es,ep,k _ _ (.inl rfl) e,c⟩
 | set S n=>obtain ⟨ob,es,ep,t,e,c⟩:=x;exact ⟨ob,es,ep,t,k _ _ (.inl rfl) e,c⟩
 | ins C dx fs =>
  obtain ⟨d,z,ne,e,mA,⟨od,es,ep,e2,c⟩,r⟩:=x
  exact ⟨ho _ d,z,ne,k _ _ (.inl rfl) e,mA,⟨od,es,ep,k _ _ (.inr d) e2,c⟩,r⟩
 | own y=>obtain ⟨ob,e⟩:=x;exact ⟨ob,k _ _ (.inl rfl) e⟩
 | xd fs=>obtain ⟨mA,⟨od,es,ep,e,c⟩,r⟩:=x;exact ⟨mA,⟨od,es,ep,k _ _ (.inl rfl) e,c⟩,r⟩
 | rng lo hi=>obtain ⟨t,u,v,e⟩:=x;exact ⟨t,u,v,k _ _ (.inl rfl) e⟩
 | frz ob u ih=>obtain ⟨e,q⟩:=x;exact ⟨k _ _ (.inl rfl) e,ih q⟩
 | tbl ps =>
  have e:h.get? a=some { cls:=.none,data:=.fields ps }:=x
  show h'.get? a=some { cls:=.none,data:=.fields ps }
  exact k a _ (.inl rfl) e
 | met f y =>
  have e:h.get? a=some (PySem.W.methodObj (.ref f) (.ref y)):=x
  show h'.get? a=some (PySem.W.methodObj (.ref f) (.ref y))
  exact k a _ (.inl rfl) e
 | ext φ=>obtain ⟨p,⟨o,e⟩,st⟩:=x;exact ⟨st _ _ p fun o q=>k _ _ (.inl rfl) q,⟨o,k _ _ (.inl rfl) e⟩,st⟩
theorem iW.lt (x:iW P w H h) (e:H a=some o):a < h.objs.size:=(x a o e).lt
theorem iW.fresh (x:iW P w H h) (e:h.objs.size<=a):H a=none:=by
 cases q:H a with
 | none=>rfl
 | some u=>exact absurd (Nat.lt_of_lt_of_le (x.lt q) e) (Nat.lt_irrefl _)
theorem iW.kept (x:iW P w H h) (k:∀ b u,h.get? b=some u->h'.get? b=some u):iW P w H h':=fun a o e =>
 (x a o e).stay (fun b u _ q=>k b u q) (fun _ q=>q) fun _ _ q=>q
theorem iW.laid (x:iW P w H h) (k:∀ b u,h.get? b=some u->h'.get? b=some u) (hp:h.objs.size<=a) (new:eA P w (upd H a o) h' a o):iW P w (upd H a o) h':=fun b u e=>by
 have hn:=x.fresh hp
 by_cases hb:b=a
 ·subst hb;rw [dY] at e;cases e;exact new
 ·rw [bY hb] at e
  exact (x b u e).stay (fun c v _ q=>k c v q) (fun c q=>by rw [bY (cJ q hn)];exact q) fun c xs q=>by rw [bY (cJ q hn)];exact q
end
noncomputable def Rd (H:Hp) (a:Addr) (u:HO):Prop:=H a=some u\/∃ o,H a=some (.frz o u)
theorem Rd.ok {P:Program} {w:World} {H:Hp} {h:Heap} {a:Addr} {u:HO} (r:Rd H a u) (x:iW P w H h):eA P w H h a u:=by
 rcases r with r | ⟨o,r⟩
 ·exact x a u r
 ·obtain ⟨_,q⟩:=x a _ r
  exact q
noncomputable def MH:Option HO->Prop
 | some (.lst _)=>True
 | some (.dK _)=>True
 | some (.dT _)=>True
 | some (.dN _)=>True
 | some (.set _ _)=>True
 | some (.ins _ _ _)=>True
 | some (.ext _)=>True
 | _=>False
section
variable {P:Program} {w:World} {H:Hp} {h h':Heap} {x e:Addr} {o':HO}
theorem iW.write (ok:iW P w H h) (mu:MH (H x)) (he:e=x\/H e=some (.own x)) (k:∀ b u,b≠e->h.get? b=some u->h'.get? b=some u) (heo:∃ u,h'.get? e=some u)
  (new:eA P w (upd H x o') h' x o'):iW P w (upd H x o') h':=fun b u q=>by
 have nown:∀ c y,H c=some (.own y)->c≠x:=fun c y r z=>by subst z;rw [r] at mu;exact mu
 have ntup:∀ c xs,H c=some (.tup xs)->c≠x:=fun c xs r z=>by subst z;rw [r] at mu;exact mu
 by_cases hb:b=x
 ·subst hb;rw [dY] at q;cases q;exact new
 ·rw [bY hb] at q
  by_cases hbe:b=e
  ·have q':H b=some (.own x):=by
    rcases he with z | z
    ·exact absurd (hbe.trans z) hb
    ·rw [hbe];exact z
   rw [q] at q';cases q'
   obtain ⟨v,hv⟩:=heo
   exact ⟨v,by rw [hbe];exact hv⟩
  ·refine (ok b u q).stay (fun c v hc r=>k c v ?_ r) (fun c r=>by rw [bY (nown c b r)];exact r) fun c xs r=>by rw [bY (ntup c xs r)];exact r
   rcases hc with rfl | hc
   ·exact hbe
   ·rintro rfl
    rcases he with z | z
    ·exact nown c b hc z
    ·rw [hc] at z;cases z;exact hb rfl
end
structure Un (fs ex:List Addr) (H H':Hp) (h h':Heap):Prop where
 keep:∀ b o,h.get? b=some o->H b=none->b ∉ fs->b ∉ ex->h'.get? b=some o
 slot:∀ b o,h.get? b=some o->H b=none->b∈fs->b ∉ ex->∃ sl,h'.get? b=some { o with slots:=sl }
 free:∀ b o,h.get? b=some o->H b=none->b ∉ ex->H' b=none
 there:∀ b o,h.get? b=some o->b ∉ ex->∃ o',h'.get? b=some o'
 tups:∀ b xs,H b=some (.tup xs)->H' b=some (.tup xs)
 frzs:∀ b o u,H b=some (.frz o u)->H' b=some (.frz o u)
 tbls:∀ b ps,H b=some (.tbl ps)->∃ more,H' b=some (.tbl (ps++more))
section
variable {fs fs' ex ex':List Addr} {H H1 H2:Hp} {h h1 h2 h':Heap} {a x e:Addr} {o:HO}
theorem Un.any (u:Un fs ex H H1 h h1) {b:Addr} {ob:Obj} (q:h.get? b=some ob) (n:H b=none) (hx:b ∉ ex):∃ sl,h1.get? b=some { ob with slots:=sl }:=by
 by_cases hb:b∈fs
 ·exact u.slot b ob q n hb hx
 ·exact ⟨ob.slots,u.keep b ob q n hb hx⟩
theorem Un.kept (k:∀ b u,h.get? b=some u->h'.get? b=some u):Un fs ex H H h h' :=
 ⟨fun b ob q _ _ _=>k b ob q,fun b ob q _ _ _=>⟨ob.slots,k b ob q⟩,fun _ _ _ n _=>n,fun b ob q _=>⟨ob,k b ob q⟩,fun _ _ q=>q,fun _ _ _ q=>q,fun _ ps q=>⟨#[],by rw [q];simp⟩⟩
theorem Un.refl:Un fs ex H H h h:=Un.kept fun _ _ q=>q
theorem Un.laid (k:∀ b u,h.get? b=some u->h'.get? b=some u) (hp:h.objs.size<=a) (hn:H a=none):Un fs ex H (upd H a o) h h' where
 keep:=fun b u q _ _ _=>k b u q
 slot:=fun b u q _ _ _=>⟨u.slots,k b u q⟩
 free:=fun b u q n _=>by rw [bY (Nat.ne_of_lt (Nat.lt_of_lt_of_le (Heap.lt_size q) hp))];exact n
 there:=fun b u q _=>⟨u,k b u q⟩
 tups:=fun b xs q=>by rw [bY (cJ q hn)];exact q
 frzs:=fun b u xs q=>by rw [bY (cJ q hn)];exact q
 tbls:=fun b ps q=>⟨#[],by rw [bY (cJ q hn),q];simp⟩
theorem Un.write (mu:MH (H x)) (he:e=x\/H e=some (.own x)) (k:∀ b u,b≠e->h.get? b=some u->h'.get? b=some u) (heo:∃ u,h'.get? e=some u):Un fs ex H (upd H x o) h h':=by
 have hx:∀ b,H b=none->b≠x:=fun b n z=>by subst z;rw [n] at mu;exact mu
 have hb:∀ b,H b=none->b≠e:=fun b n z=>by
  subst z
  rcases he with r | r
  ·exact hx b n r
  ·rw [n] at r;cases r
 have hm:∀ b u,H b=some u->¬ MH (some u)->b≠x:=fun b u q nm z=>by subst z;rw [q] at mu;exact nm mu
 refine ⟨fun b u q n _ _=>k b u (hb b n) q,fun b u q n _ _=>⟨u.slots,k b u (hb b n) q⟩,fun b u q n _=>by rw [bY (hx b n)];exact n,fun b u q _=>?_,
  fun b xs q=>by rw [bY (hm b _ q fun z=>z)];exact q,fun b u xs q=>by rw [bY (hm b _ q fun z=>z)];exact q,fun b ps q=>⟨#[],by rw [bY (hm b _ q fun z=>z),q];simp⟩⟩
 by_cases hbe:b=e
 ·subst hbe;exact heo
 ·exact ⟨u,k b u hbe q⟩
end
noncomputable def Nv (h:Heap) (H:Hp):List Addr:=(List.range h.objs.size).filter fun a=>(H a).isSome
noncomputable def fO (h:Heap) (H:Hp):Heap:=PySem.W.hideAll h (Nv h H)
theorem Be (h:Heap) (H:Hp):(fO h H).objs.size=h.objs.size:=PySem.W.hideAll_size _ _
theorem qD {h:Heap} {H:Hp} {b:Addr} {o:Obj} (e:h.get? b=some o) (n:H b=none):(fO h H).get? b=some o :=
 PySem.W.hideAll_get _ e fun hm=>by
  have q:(H b).isSome=true:=(List.mem_filter.mp hm).2
  rw [n] at q;simp at q
theorem Aj {h:Heap} {H:Hp} {b:Addr} {o:Obj} (e:(fO h H).get? b=some o):h.get? b=some o/\H b=none:=by
 have e':h.get? b=some o:=PySem.W.of_hideAll (Nv h H) e
 refine ⟨e',?_⟩
 cases q:H b with
 | none=>rfl
 | some x =>
  have hm:b∈Nv h H:=List.mem_filter.mpr ⟨List.mem_range.mpr (Heap.lt_size e'),by simp [q]⟩
  have z:(fO h H).get? b=none:=PySem.W.hideAll_none (Nv h H) hm
  rw [z] at e;cases e
structure Mod (K:PySem.W.Frag) (mg:Str->Option Value) (base:Heap):Prop where
 kin:K.In base
 glob:base.Ns mainGlobals mg
 blt:∃ mb,base.Ns builtinsNs mb/\∀ x:Str,x≠"__name__"->mb x=bootBuiltins x
 nolimit:base.NoLimit
structure Cx where
 prog:Program
 w:World
 K:PySem.W.Frag
 mg:Str->Option Value
 base:Heap
 A:Around
 N:List Str
 s₀:Shared
 H₀:Hp
 env:Env
 outer:List Env
 stack:List Env
 ex:List Addr
 fn:Str->Bool
 calm:Bool
 pn:List (Addr × Obj)
 xe:Value->Shared->Prop
noncomputable def i3 (l:List Env):List Addr:=l.filterMap (·.frame)
abbrev Cx.fs (X:Cx):List Addr:=i3 X.outer
noncomputable def AF (sc:Scope) (x:Str):Prop:=sc.names.lookup x=some .local\/sc.names.lookup x=some .cell\/sc.names.lookup x=some .free
noncomputable def Loc (sc:Scope) (x:Str):Prop:=sc.names.lookup x=some .local\/sc.names.lookup x=some .cell
noncomputable def Look (env:Env) (h:Heap) (m:Str->Option Value) (x:Str) (u:Value):Prop :=
 (env.kindOf x=some .local/\m x=some u)\/((env.kindOf x=some .cell\/env.kindOf x=some .free)/\∃ c,env.cells.lookup x=some c/\h.IsCell c (some u))
structure Cx.Ok (X:Cx):Prop where
 mod:Mod X.K X.mg X.base
 kind:X.env.scope.kind=.function
 glob:X.env.globals=mainGlobals
 blt:X.env.builtins=builtinsNs
 above:X.s₀.heap.objs.size<=X.env.locals
 inj:∀ x y c,X.env.cells.lookup x=some c->X.env.cells.lookup y=some c->x=y
 has:∀ x,(X.env.kindOf x=some .cell\/X.env.kindOf x=some .free)->∃ c,X.env.cells.lookup x=some c
 cab:∀ x c,X.fn x=true->X.env.cells.lookup x=some c->X.s₀.heap.objs.size<=c
 hd:X.calm=true->X.A.handled=none
 frames:X.A.frames=some X.stack
 stk:X.stack=X.outer\/(X.stack=X.env :: X.outer/\X.env.frame=some X.env.locals)
 exf:∀ b∈X.ex,b≠X.env.locals/\∀ x c,X.env.cells.lookup x=some c->c≠b
 bs:∀ b o,X.base.get? b=some o->X.s₀.heap.get? b=some o/\X.H₀ b=none
 bsz:X.base.objs.size<=X.s₀.heap.objs.size
 noex:∀ b o,X.base.get? b=some o->b ∉ X.ex
 exfs:∀ b∈X.ex,b ∉ X.fs
 funs:X.s₀.heap.FunFrames X.base X.outer
 frf:∀ b∈X.fs,X.H₀ b=none
structure Inv (X:Cx) (pins:List (Addr × Obj)) (σ:List (Option V)) (H:Hp) (s:Shared):Prop where
 ok:X.Ok
 os:s.os=X.s₀.os
 bare:AllBare s.gens
 base:Un X.fs X.ex X.H₀ H X.s₀.heap s.heap
 loc:∃ m,s.heap.Ns X.env.locals m/\∀ (i:Nat) (x:Str) (v:V),X.N[i]?=some x->σ[i]?=some (some v)->AF X.env.scope x->∃ u,RelV v u/\Look X.env s.heap m x u
 cell:∀ x c,X.env.cells.lookup x=some c->∃ v,s.heap.IsCell c v
 free:H X.env.locals=none
 freeC:∀ x c,X.env.cells.lookup x=some c->H c=none
 pin:∀ p∈X.pn++pins,s.heap.get? p.1=some p.2/\H p.1=none/\p.1≠X.env.locals/\p.1 ∉ X.fs/\∀ v,p.2.data≠.cell v
 hok:iW X.prog X.w H s.heap
 len:σ.length=X.N.length
section
variable {X:Cx} {pins:List (Addr × Obj)} {σ:List (Option V)} {H H':Hp} {s:Shared} {h':Heap}
theorem Cx.Ok.nofr (ok:X.Ok) {b:Addr} {o:Obj} (e:X.base.get? b=some o):b ∉ X.fs:=fun hb=>by
 have:=(ok.funs.mem hb).1
 rw [e] at this;cases this
theorem Inv.bs (I:Inv X pins σ H s):∀ b o,X.base.get? b=some o->s.heap.get? b=some o/\H b=none:=fun b o e =>
 ⟨I.base.keep b o (I.ok.bs b o e).1 (I.ok.bs b o e).2 (I.ok.nofr e) (I.ok.noex b o e),I.base.free b o (I.ok.bs b o e).1 (I.ok.bs b o e).2 (I.ok.noex b o e)⟩
theorem Inv.bk (I:Inv X pins σ H s):∀ b o,X.base.get? b=some o->s.heap.get? b=some o:=fun b o e=>(I.bs b o e).1
theorem Inv.mod (I:Inv X pins σ H s):Mod X.K X.mg X.base:=I.ok.mod
theorem Inv.kIn (I:Inv X pins σ H s):X.K.In s.heap:=I.ok.mod.kin.keeps I.bk
theorem Inv.fr (I:Inv X pins σ H s):∃ m,Fr X.base X.env.locals s.heap m :=
 let ⟨m,hn,_⟩:=I.loc
 ⟨m,hn,I.bk,Nat.le_trans I.ok.bsz I.ok.above⟩
theorem Inv.lt (I:Inv X pins σ H s):X.env.locals < s.heap.objs.size:=let ⟨_,hn,_⟩:=I.loc;hn.lt
theorem Inv.sz (I:Inv X pins σ H s):X.s₀.heap.objs.size<=s.heap.objs.size:=Nat.le_trans I.ok.above (Nat.le_of_lt I.lt)
theorem Inv.nofs (I:Inv X pins σ H s) {a:Addr} (h:s.heap.objs.size<=a):a ∉ X.fs:=fun hb=>by
 obtain ⟨_,o,ho,_⟩:=I.ok.funs.mem hb
 exact absurd (Nat.lt_of_lt_of_le (Heap.lt_size ho) (Nat.le_trans I.sz h)) (Nat.lt_irrefl _)
theorem Inv.cne (I:Inv X pins σ H s):∀ x c,X.env.cells.lookup x=some c->c≠X.env.locals:=fun x c e z=>by
 obtain ⟨v,o,ho,hd⟩:=I.cell x c e
 obtain ⟨m,⟨o',es,ep,ho',hd',_⟩,_⟩:=I.loc
 rw [z,ho'] at ho;cases ho;rw [hd'] at hd;cases hd
theorem Inv.funs (I:Inv X pins σ H s):s.heap.FunFrames X.base X.outer:=by
 have all:∀ (l:List Env),(∀ b∈i3 l,b∈X.fs)->X.s₀.heap.FunFrames X.base l->s.heap.FunFrames X.base l:=by
  intro l
  induction l with
  | nil=>intro _ _;trivial
  | cons env r ih =>
   intro hs hl
   obtain ⟨hk,⟨L,o,hf,hn,ho,hd⟩,hr⟩:=hl
   have hL:L∈X.fs:=hs L (by unfold i3;rw [List.filterMap_cons,hf];exact List.mem_cons_self)
   obtain ⟨sl,e⟩:=I.base.slot L o ho (I.ok.frf L hL) hL fun z=>I.ok.exfs L z hL
   exact ⟨hk,⟨L,_,hf,hn,e,hd⟩,ih (fun b hb=>hs b (by unfold i3;rw [List.filterMap_cons,hf];exact List.mem_cons_of_mem _ hb)) hr⟩
 exact all X.outer (fun _ hb=>hb) I.ok.funs
theorem Inv.stack (I:Inv X pins σ H s):s.heap.FunFrames X.base X.stack:=by
 rcases I.ok.stk with e | ⟨e,hf⟩
 ·rw [e];exact I.funs
 ·rw [e]
  obtain ⟨m,hn,_⟩:=I.loc
  refine .cons (by rw [I.ok.kind];decide) hf hn ?_ I.funs
  exact Heap.get?_none_of_le (Nat.le_trans I.ok.bsz I.ok.above)
theorem Inv.stkSub (I:Inv X pins σ H s):∀ b∈i3 X.stack,b∈X.env.locals :: X.fs:=fun b hb=>by
 rcases I.ok.stk with e | ⟨e,hf⟩
 ·rw [e] at hb;exact List.mem_cons_of_mem _ hb
 ·rw [e] at hb
  unfold i3 at hb
  rw [List.filterMap_cons,hf] at hb
  exact hb
theorem Inv.stkFree (I:Inv X pins σ H s):∀ b∈i3 X.stack,H b=none:=fun b hb=>by
 rcases List.mem_cons.mp (I.stkSub b hb) with e | hb
 ·rw [e];exact I.free
 ·obtain ⟨_,o,ho,_⟩:=I.ok.funs.mem hb
  exact I.base.free b o ho (I.ok.frf b hb) fun z=>I.ok.exfs b z hb
theorem Inv.step {g':Array GenState} {t':Nat} {d':Drawn} {ch:List Addr} (I:Inv X pins σ H s)
  (hch:∀ b∈ch,(b∈X.ex\/X.s₀.heap.objs.size<=b)/\b≠X.env.locals/\(∀ x c,X.env.cells.lookup x=some c->c≠b)/\∀ p∈X.pn++pins,p.1≠b)
  (keep:∀ b o,b≠X.env.locals->b ∉ X.fs->b ∉ ch->s.heap.get? b=some o->H b=none->h'.get? b=some o)
  (slot:∀ b o,b≠X.env.locals->b∈X.fs->b ∉ ch->s.heap.get? b=some o->H b=none->∃ sl,h'.get? b=some { o with slots:=sl }) (free:∀ b o,b ∉ ch->s.heap.get? b=some o->H b=none->H' b=none)
  (there:∀ b o,b ∉ ch->s.heap.get? b=some o->∃ o',h'.get? b=some o')
  (tups:∀ b xs,H b=some (.tup xs)->H' b=some (.tup xs)) (frzs:∀ b o u,H b=some (.frz o u)->H' b=some (.frz o u)) (tbls:∀ b ps,H b=some (.tbl ps)->∃ more,H' b=some (.tbl (ps++more)))
  (ns:∀ m,s.heap.Ns X.env.locals m->h'.Ns X.env.locals m) (hok:iW X.prog X.w H' h') (hg:AllBare g') :
  Inv X pins σ H' { s with heap:=h',gens:=g',drawn:=d',toks:=t' }:=by
 have neL:∀ b o,X.s₀.heap.get? b=some o->b≠X.env.locals:=fun b o e=>Nat.ne_of_lt (Nat.lt_of_lt_of_le (Heap.lt_size e) I.ok.above)
 have neC:∀ b o,X.s₀.heap.get? b=some o->b ∉ X.ex->b ∉ ch:=fun b o e hx hb=>by
  rcases (hch b hb).1 with z | z
  ·exact hx z
  ·exact absurd (Nat.lt_of_lt_of_le (Heap.lt_size e) z) (Nat.lt_irrefl _)
 have cellK:∀ x c,X.env.cells.lookup x=some c->∀ v,s.heap.IsCell c v->h'.IsCell c v:=fun x c e v ⟨o,ho,hd⟩=>by
  have nch:c ∉ ch:=fun z=>(hch c z).2.2.1 x c e rfl
  by_cases hc:c∈X.fs
  ·obtain ⟨sl,q⟩:=slot c o (I.cne x c e) hc nch ho (I.freeC x c e)
   exact ⟨_,q,hd⟩
  ·exact ⟨o,keep c o (I.cne x c e) hc nch ho (I.freeC x c e),hd⟩
 refine ⟨I.ok,I.os,hg,⟨fun b o e n hb hx=>?_,fun b o e n hb hx=>?_,fun b o e n hx=>?_,fun b o e hx=>?_,fun b xs e=>tups b xs (I.base.tups b xs e),fun b o xs e=>frzs b o xs (I.base.frzs b o xs e),fun b ps e=>?_⟩,?_,fun x c e=>?_,?_,fun x c e=>?_,fun p hp=>?_,hok,I.len⟩
 ·exact keep b o (neL b o e) hb (neC b o e hx) (I.base.keep b o e n hb hx) (I.base.free b o e n hx)
 ·obtain ⟨sl,e1⟩:=I.base.slot b o e n hb hx
  obtain ⟨sl',e2⟩:=slot b _ (neL b o e) hb (neC b o e hx) e1 (I.base.free b o e n hx)
  exact ⟨sl',e2⟩
 ·obtain ⟨o',e1⟩:=I.base.there b o e hx
  exact free b o' (neC b o e hx) e1 (I.base.free b o e n hx)
 ·obtain ⟨o',e1⟩:=I.base.there b o e hx
  exact there b o' (neC b o e hx) e1
 ·obtain ⟨m1,e1⟩:=I.base.tbls b ps e
  obtain ⟨m2,e2⟩:=tbls b _ e1
  exact ⟨m1++m2,by rw [e2,Array.append_assoc]⟩
 ·obtain ⟨m,hn,hl⟩:=I.loc
  refine ⟨m,ns m hn,fun i x v e1 e2 e3=>?_⟩
  obtain ⟨u,r,l⟩:=hl i x v e1 e2 e3
  refine ⟨u,r,?_⟩
  rcases l with l | ⟨k,c,e,z⟩
  ·exact .inl l
  ·exact .inr ⟨k,c,e,cellK x c e _ z⟩
 ·obtain ⟨v,z⟩:=I.cell x c e
  exact ⟨v,cellK x c e v z⟩
 ·obtain ⟨m,⟨o,_,_,ho,_⟩,_⟩:=I.loc
  exact free _ o (fun z=>(hch _ z).2.1 rfl) ho I.free
 ·obtain ⟨v,o,ho,hd⟩:=I.cell x c e
  exact free c o (fun z=>(hch c z).2.2.1 x c e rfl) ho (I.freeC x c e)
 ·obtain ⟨e,n,ne,nf,d⟩:=I.pin p hp
  have nch:p.1 ∉ ch:=fun z=>(hch p.1 z).2.2.2 p hp rfl
  exact ⟨keep p.1 p.2 ne nf nch e n,free p.1 p.2 nch e n,ne,nf,d⟩
theorem Inv.un {t':Nat} (I:Inv X pins σ H s) (u:Un X.fs [] H H' s.heap h') (hok:iW X.prog X.w H' h'):Inv X pins σ H' { s with heap:=h',toks:=t' }:=by
 obtain ⟨m,⟨o,es,ep,ho,r⟩,_⟩:=id I.loc
 obtain ⟨sl,hL⟩:=u.any ho I.free (by simp)
 exact I.step (g':=s.gens) (d':=s.drawn) (ch:=[]) (fun _ z=>nomatch z) (fun b o _ hb _ e n=>u.keep b o e n hb (by simp)) (fun b o _ hb _ e n=>u.slot b o e n hb (by simp)) (fun b o _ e n=>u.free b o e n (by simp)) (fun b o _ e=>u.there b o e (by simp)) u.tups u.frzs u.tbls (fun m' hm=>by
  obtain ⟨o',es',ep',ho',r'⟩:=hm
  rw [ho] at ho';cases ho'
  exact ⟨_,es',ep',hL,r'⟩) hok I.bare
theorem Inv.call {g':Array GenState} {t':Nat} {d':Drawn} {ch:List Addr} (I:Inv X pins σ H s) (u:Un (i3 X.stack) ch H H' s.heap h') (hok:iW X.prog X.w H' h') (hg:AllBare g')
  (hch:∀ b∈ch,(b∈X.ex\/X.s₀.heap.objs.size<=b)/\b≠X.env.locals/\(∀ x c,X.env.cells.lookup x=some c->c≠b)/\∀ p∈X.pn++pins,p.1≠b) :
  Inv X pins σ H' { s with heap:=h',gens:=g',drawn:=d',toks:=t' }:=by
 obtain ⟨m,⟨o,es,ep,ho,r⟩,_⟩:=id I.loc
 obtain ⟨sl,hL⟩:=u.any ho I.free fun z=>(hch _ z).2.1 rfl
 exact I.step (ch:=ch) hch (fun b o hL hb hc e n=>u.keep b o e n (fun z=>(List.mem_cons.mp (I.stkSub b z)).elim hL hb) hc) (fun b o _ _ hc e n=>u.any e n hc) (fun b o hc e n=>u.free b o e n hc) (fun b o hc e=>u.there b o e hc) u.tups u.frzs u.tbls (fun m' hm=>by
  obtain ⟨o',es',ep',ho',r'⟩:=hm
  rw [ho] at ho';cases ho'
  exact ⟨_,es',ep',hL,r'⟩) hok hg
theorem Inv.turned {t':Nat} {it:Addr} (I:Inv X pins σ H s) (k:∀ b o,b≠it->s.heap.get? b=some o->h'.get? b=some o) (hn:H it=none) (hL:it≠X.env.locals)
  (h1:it∈X.ex\/X.s₀.heap.objs.size<=it) (h2:∀ x c,X.env.cells.lookup x=some c->c≠it) (h3:∀ p∈X.pn++pins,p.1≠it):Inv X pins σ H { s with heap:=h',toks:=t' }:=by
 have nit:∀ b u,H b=some u->b≠it:=fun b u e z=>by rw [z,hn] at e;cases e
 refine I.step (g':=s.gens) (d':=s.drawn) (ch:=[it]) (fun b hb=>?_) (fun b o _ _ hc e _=>k b o (fun z=>hc (by simp [z])) e) (fun b o _ _ hc e _=>⟨o.slots,k b o (fun z=>hc (by simp [z])) e⟩) (fun _ _ _ _ n=>n)
  (fun b o hc e=>⟨o,k b o (fun z=>hc (by simp [z])) e⟩) (fun _ _ e=>e) (fun _ _ _ e=>e) (fun b ps e=>⟨#[],by rw [e];simp⟩) (fun m hm=>?_) (fun b u e=>?_) I.bare
 ·have e:b=it:=by simpa using hb
  subst e
  exact ⟨h1,hL,h2,h3⟩
 ·obtain ⟨o,es,ep,ho,r⟩:=hm
  exact ⟨o,es,ep,k _ o (Ne.symm hL) ho,r⟩
 ·refine (I.hok b u e).stay (fun c v hc q=>k c v ?_ q) (fun _ q=>q) fun _ _ q=>q
  rcases hc with z | z
  ·rw [z];exact nit b u e
  ·exact nit c _ z
theorem Inv.tok (I:Inv X pins σ H s) (t:Nat):Inv X pins σ H { s with toks:=t }:=I.un (h':=s.heap) (t':=t) Un.refl I.hok
theorem Inv.kept {t':Nat} (I:Inv X pins σ H s) (k:∀ b u,s.heap.get? b=some u->h'.get? b=some u):Inv X pins σ H { s with heap:=h',toks:=t' }:=I.un (Un.kept k) (I.hok.kept k)
theorem Inv.laid {a:Addr} {o:HO} {t':Nat} (I:Inv X pins σ H s) (k:∀ b u,s.heap.get? b=some u->h'.get? b=some u) (hp:s.heap.objs.size<=a) (new:eA X.prog X.w (upd H a o) h' a o) :
  Inv X pins σ (upd H a o) { s with heap:=h',toks:=t' }:=I.un (Un.laid k hp (I.hok.fresh hp)) (I.hok.laid k hp new)
theorem Inv.write {x e:Addr} {o:HO} {t':Nat} (I:Inv X pins σ H s) (mu:MH (H x)) (he:e=x\/H e=some (.own x)) (k:∀ b u,b≠e->s.heap.get? b=some u->h'.get? b=some u) (heo:∃ u,h'.get? e=some u)
  (new:eA X.prog X.w (upd H x o) h' x o):Inv X pins σ (upd H x o) { s with heap:=h',toks:=t' }:=I.un (Un.write mu he k heo) (I.hok.write mu he k heo new)
theorem Inv.weak {σ':List (Option V)} (I:Inv X pins σ H s) (hl:σ'.length=σ.length) (w:∀ (i:Nat) v,σ'[i]?=some (some v)->σ[i]?=some (some v)):Inv X pins σ' H s :=
 ⟨I.ok,I.os,I.bare,I.base,let ⟨m,hn,hl'⟩:=I.loc;⟨m,hn,fun i x v e1 e2 e3=>hl' i x v e1 (w i v e2) e3⟩,I.cell,I.free,I.freeC,I.pin,I.hok,hl.trans I.len⟩
theorem Inv.pins_of {pins':List (Addr × Obj)} (I:Inv X pins σ H s) (h:∀ p∈pins',s.heap.get? p.1=some p.2/\H p.1=none/\p.1≠X.env.locals/\p.1 ∉ X.fs/\∀ v,p.2.data≠.cell v):Inv X pins' σ H s :=
 ⟨I.ok,I.os,I.bare,I.base,I.loc,I.cell,I.free,I.freeC,fun p hp=>(List.mem_append.mp hp).elim (fun z=>I.pin p (List.mem_append_left _ z)) (h p),I.hok,I.len⟩
theorem DU {N:List Str} (hN:N.Nodup) {i j:Nat} {x:Str} (a:N[i]?=some x) (b:N[j]?=some x):i=j:=by
 obtain ⟨h1,e1⟩:=List.getElem?_eq_some_iff.mp a
 obtain ⟨h2,e2⟩:=List.getElem?_eq_some_iff.mp b
 exact (List.getElem_inj hN).mp (e1.trans e2.symm)
theorem Ba {M:Model} {A:Around} {E:Value->Shared->Prop} {i:Nat} {x:Str} {v:V} {u:Value} {Q:Unit->Shared->Prop} (I:Inv X pins σ H s) (hN:X.N.Nodup) (hi:X.N[i]?=some x) (hx:Loc X.env.scope x) (r:RelV v u)
  (h:∀ s',Inv X pins (σ.set i (some v)) H s'->(∃ a,Heap.SameBut a s.heap s'.heap/\(a=X.env.locals\/X.env.cells.lookup x=some a))->Q () s') (hf:X.fn x=true\/X.env.scope.names.lookup x=some .local:=by first | exact .inl rfl | exact .inr rfl | assumption):wpAny M A (storeName X.env x u) Q E s:=by
 obtain ⟨m,hn,hl⟩:=id I.loc
 have hcls:(X.env.scope.kind == .class || (X.env.scope.kind == .module && X.env.locals != X.env.globals))=false:=by rw [I.ok.kind];rfl
 have hiσ:i < σ.length:=by rw [I.len];exact (List.getElem?_eq_some_iff.mp hi).1
 have cne:=I.cne
 have tracked:∀ {a:Addr} {h':Heap},(∃ o,s.heap.get? a=some o/\H a=none)->Heap.SameBut a s.heap h'->iW X.prog X.w H h':=fun {a h'} ha hs b ob e=>by
  obtain ⟨_,_,hfree⟩:=ha
  refine (I.hok b ob e).stay (fun c w' hc q=>(hs.2 c ?_).trans q) (fun _ q=>q) fun _ _ q=>q
  rintro rfl
  rcases hc with rfl | hc
  ·rw [hfree] at e;cases e
  ·rw [hfree] at hc;cases hc
 rcases hx with hk | hk
 ·refine wpAny_storeName_local hk hn (fun h' hn' hs=>?_) hcls
  obtain ⟨oL,_,_,hoL,_⟩:=id hn
  refine h _ ⟨I.ok,I.os,I.bare,⟨fun b o e n hb hx=>?_,fun b o e n hb hx=>?_,I.base.free,fun b o e hx=>?_,I.base.tups,I.base.frzs,I.base.tbls⟩,⟨_,hn',fun j y v' e1 e2 e3=>?_⟩,fun y c e=>?_,I.free,I.freeC,fun p hp=>?_,tracked ⟨oL,hoL,I.free⟩ hs,by simpa using I.len⟩ ⟨_,hs,.inl rfl⟩
  ·exact (hs.2 b (Nat.ne_of_lt (Nat.lt_of_lt_of_le (Heap.lt_size e) I.ok.above))).trans (I.base.keep b o e n hb hx)
  ·obtain ⟨sl,e1⟩:=I.base.slot b o e n hb hx
   exact ⟨sl,(hs.2 b (Nat.ne_of_lt (Nat.lt_of_lt_of_le (Heap.lt_size e) I.ok.above))).trans e1⟩
  ·obtain ⟨o',e1⟩:=I.base.there b o e hx
   exact ⟨o',(hs.2 b (Nat.ne_of_lt (Nat.lt_of_lt_of_le (Heap.lt_size e) I.ok.above))).trans e1⟩
  ·by_cases hj:j=i
   ·subst hj
    rw [hi] at e1;cases e1
    rw [List.getElem?_set_self hiσ] at e2
    cases e2
    exact ⟨u,r,.inl ⟨hk,by simp⟩⟩
   ·rw [List.getElem?_set_ne (Ne.symm hj)] at e2
    obtain ⟨u',r',q⟩:=hl j y v' e1 e2 e3
    refine ⟨u',r',?_⟩
    rcases q with ⟨k,e⟩ | ⟨k,c,e,z⟩
    ·refine .inl ⟨k,?_⟩
     have:y≠x:=fun e=>hj (DU hN e1 (e ▸ hi))
     simp [this,e]
    ·exact .inr ⟨k,c,e,z.sameBut hs (cne y c e)⟩
  ·obtain ⟨w',z⟩:=I.cell y c e
   exact ⟨w',z.sameBut hs (cne y c e)⟩
  ·obtain ⟨e,n,ne,nf,d⟩:=I.pin p hp
   exact ⟨(hs.2 p.1 ne).trans e,n,ne,nf,d⟩
 ·have hfn:X.fn x=true:=by
   rcases hf with z | z
   ·exact z
   ·rw [z] at hk;cases hk
  obtain ⟨c,hc⟩:=I.ok.has x (.inl hk)
  obtain ⟨w',z⟩:=I.cell x c hc
  refine wpAny_storeName_cell I.ok.kind hk hc z (fun h' hc' hs=>?_)
  obtain ⟨oc,hoc,hocd⟩:=id z
  refine h { s with heap:=h' } ⟨I.ok,I.os,I.bare,⟨fun b o e n hb hx=>?_,fun b o e n hb hx=>?_,I.base.free,fun b o e hx=>?_,I.base.tups,I.base.frzs,I.base.tbls⟩,⟨m,hn.sameBut hs (Ne.symm (cne x c hc)),fun j y v' e1 e2 e3=>?_⟩,fun y c' e=>?_,I.free,I.freeC,fun p hp=>?_,tracked ⟨oc,hoc,I.freeC x c hc⟩ hs,by simpa using I.len⟩ ⟨c,hs,.inr hc⟩
  ·exact (hs.2 b (Nat.ne_of_lt (Nat.lt_of_lt_of_le (Heap.lt_size e) (I.ok.cab x c hfn hc)))).trans (I.base.keep b o e n hb hx)
  ·obtain ⟨sl,e1⟩:=I.base.slot b o e n hb hx
   exact ⟨sl,(hs.2 b (Nat.ne_of_lt (Nat.lt_of_lt_of_le (Heap.lt_size e) (I.ok.cab x c hfn hc)))).trans e1⟩
  ·obtain ⟨o',e1⟩:=I.base.there b o e hx
   exact ⟨o',(hs.2 b (Nat.ne_of_lt (Nat.lt_of_lt_of_le (Heap.lt_size e) (I.ok.cab x c hfn hc)))).trans e1⟩
  ·by_cases hj:j=i
   ·subst hj
    rw [hi] at e1;cases e1
    rw [List.getElem?_set_self hiσ] at e2
    cases e2
    exact ⟨u,r,.inr ⟨.inl hk,c,hc,hc'⟩⟩
   ·rw [List.getElem?_set_ne (Ne.symm hj)] at e2
    obtain ⟨u',r',q⟩:=hl j y v' e1 e2 e3
    refine ⟨u',r',?_⟩
    rcases q with q | ⟨k,c',e,z'⟩
    ·exact .inl q
    ·refine .inr ⟨k,c',e,z'.sameBut hs ?_⟩
     rintro rfl
     exact hj (DU hN e1 (I.ok.inj _ _ _ e hc ▸ hi))
  ·by_cases hcc:c'=c
   ·subst hcc;exact ⟨_,hc'⟩
   ·obtain ⟨w2,z2⟩:=I.cell y c' e
    exact ⟨w2,z2.sameBut hs hcc⟩
  ·obtain ⟨e,n,ne,nf,d⟩:=I.pin p hp
   refine ⟨(hs.2 p.1 ?_).trans e,n,ne,nf,d⟩
   intro q
   rw [q,hoc] at e
   have q':oc=p.2:=Option.some.inj e
   exact d w' (by rw [<- q'];exact hocd)
theorem Cb {M:Model} {A:Around} {E:Value->Shared->Prop} {i:Nat} {x:Str} {v:V} {u:Value} {Q:Unit->Shared->Prop} (I:Inv X pins σ H s) (hN:X.N.Nodup) (hi:X.N[i]?=some x) (hx:Loc X.env.scope x) (r:RelV v u)
  (h:∀ s',Inv X pins (σ.set i (some v)) H s'->Q () s') (hf:X.fn x=true\/X.env.scope.names.lookup x=some .local:=by first | exact .inl rfl | exact .inr rfl | assumption):wpAny M A (storeName X.env x u) Q E s :=
 Ba I hN hi hx r (fun s' I' _=>h s' I') hf
theorem Inv.call' {s':Shared} {ch:List Addr} (I:Inv X pins σ H s) (ho:s'.os=s.os) (u:Un (i3 X.stack) ch H H' s.heap s'.heap) (hok:iW X.prog X.w H' s'.heap) (hg:AllBare s'.gens)
  (hch:∀ b∈ch,(b∈X.ex\/X.s₀.heap.objs.size<=b)/\b≠X.env.locals/\(∀ x c,X.env.cells.lookup x=some c->c≠b)/\∀ p∈X.pn++pins,p.1≠b):Inv X pins σ H' s':=by
 obtain ⟨h',g',d',t',o'⟩:=s'
 have e:o'=s.os:=ho
 subst e
 exact I.call (g':=g') (t':=t') (d':=d') u hok hg hch
end
abbrev XK:=Value->Option Addr->Hp->Prop
abbrev St:=List (Option V)
abbrev VK:=V->Hp->Prop
abbrev TE:=St->Hp->VK->Prop
abbrev TT:=St->Hp->(Bool->Hp->Prop)->Prop
abbrev TA:=St->Hp->(List V->Hp->Prop)->Prop
structure Ends where
 nx:St->Hp->Prop
 rt:VK
 bk:St->Hp->Prop:=fun _ _=>False
 ct:St->Hp->Prop:=fun _ _=>False
abbrev TS:=Ends->St->Hp->Prop
noncomputable def EP (X:Cx) (pins:List (Addr × Obj)) (σ:St) (Q:VK) (u:Value) (s':Shared):Prop:=∃ v H',Inv X pins σ H' s'/\RelV v u/\Q v H'
noncomputable def TP (X:Cx) (pins:List (Addr × Obj)) (σ:St) (Q:Bool->Hp->Prop) (b:Bool) (s':Shared):Prop:=∃ H',Inv X pins σ H' s'/\Q b H'
noncomputable def AP (X:Cx) (pins:List (Addr × Obj)) (σ:St) (Q:List V->Hp->Prop) (us:List Value) (s':Shared):Prop:=∃ vs H',Inv X pins σ H' s'/\Vals vs us/\Q vs H'
noncomputable def SP (X:Cx) (pins:List (Addr × Obj)) (D:Ends) (f:Flow) (s':Shared):Prop :=
 match f with
 | .next=>∃ σ' H',Inv X pins σ' H' s'/\D.nx σ' H'
 | .brk=>∃ σ' H',Inv X pins σ' H' s'/\D.bk σ' H'
 | .cont=>∃ σ' H',Inv X pins σ' H' s'/\D.ct σ' H'
 | .ret u=>∃ v σ' H',Inv X pins σ' H' s'/\RelV v u/\D.rt v H'
noncomputable def PE (X:Cx) (e:Expr) (t:TE):Prop :=
 ∀ (pins:List (Addr × Obj)) (s:Shared) (σ:St) (H:Hp) (Q:VK),Inv X pins σ H s->t σ H Q->wpAny (model X.prog X.w) X.A (eval e X.env) (EP X pins σ Q) X.xe s
noncomputable def PT (X:Cx) (e:Expr) (t:TT):Prop :=
 ∀ (pins:List (Addr × Obj)) (s:Shared) (σ:St) (H:Hp) (Q:Bool->Hp->Prop),Inv X pins σ H s->t σ H Q->wpAny (model X.prog X.w) X.A (isTrue e X.env (eval e X.env)) (TP X pins σ Q) X.xe s
noncomputable def PW (X:Cx) (e:Expr) (t:TT):Prop :=
 ∀ (whole:Sem Value) (pins:List (Addr × Obj)) (s:Shared) (σ:St) (H:Hp) (Q:Bool->Hp->Prop),Inv X pins σ H s->t σ H Q->wpAny (model X.prog X.w) X.A (isTrue e X.env whole) (TP X pins σ Q) X.xe s
theorem PW.pt {X:Cx} {e:Expr} {t:TT} (h:PW X e t):PT X e t:=h _
noncomputable def PA (X:Cx) (es:List Expr) (t:TA):Prop :=
 ∀ (pos:Pos) (pins:List (Addr × Obj)) (s:Shared) (σ:St) (H:Hp) (Q:List V->Hp->Prop),Inv X pins σ H s->t σ H Q->wpAny (model X.prog X.w) X.A (spliced (backTo pos (starEach es X.env))) (AP X pins σ Q) X.xe s
noncomputable def PS (X:Cx) (st:Stmt) (t:TS):Prop :=
 ∀ (pins:List (Addr × Obj)) (s:Shared) (σ:St) (H:Hp) (D:Ends),Inv X pins σ H s->t D σ H->wpAny (model X.prog X.w) X.A (exec st X.env) (SP X pins D) X.xe s
noncomputable def pM (X:Cx) (st:List Stmt) (t:TS):Prop :=
 ∀ (pins:List (Addr × Obj)) (s:Shared) (σ:St) (H:Hp) (D:Ends),Inv X pins σ H s->t D σ H->wpAny (model X.prog X.w) X.A (execs st X.env) (SP X pins D) X.xe s
theorem bJ {α:Type} {t:Sem α} {Q Q':α->Shared->Prop} {M:Model} {A:Around} {E:Value->Shared->Prop} {s:Shared} (h:wpAny M A t Q E s) (hQ:∀ a s,Q a s->Q' a s):wpAny M A t Q' E s:=wpAny_mono h hQ fun _ _ x=>x
section
variable {X:Cx}
theorem bin {a b:Expr} {ta tb:TE} (ha:PE X a ta) (hb:PE X b tb) {pins:List (Addr × Obj)} {s:Shared} {σ:St} {H:Hp} {R:V->V->Hp->Prop} (I:Inv X pins σ H s) (h:ta σ H fun x H1=>tb σ H1 fun y H2=>R x y H2)
  {α:Type} {Q:α->Shared->Prop} {f:Value->Value->Sem α}
  (hf:∀ v u s2 x y H2,Inv X pins σ H2 s2->RelV x v->RelV y u->R x y H2->wpAny (model X.prog X.w) X.A (f v u) Q X.xe s2) :
  wpAny (model X.prog X.w) X.A (eval a X.env) (fun v s₁=>wpAny (model X.prog X.w) X.A (eval b X.env) (fun u s₂=>wpAny (model X.prog X.w) X.A (f v u) Q X.xe s₂) X.xe s₁) X.xe s:=by
 refine bJ (ha pins s σ H _ I h) fun v s1 ⟨x,H1,I1,r1,q1⟩=>?_
 refine bJ (hb pins s1 σ H1 _ I1 q1) fun u s2 ⟨y,H2,I2,r2,q2⟩=>?_
 exact hf v u s2 x y H2 I2 r1 r2 q2
noncomputable def MA (i:Nat):TE:=fun σ H Q=>∃ v,σ[i]?=some (some v)/\Q v H
noncomputable def tC (v:V):TE:=fun _ H Q=>Q v H
theorem Ce {i:Nat} {x:Str} {pos:Pos} (hN:X.N[i]?=some x) (hv:AF X.env.scope x) (hd:(x == ("__debug__":Str))=false:=by decide) (hcd:(x == ("__classdict__":Str))=false:=by decide):PE X (.Name x pos) (MA i):=by
 intro pins s σ H Q I h
 obtain ⟨v,e,h⟩:=h
 obtain ⟨m,hn,hl⟩:=I.loc
 obtain ⟨u,r,l⟩:=hl i x v hN e hv
 have fin:EP X pins σ Q u s:=⟨v,H,I,r,h⟩
 rcases l with ⟨hk,hm⟩ | ⟨hk,c,hc,hcell⟩
 ·exact wpAny_Name (wpAny_loadName_local I.ok.kind hk hn hm fin) hd
 ·rcases hk with hk | hk
  ·exact wpAny_Name (wpAny_loadName_cell I.ok.kind hk hc hcell fin) hd
  ·exact wpAny_Name (wpAny_loadName_free I.ok.kind hk hc hcell fin hcd) hd
theorem PH {i j pos}:PE X (.Constant (.int i) j pos) (tC (.int i)):=fun _ _ _ H _ I h=>wpAny_Constant_int ⟨.int i,H,I.tok _,⟨_,rfl⟩,h⟩
theorem R4 {b j pos}:PE X (.Constant (.bool b) j pos) (tC (.bl b)):=fun _ _ _ H _ I h=>Constant_bool ⟨.bl b,H,I,rfl,h⟩
theorem Rz {j pos}:PE X (.Constant .none j pos) (tC .non):=fun _ _ _ H _ I h=>Constant_none ⟨.non,H,I,rfl,h⟩
theorem QA {x j pos}:PE X (.Constant (.str x) j pos) (tC (.str x)):=fun _ _ _ H _ I h=>Calls.Constant_str ⟨.str x,H,I.tok _,⟨_,rfl⟩,h⟩
noncomputable def Gl (X:Cx) (x:Str):Prop:=X.env.kindOf x=some .globalImplicit
theorem As {E:Value->Shared->Prop} {pins:List (Addr × Obj)} {s:Shared} {σ:St} {H:Hp} {x:Str} {u:Value} {pos:Pos} {Q:Value->Shared->Prop} (I:Inv X pins σ H s) (hg:Gl X x) (hm:X.mg x=some u) (h:Q u s)
  (hd:(x == ("__debug__":Str))=false:=by decide):wpAny (model X.prog X.w) X.A (eval (.Name x pos) X.env) Q E s :=
 Calls.Name_function_global I.ok.kind hg (Calls.loadGlobal_global (by rw [I.ok.glob];exact I.mod.glob.keeps I.bk) hm h) hd
theorem mW {E:Value->Shared->Prop} {pins:List (Addr × Obj)} {s:Shared} {σ:St} {H:Hp} {x:Str} {u:Value} {pos:Pos} {Q:Value->Shared->Prop} (I:Inv X pins σ H s) (hg:Gl X x) (hm:X.mg x=none) (hv:bootBuiltins x=some u) (h:Q u s)
  (hn:x≠"__name__":=by decide) (hd:(x == ("__debug__":Str))=false:=by decide):wpAny (model X.prog X.w) X.A (eval (.Name x pos) X.env) Q E s:=by
 obtain ⟨mb,h1,h2⟩:=I.mod.blt
 exact Calls.Name_function_global I.ok.kind hg (Calls.loadGlobal_builtin (by rw [I.ok.glob];exact I.mod.glob.keeps I.bk) hm (by rw [I.ok.blt];exact h1.keeps I.bk) ((h2 x hn).trans hv) h) hd
theorem zT {x:Str} {v:V} {u:Value} {pos:Pos} (hg:Gl X x) (hm:X.mg x=some u) (r:RelV v u) (hd:(x == ("__debug__":Str))=false:=by decide):PE X (.Name x pos) (tC v) :=
 fun _ _ _ H _ I h=>As I hg hm ⟨v,H,I,r,h⟩ hd
theorem Ov {x:Str} {v:V} {u:Value} {pos:Pos} (hg:Gl X x) (hm:X.mg x=none) (hv:bootBuiltins x=some u) (r:RelV v u) (hn:x≠"__name__":=by decide) (hd:(x == ("__debug__":Str))=false:=by decide):PE X (.Name x pos) (tC v) :=
 fun _ _ _ H _ I h=>mW I hg hm hv ⟨v,H,I,r,h⟩ hn hd
noncomputable def TV (ta tb:TE) (k:Int->Int->Hp->Prop):St->Hp->Prop:=fun σ H=>ta σ H fun x H1=>tb σ H1 fun y H2=>∃ i j,x=.int i/\y=.int j/\k i j H2
variable {a b:Expr} {ta tb:TE} {pos:Pos}
noncomputable def zZ (p:Int->Int->Bool) (ta tb:TE):TE:=fun σ H Q=>TV ta tb (fun i j H2=>Q (.bl (p i j)) H2) σ H
abbrev Uq:TE->TE->TE:=zZ fun i j=>decide (i < j)
abbrev Uj:TE->TE->TE:=zZ fun i j=>decide (i<=j)
abbrev Ui:TE->TE->TE:=zZ fun i j=>decide (j < i)
abbrev Us:TE->TE->TE:=zZ fun i j=>decide (j<=i)
abbrev Uh:TE->TE->TE:=zZ fun i j=>decide (i=j)
abbrev Ub:TE->TE->TE:=zZ fun i j=>!decide (i=j)
variable {tA tB':TT} {rest:List Expr}
noncomputable def QZ (t u:TT):TT:=fun σ H Q=>t σ H fun c H1=>if c=true then u σ H1 Q else Q false H1
noncomputable def SK (t u:TT):TT:=fun σ H Q=>t σ H fun c H1=>if c=true then Q true H1 else u σ H1 Q
noncomputable def QX (t:TT):TT:=fun σ H Q=>t σ H fun c H1=>Q (!c) H1
theorem NC (ha:PT X a tA):PW X (.BoolOp .And [a] pos) tA:=by
 intro wh pins s σ H Q I h
 refine isTrue_and (bJ (ha pins s σ H Q I h) fun c s1 e=>?_)
 cases c with
 | true=>exact isTrue_and_nil e
 | false=>exact e
theorem RR (ha:PT X a tA):PW X (.BoolOp .Or [a] pos) tA:=by
 intro wh pins s σ H Q I h
 refine isTrue_or (bJ (ha pins s σ H Q I h) fun c s1 e=>?_)
 cases c with
 | false=>exact isTrue_or_nil e
 | true=>exact e
theorem RD (ha:PT X a tA) (hb:PW X (.BoolOp .And (b :: rest) pos) tB'):PW X (.BoolOp .And (a :: b :: rest) pos) (QZ tA tB'):=by
 intro wh pins s σ H Q I h
 refine isTrue_and (bJ (ha pins s σ H _ I h) fun c s1 ⟨H1,I1,q1⟩=>?_)
 cases c with
 | true=>exact hb wh pins s1 σ H1 Q I1 q1
 | false=>exact ⟨H1,I1,q1⟩
theorem RW (ha:PT X a tA) (hb:PW X (.BoolOp .Or (b :: rest) pos) tB'):PW X (.BoolOp .Or (a :: b :: rest) pos) (SK tA tB'):=by
 intro wh pins s σ H Q I h
 refine isTrue_or (bJ (ha pins s σ H _ I h) fun c s1 ⟨H1,I1,q1⟩=>?_)
 cases c with
 | true=>exact ⟨H1,I1,q1⟩
 | false=>exact hb wh pins s1 σ H1 Q I1 q1
theorem Rt (ha:PT X a tA):PT X (.UnaryOp .Not a pos) (QX tA):=by
 intro pins s σ H Q I h
 exact isTrue_not (ha pins s σ H (fun c H1=>Q (!c) H1) I h)
noncomputable def MK (ta tb:TE):TE:=fun σ H Q=>ta σ H fun x H1=>∃ c,x=.bl c/\if c=true then tb σ H1 Q else Q (.bl false) H1
noncomputable def PQ (ta tb:TE):TE:=fun σ H Q=>ta σ H fun x H1=>∃ c,x=.bl c/\if c=true then Q (.bl true) H1 else tb σ H1 Q
noncomputable def Nl (ta:TE):TE:=fun σ H Q=>ta σ H fun x H1=>∃ c,x=.bl c/\Q (.bl (!c)) H1
theorem QL {op} {t:TE} (h:PE X a t):PE X (.BoolOp op [a] pos) t:=fun pins s σ H Q I hw=>BoolOp_one (h pins s σ H Q I hw)
theorem Qw (ha:PE X a ta) (hb:PE X (.BoolOp .And (b :: rest) pos) tb):PE X (.BoolOp .And (a :: b :: rest) pos) (MK ta tb):=by
 intro pins s σ H Q I h
 refine BoolOp_and (bJ (ha pins s σ H _ I h) fun v s1 ⟨x,H1,I1,r1,q1⟩=>?_)
 obtain ⟨c,rfl,q1⟩:=q1
 cases r1
 refine wpAny_truthy_bool ?_
 cases c with
 | true=>exact hb pins s1 σ H1 Q I1 q1
 | false=>exact ⟨.bl false,H1,I1,rfl,q1⟩
theorem Sh (ha:PE X a ta) (hb:PE X (.BoolOp .Or (b :: rest) pos) tb):PE X (.BoolOp .Or (a :: b :: rest) pos) (PQ ta tb):=by
 intro pins s σ H Q I h
 refine BoolOp_or (bJ (ha pins s σ H _ I h) fun v s1 ⟨x,H1,I1,r1,q1⟩=>?_)
 obtain ⟨c,rfl,q1⟩:=q1
 cases r1
 refine wpAny_truthy_bool ?_
 cases c with
 | false=>exact hb pins s1 σ H1 Q I1 q1
 | true=>exact ⟨.bl true,H1,I1,rfl,q1⟩
theorem RI (ha:PE X a ta):PE X (.UnaryOp .Not a pos) (Nl ta):=by
 intro pins s σ H Q I h
 refine UnaryOp_ (bJ (ha pins s σ H _ I h) fun v s1 ⟨x,H1,I1,r1,q1⟩=>?_)
 obtain ⟨c,rfl,q1⟩:=q1
 cases r1
 exact not_of (wpAny_truthy_bool ⟨.bl (!c),H1,I1,rfl,q1⟩)
noncomputable def SO (t:TT) (ta tb:TE):TE:=fun σ H Q=>t σ H fun c H1=>if c=true then ta σ H1 Q else tb σ H1 Q
theorem Mx {c:Expr} (hc:PT X c tA) (ha:PE X a ta) (hb:PE X b tb):PE X (.IfExp c a b pos) (SO tA ta tb):=by
 intro pins s σ H Q I h
 refine wpAny_IfExp (bJ (hc pins s σ H _ I h) fun d s1 ⟨H1,I1,q1⟩=>?_)
 cases d with
 | true=>exact ha pins s1 σ H1 Q I1 q1
 | false=>exact hb pins s1 σ H1 Q I1 q1
end
noncomputable def eH (K:PySem.W.Frag) (H:Hp) (a:Addr) (xs:List V):Prop :=
 Rd H a (.lst xs) \/
  ∃ (o:Obj) (its:Array Value) (n:Nat),K.lookup a=some o/\o.cls=.type "list"/\o.dict=none/\o.data=.seq its n/\its.size<=sizeLine/\Vals xs its.toList
noncomputable def eQ (K:PySem.W.Frag) (H:Hp) (a:Addr) (xs:List V):Prop :=
 Rd H a (.tup xs) \/
  ∃ (o:Obj) (its:Array Value) (n:Nat),K.lookup a=some o/\o.cls=.type "tuple"/\o.dict=none/\o.data=.seq its n/\its.size<=sizeLine/\Vals xs its.toList
noncomputable def Th:Value->Option V
 | .none=>some .non
 | .bool b=>some (.bl b)
 | .int i _=>some (.int i)
 | .str x _=>some (.str x)
 | .bytes b _=>some (.byt b)
 | .float b _=>some (.flt b)
 | .ref a=>some (.ref a)
 | .type n=>some (.ty n)
 | _=>none
theorem RelV.abs {x:V} {u:Value} (r:RelV x u):Th u=some x:=by
 cases x with
 | non=>cases r;rfl
 | bl _=>cases r;rfl
 | int _=>obtain ⟨t,rfl⟩:=r;rfl
 | str _=>obtain ⟨t,rfl⟩:=r;rfl
 | byt _=>obtain ⟨t,rfl⟩:=r;rfl
 | flt _=>obtain ⟨t,rfl⟩:=r;rfl
 | ref _=>cases r;rfl
 | ty _=>cases r;rfl
theorem RelV.inj {x y:V} {u:Value} (r:RelV x u) (q:RelV y u):x=y:=Option.some.inj (r.abs.symm.trans q.abs)
theorem Vals.inj:∀ {xs ys:List V} {us:List Value},Vals xs us->Vals ys us->xs=ys
 | _,_,_,.nil,.nil=>rfl
 | _,_,_,.cons r t,.cons r' t'=>by rw [r.inj r',Vals.inj t t']
section
variable {X:Cx} {pins:List (Addr × Obj)} {σ:St} {H:Hp} {s:Shared} {a:Addr} {xs ys:List V}
theorem Inv.list (I:Inv X pins σ H s) (h:eH X.K H a xs):∃ its:List Value,Vals xs its/\PlainL s.heap a its.toArray/\xs.length<=sizeLine:=by
 rcases h with h | ⟨o,its,n,hk,hc,hd,hs,hz,r⟩
 ·obtain ⟨z,its,n,r,e⟩:=h.ok I.hok
  exact ⟨its,r,⟨_,n,e,rfl,rfl,rfl⟩,z⟩
 ·refine ⟨its.toList,r,⟨o,n,I.kIn a o hk,hc,hd,by simpa using hs⟩,?_⟩
  have e:=r.length
  simp only [Array.length_toList] at e
  omega
theorem Inv.tupleP (I:Inv X pins σ H s) (h:eQ X.K H a xs):∃ its:List Value,Vals xs its/\fZ s.heap a its.toArray/\xs.length<=sizeLine:=by
 rcases h with h | ⟨o,its,n,hk,hc,hd,hs,hz,r⟩
 ·obtain ⟨z,its,r,p⟩:=h.ok I.hok
  exact ⟨its,r,p,z⟩
 ·refine ⟨its.toList,r,⟨o,I.kIn a o hk,hc,hd,n,by simpa using hs⟩,?_⟩
  have e:=r.length
  simp only [Array.length_toList] at e
  omega
theorem Inv.tuple (I:Inv X pins σ H s) (h:eQ X.K H a xs):∃ its:List Value,Vals xs its/\IsTup s.heap a its.toArray/\xs.length<=sizeLine:=by
 obtain ⟨its,r,p,z⟩:=I.tupleP h
 exact ⟨its,r,p.tup,z⟩
theorem Inv.list_inj (I:Inv X pins σ H s) (h:eH X.K H a xs) (h':eH X.K H a ys):xs=ys:=by
 obtain ⟨its,r,⟨o,n,e,_,_,d⟩,_⟩:=I.list h
 obtain ⟨its',r',⟨o',n',e',_,_,d'⟩,_⟩:=I.list h'
 rw [e] at e';cases e'
 rw [d] at d'
 injection d' with d1 _
 have:its=its':=by simpa using congrArg Array.toList d1
 subst this
 exact r.inj r'
theorem Inv.tuple_inj (I:Inv X pins σ H s) (h:eQ X.K H a xs) (h':eQ X.K H a ys):xs=ys:=by
 obtain ⟨its,r,⟨o,e,_,n,d⟩,_⟩:=I.tuple h
 obtain ⟨its',r',⟨o',e',_,n',d'⟩,_⟩:=I.tuple h'
 rw [e] at e';cases e'
 rw [d] at d'
 injection d' with d1 _
 have:its=its':=by simpa using congrArg Array.toList d1
 subst this
 exact r.inj r'
end
abbrev Cx.wish (X:Cx) (E:Value->Shared->Prop):Cx:={ X with xe:=E }
abbrev Cx.nox (X:Cx):Cx:=X.wish fun _ _=>False
theorem Cx.Ok.wish {X:Cx} (ok:X.Ok) (E:Value->Shared->Prop):(X.wish E).Ok :=
 ⟨ok.mod,ok.kind,ok.glob,ok.blt,ok.above,ok.inj,ok.has,ok.cab,ok.hd,ok.frames,ok.stk,ok.exf,ok.bs,ok.bsz,ok.noex,ok.exfs,ok.funs,ok.frf⟩
theorem Cx.Ok.unwish {X:Cx} {E:Value->Shared->Prop} (ok:(X.wish E).Ok):X.Ok :=
 ⟨ok.mod,ok.kind,ok.glob,ok.blt,ok.above,ok.inj,ok.has,ok.cab,ok.hd,ok.frames,ok.stk,ok.exf,ok.bs,ok.bsz,ok.noex,ok.exfs,ok.funs,ok.frf⟩
section
variable {X:Cx} {pins:List (Addr × Obj)} {σ:St} {H:Hp} {s:Shared} {E:Value->Shared->Prop}
theorem Inv.wish (I:Inv X pins σ H s) (E:Value->Shared->Prop):Inv (X.wish E) pins σ H s:=⟨I.ok.wish E,I.os,I.bare,I.base,I.loc,I.cell,I.free,I.freeC,I.pin,I.hok,I.len⟩
theorem Inv.unwish (I:Inv (X.wish E) pins σ H s):Inv X pins σ H s:=⟨I.ok.unwish,I.os,I.bare,I.base,I.loc,I.cell,I.free,I.freeC,I.pin,I.hok,I.len⟩
theorem SP.unwish {D:Ends} {f:Flow} {s':Shared} (h:SP (X.wish E) pins D f s'):SP X pins D f s':=by
 cases f with
 | next=>obtain ⟨σ',H',I,q⟩:=h;exact ⟨σ',H',I.unwish,q⟩
 | brk=>obtain ⟨σ',H',I,q⟩:=h;exact ⟨σ',H',I.unwish,q⟩
 | cont=>obtain ⟨σ',H',I,q⟩:=h;exact ⟨σ',H',I.unwish,q⟩
 | ret u=>obtain ⟨v,σ',H',I,r,q⟩:=h;exact ⟨v,σ',H',I.unwish,r,q⟩
theorem pM.nox {st:List Stmt} {t:TS} (h:pM X.nox st t):pM X st t:=fun pins s σ H D I hw =>
 wpAny_mono (h pins s σ H D (I.wish _) hw) (fun _ _ q=>q.unwish) fun _ _ z=>False.elim z
end
section
variable {X:Cx} {st:Stmt} {rest:List Stmt} {t u:TS} {e:Expr} {te:TE} {pos:Pos}
noncomputable def MX:TS:=fun D σ H=>D.nx σ H
noncomputable def Rk (t u:TS):TS:=fun D σ H=>t { D with nx:=u D } σ H
theorem Pn:pM X [] MX:=fun _ _ σ H _ I h=>wpAny_execs_nil ⟨σ,H,I,h⟩
theorem Ky (h1:PS X st t) (h2:pM X rest u):pM X (st :: rest) (Rk t u):=by
 intro pins s σ H D I h
 refine wpAny_execs_cons (bJ (h1 pins s σ H { D with nx:=u D } I h) fun f s1 q=>?_)
 cases f with
 | next =>
  obtain ⟨σ',H',I',q⟩:=q
  exact h2 pins s1 σ' H' D I' q
 | ret v=>exact q
 | brk=>exact q
 | cont=>exact q
theorem Oh (h1:PS X st t):pM X [st] t:=by
 intro pins s σ H D I h
 refine wpAny_execs_cons (bJ (h1 pins s σ H D I h) fun f s1 q=>?_)
 cases f with
 | next=>exact wpAny_execs_nil q
 | ret v=>exact q
 | brk=>exact q
 | cont=>exact q
noncomputable def IA:TS:=fun D σ H=>D.bk σ H
theorem K1:PS X (.Break pos) IA:=fun _ _ σ H _ I h=>wpAny_Break ⟨σ,H,I,h⟩
theorem Inv.quiet {pins:List (Addr × Obj)} {σ:St} {H:Hp} {s:Shared} (I:Inv X pins σ H s):interactive X.env=false:=by simp [interactive,I.ok.kind]
noncomputable def MM (te:TE):TS:=fun D σ H=>te σ H fun _ H1=>D.nx σ H1
theorem OB (he:PE X e te) (hs:swapsWith e none pos.line X.env=pure false:=by rfl):PS X (.Expr e pos) (MM te):=by
 intro pins s σ H D I h
 exact wpAny_Expr_any (bJ (he pins s σ H _ I h) fun v s1 ⟨x,H1,I1,r1,q1⟩=>⟨σ,H1,I1,q1⟩) I.quiet hs
noncomputable def P6 (te:TE):TS:=fun D σ H=>te σ H D.rt
theorem RT (he:PE X e te):PS X (.Return (some e) pos) (P6 te):=by
 intro pins s σ H D I h
 exact wpAny_Return_some (bJ (he pins s σ H _ I h) fun v s1 ⟨x,H1,I1,r1,q1⟩=>⟨x,σ,H1,I1,r1,q1⟩)
noncomputable def RB (c:TT) (t u:TS):TS:=fun D σ H=>c σ H fun b H1=>if b=true then t D σ H1 else u D σ H1
theorem R1 {c:Expr} {a b:List Stmt} {tc:TT} (hc:PT X c tc) (ha:pM X a t) (hb:pM X b u):PS X (.If c a b pos) (RB tc t u):=by
 intro pins s σ H D I h
 refine wpAny_If (bJ (hc pins s σ H _ I h) fun d s1 ⟨H1,I1,q1⟩=>?_)
 cases d with
 | true=>exact ha pins s1 σ H1 D I1 q1
 | false=>exact hb pins s1 σ H1 D I1 q1
end
abbrev TG:=V->St->Hp->(St->Hp->Prop)->Prop
abbrev qL:=List V->St->Hp->(St->Hp->Prop)->Prop
noncomputable def PG (X:Cx) (target:Expr) (t:TG):Prop :=
 ∀ (pins:List (Addr × Obj)) (s:Shared) (σ:St) (H:Hp) (v:V) (u:Value) (Q:St->Hp->Prop),Inv X pins σ H s->RelV v u->t v σ H Q ->
  wpAny (model X.prog X.w) X.A (assign target X.env u) (fun _ s'=>∃ σ' H',Inv X pins σ' H' s'/\Q σ' H') X.xe s
noncomputable def IJ (X:Cx) (ts:List Expr) (t:qL):Prop :=
 ∀ (pins:List (Addr × Obj)) (s:Shared) (σ:St) (H:Hp) (vs:List V) (us:List Value) (Q:St->Hp->Prop),Inv X pins σ H s->Vals vs us->t vs σ H Q ->
  wpAny (model X.prog X.w) X.A (assignInOrder ((assignEach ts X.env).map (·.2)) us) (fun _ s'=>∃ σ' H',Inv X pins σ' H' s'/\Q σ' H') X.xe s
abbrev Uc:=V->V->V->Hp->(Hp->Prop)->Prop
abbrev Ur:=V->V->Hp->VK->Prop
section
variable {X:Cx} {pos:Pos}
noncomputable def tR (i:Nat):TG:=fun v σ H Q=>Q (σ.set i (some v)) H
theorem Pj {i:Nat} {x:Str} (hN:X.N.Nodup) (hi:X.N[i]?=some x) (hx:Loc X.env.scope x) (hf:X.fn x=true\/X.env.scope.names.lookup x=some .local:=by first | exact .inl rfl | exact .inr rfl | assumption):PG X (.Name x pos) (tR i):=by
 intro pins s σ H v u Q I r h
 exact wpAny_assign_Name (Cb I hN hi hx r (fun s' I'=>⟨_,H,I',h⟩) hf)
noncomputable def Dq:qL:=fun vs σ H Q=>vs=[]/\Q σ H
noncomputable def yW (t:TG) (u:qL):qL:=fun vs σ H Q=>∃ v r,vs=v :: r/\t v σ H fun σ' H'=>u r σ' H' Q
theorem OQ:IJ X [] Dq:=by
 intro pins s σ H vs us Q I r h
 obtain ⟨e,h⟩:=h
 subst e
 cases r
 exact assignInOrder_nil ⟨σ,H,I,h⟩
theorem Ms {e:Expr} {es:List Expr} {t:TG} {u:qL} (h1:PG X e t) (h2:IJ X es u)
  (hs:(assignEach (e :: es) X.env).map (·.2)=assign e X.env :: (assignEach es X.env).map (·.2):=by rfl):IJ X (e :: es) (yW t u):=by
 intro pins s σ H vs us Q I r h
 obtain ⟨v,vr,e1,h⟩:=h
 subst e1
 cases r with
 | cons r rr =>
  rw [hs]
  refine assignInOrder_cons (bJ (h1 pins s σ H _ _ _ I r h) fun _ s1 ⟨σ1,H1,I1,q1⟩=>?_)
  exact h2 pins s1 σ1 H1 _ _ Q I1 rr q1
noncomputable def Dy (K:PySem.W.Frag) (n:Nat) (t:qL):TG:=fun v σ H Q=>∃ a xs,v=.ref a/\eQ K H a xs/\xs.length=n/\t xs σ H Q
theorem QB {es:List Expr} {k:Nat} {t:qL} {n:Nat} (hc:X.calm=true) (h:IJ X es t)
  (hn:(assignEach es X.env).length=n:=by rfl) (hst:(assignEach es X.env).findIdx? (·.1)=none:=by rfl):PG X (.Tuple es k pos) (Dy X.K n t):=by
 intro pins s σ H v u Q I r hw
 obtain ⟨a,xs,e1,hq,hl,hw⟩:=hw
 subst e1
 cases r
 obtain ⟨its,rv,ht,hz⟩:=I.tuple hq
 refine assign_Tuple_tuple (I.ok.hd hc) ht (by simp [hn,<- hl,rv.length]) hst fun h' hx=>?_
 have I1:Inv X pins σ H { s with heap:=h' }:=I.kept (t':=s.toks) fun b o e=>hx b o (Nat.ne_of_lt (Heap.lt_size e)) e
 exact h pins _ σ H xs _ Q I1 (by simpa using rv) hw
noncomputable def Gy (te:TE) (g:TG):TS:=fun D σ H=>te σ H fun x H1=>g x σ H1 D.nx
theorem PC {tg e:Expr} {te:TE} {g:TG} (he:PE X e te) (hg:PG X tg g) (hs:swapsWithSole [tg] e pos.line X.env=pure false:=by rfl) (hw:swappedStores [tg] e X.env=pure none:=by rfl)
  (h1:(assignEach [tg] X.env).map (·.2)=[assign tg X.env]:=by rfl):PS X (.Assign [tg] e pos) (Gy te g):=by
 intro pins s σ H D I h
 refine wpAny_Assign_stores (bJ (he pins s σ H _ I h) fun v s1 ⟨x,H1,I1,r1,q1⟩=>?_) hs hw
 rw [h1]
 exact bJ (hg pins s1 σ H1 x v _ I1 r1 q1) fun _ s2 q=>q
theorem PB {i:Nat} {x:Str} {e:Expr} {te:TE} {pos':Pos} (hN:X.N.Nodup) (hi:X.N[i]?=some x) (hx:Loc X.env.scope x) (he:PE X e te) (hs:swapsWith e (some (.Name x pos')) pos.line X.env=pure false:=by rfl) (hf:X.fn x=true\/X.env.scope.names.lookup x=some .local:=by first | exact .inl rfl | exact .inr rfl | assumption) :
  PS X (.Assign [.Name x pos'] e pos) (Gy te (tR i)):=by
 intro pins s σ H D I h
 refine wpAny_Assign_Name (bJ (he pins s σ H _ I h) fun v s1 ⟨y,H1,I1,r1,q1⟩=>?_) hs
 exact Cb I1 hN hi hx r1 (fun s2 I2=>⟨_,H1,I2,q1⟩) hf
end
section
variable {X:Cx} {pos:Pos}
noncomputable def Iv (c:TT) (tb:TS):TS:=fun D σ H=>∃ W:Nat->St->Hp->Prop,(∃ m,W m σ H)/\∀ m σ H,W m σ H ->
 c σ H fun b H1=>if b=true then ∃ N:St->Hp->Prop,(∀ σ' H',N σ' H'->∃ m',m' < m/\W m' σ' H')/\tb { D with nx:=N,ct:=N,bk:=D.nx } σ H1 else D.nx σ H1
theorem Le {c:Expr} {body:List Stmt} {tc:TT} {tb:TS} (hp:PassesOwn (model X.prog X.w) X.A X.env X.xe) (hc:PT X c tc) (hb:pM X body tb):PS X (.While c body [] pos) (Iv tc tb):=by
 intro pins s σ H D I h
 obtain ⟨W,⟨m0,w0⟩,turn⟩:=h
 refine wpAny_While (codeAny_whileLoop (fun n s'=>∃ σ' H',Inv X pins σ' H' s'/\W n σ' H') ?_ m0 ⟨σ,H,I,w0⟩)
 rintro n s1 ⟨σ1,H1,I1,w1⟩
 refine wpAny_passesOwn hp (bJ (hc pins s1 σ1 H1 _ I1 (turn n σ1 H1 w1)) fun b s2 ⟨H2,I2,q2⟩=>?_)
 cases b with
 | true =>
  obtain ⟨N,hN,q2⟩:=q2
  rw [if_pos rfl]
  refine wpAny_passesOwn hp (bJ (hb pins s2 σ1 H2 _ I2 q2) fun f s3 q3=>?_)
  cases f with
  | next =>
   obtain ⟨σ3,H3,I3,n3⟩:=q3
   obtain ⟨m',hm,w3⟩:=hN σ3 H3 n3
   exact ⟨m',hm,σ3,H3,I3,w3⟩
  | cont =>
   obtain ⟨σ3,H3,I3,n3⟩:=q3
   obtain ⟨m',hm,w3⟩:=hN σ3 H3 n3
   exact ⟨m',hm,σ3,H3,I3,w3⟩
  | brk=>exact q3
  | ret v=>exact q3
 | false =>
  rw [if_neg Bool.false_ne_true]
  exact wpAny_execs_nil ⟨σ1,H2,I2,q2⟩
end
structure It where
 go:Nat->Hp->Prop
 yld:Nat->Hp->V->Hp->Prop
 stop:Nat->Hp->Prop
noncomputable def tD (X:Cx) (pins:List (Addr × Obj)) (H:Hp) (b:Addr):Prop :=
 H b=none/\b≠X.env.locals/\b ∉ X.fs/\(b∈X.ex\/X.s₀.heap.objs.size<=b)/\(∀ x c,X.env.cells.lookup x=some c->c≠b)/\∀ p∈X.pn++pins,p.1≠b
theorem Inv.fpOk {X:Cx} {pins:List (Addr × Obj)} {σ:St} {H H':Hp} {s:Shared} {b:Addr} (I:Inv X pins σ H s) (hb:s.heap.objs.size<=b) (hn:H' b=none):tD X pins H' b:=by
 refine ⟨hn,Nat.ne_of_gt (Nat.lt_of_lt_of_le I.lt hb),I.nofs hb,.inr (Nat.le_trans I.sz hb),fun x c e z=>?_,fun p hp z=>?_⟩
 ·obtain ⟨v,q⟩:=I.cell x c e
  exact absurd (Nat.lt_of_lt_of_le q.lt (by rw [z];exact hb)) (Nat.lt_irrefl _)
 ·exact absurd (Nat.lt_of_lt_of_le (Heap.lt_size (I.pin p hp).1) (by rw [z];exact hb)) (Nat.lt_irrefl _)
structure Turn (P:Program) (w:World) (K:PySem.W.Frag) (tg:Expr) (J:It) (fp:List Addr) (it:Addr) (tn:Nat->Heap->Prop):Prop where
 mem:it∈fp
 obj:∀ i h,tn i h->∀ b∈fp,∃ o,h.get? b=some o/\∀ v,o.data≠.cell v
 keep:∀ i h h',tn i h->(∀ b∈fp,∀ o,h.get? b=some o->h'.get? b=some o)->tn i h'
 item:∀ (X:Cx),X.prog=P->X.w=w->X.K=K->X.calm=true->∀ (i:Nat) (pins:List (Addr × Obj)) (s:Shared) (σ:St) (H:Hp) (E:Value->Shared->Prop),Inv X pins σ H s->(∀ b∈fp,tD X pins H b)->tn i s.heap->J.go i H ->
  wpAny (model P w) X.A (pyNext (.ref it)) (fun r s1=>∃ u,r=some u /\
   wpAny (model P w) X.A (letOwnedTupleGo tg (.ref it) u) (fun _ s2=>∃ x H',Inv X pins σ H' s2/\RelV x u/\J.yld i H x H'/\tn (i + 1) s2.heap/\∀ b∈fp,H' b=none) E s1) E s
 done:∀ (X:Cx),X.prog=P->X.w=w->X.K=K->X.calm=true->∀ (i:Nat) (pins:List (Addr × Obj)) (s:Shared) (σ:St) (H:Hp) (E:Value->Shared->Prop),Inv X pins σ H s->(∀ b∈fp,tD X pins H b)->tn i s.heap->J.stop i H ->
  wpAny (model P w) X.A (pyNext (.ref it)) (fun r s1=>r=none/\Inv X pins σ H s1) E s
 self:∀ (A:Around) (i:Nat) (s:Shared) (Q:Value->Shared->Prop) (E:Value->Shared->Prop),tn i s.heap->Q (.ref it) s->wpAny (model P w) A (pyIter (.ref it)) Q E s
abbrev TI:=St->Hp->(It->Hp->Prop)->Prop
noncomputable def S7 (X:Cx) (pins:List (Addr × Obj)) (σ:St) (tg:Expr) (R:It->Hp->Prop) (itv:Value) (s2:Shared):Prop :=
 ∃ (it:Addr) (fp:List Addr) (tn:Nat->Heap->Prop) (J:It) (H':Hp),itv=.ref it/\Inv X pins σ H' s2/\Turn X.prog X.w X.K tg J fp it tn/\tn 0 s2.heap/\(∀ b∈fp,tD X pins H' b)/\R J H'
noncomputable def PI (X:Cx) (tg iter:Expr) (wi:TI):Prop :=
 ∀ (pins:List (Addr × Obj)) (s:Shared) (σ:St) (H:Hp) (R:It->Hp->Prop),Inv X pins σ H s->wi σ H R ->
  wpAny (model X.prog X.w) X.A (eval iter X.env) (fun v s1=>wpAny (model X.prog X.w) X.A (pyIter v) (S7 X pins σ tg R) X.xe s1) X.xe s
theorem BU {M:Model} {A:Around} {E:Value->Shared->Prop} {s:Shared} {tg:Expr} {it:Addr} {u:Value} {o:Obj} {n:String} {vs:Array Value} {Q:Unit->Shared->Prop} (ho:s.heap.get? it=some o) (hc:o.cls=.type n) (hd:o.data=.fields vs)
    (hn:["enumerate","zip","dict_itemiterator","dict_reverseitemiterator","odict_iterator","itertools.zip_longest","itertools.pairwise"].contains n=false) (hQ:Q () s):wpAny M A (letOwnedTupleGo tg (.ref it) u) Q E s:=by
  unfold letOwnedTupleGo
  cases tg <;> first
    | exact wpAny_pure hQ
    | (cases u <;> first
        | exact wpAny_pure hQ
        | (refine wpAny_bind (wpAny_load ho ?_)
           rw [hc,hd]
           show wpAny M A (if (["enumerate","zip","dict_itemiterator","dict_reverseitemiterator","odict_iterator","itertools.zip_longest","itertools.pairwise"].contains n && vs[0]? == some (rawInt _))=true then _ else _) Q E s
           rw [if_neg (by intro h;rw [hn,Bool.false_and] at h;cases h)]
           exact wpAny_pure hQ))
noncomputable def Nh (K:PySem.W.Frag) (a:Addr):It :=
 ⟨fun i H=>∃ xs x,eH K H a xs/\xs[i]?=some x,fun i H x H'=>H'=H/\∀ xs,eH K H a xs->xs[i]?=some x,fun i H=>∃ xs,eH K H a xs/\xs.length<=i⟩
noncomputable def P5 (K:PySem.W.Frag) (a:Addr):It :=
 ⟨fun i H=>∃ xs x,eQ K H a xs/\xs[i]?=some x,fun i H x H'=>H'=H/\∀ xs,eQ K H a xs->xs[i]?=some x,fun i H=>∃ xs,eQ K H a xs/\xs.length<=i⟩
noncomputable def Nn (lo:Int) (n:Nat):It:=⟨fun i _=>i < n,fun i H x H'=>H'=H/\x=.int (lo + i),fun i _=>n<=i⟩
theorem ID {P:Program} {w:World} {K:PySem.W.Frag} {tg:Expr} (a it:Addr):Turn P w K tg (Nh K a) [it] it (fun i h=>h.IsListIter it a i) where
 mem:=by simp
 obj:=fun i h st b hb=>by
  have e:b=it:=by simpa using hb
  subst e
  obtain ⟨o,e,c,d⟩:=st
  exact ⟨o,e,fun v z=>by rw [d] at z;cases z⟩
 keep:=fun i h h' st k=>st.at fun o e=>k it (by simp) o e
 item:=by
  intro X hP hw hK hc i pins s σ H E I hf st hg
  subst hP hw hK
  obtain ⟨xs,x,hq,hx⟩:=hg
  obtain ⟨its,rv,p,hz⟩:=I.list hq
  obtain ⟨u,hu,ru⟩:=rv.get hx
  obtain ⟨f0,f1,f2,f3,f4,f5⟩:=hf it (by simp)
  refine wpAny_pyNext_list_item st p.isList (x:=u) (by simpa using hu) fun h' st' sb=>?_
  have I1:Inv X pins σ H { s with heap:=h' }:=I.turned (t':=s.toks) (fun b o hb e=>(sb.2 b hb).trans e) f0 f1 f3 f4 f5
  obtain ⟨o,e,c,d⟩:=id st'
  exact ⟨u,rfl,BU (s:={ s with heap:=h' }) e c d (by decide) ⟨x,H,I1,ru,⟨rfl,fun ys hy=>by rw [I.list_inj hy hq];exact hx⟩,st',fun b hb=>(hf b hb).1⟩⟩
 done:=by
  intro X hP hw hK hc i pins s σ H E I hf st hg
  subst hP hw hK
  obtain ⟨xs,hq,hx⟩:=hg
  obtain ⟨its,rv,p,hz⟩:=I.list hq
  obtain ⟨f0,f1,f2,f3,f4,f5⟩:=hf it (by simp)
  have hl:=rv.length
  exact wpAny_pyNext_list_end (I.ok.hd hc) st p.isList (by simp;omega) fun h' eb=>⟨rfl,I.turned (t':=s.toks) (fun b o hb e=>eb b o hb e) f0 f1 f3 f4 f5⟩
 self:=fun _ _ _ _ _ st h=>wpAny_pyIter_listiter st h
theorem Ho {P:Program} {w:World} {K:PySem.W.Frag} {tg:Expr} (a it:Addr):Turn P w K tg (P5 K a) [it] it (fun i h=>h.IsTupleIter it a i) where
 mem:=by simp
 obj:=fun i h st b hb=>by
  have e:b=it:=by simpa using hb
  subst e
  obtain ⟨o,e,c,d⟩:=st
  exact ⟨o,e,fun v z=>by rw [d] at z;cases z⟩
 keep:=fun i h h' st k=>st.at fun o e=>k it (by simp) o e
 item:=by
  intro X hP hw hK hc i pins s σ H E I hf st hg
  subst hP hw hK
  obtain ⟨xs,x,hq,hx⟩:=hg
  obtain ⟨its,rv,p,hz⟩:=I.tuple hq
  obtain ⟨u,hu,ru⟩:=rv.get hx
  obtain ⟨f0,f1,f2,f3,f4,f5⟩:=hf it (by simp)
  refine wpAny_pyNext_tuple_item st (show s.heap.IsTuple a its.toArray from p) (x:=u) (by simpa using hu) fun h' st' sb=>?_
  have I1:Inv X pins σ H { s with heap:=h' }:=I.turned (t':=s.toks) (fun b o hb e=>(sb.2 b hb).trans e) f0 f1 f3 f4 f5
  obtain ⟨o,e,c,d⟩:=id st'
  exact ⟨u,rfl,BU (s:={ s with heap:=h' }) e c d (by decide) ⟨x,H,I1,ru,⟨rfl,fun ys hy=>by rw [I.tuple_inj hy hq];exact hx⟩,st',fun b hb=>(hf b hb).1⟩⟩
 done:=by
  intro X hP hw hK hc i pins s σ H E I hf st hg
  subst hP hw hK
  obtain ⟨xs,hq,hx⟩:=hg
  obtain ⟨its,rv,p,hz⟩:=I.tuple hq
  obtain ⟨f0,f1,f2,f3,f4,f5⟩:=hf it (by simp)
  have hl:=rv.length
  exact wpAny_pyNext_tuple_end (I.ok.hd hc) st (show s.heap.IsTuple a its.toArray from p) (by simp;omega) fun h' eb=>⟨rfl,I.turned (t':=s.toks) (fun b o hb e=>eb b o hb e) f0 f1 f3 f4 f5⟩
 self:=fun _ _ _ _ _ st h=>wpAny_pyIter_tupleiter st h
theorem F9 {P:Program} {w:World} {K:PySem.W.Frag} {tg:Expr} (it:Addr) (lo:Int) (n:Nat):Turn P w K tg (Nn lo n) [it] it (fun i h=>IsRangeIter h it (lo + (i:Nat) * 1) ((n:Int) - (i:Nat)) 1) where
 mem:=by simp
 obj:=fun i h st b hb=>by
  have e:b=it:=by simpa using hb
  subst e
  exact ⟨_,st,fun v z=>by
   have z':Data.fields _=Data.cell v:=z
   cases z'⟩
 keep:=fun i h h' st k=>k it (by simp) _ st
 item:=by
  intro X hP hw hK hc i pins s σ H E I hf st hg
  subst hP hw hK
  obtain ⟨f0,f1,f2,f3,f4,f5⟩:=hf it (by simp)
  have W:=Walks.range (prog:=X.prog) (w:=X.w) (I.ok.hd hc) it lo 1 n
  refine W.item i s _ _ hg st fun v h' tk hv st' kk=>?_
  obtain ⟨t,rfl⟩:=hv
  have I1:Inv X pins σ H { s with heap:=h',toks:=tk }:=I.turned (fun b o hb e=>kk b o (by simpa using hb) e) f0 f1 f3 f4 f5
  refine ⟨_,rfl,BU (s:={ s with heap:=h',toks:=tk }) (n:="range_iterator") st' rfl rfl (by decide) ⟨.int (lo + i),H,I1,⟨t,?_⟩,⟨rfl,rfl⟩,st',fun b hb=>(hf b hb).1⟩⟩
  rw [Int.mul_one]
 done:=by
  intro X hP hw hK hc i pins s σ H E I hf st hg
  subst hP hw hK
  obtain ⟨f0,f1,f2,f3,f4,f5⟩:=hf it (by simp)
  exact wpAny_pyNext_range_end (I.ok.hd hc) st (by have:n<=i:=hg;omega) fun h' eb=>⟨rfl,I.turned (t':=s.toks) (fun b o hb e=>eb b o hb e) f0 f1 f3 f4 f5⟩
 self:=fun _ _ _ _ _ st h=>wpAny_pyIter_rangeiter st h
section
variable {X:Cx} {tg:Expr}
theorem Mw {pins:List (Addr × Obj)} {σ:St} {H:Hp} {s:Shared} {R:It->Hp->Prop} {E:Value->Shared->Prop} {lo hi:Int} {t u v:Tok} {tk:Nat} (I:Inv X pins σ H s) (h1:-(2 ^ 62)<=lo) (h2:lo < 2 ^ 62) (h3:-(2 ^ 62)<=hi) (h4:hi < 2 ^ 62)
  (q:R (Nn lo (hi - lo).toNat) H):wpAny (model X.prog X.w) X.A (pyIter (.ref s.heap.objs.size)) (S7 X pins σ tg R) E { s with heap:=s.heap.push { cls:=.type "range",data:=.fields #[.int lo t,.int hi u,.int 1 v] },toks:=tk }:=by
 refine wpAny_pyIter_range (IsRange.new ..) (small_one h1 h2 h3 h4) ?_
 have I1:Inv X pins σ H { s with heap:=s.heap.push { cls:=.type "range",data:=.fields #[.int lo t,.int hi u,.int 1 v] },toks:=tk }:=I.kept fun b o e=>Heap.get?_push_of_some _ e
 refine ⟨(s.heap.push { cls:=.type "range",data:=.fields #[.int lo t,.int hi u,.int 1 v] }).objs.size,[(s.heap.push { cls:=.type "range",data:=.fields #[.int lo t,.int hi u,.int 1 v] }).objs.size],_,_,H,rfl,
  I1.kept (t':=tk) fun b o e=>Heap.get?_push_of_some _ e,F9 _ lo (hi - lo).toNat,?_,fun b hb=>?_,q⟩
 ·have e1:lo + ((0:Nat):Int) * 1=lo:=by simp
  have e2:(((hi - lo).toNat:Nat):Int) - ((0:Nat):Int)=Builtin.Range.rangeSize lo hi 1:=by rw [rangeSize_one];split <;> omega
  show IsRangeIter _ _ (lo + ((0:Nat):Int) * 1) ((((hi - lo).toNat:Nat):Int) - ((0:Nat):Int)) 1
  rw [e1,e2]
  exact Heap.get?_push_size _ rfl
 ·have e:b=(s.heap.push { cls:=.type "range",data:=.fields #[.int lo t,.int hi u,.int 1 v] }).objs.size:=by simpa using hb
  subst e
  exact I1.fpOk (Nat.le_refl _) (I1.hok.fresh (Nat.le_refl _))
noncomputable def MR (ta:TA):TI:=fun σ H R=>ta σ H fun vs H1=>∃ j:Int,vs=[.int j]/\-(2 ^ 62)<=j/\j < 2 ^ 62/\R (Nn 0 j.toNat) H1
theorem IP {a:Expr} {ta:TA} {p pos:Pos} (hg:Gl X "range") (hm:X.mg "range"=none) (ha:PA X [a] ta) (hs:starEach [a] X.env=[(false,eval a X.env)]:=by rfl):PI X tg (.Call (.Name "range" p) [a] [] pos) (MR ta):=by
 intro pins s σ H R I h
 refine Call_ (mW I hg hm boot_range (PyProof.Rows.callWith_type1 (bJ (ha pos pins s σ H _ I h) fun us s1 ⟨vs,H1,I1,r1,q1⟩=>?_) hs rfl))
 obtain ⟨j,e,q1,q2,q⟩:=q1
 subst e
 cases r1 with
 | cons r rr =>
  cases rr
  obtain ⟨t,rfl⟩:=r
  exact call_range_1 (Mw I1 (by omega) (by omega) q1 q2 (by simpa using q))
noncomputable def Rm (wi:TI) (g:TG) (tb:TS):TS:=fun D σ H=>wi σ H fun J H1=>∃ W:Nat->Nat->St->Hp->Prop,(∃ m,W 0 m σ H1)/\∀ i m σ H,W i m σ H ->
 (J.stop i H/\D.nx σ H)\/(J.go i H/\∃ N:St->Hp->Prop,(∀ σ' H',N σ' H'->∃ m',m' < m/\W (i + 1) m' σ' H')/\∀ x H',J.yld i H x H'->g x σ H' fun σ2 H2=>tb { D with nx:=N,ct:=N,bk:=D.nx } σ2 H2)
noncomputable def u6 (fp:List Addr) (h:Heap):List (Addr × Obj):=fp.filterMap fun b=>(h.get? b).map fun o=>(b,o)
theorem pJ {fp:List Addr} {h:Heap} {b:Addr} {o:Obj} (hb:b∈fp) (e:h.get? b=some o):(b,o)∈u6 fp h:=List.mem_filterMap.mpr ⟨b,hb,by rw [e];rfl⟩
theorem Kq {fp:List Addr} {h:Heap} {p:Addr × Obj} (hp:p∈u6 fp h):p.1∈fp/\h.get? p.1=some p.2:=by
 obtain ⟨b,hb,e⟩:=List.mem_filterMap.mp hp
 cases q:h.get? b with
 | none=>rw [q] at e;cases e
 | some o =>
  rw [q] at e
  have e':(b,o)=p:=Option.some.inj e
  subst e'
  exact ⟨hb,q⟩
theorem Inv.pinned {pins:List (Addr × Obj)} {σ:St} {H:Hp} {s:Shared} {fp:List Addr} (I:Inv X pins σ H s) (hf:∀ b∈fp,tD X pins H b) (ho:∀ b∈fp,∃ o,s.heap.get? b=some o/\∀ v,o.data≠.cell v):Inv X (pins++u6 fp s.heap) σ H s :=
 I.pins_of fun p hp=>(List.mem_append.mp hp).elim (fun z=>I.pin p (List.mem_append_right _ z)) fun z=>by
  obtain ⟨hb,e⟩:=Kq z
  obtain ⟨f0,f1,f2,_⟩:=hf p.1 hb
  obtain ⟨o,e',d⟩:=ho p.1 hb
  rw [e] at e';cases e'
  exact ⟨e,f0,f1,f2,d⟩
theorem Inv.unpinned {pins pl:List (Addr × Obj)} {σ:St} {H:Hp} {s:Shared} (I:Inv X (pins++pl) σ H s):Inv X pins σ H s:=I.pins_of fun p hp=>I.pin p (List.mem_append_right _ (List.mem_append_left _ hp))
theorem Qs {iter:Expr} {body:List Stmt} {wi:TI} {g:TG} {tb:TS} {pos:Pos} (hp:PassesOwn (model X.prog X.w) X.A X.env X.xe) (hc:X.calm=true) (hi:PI X tg iter wi) (hg:PG X tg g) (hb:pM X body tb)
  (hs:∀ x,foldedSetIterable iter X.env x=pure x:=by intro _;rfl):PS X (.For tg iter body [] pos) (Rm wi g tb):=by
 intro pins s σ H D I h
 refine wpAny_For (bJ (hi pins s σ H _ I h) fun v s1 h1=>bJ h1 fun itv s2 h2=>?_) hs
 obtain ⟨it,fp,tn,J,H2,e,I2,T,st2,f2,W,⟨m0,w0⟩,turn⟩:=h2
 subst e
 have stat:∀ {H':Hp},(∀ b∈fp,H' b=none)->∀ b∈fp,tD X pins H' b:=fun hn b hb=>⟨hn b hb,(f2 b hb).2⟩
 refine codeAny_forLoop_any (fun n s'=>∃ i σ' H',Inv X pins σ' H' s'/\tn i s'.heap/\(∀ b∈fp,H' b=none)/\W i n σ' H') ?_ m0 ⟨0,σ,H2,I2,st2,fun b hb=>(f2 b hb).1,w0⟩
 rintro n s3 ⟨i,σ3,H3,I3,st3,fr3,w3⟩
 rcases turn i n σ3 H3 w3 with ⟨stop,qn⟩ | ⟨go,N,hN,step⟩
 ·refine wpAny_passesOwn hp (bJ (T.done X rfl rfl rfl hc i pins s3 σ3 H3 X.xe I3 (stat fr3) st3 stop) fun r s4 ⟨hr,I4⟩=>?_)
  subst hr
  exact wpAny_execs_nil ⟨σ3,H3,I4,qn⟩
 ·refine wpAny_passesOwn hp (bJ (T.item X rfl rfl rfl hc i pins s3 σ3 H3 X.xe I3 (stat fr3) st3 go) fun r s4 ⟨u,hr,h4⟩=>?_)
  subst hr
  refine wpAny_passesOwn hp (bJ h4 fun _ s5 ⟨x,H5,I5,r5,y5,st5,fr5⟩=>?_)
  have I5':=I5.pinned (stat fr5) (T.obj _ _ st5)
  refine wpAny_passesOwn hp (bJ (hg _ s5 σ3 H5 x u _ I5' r5 (step x H5 y5)) fun _ s6 ⟨σ6,H6,I6,q6⟩=>?_)
  refine wpAny_passesOwn hp (bJ (hb _ s6 σ6 H6 _ I6 q6) fun f s7 q7=>?_)
  have again:∀ {σ7:St} {H7:Hp},Inv X (pins++u6 fp s5.heap) σ7 H7 s7->N σ7 H7->∃ m,m < n/\∃ i σ' H',Inv X pins σ' H' s7/\tn i s7.heap/\(∀ b∈fp,H' b=none)/\W i m σ' H':=fun {σ7 H7} I7 n7=>by
   obtain ⟨m',hm,w7⟩:=hN σ7 H7 n7
   refine ⟨m',hm,i + 1,σ7,H7,I7.unpinned,T.keep _ _ _ st5 fun b hb o e=>(I7.pin (b,o) (List.mem_append_right _ (List.mem_append_right _ (pJ hb e)))).1,fun b hb=>?_,w7⟩
   obtain ⟨o,e,d⟩:=T.obj _ _ st5 b hb
   exact (I7.pin (b,o) (List.mem_append_right _ (List.mem_append_right _ (pJ hb e)))).2.1
  cases f with
  | next=>obtain ⟨σ7,H7,I7,n7⟩:=q7;exact again I7 n7
  | cont=>obtain ⟨σ7,H7,I7,n7⟩:=q7;exact again I7 n7
  | brk=>obtain ⟨σ7,H7,I7,q7⟩:=q7;exact ⟨σ7,H7,I7.unpinned,q7⟩
  | ret v=>obtain ⟨x7,σ7,H7,I7,r7,q7⟩:=q7;exact ⟨x7,σ7,H7,I7.unpinned,r7,q7⟩
end
abbrev R2:=V->V->Hp->VK->Prop
noncomputable def cY (X:Cx) (f:Value->Value->Sem Value) (r:R2):Prop :=
 ∀ (pins:List (Addr × Obj)) (s:Shared) (σ:St) (H:Hp) (x y:V) (v u:Value) (Q:VK),Inv X pins σ H s->RelV x v->RelV y u->r x y H Q ->
  wpAny (model X.prog X.w) X.A (f v u) (EP X pins σ Q) X.xe s
noncomputable def QF (X:Cx) (f:Value->Sem Value) (r:V->Hp->VK->Prop):Prop :=
 ∀ (pins:List (Addr × Obj)) (s:Shared) (σ:St) (H:Hp) (x:V) (v:Value) (Q:VK),Inv X pins σ H s->RelV x v->r x H Q ->
  wpAny (model X.prog X.w) X.A (f v) (EP X pins σ Q) X.xe s
noncomputable def jB (X:Cx) (f:Value) (r:List V->Hp->VK->Prop):Prop :=
 ∀ (pins:List (Addr × Obj)) (s:Shared) (σ:St) (H:Hp) (xs:List V) (us:List Value) (Q:VK),Inv X pins σ H s->Vals xs us->r xs H Q ->
  wpAny (model X.prog X.w) X.A (call f us) (EP X pins σ Q) X.xe s
noncomputable def Tq (X:Cx) (r:V->Hp->(Bool->Hp->Prop)->Prop):Prop :=
 ∀ (pins:List (Addr × Obj)) (s:Shared) (σ:St) (H:Hp) (x:V) (v:Value) (Q:Bool->Hp->Prop),Inv X pins σ H s->RelV x v->r x H Q ->
  wpAny (model X.prog X.w) X.A (truthy v) (TP X pins σ Q) X.xe s
noncomputable def Fg (r:R2) (ta tb:TE):TE:=fun σ H Q=>ta σ H fun x H1=>tb σ H1 fun y H2=>r x y H2 Q
noncomputable def SJ (r:V->Hp->VK->Prop) (ta:TE):TE:=fun σ H Q=>ta σ H fun x H1=>r x H1 Q
noncomputable def rI (C:Int->Int->Prop) (g:Int->Int->V):R2:=fun x y H Q=>∃ i j,x=.int i/\y=.int j/\C i j/\Q (g i j) H
noncomputable def t4 (g:Int->Int->V):R2:=fun x y H Q=>∃ i j,x=.int i/\y=.int j/\Q (g i j) H
noncomputable def rU (g:Int->V):V->Hp->VK->Prop:=fun x H Q=>∃ i,x=.int i/\Q (g i) H
section
variable {X:Cx} {a b c:Expr} {ta tb tc:TE} {pos:Pos}
theorem GB (ha:PE X a ta) (hb:PE X b tb) {pins:List (Addr × Obj)} {s:Shared} {σ:St} {H:Hp} {R:V->V->Hp->Prop} (I:Inv X pins σ H s)
  (h:ta σ H fun x H1=>tb σ H1 fun y H2=>R x y H2) {Q:Value->Shared->Prop} {f:Value->Value->Sem Value}
  (hf:∀ v u s2 x y H2,Inv X pins σ H2 s2->RelV x v->RelV y u->R x y H2->wpAny (model X.prog X.w) X.A (f v u) Q X.xe s2) :
  wpAny (model X.prog X.w) X.A (eval a X.env) (fun v s₁=>wpAny (model X.prog X.w) X.A (eval b X.env) (fun u s₂=>wpAny (model X.prog X.w) X.A (f v u) Q X.xe s₂) X.xe s₁) X.xe s:=by
 refine bJ (ha pins s σ H _ I h) fun v s1 ⟨x,H1,I1,r1,q1⟩=>?_
 refine bJ (hb pins s1 σ H1 _ I1 q1) fun u s2 ⟨y,H2,I2,r2,q2⟩=>?_
 exact hf v u s2 x y H2 I2 r1 r2 q2
theorem Sg {op:Operator} {r:R2} (ho:cY X (binaryOp op) r) (ha:PE X a ta) (hb:PE X b tb):PE X (.BinOp a op b pos) (Fg r ta tb):=by
 intro pins s σ H Q I h
 exact wpAny_BinOp (GB ha hb I h fun v u s2 x y H2 I2 rx ry q=>ho pins s2 σ H2 x y v u Q I2 rx ry q)
theorem Sv {op:UnaryOp} {r:V->Hp->VK->Prop} (ho:QF X (unaryOp op) r) (ha:PE X a ta):PE X (.UnaryOp op a pos) (SJ r ta):=by
 intro pins s σ H Q I h
 exact UnaryOp_ (bJ (ha pins s σ H _ I h) fun v s1 ⟨x,H1,I1,r1,q1⟩=>ho pins s1 σ H1 x v Q I1 r1 q1)
theorem Nb {f:Value->Value->Sem Value} {C:Int->Int->Prop} {g:Int->Int->Int}
  (rule:∀ (i j:Int) (t u:Tok) (s:Shared) (Q:Value->Shared->Prop) (E:Value->Shared->Prop),C i j->Q (.int (g i j) s.toks) { s with toks:=s.toks + 1 }->wpAny (model X.prog X.w) X.A (f (.int i t) (.int j u)) Q E s) :
  cY X f (rI C fun i j=>.int (g i j)):=by
 intro pins s σ H x y v u Q I rx ry h
 obtain ⟨i,j,rfl,rfl,hc,q⟩:=h
 obtain ⟨t,rfl⟩:=rx
 obtain ⟨t',rfl⟩:=ry
 exact rule i j t t' s _ _ hc ⟨.int (g i j),H,I.tok _,⟨_,rfl⟩,q⟩
theorem PL {f:Value->Value->Sem Value} {g:Int->Int->Int}
  (rule:∀ (i j:Int) (t u:Tok) (s:Shared) (Q:Value->Shared->Prop) (E:Value->Shared->Prop),Q (.int (g i j) s.toks) { s with toks:=s.toks + 1 }->wpAny (model X.prog X.w) X.A (f (.int i t) (.int j u)) Q E s) :
  cY X f (t4 fun i j=>.int (g i j)):=by
 intro pins s σ H x y v u Q I rx ry h
 obtain ⟨i,j,rfl,rfl,q⟩:=h
 obtain ⟨t,rfl⟩:=rx
 obtain ⟨t',rfl⟩:=ry
 exact rule i j t t' s _ _ ⟨.int (g i j),H,I.tok _,⟨_,rfl⟩,q⟩
theorem GI {f:Value->Value->Sem Value} {g:Int->Int->Bool}
  (rule:∀ (i j:Int) (t u:Tok) (s:Shared) (Q:Value->Shared->Prop) (E:Value->Shared->Prop),Q (.bool (g i j)) s->wpAny (model X.prog X.w) X.A (f (.int i t) (.int j u)) Q E s) :
  cY X f (t4 fun i j=>.bl (g i j)):=by
 intro pins s σ H x y v u Q I rx ry h
 obtain ⟨i,j,rfl,rfl,q⟩:=h
 obtain ⟨t,rfl⟩:=rx
 obtain ⟨t',rfl⟩:=ry
 exact rule i j t t' s _ _ ⟨.bl (g i j),H,I,rfl,q⟩
noncomputable def xH (i j:Int):Prop:=0<=j/\j<=1000000/\i.natAbs < 2 ^ 64
noncomputable def Mb (i j:Int):Prop:=(-(2 ^ 64) < i/\i < 2 ^ 64)\/(-(2 ^ 64) < j/\j < 2 ^ 64)
theorem Mb.ok {i j:Int} (h:Mb i j):IntMulOk i j:=by
 rcases h with ⟨h1,h2⟩ | ⟨h1,h2⟩
 ·exact .of_left (intBits_le_64 h1 h2)
 ·exact .of_right (intBits_le_64 h1 h2)
theorem Sm (k:Nat):(0:Int)<=2 ^ k:=by
 rw [two_pow_cast]
 exact Int.natCast_nonneg _
theorem QW:cY X (binaryOp .Add) (t4 fun i j=>.int (i + j)):=PL fun _ _ _ _ _ _ _ q=>add_int q
theorem QM:cY X (binaryOp .Sub) (t4 fun i j=>.int (i - j)):=PL fun _ _ _ _ _ _ _ q=>sub_int q
theorem P0:cY X (binaryOp .Mod) (rI (fun _ j=>0 < j) fun i j=>.int (i % j)):=Nb fun i j _ _ _ _ _ hc q=>by
 have h1:(0:Int) < j:=hc
 exact mod_int' (by omega) (by rw [Int.fmod_eq_emod_of_nonneg i (by omega)];exact q)
theorem Ru:cY X (binaryOp .Pow) (rI xH fun i j=>.int (i ^ j.toNat)):=Nb fun _ _ _ _ _ _ _ hc q=>pow_int_small hc.1 hc.2.1 hc.2.2 q
theorem TQ {f:Value->Sem Value} {g:Int->Int}
  (rule:∀ (i:Int) (t:Tok) (s:Shared) (Q:Value->Shared->Prop) (E:Value->Shared->Prop),Q (.int (g i) s.toks) { s with toks:=s.toks + 1 }->wpAny (model X.prog X.w) X.A (f (.int i t)) Q E s) :
  QF X f (rU fun i=>.int (g i)):=by
 intro pins s σ H x v Q I rx h
 obtain ⟨i,rfl,q⟩:=h
 obtain ⟨t,rfl⟩:=rx
 exact rule i t s _ _ ⟨.int (g i),H,I.tok _,⟨_,rfl⟩,q⟩
theorem QI:QF X (unaryOp .USub) (rU fun i=>.int (-i)):=TQ fun _ _ _ _ _ q=>neg_int q
end
noncomputable def HA:V->V->Bool
 | .non,.non=>true | .non,.int _=>true | .int _,.non=>true | .non,.bl _=>true | .bl _,.non=>true | .non,.str _=>true | .str _,.non=>true
 | .int _,.int _=>true | .bl _,.bl _=>true | .str _,.str _=>true | .byt _,.byt _=>true
 | .int _,.str _=>true | .str _,.int _=>true | .bl _,.str _=>true | .str _,.bl _=>true
 | _,_=>false
noncomputable def TK:R2:=fun x y H Q=>HA x y=true/\Q (.bl (decide (x=y))) H
noncomputable def T2:R2:=fun x y H Q=>HA x y=true/\Q (.bl (!decide (x=y))) H
theorem FP {i j:Int}:decide (V.int i=V.int j)=(i == j):=by
 rw [Bool.eq_iff_iff]
 simp
theorem Kc {i j:Bool}:decide (V.bl i=V.bl j)=(i == j):=by
 rw [Bool.eq_iff_iff]
 simp
theorem E4 {i j:Str}:decide (V.str i=V.str j)=(i == j):=by
 rw [Bool.eq_iff_iff]
 simp
theorem FU {i j:Array UInt8}:decide (V.byt i=V.byt j)=(i.toList == j.toList):=by
 rw [Bool.eq_iff_iff]
 cases i
 cases j
 simp
section
variable {X:Cx} {a b c:Expr} {ta tb tc:TE} {pos:Pos}
theorem cA {pins:List (Addr × Obj)} {σ:St} {H:Hp} {s:Shared} {Q:VK} {k k':Bool} (I:Inv X pins σ H s) (q:Q (.bl k) H) (e:k=k'):EP X pins σ Q (.bool k') s:=by
 subst e
 exact ⟨.bl k,H,I,rfl,q⟩
theorem Sf:cY X (compareOp .Eq) TK:=by
 intro pins s σ H x y v u Q I rx ry h
 obtain ⟨hs,q⟩:=h
 cases x with
 | non =>
  cases rx
  cases y with
  | non=>cases ry;exact PySem.EqNone.eq_none_none (cA I q (by simp))
  | bl j=>cases ry;exact PySem.EqNone.eq_none_bool (cA I q (by simp))
  | int j=>obtain ⟨t',rfl⟩:=ry;exact PySem.EqNone.eq_none_int (cA I q (by simp))
  | str j=>obtain ⟨t',rfl⟩:=ry;exact PySem.EqNone.eq_none_str (cA I q (by simp))
  | _=>exact absurd (show false=true from hs) Bool.false_ne_true
 | bl i =>
  cases rx
  cases y with
  | non=>cases ry;exact PySem.EqNone.eq_bool_none (cA I q (by simp))
  | bl j=>cases ry;exact eq_bool (cA I q Kc)
  | str j=>obtain ⟨t',rfl⟩:=ry;exact PySem.EqMixed.eq_bool_str (cA I q (by simp))
  | _=>exact absurd (show false=true from hs) Bool.false_ne_true
 | int i =>
  obtain ⟨t,rfl⟩:=rx
  cases y with
  | non=>cases ry;exact PySem.EqNone.eq_int_none (cA I q (by simp))
  | int j=>obtain ⟨t',rfl⟩:=ry;exact eq_int (cA I q FP)
  | str j=>obtain ⟨t',rfl⟩:=ry;exact PySem.EqMixed.eq_int_str (cA I q (by simp))
  | _=>exact absurd (show false=true from hs) Bool.false_ne_true
 | str i =>
  obtain ⟨t,rfl⟩:=rx
  cases y with
  | non=>cases ry;exact PySem.EqNone.eq_str_none (cA I q (by simp))
  | bl j=>cases ry;exact PySem.EqMixed.eq_str_bool (cA I q (by simp))
  | int j=>obtain ⟨t',rfl⟩:=ry;exact PySem.EqMixed.eq_str_int (cA I q (by simp))
  | str j=>obtain ⟨t',rfl⟩:=ry;exact eq_str (cA I q E4)
  | _=>exact absurd (show false=true from hs) Bool.false_ne_true
 | byt i =>
  obtain ⟨t,rfl⟩:=rx
  cases y with
  | byt j=>obtain ⟨t',rfl⟩:=ry;exact PySem.W.eq_bytes (cA I q FU)
  | _=>exact absurd (show false=true from hs) Bool.false_ne_true
 | _=>cases y <;> exact absurd (show false=true from hs) Bool.false_ne_true
theorem Su:cY X (compareOp .NotEq) T2:=by
 intro pins s σ H x y v u Q I rx ry h
 obtain ⟨hs,q⟩:=h
 cases x with
 | non =>
  cases rx
  cases y with
  | non=>cases ry;exact PySem.EqNone.ne_none_none (cA I q (by simp))
  | bl j=>cases ry;exact PySem.EqNone.ne_none_bool (cA I q (by simp))
  | int j=>obtain ⟨t',rfl⟩:=ry;exact PySem.EqNone.ne_none_int (cA I q (by simp))
  | str j=>obtain ⟨t',rfl⟩:=ry;exact PySem.EqNone.ne_none_str (cA I q (by simp))
  | _=>exact absurd (show false=true from hs) Bool.false_ne_true
 | bl i =>
  cases rx
  cases y with
  | non=>cases ry;exact PySem.EqNone.ne_bool_none (cA I q (by simp))
  | bl j=>cases ry;exact ne_bool (cA I q (congrArg not Kc))
  | str j=>obtain ⟨t',rfl⟩:=ry;exact PySem.EqMixed.ne_bool_str (cA I q (by simp))
  | _=>exact absurd (show false=true from hs) Bool.false_ne_true
 | int i =>
  obtain ⟨t,rfl⟩:=rx
  cases y with
  | non=>cases ry;exact PySem.EqNone.ne_int_none (cA I q (by simp))
  | int j=>obtain ⟨t',rfl⟩:=ry;exact ne_int (cA I q (congrArg not FP))
  | str j=>obtain ⟨t',rfl⟩:=ry;exact PySem.EqMixed.ne_int_str (cA I q (by simp))
  | _=>exact absurd (show false=true from hs) Bool.false_ne_true
 | str i =>
  obtain ⟨t,rfl⟩:=rx
  cases y with
  | non=>cases ry;exact PySem.EqNone.ne_str_none (cA I q (by simp))
  | bl j=>cases ry;exact PySem.EqMixed.ne_str_bool (cA I q (by simp))
  | int j=>obtain ⟨t',rfl⟩:=ry;exact PySem.EqMixed.ne_str_int (cA I q (by simp))
  | str j=>obtain ⟨t',rfl⟩:=ry;exact ne_str (cA I q (congrArg not E4))
  | _=>exact absurd (show false=true from hs) Bool.false_ne_true
 | byt i =>
  obtain ⟨t,rfl⟩:=rx
  cases y with
  | byt j=>obtain ⟨t',rfl⟩:=ry;exact PySem.W.ne_bytes (cA I q (congrArg not FU))
  | _=>exact absurd (show false=true from hs) Bool.false_ne_true
 | _=>cases y <;> exact absurd (show false=true from hs) Bool.false_ne_true
theorem Sx:cY X (compareOp .Lt) (t4 fun i j=>.bl (decide (i < j))):=GI fun _ _ _ _ _ _ _ q=>lt_int q
theorem Sq:cY X (compareOp .LtE) (t4 fun i j=>.bl (decide (i<=j))):=GI fun _ _ _ _ _ _ _ q=>le_int q
theorem Se:cY X (compareOp .Gt) (t4 fun i j=>.bl (decide (j < i))):=GI fun _ _ _ _ _ _ _ q=>gt_int q
theorem SD:cY X (compareOp .GtE) (t4 fun i j=>.bl (decide (j<=i))):=GI fun _ _ _ _ _ _ _ q=>ge_int q
theorem Io:cY X (compareOp .In) (fun x y H Q=>∃ i j,x=.str i/\y=.str j/\Q (.bl (!(Builtin.Str.occurrences j i 0 j.length 1).isEmpty)) H):=by
 intro pins s σ H x y v u Q I rx ry h
 obtain ⟨i,j,rfl,rfl,q⟩:=h
 obtain ⟨t,rfl⟩:=rx
 obtain ⟨t',rfl⟩:=ry
 exact in_str (cA I q rfl)
theorem Rg:cY X (compareOp .Is) (fun x y H Q=>y=.non/\Q (.bl (decide (x=.non))) H):=by
 intro pins s σ H x y v u Q I rx ry h
 obtain ⟨rfl,q⟩:=h
 cases ry
 refine is_none_gen (cA I q ?_)
 cases x <;> first
  | (cases rx;rfl)
  | (obtain ⟨t,rfl⟩:=rx;rfl)
theorem cY.or {f:Value->Value->Sem Value} {r r':R2} (h:cY X f r) (h':cY X f r'):cY X f (fun x y H Q=>r x y H Q\/r' x y H Q):=by
 intro pins s σ H x y v u Q I rx ry q
 rcases q with q | q
 ·exact h pins s σ H x y v u Q I rx ry q
 ·exact h' pins s σ H x y v u Q I rx ry q
theorem IM (b:Expr) {op:CmpOp} (h:op≠.In:=by decide) (h2:op≠.NotIn:=by decide):behindInMarks op b=false:=by
 have e1:(op == CmpOp.In)=false:=by cases op <;> first | rfl | exact absurd rfl h
 have e2:(op == CmpOp.NotIn)=false:=by cases op <;> first | rfl | exact absurd rfl h2
 cases b <;> simp [behindInMarks,e1,e2]
theorem NR {op:CmpOp} {r:R2} (ho:cY X (compareOp op) r) (ha:PE X a ta) (hb:PE X b tb) (hm:behindInMarks op b=false):PE X (.Compare a [op] [b] pos) (Fg r ta tb):=by
 intro pins s σ H Q I h
 exact wpAny_Compare1 (GB ha hb I h fun v u s2 x y H2 I2 rx ry q=>ho pins s2 σ H2 x y v u Q I2 rx ry q) hm
noncomputable def Hx (t:TE):TT:=fun σ H Q=>t σ H fun x H'=>∃ k,x=.bl k/\Q k H'
theorem Po {op:CmpOp} {r:R2} (ho:cY X (compareOp op) r) (ha:PE X a ta) (hb:PE X b tb) (hm:behindInMarks op b=false):PT X (.Compare a [op] [b] pos) (Hx (Fg r ta tb)):=by
 intro pins s σ H Q I h
 refine wpAny_isTrue_Compare1 (bJ (ha pins s σ H _ I h) fun v s1 ⟨x,H1,I1,r1,q1⟩=>bJ (hb pins s1 σ H1 _ I1 q1) fun u s2 ⟨y,H2,I2,r2,q2⟩ =>
  bJ (ho pins s2 σ H2 x y v u _ I2 r1 r2 q2) fun c s3 ⟨z,H3,I3,r3,k,e,q3⟩=>?_) hm
 subst e
 cases r3
 exact wpAny_truthy_bool ⟨H3,I3,q3⟩
noncomputable def Ca (r r':R2) (ta tb tc:TE):TE:=fun σ H Q=>ta σ H fun x H1=>tb σ H1 fun y H2=>r x y H2 fun z H3=>∃ k,z=.bl k /\
 (if k=true then tc σ H3 fun w' H4=>r' y w' H4 Q else Q (.bl false) H3)
theorem Ma {op op':CmpOp} {r r':R2} (ho:cY X (compareOp op) r) (ho':cY X (compareOp op') r') (ha:PE X a ta) (hb:PE X b tb) (hc:PE X c tc)
  (hm:lastMarks [op,op'] [b,c]=false:=by with_unfolding_all rfl):PE X (.Compare a [op,op'] [b,c] pos) (Ca r r' ta tb tc):=by
 intro pins s σ H Q I h
 refine Compare_chain (bJ (ha pins s σ H _ I h) fun v s1 ⟨x,H1,I1,r1,q1⟩=>chain_link (bJ (hb pins s1 σ H1 _ I1 q1) fun u s2 ⟨y,H2,I2,r2,q2⟩ =>
  bJ (ho pins s2 σ H2 x y v u _ I2 r1 r2 q2) fun d s3 ⟨z,H3,I3,r3,k,e,q3⟩=>?_)) hm
 subst e
 cases r3
 refine wpAny_truthy_bool ?_
 cases k with
 | false=>exact ite_ff ⟨.bl false,H3,I3,rfl,q3⟩
 | true=>exact ite_tt (chain_last (bJ (hc pins s3 σ H3 _ I3 q3) fun w' s4 ⟨z',H4,I4,r4,q4⟩=>ho' pins s4 σ H4 y z' u w' Q I4 r2 r4 q4))
theorem K4 {op op':CmpOp} {r r':R2} (ho:cY X (compareOp op) r) (ho':cY X (compareOp op') r') (ha:PE X a ta) (hb:PE X b tb) (hc:PE X c tc)
  (hm:lastMarks [op,op'] [b,c]=false:=by with_unfolding_all rfl):PT X (.Compare a [op,op'] [b,c] pos) (Hx (Ca r r' ta tb tc)):=by
 intro pins s σ H Q I h
 refine isTrue_chain (bJ (ha pins s σ H _ I h) fun v s1 ⟨x,H1,I1,r1,q1⟩=>test_link (bJ (hb pins s1 σ H1 _ I1 q1) fun u s2 ⟨y,H2,I2,r2,q2⟩ =>
  bJ (ho pins s2 σ H2 x y v u _ I2 r1 r2 q2) fun d s3 ⟨z,H3,I3,r3,k,e,q3⟩=>?_)) hm
 subst e
 cases r3
 refine wpAny_truthy_bool ?_
 cases k with
 | false =>
  obtain ⟨k',e',q'⟩:=q3
  cases e'
  exact ite_ff ⟨H3,I3,q'⟩
 | true =>
  refine ite_tt (test_last (bJ (hc pins s3 σ H3 _ I3 q3) fun w' s4 ⟨z',H4,I4,r4,q4⟩=>bJ (ho' pins s4 σ H4 y z' u w' _ I4 r2 r4 q4) fun d' s5 ⟨z2,H5,I5,r5,k2,e2,q5⟩=>?_))
  subst e2
  cases r5
  exact wpAny_truthy_bool ⟨H5,I5,q5⟩
noncomputable def Li (K:PySem.W.Frag) (x:V) (H:Hp) (k:Bool):Prop :=
 match x with
 | .non=>k=false
 | .bl b=>k=b
 | .int i=>k=(i != 0)
 | .str y=>y.length<=sizeLine/\k=((y.length:Int) != 0)
 | .byt y=>y.size<=sizeLine/\k=((y.size:Int) != 0)
 | .ref p=>(∃ xs,eH K H p xs/\k=!xs.isEmpty)\/(∃ xs,eQ K H p xs/\k=!xs.isEmpty)\/∃ kvs,H p=some (.dK kvs)/\k=!kvs.isEmpty
 | _=>False
theorem HG {κ:Type} {kvs:List (κ × V)} {vs:List (κ × Value)} (r:KV kvs vs):(!vs.isEmpty)=!kvs.isEmpty:=by
 cases r <;> rfl
theorem yL {xs:List V} {its:List Value} (r:Vals xs its):(!its.toArray.isEmpty)=!xs.isEmpty:=by
 cases r <;> simp
theorem uM:(sizeLine:Nat) < 2 ^ 63:=by rw [sizeLine_eq];decide
theorem Qy:Tq X (fun x H Q=>∃ k,Li X.K x H k/\Q k H):=by
 intro pins s σ H x v Q I rx h
 obtain ⟨k,e,q⟩:=h
 have hl:=uM
 have hs:sizeLine=16777216:=sizeLine_eq
 cases x with
 | non =>
  cases rx
  have e':k=false:=e
  subst e'
  exact truthy_none ⟨H,I,q⟩
 | bl b =>
  cases rx
  have e':k=b:=e
  subst e'
  exact wpAny_truthy_bool ⟨H,I,q⟩
 | int i =>
  obtain ⟨t,rfl⟩:=rx
  have e':k=(i != 0):=e
  subst e'
  exact PySem.P.truthy_int ⟨H,I,q⟩
 | str y =>
  obtain ⟨t,rfl⟩:=rx
  obtain ⟨hy,e'⟩:y.length<=sizeLine/\k=((y.length:Int) != 0):=e
  subst e'
  exact PySem.P.truthy_str (by omega) ⟨H,I.tok _,q⟩
 | byt y =>
  obtain ⟨t,rfl⟩:=rx
  obtain ⟨hy,e'⟩:y.size<=sizeLine/\k=((y.size:Int) != 0):=e
  subst e'
  exact PySem.W.truthy_bytes (by omega) ⟨H,I.tok _,q⟩
 | ref p =>
  cases rx
  have e':(∃ xs,eH X.K H p xs/\k=!xs.isEmpty)\/(∃ xs,eQ X.K H p xs/\k=!xs.isEmpty)\/∃ kvs,H p=some (.dK kvs)/\k=!kvs.isEmpty:=e
  rcases e' with ⟨xs,hx,e'⟩ | ⟨xs,hx,e'⟩ | ⟨kvs,hx,e'⟩
  ·subst e'
   obtain ⟨its,r,pl,hz⟩:=I.list hx
   have hlen:=r.length
   exact wpAny_truthy_list pl.isList (by simp only [List.size_toArray];omega) ⟨H,I.tok _,by rw [yL r];exact q⟩
  ·subst e'
   obtain ⟨its,r,pl,hz⟩:=I.tuple hx
   have hlen:=r.length
   exact truthy_tuple pl (by simp only [List.size_toArray];omega) ⟨H,I.tok _,by rw [yL r];exact q⟩
  ·subst e'
   obtain ⟨hz,hS,vs,r,m⟩:kvs.length<=sizeLine/\(p == sysModules)=false/\∃ vs,KV kvs vs/\s.heap.DictOf (vK X.prog X.w) p vs:=I.hok p _ hx
   have hlen:kvs.length=vs.length:=Paired.length r
   exact wpAny_truthy_dict hS m (by omega) ⟨H,I.tok _,by rw [HG r];exact q⟩
 | _=>exact (show False from e).elim
theorem Ls (ha:PE X a ta) (he:∀ whole,isTrue a X.env whole=(do let v <- whole;standAt a.pos;holding [v] (truthy v))) :
  PT X a (fun σ H Q=>ta σ H fun x H'=>∃ k,Li X.K x H' k/\Q k H'):=by
 intro pins s σ H Q I h
 exact isTrue_plain (bJ (ha pins s σ H _ I h) fun v s1 ⟨x,H1,I1,r1,q1⟩=>Qy pins s1 σ H1 x v Q I1 r1 q1) (he _)
theorem Ih:cY X (binaryOp .Add) (fun x y H Q=>∃ i j,x=.str i/\y=.str j/\i.length + j.length<=sizeLine/\Q (.str (i++j)) H):=by
 intro pins s σ H x y v u Q I rx ry h
 obtain ⟨i,j,rfl,rfl,hz,q⟩:=h
 obtain ⟨t,rfl⟩:=rx
 obtain ⟨t',rfl⟩:=ry
 exact add_str (fun t' tk=>⟨.str (i++j),H,I.tok _,⟨_,rfl⟩,q⟩) hz
theorem vals1 {x:V} {us:List Value} (r:Vals [x] us):∃ u,us=[u]/\RelV x u:=by
 cases r with
 | cons r1 r2=>cases r2;exact ⟨_,rfl,r1⟩
theorem vals2 {x y:V} {us:List Value} (r:Vals [x,y] us):∃ u w',us=[u,w']/\RelV x u/\RelV y w':=by
 cases r with
 | cons r1 r2 =>
  cases r2 with
  | cons r3 r4=>cases r4;exact ⟨_,_,rfl,r1,r3⟩
theorem Ju (hc:X.calm=true):jB X (.builtin "max") (fun xs H Q=>∃ i j,xs=[.int i,.int j]/\Q (.int (if j > i then j else i)) H):=by
 intro pins s σ H xs us Q I r h
 obtain ⟨i,j,rfl,q⟩:=h
 obtain ⟨u,w',rfl,⟨t,rfl⟩,⟨t',rfl⟩⟩:=vals2 r
 refine max_two_ints (I.ok.hd hc) fun h' tk k=>⟨_,H,I.kept k,?_,q⟩
 by_cases hj:j > i
 ·rw [if_pos hj,if_pos hj];exact ⟨_,rfl⟩
 ·rw [if_neg hj,if_neg hj];exact ⟨_,rfl⟩
theorem JB:jB X (.type "int") (fun xs H Q=>(∃ i,xs=[.int i]/\Q (.int i) H)\/∃ k,xs=[.bl k]/\Q (.int (if k then 1 else 0)) H):=by
 intro pins s σ H xs us Q I r h
 rcases h with ⟨i,rfl,q⟩ | ⟨k,rfl,q⟩
 ·obtain ⟨u,rfl,t,rfl⟩:=vals1 r
  exact call_int_int ⟨.int i,H,I,⟨_,rfl⟩,q⟩
 ·obtain ⟨u,rfl,r1⟩:=vals1 r
  cases r1
  exact call_int_bool ⟨.int (if k then 1 else 0),H,I.tok _,⟨_,rfl⟩,q⟩
theorem Ea:jB X (.type "str") (fun xs H Q=>∃ i,xs=[.int i]/\i.natAbs.log2 < 1920/\Q (.str (toString i)) H):=by
 intro pins s σ H xs us Q I r h
 obtain ⟨i,rfl,hz,q⟩:=h
 obtain ⟨u,rfl,t,rfl⟩:=vals1 r
 exact PySem.P.str_of_int hz ⟨.str _,H,I.tok _,⟨_,rfl⟩,q⟩
noncomputable def RK (K:PySem.W.Frag) (x:V) (H:Hp) (n:Nat):Prop :=
 match x with
 | .str y=>y.length<=sizeLine/\n=y.length
 | .byt y=>y.size<=sizeLine/\n=y.size
 | .ref p=>(∃ xs,eH K H p xs/\n=xs.length)\/∃ xs,eQ K H p xs/\n=xs.length
 | _=>False
theorem LU:jB X (.builtin "len") (fun xs H Q=>∃ x n,xs=[x]/\RK X.K x H n/\Q (.int n) H):=by
 intro pins s σ H xs us Q I r h
 obtain ⟨x,n,rfl,e,q⟩:=h
 obtain ⟨u,rfl,rx⟩:=vals1 r
 have hl:=uM
 have hs:sizeLine=16777216:=sizeLine_eq
 cases x with
 | str y =>
  obtain ⟨t,rfl⟩:=rx
  obtain ⟨hy,e'⟩:y.length<=sizeLine/\n=y.length:=e
  subst e'
  exact len_str (by omega) ⟨.int _,H,I.tok _,⟨_,rfl⟩,q⟩
 | byt y =>
  obtain ⟨t,rfl⟩:=rx
  obtain ⟨hy,e'⟩:y.size<=sizeLine/\n=y.size:=e
  subst e'
  exact PySem.W.len_bytes (by omega) ⟨.int _,H,I.tok _,⟨_,rfl⟩,q⟩
 | ref p =>
  cases rx
  have e':(∃ xs,eH X.K H p xs/\n=xs.length)\/∃ xs,eQ X.K H p xs/\n=xs.length:=e
  rcases e' with ⟨xs,hx,e'⟩ | ⟨xs,hx,e'⟩
  ·subst e'
   obtain ⟨its,r',pl,hz⟩:=I.list hx
   have hlen:=r'.length
   exact Calls.call_len_list pl.isList (by simp only [List.size_toArray];omega) ⟨.int xs.length,H,I.tok _,⟨_,by simp only [List.size_toArray];rw [hlen]⟩,q⟩
  ·subst e'
   obtain ⟨its,r',pl,hz⟩:=I.tuple hx
   have hlen:=r'.length
   exact len_tuple pl (by simp only [List.size_toArray];omega) ⟨.int xs.length,H,I.tok _,⟨_,by simp only [List.size_toArray];rw [hlen]⟩,q⟩
 | _=>exact (show False from e).elim
end
structure KJ (h:Heap) (x dx C:Addr) (mA:Str->Option Value):Prop where
 obj:h.get? x=some (PySem.W.instObj C dx)
 ns:h.Ns1 dx mA
 ne:dx≠x
theorem Ko {h:Heap} {dx:Addr} {mA:Str->Option Value} (n:h.Ns1 dx mA):∃ od,h.get? dx=some od/\∀ name,PySem.W.lookIn name od=some (mA name):=by
 obtain ⟨o,es,ep,ho,hd,hk,_,hm⟩:=n
 refine ⟨o,ho,fun name=>?_⟩
 have e:=hm name
 unfold nsFind findBy at e
 rw [<- Array.find?_toList] at e
 unfold PySem.W.lookIn
 rw [hd]
 dsimp only
 split
 ·rename_i y q
  rw [q] at e
  exact congrArg some e
 ·rename_i q
  rw [q] at e
  have a:es.toList.any (·.refKey)=false:=by
   rw [List.any_eq_false]
   intro y hy
   obtain ⟨z,t,hkey⟩:=hk y (Array.mem_toList_iff.mp hy)
   simp [DictEntry.refKey,hkey]
  have a':¬ es.toList.any (·.refKey)=true:=by rw [a];exact Bool.false_ne_true
  rw [if_neg a']
  exact congrArg some e
theorem KJ.look {h:Heap} {x dx C:Addr} {mA:Str->Option Value} (I:KJ h x dx C mA):∃ od,PySem.W.InstAt h x (PySem.W.instObj C dx) C (some od)/\∀ name,PySem.W.lookIn name od=some (mA name) :=
 let ⟨od,ho,hl⟩:=Ko I.ns
 ⟨od,⟨I.obj,rfl,rfl,ho⟩,hl⟩
section
variable {prog:Program} {w:World} {A:Around} {E:Value->Shared->Prop} {s:Shared} {K:PySem.W.Frag} {x dx C f:Addr} {mA:Str->Option Value} {name:Str} {v:Value}
end
noncomputable def HD (f:Str) (v:V):List (Str × V)->List (Str × V)
 | []=>[(f,v)]
 | (g,x) :: r=>if g=f then (g,v) :: r else (g,x) :: HD f v r
theorem EW (f g:Str) (v:V):∀ fs:List (Str × V),(HD f v fs).lookup g=if g=f then some v else fs.lookup g
 | []=>by
  show List.lookup g [(f,v)]=_
  by_cases h:g=f
  ·have hb:(g == f)=true:=beq_iff_eq.mpr h
   simp only [List.lookup,hb,if_pos h]
  ·have hb:(g == f)=false:=beq_eq_false_iff_ne.mpr h
   simp only [List.lookup,hb,if_neg h]
 | (k,x) :: r=>by
  have ih:=EW f g v r
  rw [show HD f v ((k,x) :: r)=(if k=f then (k,v) :: r else (k,x) :: HD f v r) from rfl]
  by_cases hk:k=f
  ·rw [if_pos hk]
   by_cases h:g=k
   ·have hb:(g == k)=true:=beq_iff_eq.mpr h
    simp only [List.lookup,hb,if_pos (h.trans hk)]
   ·have hb:(g == k)=false:=beq_eq_false_iff_ne.mpr h
    simp only [List.lookup,hb,if_neg (fun e:g=f=>h (e.trans hk.symm))]
  ·rw [if_neg hk]
   by_cases h:g=k
   ·have hb:(g == k)=true:=beq_iff_eq.mpr h
    simp only [List.lookup,hb,if_neg (fun e:g=f=>hk (h.symm.trans e))]
   ·have hb:(g == k)=false:=beq_eq_false_iff_ne.mpr h
    simp only [List.lookup,hb]
    exact ih
section
variable {P:Program} {w:World} {H H':Hp} {h h':Heap} {a C dx:Addr} {fs fs':List (Str × V)}
theorem N0 (hok:iW P w H h) (e:H a=some (.ins C dx fs)):∃ mA,KJ h a dx C mA/\(∀ f,F8 (fs.lookup f) (mA f))/\PySem.Within mA (fs.map (·.1))/\fs.length<=1000/\H dx=some (.own a):=by
 obtain ⟨d,z,ne,ob,mA,n,r,q⟩:=(show eA P w H h a (.ins C dx fs) from hok a _ e)
 exact ⟨mA,⟨ob,n,ne⟩,r,q,z,d⟩
end
structure Q4 (K:PySem.W.Frag) (C:Addr):Prop where
 pg:PySem.W.plainGet K C Str.empty=true
 hd:PySem.W.hasDictIn K C=true
 po:PySem.W.plainOver K C=true
 sa:PySem.W.findIn K (.ref C) "__setattr__"=some (some (.builtin "object.__setattr__"))
theorem Q4.get {K:PySem.W.Frag} {C:Addr} (c:Q4 K C) (f:Str):PySem.W.plainGet K C f=true:=c.pg
section
variable {X:Cx} {pins:List (Addr × Obj)} {σ:St} {H:Hp} {s:Shared} {a C dx:Addr} {fs:List (Str × V)} {f:Str} {v:V} {A:Around} {E:Value->Shared->Prop}
end
section
variable {X:Cx} {o e value:Expr} {f:Str} {pos pos' tpos:Pos} {ta tv:TE}
end
section
variable {X:Cx} {pins:List (Addr × Obj)} {σ:St} {H:Hp} {s:Shared} {A:Around} {E:Value->Shared->Prop} {Q:Value->Shared->Prop} {c:Value} {b:Bool}
inductive nY (K:PySem.W.Frag) (H:Hp):V->Value->Prop where
 | non:nY K H .non (.type "NoneType")
 | bl (x:Bool):nY K H (.bl x) (.type "bool")
 | int (i:Int):nY K H (.int i) (.type "int")
 | str (x:Str):nY K H (.str x) (.type "str")
 | flt (x:UInt64):nY K H (.flt x) (.type "float")
 | lst {a:Addr} {xs:List V} (e:H a=some (.lst xs)):nY K H (.ref a) (.type "list")
 | frz {a:Addr} {o:Obj} {xs:List V} (e:H a=some (.frz o (.lst xs))):nY K H (.ref a) (.type "list")
 | tup {a:Addr} {xs:List V} (e:H a=some (.tup xs)):nY K H (.ref a) (.type "tuple")
 | dK {a:Addr} {kvs:List (Key × V)} (e:H a=some (.dK kvs)):nY K H (.ref a) (.type "dict")
 | dT {a:Addr} {kvs:List (List Key × V)} (e:H a=some (.dT kvs)):nY K H (.ref a) (.type "dict")
 | ins {a C dx:Addr} {fs:List (Str × V)} (e:H a=some (.ins C dx fs)) (cl:Q4 K C) (ha:PySem.W.findIn K (.ref C) "__class__"=some (some (.builtin "object.__class__")))
   (hn:PySem.W.specialIn K (.builtin "object.__class__") "__get__"=some (some (.builtin "getset_descriptor.__get__"))) (htk:PySem.W.takesIn K (.builtin "object.__class__")=some true)
   (hm:PySem.W.mroIn K C (.type "object")=some true):nY K H (.ref a) (.ref C)
theorem Kt {x:V} {u t:Value} (I:Inv X pins σ H s) (rx:RelV x u) (ty:nY X.K H x t) (e:PySem.W.kitOne X.K t c=some b) (h:∀ tk,Q (.bool b) { s with toks:=tk }) :
  wpAny (model X.prog X.w) A (call (.builtin "isinstance") [u,c]) Q E s:=by
 cases ty with
 | non=>cases (show u=Value.none from rx);exact PySem.W.kia_one PySem.W.kitx_none I.kIn True.intro e (fun z=>nomatch z) h
 | bl y=>cases (show u=Value.bool y from rx);exact PySem.W.kia_one PySem.W.kitx_bool I.kIn True.intro e (fun z=>nomatch z) h
 | int i=>obtain ⟨t,q⟩:=(show ∃ t,u=Value.int i t from rx);cases q;exact PySem.W.kia_one PySem.W.kitx_int I.kIn True.intro e (fun z=>nomatch z) h
 | str y=>obtain ⟨t,q⟩:=(show ∃ t,u=Value.str y t from rx);cases q;exact PySem.W.kia_one PySem.W.kitx_str I.kIn True.intro e (fun z=>nomatch z) h
 | flt y=>obtain ⟨t,q⟩:=(show ∃ t,u=Value.float y t from rx);cases q;exact PySem.W.kia_one PySem.W.kitx_float I.kIn True.intro e (fun z=>nomatch z) h
 | @lst a xs ea =>
  cases (show u=Value.ref a from rx)
  obtain ⟨_,_,n,_,h1⟩:=(show eA X.prog X.w H s.heap a (.lst xs) from I.hok a _ ea)
  exact PySem.W.kia_one PySem.W.kitx_list I.kIn ⟨_,h1,rfl⟩ e (fun z=>nomatch z) h
 | @frz a ob xs ea =>
  cases (show u=Value.ref a from rx)
  obtain ⟨_,_,_,n,_,h1⟩:=(show eA X.prog X.w H s.heap a (.frz ob (.lst xs)) from I.hok a _ ea)
  exact PySem.W.kia_one PySem.W.kitx_list I.kIn ⟨_,h1,rfl⟩ e (fun z=>nomatch z) h
 | @tup a xs ea =>
  cases (show u=Value.ref a from rx)
  obtain ⟨_,_,_,p⟩:=(show eA X.prog X.w H s.heap a (.tup xs) from I.hok a _ ea)
  obtain ⟨o,h1,h2,_⟩:=p
  exact PySem.W.kia_one PySem.W.kitx_tuple I.kIn ⟨o,h1,h2⟩ e (fun z=>nomatch z) h
 | @dK a kvs ea =>
  cases (show u=Value.ref a from rx)
  obtain ⟨_,_,vs,_,p⟩:=(show eA X.prog X.w H s.heap a (.dK kvs) from I.hok a _ ea)
  obtain ⟨o,es,ep,h1,h2,_⟩:=p
  exact PySem.W.kia_one PySem.W.kitx_dict I.kIn ⟨o,h1,h2.1⟩ e (fun z=>nomatch z) h
 | @dT a kvs ea =>
  cases (show u=Value.ref a from rx)
  obtain ⟨_,_,xs,_,o,es,ep,h1,h2,_⟩:=(show eA X.prog X.w H s.heap a (.dT kvs) from I.hok a _ ea)
  exact PySem.W.kia_one PySem.W.kitx_dict I.kIn ⟨o,h1,h2.1⟩ e (fun z=>nomatch z) h
 | @ins a C dx fs ea cl ha hn htk hm =>
  cases (show u=Value.ref a from rx)
  obtain ⟨mA,O,_⟩:=N0 I.hok ea
  obtain ⟨od,J,_⟩:=O.look
  exact PySem.W.kia_one (PySem.W.kitx_own (cl.get _) cl.hd ha hn htk hm) I.kIn J e (fun z=>nomatch z) h
end
structure eI (k:Nat) (A:Around):Prop where
 hd:A.handled=none
 dp:A.depth + 3 * k + 5 < recursionLimit
 un:A.units + 16 * k + 200 < cLine
theorem eI.mono {j k:Nat} {A:Around} (r:eI k A) (h:j<=k):eI j A:=⟨r.hd,by have:=r.dp;omega,by have:=r.un;omega⟩
theorem eI.deeper {k:Nat} {A:Around} (r:eI (k + 1) A) (env:Env):eI k (A.deeper env) :=
 ⟨r.hd,by have:=r.dp;show A.depth + 1 + 3 * k + 5 < _;omega,by have:=r.un;show A.units + 3 + 16 * k + 200 < _;omega⟩
theorem Ss {A:Around} {C:Addr} {us:List Value} {kw:List (Str × Value)}:(A.under (.builtin "type.__call__" ⟨.ref C :: us,kw⟩)).depth=A.depth + 1:=by
 first | rfl | simp [Around.under,Code.weight,Code.isCreation,Code.isGuard,Code.isCaller,Code.frames,Code.isFrame,guardIds]
theorem Sl {A:Around} {C:Addr} {us:List Value} {kw:List (Str × Value)}:(A.under (.builtin "type.__call__" ⟨.ref C :: us,kw⟩)).units=A.units + 1:=by
 first | rfl | simp [Around.under,Code.cUnits,Code.frames,Code.isFrame]
theorem eI.depth {k:Nat} {A:Around} (r:eI k A):A.depth < recursionLimit:=by have:=r.dp;omega
theorem eI.units {k:Nat} {A:Around} (r:eI k A):A.units + 64 < cLine:=by have:=r.un;omega
theorem eI.units0 {k:Nat} {A:Around} (r:eI k A):A.units < cLine:=by have:=r.un;omega
noncomputable def Q7:TA:=fun _ H Q=>Q [] H
noncomputable def Nd (ta:TE) (tr:TA):TA:=fun σ H Q=>ta σ H fun x H1=>tr σ H1 fun xs H2=>Q (x :: xs) H2
section
variable {X:Cx} {e:Expr} {es:List Expr} {te:TE} {t:TA} {pos:Pos}
theorem Rl:PA X [] Q7:=fun _ _ _ _ H Q I h=>Calls.spliced_nil ⟨[],H,I,.nil,h⟩
theorem Pc (ha:PE X e te) (hr:PA X es t) (hs:starEach (e :: es) X.env=(false,eval e X.env) :: starEach es X.env:=by rfl):PA X (e :: es) (Nd te t):=by
 intro pos pins s σ H Q I h
 rw [hs]
 show wpAny _ _ (spliced ((false,eval e X.env) :: backTo pos (starEach es X.env))) _ _ s
 refine Calls.spliced_cons (bJ (ha pins s σ H _ I h) fun u s1 ⟨x,H1,I1,r1,q1⟩=>?_)
 exact bJ (hr pos pins s1 σ H1 _ I1 q1) fun us s2 ⟨xs,H2,I2,r2,q2⟩=>⟨x :: xs,H2,I2,.cons r1 r2,q2⟩
noncomputable def PY (t:TA):TE:=fun σ H Q=>t σ H fun xs H1=>xs.length<=sizeLine/\∀ p,H1 p=none->Q (.ref p) (upd H1 p (.tup xs))
noncomputable def Qp (t:TA):TE:=fun σ H Q=>t σ H fun xs H1=>xs.length<=sizeLine/\∀ p,H1 p=none->Q (.ref p) (upd H1 p (.lst xs))
theorem Q3 {x1} (h:PA X es t):PE X (.Tuple es x1 pos) (PY t):=by
 intro pins s σ H Q I hq
 refine wpAny_Tuple_spliced (bJ (h pos pins s σ H _ I hq) fun us s1 ⟨xs,H1,I1,r,z,q⟩=>⟨by rw [<- r.length];exact z,?_⟩)
 have hf:H1 s1.heap.objs.size=none:=I1.hok.fresh (Nat.le_refl _)
 refine ⟨.ref s1.heap.objs.size,upd H1 s1.heap.objs.size (.tup xs),I1.laid (t':=s1.toks) (fun b u e=>Heap.get?_push_of_some _ e) (Nat.le_refl _) ?_,rfl,q _ hf⟩
 exact ⟨z,us,r,⟨_,Heap.get?_push_size _ rfl,rfl,rfl,_,rfl⟩⟩
theorem Qb (h:PA X es t):PE X (.List es pos) (Qp t):=by
 intro pins s σ H Q I hq
 refine wpAny_List_spliced (bJ (h pos pins s σ H _ I hq) fun us s1 ⟨xs,H1,I1,r,z,q⟩=>⟨by rw [<- r.length];exact z,?_⟩)
 have hf:H1 s1.heap.objs.size=none:=I1.hok.fresh (Nat.le_refl _)
 refine ⟨.ref s1.heap.objs.size,upd H1 s1.heap.objs.size (.lst xs),I1.laid (t':=s1.toks) (fun b u e=>Heap.get?_push_of_some _ e) (Nat.le_refl _) ?_,rfl,q _ hf⟩
 exact ⟨z,us,0,r,Heap.get?_push_size _ rfl⟩
end
abbrev Sp:=List V->Hp->VK->XK->Prop
abbrev wI:=List Env->Hp->Shared->XK->Value->Shared->Prop
structure Du (P:Program) (w:World) (K:PySem.W.Frag) (mg:Str->Option Value) (base:Heap) (A:Around) (outer:List Env) (s:Shared) (H:Hp):Prop where
 frames:A.frames=some outer
 mod:Mod K mg base
 bs:∀ b o,base.get? b=some o->s.heap.get? b=some o/\H b=none
 bsz:base.objs.size<=s.heap.objs.size
 funs:s.heap.FunFrames base outer
 frf:∀ b∈i3 outer,H b=none
 hok:iW P w H s.heap
 bare:AllBare s.gens
noncomputable def CE (outer:List Env) (P:Program) (w:World) (H:Hp) (s:Shared) (Q:VK) (u:Value) (s':Shared):Prop :=
 ∃ v H',s'.os=s.os/\AllBare s'.gens/\Un (i3 outer) [] H H' s.heap s'.heap/\iW P w H' s'.heap/\RelV v u/\Q v H'
noncomputable def CR (CX:wI) (outer:List Env) (P:Program) (w:World) (H:Hp) (s:Shared) (Q:VK) (E:XK) (r:Result) (s':Shared):Prop :=
 match r with
 | .ok (.ret u)=>CE outer P w H s Q u s'
 | .ok _=>False
 | .error e=>CX outer H s E e s'
structure gI (P:Program) (w:World) (K:PySem.W.Frag) (mg:Str->Option Value) (base:Heap) (CX:wI) (k:Nat) (f:Addr) (fd:FuncData) (ps:List Str) (sp:Sp):Prop where
 len:∀ vs H Q E,sp vs H Q E->vs.length=ps.length
 run:∀ (A:Around) (outer:List Env) (s:Shared) (H:Hp) (args:Args) (us:List Value) (vs:List V) (Q:VK) (E:XK),eI k A->Du P w K mg base A outer s H->BindsTo s fd args (ps.zip us)->Vals vs us->sp vs H Q E ->
  codeAny (model P w) A (.call (.ref f) args) (CR CX outer P w H s Q E) s
section
variable {X:Cx} {pins:List (Addr × Obj)} {σ:St} {H:Hp} {s s':Shared}
theorem Inv.env0 (I:Inv X pins σ H s):Du X.prog X.w X.K X.mg X.base X.A X.stack s H :=
 ⟨I.ok.frames,I.ok.mod,I.bs,Nat.le_trans I.ok.bsz I.sz,I.stack,I.stkFree,I.hok,I.bare⟩
theorem Inv.after {Q:VK} {u:Value} (I:Inv X pins σ H s) (h:CE X.stack X.prog X.w H s Q u s'):EP X pins σ Q u s':=by
 obtain ⟨v,H',os,bare,un,hok,r,q⟩:=h
 obtain ⟨hh,g,d,t,os'⟩:=s'
 obtain rfl:os'=s.os:=os
 exact ⟨v,H',I.call (h':=hh) (g':=g) (d':=d) (t':=t) (ch:=[]) un hok bare (fun b z=>absurd z (by simp)),r,q⟩
end
noncomputable def G1 (sp:Sp) (dvs:List V) (E:XK) (t:TA):TE:=fun σ H Q=>t σ H fun vs H1=>sp (vs++dvs) H1 Q E
noncomputable def Binds (K:PySem.W.Frag) (fd:FuncData) (ps:List Str) (ds:List Value):Prop :=
 ∀ (s:Shared) (us:List Value),K.In s.heap->(us++ds).length=ps.length->BindsTo s fd ⟨us,[]⟩ (ps.zip (us++ds))
theorem Binds.all {K:PySem.W.Frag} {fd:FuncData} {ps:List Str} (h:∀ us:List Value,us.length=ps.length->bindArgs fd ⟨us,[]⟩=pure (ps.zip us)):Binds K fd ps []:=fun s us _ hl=>by
 rw [List.append_nil] at hl ⊢
 exact .of_eq (h us hl)
noncomputable def Passes (CX:wI) (X:Cx) (E:XK):Prop:=∀ (pins:List (Addr × Obj)) (σ:St) (H:Hp) (s:Shared) (e:Value) (s':Shared),Inv X pins σ H s->CX X.stack H s E e s'->X.xe e s'
section
variable {X:Cx} {CX:wI} {k:Nat} {f C:Addr} {fd:FuncData} {ps:List Str} {sp:Sp} {dvs:List V} {ds:List Value} {E:XK} {x m:Str} {p pos apos:Pos} {e o:Expr} {es:List Expr} {ta:TE} {t:TA}
theorem xU {pins:List (Addr × Obj)} {σ:St} {H:Hp} {s:Shared} {Q:VK} {us:List Value} {vs:List V} (F:gI X.prog X.w X.K X.mg X.base CX k f fd ps sp) (hr:eI k X.A) (hb:Binds X.K fd ps ds) (hd:Vals dvs ds) (hx:Passes CX X E)
  (I:Inv X pins σ H s) (r:Vals vs us) (h:sp (vs++dvs) H Q E):wpAny (model X.prog X.w) X.A (call (.ref f) us) (EP X pins σ Q) X.xe s:=by
 have r2:Vals (vs++dvs) (us++ds):=r.append hd
 have hl:(us++ds).length=ps.length:=by rw [<- r2.length];exact F.len _ _ _ _ h
 refine wpAny_call (codeAny_mono (F.run X.A X.stack s H ⟨us,[]⟩ (us++ds) (vs++dvs) Q E hr I.env0 (hb s us I.kIn hl) r2 h) fun r s' hq=>?_)
 cases r with
 | error e=>exact hx pins σ H s e s' I hq
 | ok fl =>
  cases fl with
  | ret u=>exact I.after hq
  | next=>exact False.elim hq
  | brk=>exact False.elim hq
  | cont=>exact False.elim hq
theorem OT (F:gI X.prog X.w X.K X.mg X.base CX k f fd ps sp) (hr:eI k X.A) (hg:Gl X x) (hm:X.mg x=some (.ref f)) (hk:PySem.W.keepIn X.K (.ref f)=true) (hb:Binds X.K fd ps ds) (hd:Vals dvs ds) (hx:Passes CX X E)
  (ha:PA X (e :: es) t) (hdb:(x == ("__debug__":Str))=false:=by decide) (he:starEach (e :: es) X.env=(false,eval e X.env) :: starEach es X.env:=by rfl) (hpl:(backTo pos (starEach es X.env)).any (·.1)=false:=by rfl) :
  PE X (.Call (.Name x p) (e :: es) [] pos) (G1 sp dvs E t):=by
 intro pins s σ H Q I h
 refine wpAny_Call_Name_kw (As I hg hm ?_ hdb)
 refine PySem.W.callWith_K (h₀:=X.base) I.ok.mod.kin hk (bJ (ha pos pins s σ H _ I h) fun us s1 ⟨vs,H1,I1,r,q⟩=>⟨I1.kIn,?_⟩) he hpl
 exact xU F hr hb hd hx I1 r q
end
section
variable {X:Cx} {CX:wI} {k:Nat} {f C:Addr} {fd:FuncData} {ps ks:List Str} {sp:Sp} {E:XK} {x m:Str} {p pos apos kpos:Pos} {e o:Expr} {es:List Expr} {kws:List Keyword} {te ta:TE} {t tk:TA} {nm:Option Str}
variable {g:List Value->List Value->List Value} {gV:List V->List V->List V}
end
structure aY (N P:List Str) (sc:Scope):Prop where
 kind:sc.kind=.function
 co:sc.isCoroutine=false
 gen:sc.isGenerator=false
 nd:N.Nodup
 pre:N.take P.length=P
 par:∀ x∈P,sc.names.lookup x=some .local\/sc.names.lookup x=some .cell
 nofree:∀ y∈sc.names,y.2≠.free
theorem AM {kindOf:Str->Option NameKind} {x:Str}:∀ {binds:List (Str × Value)} {m:Str->Option Value},(∀ v,(x,v) ∉ binds)->bindL kindOf binds m x=m x
 | [],_,_=>rfl
 | (n,v) :: r,m,h=>by
  unfold bindL
  rw [AM fun w hw=>h w (List.mem_cons_of_mem _ hw)]
  split
  ·have:x≠n:=by rintro rfl;exact h v List.mem_cons_self
   simp [this]
  ·rfl
theorem AN {kindOf:Str->Option NameKind} {x:Str}:∀ {binds:List (Str × Value)} {m:Str->Option Value},(∀ v,(x,v) ∉ binds)->bindC kindOf binds m x=m x
 | [],_,_=>rfl
 | (n,v) :: r,m,h=>by
  unfold bindC
  rw [AN fun w hw=>h w (List.mem_cons_of_mem _ hw)]
  split
  ·rfl
  ·have:x≠n:=by rintro rfl;exact h v List.mem_cons_self
   simp [this]
theorem AR {kindOf:Str->Option NameKind} {x:Str} {v:Value}:∀ {P:List Str} {vs:List Value} {i:Nat} {m:Str->Option Value},P.Nodup->P[i]?=some x->vs[i]?=some v->kindOf x=some .local ->
  bindL kindOf (P.zip vs) m x=some v
 | [],_,_,_,_,h,_,_=>by simp at h
 | _ :: _,[],_,_,_,_,h,_=>by simp at h
 | p :: P,w :: vs,0,m,nd,h1,h2,hk=>by
  simp at h1 h2;subst h1;subst h2
  show bindL kindOf ((p,w) :: P.zip vs) m p=_
  unfold bindL
  rw [AM fun v hv=>(List.nodup_cons.mp nd).1 (List.of_mem_zip hv).1,if_pos hk]
  simp
 | p :: P,w :: vs,i + 1,m,nd,h1,h2,hk=>by
  show bindL kindOf ((p,w) :: P.zip vs) m x=_
  unfold bindL
  exact AR (i:=i) (List.nodup_cons.mp nd).2 (by simpa using h1) (by simpa using h2) hk
theorem Bg {kindOf:Str->Option NameKind} {x:Str} {v:Value}:∀ {P:List Str} {vs:List Value} {i:Nat} {m:Str->Option Value},P.Nodup->P[i]?=some x->vs[i]?=some v->kindOf x≠some .local ->
  bindC kindOf (P.zip vs) m x=some v
 | [],_,_,_,_,h,_,_=>by simp at h
 | _ :: _,[],_,_,_,_,h,_=>by simp at h
 | p :: P,w :: vs,0,m,nd,h1,h2,hk=>by
  simp at h1 h2;subst h1;subst h2
  show bindC kindOf ((p,w) :: P.zip vs) m p=_
  unfold bindC
  rw [AN fun v hv=>(List.nodup_cons.mp nd).1 (List.of_mem_zip hv).1,if_neg hk]
  simp
 | p :: P,w :: vs,i + 1,m,nd,h1,h2,hk=>by
  show bindC kindOf ((p,w) :: P.zip vs) m x=_
  unfold bindC
  exact Bg (i:=i) (List.nodup_cons.mp nd).2 (by simpa using h1) (by simpa using h2) hk
noncomputable def start (N:List Str) (vs:List V):St:=vs.map some++List.replicate (N.length - vs.length) none
noncomputable def An (CX:wI) (P:Program) (w:World) (K:PySem.W.Frag) (mg:Str->Option Value) (base:Heap) (N:List Str) (qual:Str) (scope:Scope) (f:Addr) (cd:Value) (A:Around) (outer:List Env) (s:Shared) (H:Hp) (E:XK):Cx where
 prog:=P
 w:=w
 K:=K
 mg:=mg
 base:=base
 A:=A.deeper (envOfC qual scope s.heap.objs.size f cd)
 N:=N
 s₀:=s
 H₀:=H
 env:=envOfC qual scope s.heap.objs.size f cd
 outer:=outer
 stack:=envOfC qual scope s.heap.objs.size f cd :: outer
 ex:=[]
 calm:=true
 fn:=fun _=>true
 pn:=[]
 xe:=fun e s'=>wpAny (model P w) (A.deeper (envOfC qual scope s.heap.objs.size f cd)) (leaving (envOfC qual scope s.heap.objs.size f cd) e) (fun _ s''=>CX outer H s E e s'') (fun e' s''=>CX outer H s E e' s'') s'
theorem CS {sc:Scope} {n:Nat} {x:Str} (h:sc.names.lookup x=some .cell):∃ c,(cellsFrom n sc.names []).lookup x=some c:=by
 have q:=PySem.W.cellsFrom_some sc.names n [] (.inl h)
 exact Option.isSome_iff_exists.mp q
theorem JX {CX:wI} {P:Program} {w:World} {K:PySem.W.Frag} {mg:Str->Option Value} {base:Heap} {N ps:List Str} {qual:Str} {scope:Scope} {f:Addr} {cd:Value} {A:Around} {outer:List Env} {s s1:Shared} {H:Hp} {E:XK} {us:List Value} {vs:List V}
  (S:aY N ps scope) (hd:A.handled=none) (e0:Du P w K mg base A outer s H) (hl:vs.length=ps.length) (r:Vals vs us)
  (x:InCallC s s.heap.objs.size (bindL (envOfC qual scope s.heap.objs.size f cd).kindOf (ps.zip us) fun _=>none) (cellsFrom (s.heap.objs.size + 1) scope.names []) (bindC (envOfC qual scope s.heap.objs.size f cd).kindOf (ps.zip us) fun _=>none) s1) :
  Inv (An CX P w K mg base N qual scope f cd A outer s H E) [] (start N vs) H s1:=by
 have hpl:ps.length<=N.length:=by have:=congrArg List.length S.pre;rw [List.length_take] at this;omega
 obtain ⟨h1,tk,rfl,hk⟩:=x.done
 have noA:∀ b:Addr,b ∉ (An CX P w K mg base N qual scope f cd A outer s H E).ex:=fun b z=>absurd (show b∈([]:List Addr) from z) (by simp)
 refine ⟨⟨e0.mod,S.kind,rfl,rfl,Nat.le_refl _,fun y z c h1 h2=>?_,fun y hy=>?_,fun y c _ h=>?_,fun _=>hd,Around.frames_deeper e0.frames,.inr ⟨rfl,rfl⟩,fun b z=>absurd z (noA b),e0.bs,e0.bsz,fun b _ _=>noA b,fun b z=>absurd z (noA b),e0.funs,e0.frf⟩,
  rfl,e0.bare,Un.kept hk,⟨_,x.toInCall.ns,fun i y v h1 h2 h3=>?_⟩,fun y c h=>⟨_,x.cell y c h⟩,e0.hok.fresh (Nat.le_refl _),fun y c h=>?_,fun p hp=>absurd (show p∈([]:List (Addr × Obj)) from hp) (by simp),e0.hok.kept hk,?_⟩
 ·exact name_of_addr x.apart (PySem.mem_of_lookup h1) (PySem.mem_of_lookup h2)
 ·have hy:scope.names.lookup y=some .cell\/scope.names.lookup y=some .free:=hy
  rcases hy with hy | hy
  ·exact CS hy
  ·exact absurd rfl (S.nofree _ (PySem.mem_of_lookup hy))
 ·exact Nat.le_of_lt (x.above y c (PySem.mem_of_lookup h))
 ·have hi:i < vs.length:=by
   unfold start at h2
   by_cases hi:i < vs.length
   ·exact hi
   ·rw [List.getElem?_append_right (by simpa using hi)] at h2
    rw [List.getElem?_replicate] at h2
    split at h2 <;> cases h2
  have ha:vs[i]?=some v:=by
   unfold start at h2
   rw [List.getElem?_append_left (by simpa using hi),List.getElem?_map] at h2
   cases e:vs[i]? with
   | none=>rw [e] at h2;cases h2
   | some a=>rw [e] at h2;cases h2;rfl
  obtain ⟨u,hu,rv⟩:=r.get ha
  have hp:ps[i]?=some y:=by
   rw [<- S.pre,List.getElem?_take_of_lt (by omega)];exact h1
  have ndP:ps.Nodup:=by rw [<- S.pre];exact S.nd.sublist (List.take_sublist _ _)
  refine ⟨u,rv,?_⟩
  rcases S.par y (List.mem_of_getElem? hp) with k | k
  ·exact .inl ⟨k,AR ndP hp hu k⟩
  ·obtain ⟨c,e⟩:=CS (n:=s.heap.objs.size + 1) k
   refine .inr ⟨.inl k,c,e,?_⟩
   have q:=x.cell y c e
   rw [Bg ndP hp hu (by show scope.names.lookup y≠_;rw [k];decide)] at q
   exact q
 ·exact e0.hok.fresh (Nat.le_of_lt (x.above y c (PySem.mem_of_lookup h)))
 ·unfold start
  show _=N.length
  rw [List.length_append,List.length_map,List.length_replicate]
  omega
theorem MF {CX:wI} {P:Program} {w:World} {K:PySem.W.Frag} {mg:Str->Option Value} {base:Heap} {k:Nat} {f:Addr} {name qual:Str} {params:Arguments} {body:List Stmt} {scope:Scope} {dV kV doc pm cdv ct oc:Value} {an od:Option Addr}
  {osl:Array (Option Value)} {N ps:List Str} {sp:Sp} (lk:K.lookup f=some ⟨oc,od,.func (PySem.W.fnOf name qual params body scope dV kV doc pm an cdv ct),osl⟩) (hcd:PySem.W.codeIn K cdv qual=true) (S:aY N ps scope)
  (len:∀ vs H Q E,sp vs H Q E->vs.length=ps.length)
  (hbody:∀ (A:Around) (outer:List Env) (s:Shared) (H:Hp) (vs:List V) (Q:VK) (E:XK),eI k (A.deeper (envOfC qual scope s.heap.objs.size f cdv))->sp vs H Q E ->
   ∃ t,pM (An CX P w K mg base N qual scope f cdv A outer s H E) body t/\t { nx:=fun _ H'=>Q .non H',rt:=Q } (start N vs) H) :
  gI P w K mg base CX (k + 1) f (PySem.W.fnOf name qual params body scope dV kV doc pm an cdv ct) ps sp:=by
 refine ⟨len,fun A outer s H args us vs Q E hr e0 hb r hsp=>?_⟩
 have hl:=len _ _ _ _ hsp
 have KX:K.In s.heap:=e0.mod.kin.keeps fun b o e=>(e0.bs b o e).1
 have lim:s.heap.NoLimit:=e0.mod.nolimit.keeps fun b o e=>(e0.bs b o e).1
 have hkind:∀ y∈ps.zip us,scope.names.lookup y.1=some .local\/(scope.names.lookup y.1=some .cell/\((cellsFrom (s.heap.objs.size + 1) scope.names []).lookup y.1).isSome=true):=fun ⟨n,v⟩ hy=>by
  rcases S.par n (List.of_mem_zip hy).1 with q | q
  ·exact .inl q
  ·exact .inr ⟨q,PySem.W.cellsFrom_some _ _ _ (.inl q)⟩
 refine codeAny_call_function hr.depth (KX _ _ lk) rfl S.co S.gen rfl (PySem.W.codeRec_of KX hcd) (hb _ _ _ _ ?_)
 refine wpAny_newFunctionEnv_cells S.kind hkind fun env he s1 x=>?_
 subst he
 refine ⟨lim.keeps x.toInCall.keep,codeAny_func ?_⟩
 obtain ⟨t,ht,hq⟩:=hbody A outer s H vs Q E (hr.deeper _) hsp
 have I:Inv (An CX P w K mg base N qual scope f cdv A outer s H E) [] (start N vs) H s1:=JX S hr.hd e0 hl r x
 refine wpAny_mono (ht [] s1 (start N vs) H _ I hq) (fun fl s' hs=>?_) fun e s' hs=>hs
 have fin:∀ {σ':St} {H':Hp} {v:V} {u:Value},Inv (An CX P w K mg base N qual scope f cdv A outer s H E) [] σ' H' s'->RelV v u->Q v H'->CE outer P w H s Q u s' :=
  fun {σ' H' v u} J rv q=>⟨v,H',J.os,J.bare,J.base,J.hok,rv,q⟩
 cases fl with
 | ret u =>
  obtain ⟨v,σ',H',J,rv,q⟩:=hs
  exact fin J rv q
 | next =>
  obtain ⟨σ',H',J,q⟩:=hs
  exact fin (v:=V.non) (u:=Value.none) J rfl q
 | brk =>
  obtain ⟨_,_,_,q⟩:=hs
  exact False.elim q
 | cont =>
  obtain ⟨_,_,_,q⟩:=hs
  exact False.elim q
section
variable {X:Cx} {x:Str} {p pos:Pos} {e:Expr} {es:List Expr} {t:TA} {id T:String} {r:List V->Hp->VK->Prop}
noncomputable def PZ (r:List V->Hp->VK->Prop) (t:TA):TE:=fun σ H Q=>t σ H fun vs H1=>r vs H1 Q
theorem Lb (hc:jB X (.builtin id) r) (hg:Gl X x) (hm:X.mg x=none) (hv:bootBuiltins x=some (.builtin id)) (ha:PA X (e :: es) t) (hn:x≠"__name__":=by decide) (hdb:(x == ("__debug__":Str))=false:=by decide)
  (he:starEach (e :: es) X.env=(false,eval e X.env) :: starEach es X.env:=by rfl) (hpl:(backTo pos (starEach es X.env)).any (·.1)=false:=by rfl):PE X (.Call (.Name x p) (e :: es) [] pos) (PZ r t):=by
 intro pins s σ H Q I h
 refine wpAny_Call_Name_kw (mW I hg hm hv ?_ hn hdb)
 exact PyProof.Rows.callWith_builtin1 (bJ (ha pos pins s σ H _ I h) fun us s1 ⟨vs,H1,I1,r1,q1⟩=>hc pins s1 σ H1 vs us Q I1 r1 q1) he hpl
theorem JQ (hc:jB X (.type T) r) (hg:Gl X x) (hm:X.mg x=none) (hv:bootBuiltins x=some (.type T)) (ha:PA X (e :: es) t) (hn:x≠"__name__":=by decide) (hdb:(x == ("__debug__":Str))=false:=by decide)
  (he:starEach (e :: es) X.env=(false,eval e X.env) :: starEach es X.env:=by rfl) (hpl:(backTo pos (starEach es X.env)).any (·.1)=false:=by rfl):PE X (.Call (.Name x p) (e :: es) [] pos) (PZ r t):=by
 intro pins s σ H Q I h
 refine wpAny_Call_Name_kw (mW I hg hm hv ?_ hn hdb)
 exact PyProof.Rows.callWith_type1 (bJ (ha pos pins s σ H _ I h) fun us s1 ⟨vs,H1,I1,r1,q1⟩=>hc pins s1 σ H1 vs us Q I1 r1 q1) he hpl
end
end L2
namespace HT
open PySem PyProof.Rows
noncomputable def lexLt:List Int->List Int->Bool
 | [],[]=>false
 | [],_ :: _=>true
 | _ :: _,[]=>false
 | x :: xs,y :: ys=>if x=y then lexLt xs ys else decide (x < y)
theorem yM (x y:Int) (xs ys:List Int):lexLt (x :: xs) (y :: ys)=if x=y then lexLt xs ys else decide (x < y):=rfl
theorem Bj:lexLt [] []=false:=rfl
theorem Az (y:Int) (ys:List Int):lexLt [] (y :: ys)=true:=rfl
theorem Am (x:Int) (xs:List Int):lexLt (x :: xs) []=false:=rfl
theorem LB (A:Around) (s:Shared) (a:Int) (t:Tok) (c:Int) (u:Tok):∃ e,SeqAt.EqAt A s (.int a t) (.int c u) e/\(e=true ↔ a=c) :=
 ⟨(a == c),SeqAt.EqAt.int_int a t c u,by simp⟩
theorem LC (A:Around) (s:Shared) (a:Int) (t:Tok) (c:Int) (u:Tok) (prog:Program) (w:World) (E:Value->Shared->Prop) (Q:Value->Shared->Prop) (h:Q (.bool (decide (a < c))) s) :
  wpAny (model prog w) A (richCompare .Lt (.int a t) (.int c u)) Q E s :=
 (PyProof.Rows.lt_int h:wpAny (model prog w) A (compareOp .Lt (.int a t) (.int c u)) Q E s)
section
open PySem.SeqAt
open PySem.AutoSeq1 (wpAny_loadPart')
open PySem.MeetsSeq PySem.MeetsSeq2 PySem.MeetsSeq3
theorem BF (l b:Addr) (items items2:Array Value) (n n2:Nat) (dd dd2:Option Addr) (sl sl2:Array (Option Value)) (ns ms:List Int) (hi:IntsAre items.toList ns) (hj:IntsAre items2.toList ms) :
  Meets (Builtin.«tuple.__lt__» ⟨[.ref l,.ref b],[]⟩)
   (fun _ R s=>s.heap.get? l=some { cls:=.type "tuple",dict:=dd,data:=.seq items n,slots:=sl }/\s.heap.get? b=some { cls:=.type "tuple",dict:=dd2,data:=.seq items2 n2,slots:=sl2 } /\
    R (.ok (.ret (.bool (lexLt ns ms)))) s) :=
 .of_wp fun prog w A R s h=>by
  obtain ⟨hp,g,d,tk,os⟩:=s;obtain ⟨hl,hb,h⟩:=h
  have f2:=AutoSeq1.sub_tuple_tuple
  have z1:items.size=ns.length:=by rw [<- hi.length];simp
  have z2:items2.size=ms.length:=by rw [<- hj.length];simp
  wp_walk using wpAny_loadPart' hl,wpAny_loadPart' hb,wpAny_forIn_list _ (fun rest b s'=>b.1=none/\s'=⟨hp,g,d,tk,os⟩/\∃ (vs ws:List Value) (ns' ms':List Int),rest=vs.zip ws /\
   IntsAre vs ns'/\IntsAre ws ms'/\ns'.length + items2.size=ms'.length + items.size/\R (.ok (.ret (.bool (lexLt ns' ms')))) ⟨hp,g,d,tk,os⟩) _
  case turn =>
   rintro ⟨y,x⟩ rest b s' ⟨hb',rfl,vs,ws,ns',ms',hz,hvi,hwi,hlen,hR⟩
   cases hvi with
   | nil=>rw [List.zip_nil_left] at hz;cases hz
   | cons a t hvi' =>
    cases hwi with
    | nil=>rw [List.zip_nil_right] at hz;cases hz
    | cons c u hwi' =>
     rw [List.zip_cons_cons] at hz
     injection hz with hyx hrest
     injection hyx with hy hx
     subst hy hx
     rw [yM] at hR
     simp only [List.length_cons] at hlen
     obtain ⟨e,he,hiff⟩:=LB A.in1 ⟨hp,g,d,tk,os⟩ a t c u
     refine wpAny_bind (he prog w _ _ ?_)
     cases e with
     | true =>
      rw [if_pos (hiff.mp rfl)] at hR
      wp_walk
      exact ⟨rfl,rfl,_,_,_,_,hrest,hvi',hwi',by omega,hR⟩
     | false =>
      rw [if_neg (fun q=>absurd (hiff.mpr q) Bool.false_ne_true)] at hR
      have hri:=LC A.in1 ⟨hp,g,d,tk,os⟩ a t c u prog w
      wp_walk using hri
      exact ⟨_,rfl,by simpa using hR⟩
  case fin =>
   rintro ⟨b1,b2⟩ s' ⟨hb',rfl,vs,ws,ns',ms',hz,hvi,hwi,hlen,hR⟩
   simp only at hb'
   subst hb'
   have hv:lexLt ns' ms'=decide (items.size < items2.size):=by
    cases hvi with
    | nil =>
     cases hwi with
     | nil =>
      simp only [List.length_nil] at hlen
      rw [Bj]
      exact (decide_eq_false (by omega)).symm
     | cons c u hw =>
      simp only [List.length_nil,List.length_cons] at hlen
      rw [Az]
      exact (decide_eq_true (by omega)).symm
    | cons a t hv =>
     cases hwi with
     | nil =>
      simp only [List.length_nil,List.length_cons] at hlen
      rw [Am]
      exact (decide_eq_false (by omega)).symm
     | cons c u hw =>
      rw [List.zip_cons_cons] at hz
      cases hz
   rw [hv] at hR
   wp_walk
   exact ⟨_,rfl,by simpa [Builtin.Tuple.tupleCompareSizes] using hR⟩
  case h =>
   exact ⟨rfl,rfl,items.toList,items2.toList,ns,ms,rfl,hi,hj,by omega,h⟩
end
section
variable {prog:Program} {w:World} {A:Around} {E:Value->Shared->Prop} {s:Shared}
theorem Gd {l b:Addr} {items items2:Array Value} {ns ms:List Int} {Q:Value->Shared->Prop} (hl:IsTup s.heap l items) (hb:IsTup s.heap b items2) (hi:IntsAre items.toList ns) (hj:IntsAre items2.toList ms)
  (hu:A.units < cLine) (h:Q (.bool (lexLt ns ms)) s):wpAny (model prog w) A (compareOp .Lt (.ref l) (.ref b)) Q E s:=by
 obtain ⟨⟨cls,dd,data,sl⟩,ho,hc,n,hd⟩:=id hl
 obtain ⟨⟨cls2,dd2,data2,sl2⟩,ho2,hc2,n2,hd2⟩:=id hb
 simp only at hc hd hc2 hd2
 subst hc hd hc2 hd2
 exact richCompare_meets_room (op:=.Lt) ⟨_,ho,rfl⟩ ⟨_,ho2,rfl⟩ PySem.F.slot_tuple_lt PySem.F.entry_tuple_lt (PySem.F.args_tuple_lt_2 _ _) (BF l b items items2 n n2 dd dd2 sl sl2 ns ms hi hj)
  ⟨ho,ho2,show Value.bool (lexLt ns ms)≠Value.notImplemented/\Q (.bool (lexLt ns ms)) s from ⟨(fun x=>nomatch x),h⟩⟩ hu
theorem OF {t b:Addr} {vs ws:List Value} {Q:Value->Shared->Prop} (ht:IsTup s.heap t vs.toArray) (hb:IsTup s.heap b ws.toArray) (hv:vs≠[])
  (h1:ws=[]->Q (.ref t) s) (h2:ws≠[]->Q (.ref s.heap.objs.size) { s with heap:=s.heap.push { cls:=.type "tuple",data:=.seq (vs++ws).toArray } })
  (hsz:vs.length + ws.length<=sizeLine):wpAny (model prog w) A (binaryOp .Add (.ref t) (.ref b)) Q E s:=by
 obtain ⟨⟨cls,dd,data,sl⟩,ho,hc,n,hd⟩:=id ht
 obtain ⟨⟨cls2,dd2,data2,sl2⟩,ho2,hc2,n2,hd2⟩:=id hb
 simp only at hc hd hc2 hd2
 subst hc hd hc2 hd2
 have e:vs.toArray++ws.toArray=(vs++ws).toArray:=by simp
 by_cases hw:ws=[]
 ·exact concat_meets ⟨_,ho,rfl⟩ ⟨_,ho2,rfl⟩ noFill_tuple_add seq_tuple_add PySem.F.slot_tuple_add PySem.F.entry_tuple_add (PySem.F.args_tuple_add_2 _ _)
   (tuple_addW1 t b vs.toArray ws.toArray n n2 dd dd2 sl sl2 (by simpa using hv) (by simp [hw])) ⟨ho,ho2,h1 hw⟩
 ·refine concat_meets ⟨_,ho,rfl⟩ ⟨_,ho2,rfl⟩ noFill_tuple_add seq_tuple_add PySem.F.slot_tuple_add PySem.F.entry_tuple_add (PySem.F.args_tuple_add_2 _ _)
   (tuple_addW2 t b vs.toArray ws.toArray n n2 dd dd2 sl sl2 (by simpa using hv) (by simpa using hw) (by rw [List.size_toArray,List.size_toArray];exact hsz)) ⟨ho,ho2,?_⟩
  rw [e]
  exact h2 hw
noncomputable def bV (n d:Nat):Option Int->Nat
 | none=>d
 | some v=>if v < 0 then (v + (n:Int)).toNat else min v.toNat n
theorem QK (n d:Nat) (hd:d<=n) (o:Option Int):bV n d o<=n:=by
 cases o with
 | none=>exact hd
 | some v =>
  show (if v < 0 then (v + (n:Int)).toNat else min v.toNat n)<=n
  by_cases hv:v < 0
  ·rw [if_pos hv];omega
  ·rw [if_neg hv];exact Nat.min_le_right _ _
theorem Fw (v:Int) (n d:Nat):(if v < 0 then max (v + (n:Int)) 0 else min v (n:Int))=((bV n d (some v):Nat):Int):=by
 show (if v < 0 then max (v + (n:Int)) 0 else min v (n:Int))=(((if v < 0 then (v + (n:Int)).toNat else min v.toNat n):Nat):Int)
 by_cases hv:v < 0
 ·simp only [if_pos hv];omega
 ·simp only [if_neg hv];omega
theorem Hj (lo hi:Option Int) (n:Nat):Builtin.Slice.sliceAdjust lo hi 1 (n:Int)=(((bV n 0 lo:Nat):Int),((bV n n hi:Nat):Int)):=by
 have h1:¬ ((1:Int) < 0):=by omega
 unfold Builtin.Slice.sliceAdjust
 simp only [h1,if_false]
 refine Prod.ext ?_ ?_
 ·cases lo with
  | none=>rfl
  | some v=>exact Fw v n 0
 ·cases hi with
  | none=>rfl
  | some v=>exact Fw v n n
theorem HU (i j:Nat):Builtin.Slice.slicePlaces (i:Int) (j:Int) 1=j - i:=by
 unfold Builtin.Slice.slicePlaces
 have h1:(1:Int) > 0:=by omega
 simp only [h1,if_true,Int.ediv_one]
 split <;> omega
theorem x6 {v:Value} {o:Option Int} {Q:Option Int->Shared->Prop} (p:IsPart v o) (h:Q o s):wpAny (model prog w) A (Builtin.Slice.slicePartIndex v) Q E s:=by
 cases p with
 | none=>exact slicePart_none h
 | int i t=>exact slicePart_int h
theorem pY {sl:Addr} {vl vu:Value} {lo hi:Option Int} {n:Nat} {Q:Int × Int × Nat->Shared->Prop} (hs:s.heap.IsSliceOf sl vl vu .none) (pl:IsPart vl lo) (pu:IsPart vu hi)
  (h:Q (((bV n 0 lo:Nat):Int),1,bV n n hi - bV n 0 lo) s):wpAny (model prog w) A (Builtin.Slice.sliceApplied (.ref sl) (pure (n:Int))) Q E s:=by
 obtain ⟨os,hos,hcs,hds⟩:=id hs
 unfold Builtin.Slice.sliceApplied Builtin.Slice.sliceFields
 refine wpAny_bind (wpAny_bind (wpAny_field hos hds (x:=vl) rfl (wpAny_bind (wpAny_field hos hds (x:=vu) rfl (wpAny_bind (wpAny_field hos hds (x:=.none) rfl (wpAny_pure ?_)))))))
 refine wpAny_bind (slicePart_none ?_)
 show wpAny _ _ (if ((1:Int) == 0)=true then _ else _) _ _ s
 rw [if_neg (by decide)]
 refine wpAny_bind (x6 pl (wpAny_bind (x6 pu (wpAny_bind (wpAny_pure ?_)))))
 show wpAny _ _ (match Builtin.Slice.sliceAdjust lo hi 1 (n:Int) with | (lo,hi)=>pure (lo,(1:Int),Builtin.Slice.slicePlaces lo hi 1)) _ _ s
 rw [Hj lo hi n]
 show wpAny _ _ (pure (((bV n 0 lo:Nat):Int),(1:Int),Builtin.Slice.slicePlaces ((bV n 0 lo:Nat):Int) ((bV n n hi:Nat):Int) 1)) _ _ s
 rw [HU]
 exact wpAny_pure h
theorem Mq (xs:Array Value) (i k:Nat):((List.range k).filterMap fun (m:Nat)=>xs[((i:Int) + (m:Int) * 1).toNat]?).toArray=((xs.toList.drop i).take k).toArray:=by
 have e:(fun (m:Nat)=>xs[((i:Int) + (m:Int) * 1).toNat]?)=fun m=>xs[i + m]?:=by
  funext m
  have:((i:Int) + (m:Int) * 1).toNat=i + m:=by omega
  rw [this]
 rw [e]
 have:=pick_run xs i k
 rw [List.filterMap_map] at this
 have e2:((fun x=>xs[x]?) ∘ fun x=>i + x)=fun m=>xs[i + m]?:=rfl
 rw [e2] at this
 rw [this]
theorem wB {t sl:Addr} {items:Array Value} {vl vu:Value} {lo hi:Option Int} {Q:Value->Shared->Prop} (ht:IsTup s.heap t items) (hs:s.heap.IsSliceOf sl vl vu .none) (pl:IsPart vl lo) (pu:IsPart vu hi)
  (hw:¬ (bV items.size 0 lo=0/\bV items.size items.size hi=items.size))
  (h:Q (.ref s.heap.objs.size) { s with heap:=s.heap.push { cls:=.type "tuple",data:=.seq ((items.toList.drop (bV items.size 0 lo)).take (bV items.size items.size hi - bV items.size 0 lo)).toArray } })
  (hsz:items.size<=sizeLine):wpAny (model prog w) A (getItem (.ref t) (.ref sl)) Q E s:=by
 have htake:sizeOk (.seq ((items.toList.drop (bV items.size 0 lo)).take (bV items.size items.size hi - bV items.size 0 lo)).toArray):=by
  show ((items.toList.drop (bV items.size 0 lo)).take (bV items.size items.size hi - bV items.size 0 lo)).toArray.size<=sizeLine
  rw [List.size_toArray,List.length_take,List.length_drop,Array.length_toList]
  omega
 have hj:bV items.size items.size hi<=items.size:=QK _ _ (Nat.le_refl _) hi
 obtain ⟨os,hos,hcs,hds⟩:=id hs
 have hTs:s.TypeIs (.ref sl) "slice":=⟨os,hos,hcs⟩
 unfold getItem
 try with_reducible refine wpAny_holding ?_
 first | refine wpAny_bind (wpAny_pure ?_) | skip
 refine wpAny_bind (wpAny_sequenceKey ht.typeIs (by decide) ?_)
 refine wpAny_bind (wpAny_callSpecial?_slot (name:=Str.ofString "__getitem__") ht.typeIs PyProof.Rows.slot_tuple_getitem
  (wpAny_call_entry PyProof.Rows.slot_tuple_getitem ht.typeIs entry_tuple_getitem ?_ (args_tuple_getitem _ _)))
 show wpAny _ _ (Builtin.Tuple.tupleItemsOf (.ref t) >>= _) _ _ s
 refine wpAny_bind (tupleItemsOf_ ht ?_)
 refine wpAny_bind (wpAny_typeOf hTs ?_)
 rw [if_pos (by decide)]
 refine wpAny_bind (pY hs pl pu ?_)
 have hno:¬ ((((bV items.size 0 lo:Nat):Int) == 0 && (1:Int) == 1 && (bV items.size items.size hi - bV items.size 0 lo) == items.size)=true):=by
  intro q
  rw [Bool.and_eq_true,Bool.and_eq_true] at q
  have q1:((bV items.size 0 lo:Nat):Int)=0:=eq_of_beq q.1.1
  have q2:bV items.size items.size hi - bV items.size 0 lo=items.size:=eq_of_beq q.2
  exact hw ⟨by omega,by omega⟩
 show wpAny _ _ (if (((bV items.size 0 lo:Nat):Int) == 0 && (1:Int) == 1 && (bV items.size items.size hi - bV items.size 0 lo) == items.size)=true then _ else _) _ _ s
 rw [if_neg hno,Mq]
 first
  | exact wpAny_bind (m:=Builtin.Tuple.tupleExact _) (wpAny_newObj_type (wpAny_pure ⟨_,rfl,wpAny_pure h⟩) htake)
  | exact wpAny_bind (m:=Builtin.Tuple.tupleExact _) (wpAny_newObj_type (wpAny_bind (wpAny_pure (wpAny_pure ⟨_,rfl,wpAny_pure h⟩))) htake)
  | exact wpAny_bind (wpAny_bind (m:=Builtin.Tuple.tupleExact _) (wpAny_newObj_type (wpAny_pure (wpAny_pure ⟨_,rfl,wpAny_pure h⟩)) htake))
  | exact wpAny_bind (wpAny_bind (m:=Builtin.Tuple.tupleExact _) (wpAny_newObj_type (wpAny_pure ⟨_,rfl,wpAny_pure h⟩) htake))
end
end HT
namespace L2
open PySem PySem.Spec PyProof.Rows
abbrev TO:=St->Hp->(Option Int->Hp->Prop)->Prop
noncomputable def PO (X:Cx) (e:Option Expr) (t:TO):Prop :=
 ∀ (pins:List (Addr × Obj)) (s:Shared) (σ:St) (H:Hp) (Q:Option Int->Hp->Prop),Inv X pins σ H s->t σ H Q ->
  wpAny (model X.prog X.w) X.A (evalPart e X.env) (fun u s'=>∃ o H',Inv X pins σ H' s'/\IsPart u o/\Q o H') X.xe s
noncomputable def Fi:TO:=fun _ H Q=>Q none H
noncomputable def MG (t:TE):TO:=fun σ H Q=>t σ H fun x H1=>∃ i,x=.int i/\Q (some i) H1
theorem intsAre_of {ns:List Int}:∀ {us:List Value},Vals (ns.map V.int) us->IntsAre us ns:=by
 induction ns with
 | nil=>intro us r;rw [List.map_nil] at r;cases r;exact .nil
 | cons n ns ih =>
  intro us r
  rw [List.map_cons] at r
  cases r with
  | cons r1 r2 =>
   obtain ⟨t,e⟩:=r1
   subst e
   exact .cons n t (ih r2)
section
variable {X:Cx} {e:Expr} {te:TE} {lo hi:Option Expr} {tl th:TO} {pos p2:Pos}
theorem Oe:PO X none Fi:=by
 intro pins s σ H Q I h
 rw [evalPart_none]
 exact wpAny_pure ⟨none,H,I,.none,h⟩
theorem OV (h:PE X e te):PO X (some e) (MG te):=by
 intro pins s σ H Q I hw
 rw [evalPart_some]
 refine bJ (h pins s σ H _ I hw) fun u s1 ⟨x,H1,I1,r1,q1⟩=>?_
 obtain ⟨i,rfl,q⟩:=q1
 obtain ⟨t,rfl⟩:=r1
 exact ⟨some i,H1,I1,.int i t,q⟩
noncomputable def wK (X:Cx) (r:V->Option Int->Option Int->Hp->VK->Prop):Prop :=
 ∀ (pins:List (Addr × Obj)) (s:Shared) (σ:St) (H:Hp) (x:V) (v vl vu:Value) (lo hi:Option Int) (sl:Addr) (Q:VK),Inv X pins σ H s->RelV x v->s.heap.IsSliceOf sl vl vu .none->IsPart vl lo->IsPart vu hi->r x lo hi H Q ->
  ∃ T id,typeLookup (.type T) "__getitem__"=pure (some (.builtin id))/\s.TypeIs v T/\wpAny (model X.prog X.w) X.A (getItem v (.ref sl)) (EP X pins σ Q) X.xe s
theorem wK.or {r r':V->Option Int->Option Int->Hp->VK->Prop} (h:wK X r) (h':wK X r'):wK X (fun x lo hi H Q=>r x lo hi H Q\/r' x lo hi H Q):=by
 intro pins s σ H x v vl vu lo hi sl Q I rx hs pl pu q
 rcases q with q | q
 ·exact h pins s σ H x v vl vu lo hi sl Q I rx hs pl pu q
 ·exact h' pins s σ H x v vl vu lo hi sl Q I rx hs pl pu q
noncomputable def SQ (r:V->Option Int->Option Int->Hp->VK->Prop) (te:TE) (tl th:TO):TE:=fun σ H Q=>te σ H fun x H1=>tl σ H1 fun l H2=>th σ H2 fun u H3=>r x l u H3 Q
theorem K7 {r:V->Option Int->Option Int->Hp->VK->Prop} (hr:wK X r) (he:PE X e te) (hl:PO X lo tl) (hu:PO X hi th):PE X (.Subscript e (.Slice lo hi none p2) pos) (SQ r te tl th):=by
 intro pins s σ H Q I h
 refine Subscript_ (bJ (he pins s σ H _ I h) fun v s1 ⟨x,H1,I1,r1,q1⟩=>?_)
 refine wpAny_Slice (bJ (hl pins s1 σ H1 _ I1 q1) fun vl s2 ⟨l,H2,I2,pl,q2⟩=>bJ (hu pins s2 σ H2 _ I2 q2) fun vu s3 ⟨u,H3,I3,pu,q3⟩=>?_)
 rw [evalPart_none]
 refine wpAny_pure ?_
 have I4:Inv X pins σ H3 { s3 with heap:=s3.heap.push { cls:=.type "slice",data:=.fields #[vl,vu,.none] } }:=I3.kept (t':=s3.toks) fun b ob q=>Heap.get?_push_of_some _ q
 obtain ⟨T,id,hT,ht,hg⟩:=hr pins { s3 with heap:=s3.heap.push { cls:=.type "slice",data:=.fields #[vl,vu,.none] } } σ H3 x v vl vu l u s3.heap.objs.size Q I4 r1 (Heap.IsSliceOf.new ..) pl pu q3
 show wpAny (model X.prog X.w) X.A (subscriptTail e (.Slice lo hi none p2) v (.ref s3.heap.objs.size)) (EP X pins σ Q) X.xe { s3 with heap:=s3.heap.push { cls:=.type "slice",data:=.fields #[vl,vu,.none] } }
 exact tail_any (ops:=[.ref s3.heap.objs.size,v]) ht hT hg (by with_unfolding_all rfl)
noncomputable def rO (xs:List V) (lo hi:Option Int):List V:=(xs.drop (HT.bV xs.length 0 lo)).take (HT.bV xs.length xs.length hi - HT.bV xs.length 0 lo)
theorem wN (xs:List V) (lo hi:Option Int):(rO xs lo hi).length<=xs.length:=by
 unfold rO
 rw [List.length_take,List.length_drop]
 omega
noncomputable def To (K:PySem.W.Frag):V->Option Int->Option Int->Hp->VK->Prop:=fun x lo hi H Q=>∃ a xs,x=.ref a/\eQ K H a xs /\
 ¬ (HT.bV xs.length 0 lo=0/\HT.bV xs.length xs.length hi=xs.length)/\∀ p,H p=none->Q (.ref p) (upd H p (.tup (rO xs lo hi)))
theorem Q0:wK X (To X.K):=by
 intro pins s σ H x v vl vu lo hi sl Q I rx hs pl pu h
 obtain ⟨a,xs,rfl,hx,hw,q⟩:=h
 cases rx
 obtain ⟨its,r,ht,hz⟩:=I.tuple hx
 have hlen:its.toArray.size=xs.length:=by rw [List.size_toArray];exact r.length.symm
 refine ⟨"tuple",_,PyProof.Rows.slot_tuple_getitem.lookup,ht.typeIs,?_⟩
 refine HT.wB ht hs pl pu (by rw [hlen];exact hw) ?_ (by rw [hlen];exact hz)
 rw [hlen]
 refine ⟨.ref s.heap.objs.size,_,I.laid (t':=s.toks) (o:=.tup (rO xs lo hi)) (fun b ob q=>Heap.get?_push_of_some _ q) (Nat.le_refl _) ?_,rfl,q _ (I.hok.fresh (Nat.le_refl _))⟩
 exact ⟨Nat.le_trans (wN xs lo hi) hz,_,(r.drop (HT.bV xs.length 0 lo)).take (HT.bV xs.length xs.length hi - HT.bV xs.length 0 lo),fZ.new _ _⟩
noncomputable def S9 (K:PySem.W.Frag):R2:=fun x y H Q=>∃ a b ns ms,x=.ref a/\y=.ref b/\eQ K H a (ns.map V.int)/\eQ K H b (ms.map V.int)/\Q (.bl (HT.lexLt ns ms)) H
theorem Pq (hu:X.A.units < cLine):cY X (compareOp .Lt) (S9 X.K):=by
 intro pins s σ H x y v u Q I rx ry h
 obtain ⟨a,b,ns,ms,rfl,rfl,ha,hb,q⟩:=h
 cases rx
 cases ry
 obtain ⟨its,r1,p1,_⟩:=I.tuple ha
 obtain ⟨its2,r2,p2,_⟩:=I.tuple hb
 have i1:IntsAre its.toArray.toList ns:=intsAre_of r1
 have i2:IntsAre its2.toArray.toList ms:=intsAre_of r2
 exact HT.Gd p1 p2 i1 i2 hu ⟨.bl (HT.lexLt ns ms),H,I,rfl,q⟩
noncomputable def Sy (K:PySem.W.Frag):R2:=fun x y H Q=>∃ a b xs ys,x=.ref a/\y=.ref b/\eQ K H a xs/\eQ K H b ys/\xs≠[]/\xs.length + ys.length<=sizeLine /\
 (ys=[]->Q (.ref a) H)/\(ys≠[]->∀ p,H p=none->Q (.ref p) (upd H p (.tup (xs++ys))))
theorem Vals.nil_iff {xs:List V} {us:List Value} (r:Vals xs us):us=[] ↔ xs=[]:=by
 cases r with
 | nil=>simp
 | cons _ _=>simp
theorem NN:cY X (binaryOp .Add) (Sy X.K):=by
 intro pins s σ H x y v u Q I rx ry h
 obtain ⟨a,b,xs,ys,rfl,rfl,ha,hb,hx,hz,q1,q2⟩:=h
 cases rx
 cases ry
 obtain ⟨its,r1,p1,_⟩:=I.tuple ha
 obtain ⟨its2,r2,p2,_⟩:=I.tuple hb
 refine HT.OF p1 p2 (fun z=>hx (r1.nil_iff.mp z)) (fun z=>⟨.ref a,H,I,rfl,q1 (r2.nil_iff.mp z)⟩) (fun z=>?_) (by rw [<- r1.length,<- r2.length];exact hz)
 refine ⟨.ref s.heap.objs.size,_,I.laid (t':=s.toks) (o:=.tup (xs++ys)) (fun b ob q=>Heap.get?_push_of_some _ q) (Nat.le_refl _) ?_,rfl,q2 (fun w=>z (r2.nil_iff.mpr w)) _ (I.hok.fresh (Nat.le_refl _))⟩
 exact ⟨by rw [List.length_append];exact hz,_,r1.append r2,fZ.new _ _⟩
end
noncomputable def qW (n:Nat) (i:Int):Option Nat:=if 0<=i then (if i < n then some i.toNat else none) else if -(n:Int)<=i then some (i + n).toNat else none
noncomputable def eP {α:Type} (xs:List α) (i:Int):Option α:=(qW xs.length i).bind fun j=>xs[j]?
theorem NQ {n:Nat} {i:Int} {j:Nat} (h:qW n i=some j):seqIndex? i n=some j/\j < n/\-(n:Int)<=i/\i < n:=by
 unfold qW at h
 by_cases h0:0<=i
 ·rw [if_pos h0] at h
  by_cases h1:i < n
  ·rw [if_pos h1] at h
   have e:i.toNat=j:=Option.some.inj h
   exact ⟨by rw [seqIndex_of h0 h1,e],by omega,by omega,h1⟩
  ·rw [if_neg h1] at h;cases h
 ·rw [if_neg h0] at h
  by_cases h1:-(n:Int)<=i
  ·rw [if_pos h1] at h
   have e:(i + n).toNat=j:=Option.some.inj h
   exact ⟨by rw [seqIndex_neg (by omega) h1,e],by omega,h1,by omega⟩
  ·rw [if_neg h1] at h;cases h
theorem Af {α:Type} {xs:List α} {i:Int} {v:α} (h:eP xs i=some v):∃ j,seqIndex? i xs.length=some j/\xs[j]?=some v/\j < xs.length/\-(xs.length:Int)<=i/\i < xs.length:=by
 unfold eP at h
 cases e:qW xs.length i with
 | none=>rw [e] at h;cases h
 | some j =>
  rw [e] at h
  obtain ⟨h1,h2,h3,h4⟩:=NQ e
  exact ⟨j,h1,h,h2,h3,h4⟩
theorem mL {α:Type} {xs:List α} {j:Nat} {v:α} (h:xs[j]?=some v):eP xs (j:Int)=some v:=by
 have hj:j < xs.length:=(List.getElem?_eq_some_iff.mp h).1
 have e:qW xs.length (j:Int)=some j:=by
  unfold qW
  rw [if_pos (by omega),if_pos (by omega)];simp
 unfold eP;rw [e];exact h
theorem wU {α:Type} (xs:List α) (v:α):eP (xs++[v]) (-1)=some v:=by
 have hl:(xs++[v]).length=xs.length + 1:=by simp
 have e:qW (xs++[v]).length (-1)=some xs.length:=by
  unfold qW
  rw [hl,if_neg (by decide),if_pos (by omega)]
  congr 1
  omega
 unfold eP
 rw [e]
 show (xs++[v])[xs.length]?=some v
 simp
noncomputable def vD (b:Expr):Prop:=∀ o i,subscripted b false o i=operate [o,i] (getItem o i)
noncomputable def yE (X:Cx) (r:R2):Prop :=
 ∀ (value slice:Expr) (pins:List (Addr × Obj)) (s:Shared) (σ:St) (H:Hp) (x y:V) (v u:Value) (Q:VK),Inv X pins σ H s->RelV x v->RelV y u->r x y H Q ->
  subscripted slice false v u=operate [v,u] (getItem v u)->wpAny (model X.prog X.w) X.A (subscriptTail value slice v u) (EP X pins σ Q) X.xe s
noncomputable def Qk (X:Cx) (id:String) (r:V->List V->Hp->VK->Prop):Prop :=
 ∀ (pins:List (Addr × Obj)) (s:Shared) (σ:St) (H:Hp) (x:V) (xs:List V) (v:Value) (us:List Value) (Q:VK),Inv X pins σ H s->RelV x v->Vals xs us->r x xs H Q ->
  wpAny (model X.prog X.w) X.A (call (.builtin id) (v :: us)) (EP X pins σ Q) X.xe s
section
variable {X:Cx} {a b:Expr} {ta tb:TE} {pos:Pos}
theorem yE.or {r r':R2} (h:yE X r) (h':yE X r'):yE X (fun x y H Q=>r x y H Q\/r' x y H Q):=by
 intro value slice pins s σ H x y v u Q I rx ry q hs
 rcases q with q | q
 ·exact h value slice pins s σ H x y v u Q I rx ry q hs
 ·exact h' value slice pins s σ H x y v u Q I rx ry q hs
theorem RY {r:R2} (hr:yE X r) (ha:PE X a ta) (hb:PE X b tb) (hs:vD b):PE X (.Subscript a b pos) (Fg r ta tb):=by
 intro pins s σ H Q I h
 exact Subscript_ (GB ha hb I h fun v u s2 x y H2 I2 rx ry q=>hr a b pins s2 σ H2 x y v u Q I2 rx ry q (hs _ _))
noncomputable def Q1 (K:PySem.W.Frag):R2:=fun x y H Q=>∃ p xs i v,x=.ref p/\y=.int i/\eH K H p xs/\eP xs i=some v/\Q v H
noncomputable def QY (K:PySem.W.Frag):R2:=fun x y H Q=>∃ p xs i v,x=.ref p/\y=.int i/\eQ K H p xs/\eP xs i=some v/\Q v H
noncomputable def Ra:R2:=fun x y H Q=>∃ z i c,x=.str z/\y=.int i/\z.length<=sizeLine/\eP z.cps.toList i=some c/\Q (.str ⟨#[c]⟩) H
theorem Ow:yE X (Q1 X.K):=by
 intro value slice pins s σ H x y v u Q I rx ry h hs
 obtain ⟨p,xs,i,z,rfl,rfl,hq,he,q⟩:=h
 cases rx
 obtain ⟨t,rfl⟩:=ry
 obtain ⟨its,r,pl,hz⟩:=I.list hq
 obtain ⟨j,h1,h2,h3,h4,h5⟩:=Af he
 obtain ⟨w,ew,rw'⟩:=r.get h2
 have hl:=r.length
 have hn:=uM
 have fin:EP X pins σ Q w s:=⟨z,H,I,rw',q⟩
 by_cases h0:0<=i
 ·have hj:i.toNat=j:=by
   rw [seqIndex_of h0 h5] at h1
   exact Option.some.inj h1
  exact item_listR pl.isList h0 (by omega) (by rw [hj];simpa using ew) fin hs
 ·have hj:(i + (its.toArray.size:Int)).toNat=j:=by
   rw [seqIndex_neg (by omega) h4] at h1
   rw [List.size_toArray,<- hl]
   exact Option.some.inj h1
  exact subscriptTail_builtinR (x:=w) pl.isList.typeIs slot_list_getitem.lookup
   (wpAny_getItem_list_neg (Q:=fun r s'=>r=w/\EP X pins σ Q r s') pl.isList (by omega) (by rw [List.size_toArray] <;> omega) (by omega) (by rw [hj];simpa using ew) ⟨rfl,fin⟩) hs
theorem Qx:yE X (QY X.K):=by
 intro value slice pins s σ H x y v u Q I rx ry h hs
 obtain ⟨p,xs,i,z,rfl,rfl,hq,he,q⟩:=h
 cases rx
 obtain ⟨t,rfl⟩:=ry
 obtain ⟨its,r,pl,hz⟩:=I.tuple hq
 obtain ⟨j,h1,h2,h3,h4,h5⟩:=Af he
 obtain ⟨w,ew,rw'⟩:=r.get h2
 have hl:=r.length
 have hn:=uM
 have fin:EP X pins σ Q w s:=⟨z,H,I,rw',q⟩
 exact subscriptTail_builtinR (x:=w) pl.typeIs slot_tuple_getitem.lookup
  (getItem_tuple (j:=j) (Q:=fun r s'=>r=w/\EP X pins σ Q r s') pl (by omega) (by omega) (by rw [List.size_toArray,<- hl];exact h1) (by simpa using ew) ⟨rfl,fin⟩) hs
theorem Q8:yE X Ra:=by
 intro value slice pins s σ H x y v u Q I rx ry h hs
 obtain ⟨z,i,c,rfl,rfl,hz,he,q⟩:=h
 obtain ⟨t,rfl⟩:=rx
 obtain ⟨t',rfl⟩:=ry
 obtain ⟨j,h1,h2,h3,h4,h5⟩:=Af he
 have hl:z.cps.toList.length=z.length:=by simp [Str.length]
 rw [hl] at h1 h4 h5
 have hn:=uM
 exact tail_any (typeIs_str s z t) slot_str_getitem.lookup (getItem_str (c:=c) (by
  have e1:decide (i < -(2 ^ 63:Int))=false:=decide_eq_false (by omega)
  have e2:decide (i ≥ 2 ^ 63)=false:=decide_eq_false (by omega)
  rw [e1,e2,Bool.or_false]) (by rw [h1];simpa using h2) ⟨.str ⟨#[c]⟩,H,I.tok _,⟨_,rfl⟩,q⟩) hs
noncomputable def SS (K:PySem.W.Frag):R2:=fun x y H Q=>Q1 K x y H Q\/QY K x y H Q\/Ra x y H Q
theorem Rq:yE X (SS X.K):=Ow.or (Qx.or Q8)
theorem CB (lo hi:Option Int) (n:Nat):(sliceBounds lo hi none n).1=((HT.bV n 0 lo:Nat):Int)/\(sliceBounds lo hi none n).2.1=((HT.bV n n hi:Nat):Int)/\(sliceBounds lo hi none n).2.2=1:=by
 refine ⟨?_,?_,rfl⟩
 ·cases lo with
  | none=>simp [sliceBounds,HT.bV]
  | some i =>
   simp only [sliceBounds,HT.bV,Option.getD_none,show (1:Int) > 0 by decide,if_true]
   by_cases h:i < 0
   ·simp only [h,if_true] <;> omega
   ·simp only [h,if_false] <;> omega
 ·cases hi with
  | none=>simp [sliceBounds,HT.bV]
  | some i =>
   simp only [sliceBounds,HT.bV,Option.getD_none,show (1:Int) > 0 by decide,if_true]
   by_cases h:i < 0
   ·simp only [h,if_true] <;> omega
   ·simp only [h,if_false] <;> omega
theorem BN (its:List Value) (lo hi:Option Int):slicePick its.toArray lo hi none=((its.drop (HT.bV its.length 0 lo)).take (HT.bV its.length its.length hi - HT.bV its.length 0 lo)).toArray:=by
 obtain ⟨h1,h2,h3⟩:=CB lo hi its.toArray.size
 unfold slicePick
 rw [h1,h2,h3]
 simp only [sliceRange_one,pick_run,List.size_toArray] <;> rfl
noncomputable def Td (K:PySem.W.Frag):V->Option Int->Option Int->Hp->VK->Prop:=fun x lo hi H Q=>∃ a xs,x=.ref a/\eH K H a xs/\∀ p,H p=none->Q (.ref p) (upd H p (.lst (rO xs lo hi)))
theorem OY:wK X (Td X.K):=by
 intro pins s σ H x v vl vu lo hi sl Q I rx hs pl pu h
 obtain ⟨a,xs,rfl,hx,q⟩:=h
 cases rx
 obtain ⟨its,r,ht,hz⟩:=I.list hx
 have hlen:=r.length
 refine ⟨"list",_,slot_list_getitem.lookup,ht.isList.typeIs,?_⟩
 refine wpAny_getItem_list_slice ht.isList hs pl pu .none (by simp) ?_ (by rw [List.size_toArray] <;> omega)
 rw [BN,<- hlen]
 refine ⟨.ref s.heap.objs.size,_,I.laid (t':=s.toks) (o:=.lst (rO xs lo hi)) (fun b ob q=>Heap.get?_push_of_some _ q) (Nat.le_refl _) ?_,rfl,q _ (I.hok.fresh (Nat.le_refl _))⟩
 exact ⟨Nat.le_trans (wN xs lo hi) hz,_,0,(r.drop (HT.bV xs.length 0 lo)).take (HT.bV xs.length xs.length hi - HT.bV xs.length 0 lo),Heap.get?_push_size _ rfl⟩
noncomputable def iJ:V->Bool
 | .non=>true
 | .bl _=>true
 | .int _=>true
 | .str _=>true
 | _=>false
noncomputable def qX:V->V->Bool
 | .non,.non=>true
 | .bl a,.bl b=>a == b
 | .bl a,.int b=>(if a then 1 else 0) == b
 | .int a,.bl b=>a == (if b then 1 else 0)
 | .int a,.int b=>a == b
 | .str a,.str b=>a == b
 | _,_=>false
theorem RE {A:Around} {s:Shared} {y x:V} {u v:Value} (ry:RelV y u) (rx:RelV x v) (fy:iJ y=true) (fx:iJ x=true):SeqAt.EqAt A s u v (qX y x):=by
 cases y with
 | non =>
  cases ry
  cases x with
  | non=>cases rx;exact SeqAt.EqAt.same _
  | bl b=>cases rx;exact SeqAt.EqAt.none_bool b
  | int b=>obtain ⟨t,rfl⟩:=rx;exact SeqAt.EqAt.none_int b t
  | str b=>obtain ⟨t,rfl⟩:=rx;exact SeqAt.EqAt.none_str b t
  | _=>exact absurd (show false=true from fx) Bool.false_ne_true
 | bl a =>
  cases ry
  cases x with
  | non=>cases rx;exact SeqAt.EqAt.bool_none a
  | bl b=>cases rx;exact SeqAt.EqAt.bool_bool a b
  | int b=>obtain ⟨t,rfl⟩:=rx;exact SeqAt.EqAt.bool_int a b t
  | str b=>obtain ⟨t,rfl⟩:=rx;exact SeqAt.EqAt.bool_str a b t
  | _=>exact absurd (show false=true from fx) Bool.false_ne_true
 | int a =>
  obtain ⟨t',rfl⟩:=ry
  cases x with
  | non=>cases rx;exact SeqAt.EqAt.int_none a t'
  | bl b=>cases rx;exact SeqAt.EqAt.int_bool a t' b
  | int b=>obtain ⟨t,rfl⟩:=rx;exact SeqAt.EqAt.int_int a t' b t
  | str b=>obtain ⟨t,rfl⟩:=rx;exact SeqAt.EqAt.int_str a t' b t
  | _=>exact absurd (show false=true from fx) Bool.false_ne_true
 | str a =>
  obtain ⟨t',rfl⟩:=ry
  cases x with
  | non=>cases rx;exact SeqAt.EqAt.str_none a t'
  | bl b=>cases rx;exact SeqAt.EqAt.str_bool a t' b
  | int b=>obtain ⟨t,rfl⟩:=rx;exact SeqAt.EqAt.str_int a t' b t
  | str b=>obtain ⟨t,rfl⟩:=rx;exact SeqAt.EqAt.str_str a t' b t
  | _=>exact absurd (show false=true from fx) Bool.false_ne_true
 | _=>exact absurd (show false=true from fy) Bool.false_ne_true
noncomputable def uT (x:V) (u:Value):Bool:=match u with
 | .none=>qX .non x
 | .bool b=>qX (.bl b) x
 | .int i _=>qX (.int i) x
 | .str z _=>qX (.str z) x
 | _=>false
theorem Cc {x y:V} {u:Value} (r:RelV y u) (f:iJ y=true):uT x u=qX y x:=by
 cases y with
 | non=>cases r;rfl
 | bl b=>cases r;rfl
 | int i=>obtain ⟨t,rfl⟩:=r;rfl
 | str z=>obtain ⟨t,rfl⟩:=r;rfl
 | _=>exact absurd (show false=true from f) Bool.false_ne_true
theorem Ay {x:V}:∀ {xs:List V} {us:List Value},Vals xs us->xs.all iJ=true->us.any (uT x)=xs.any fun y=>qX y x
 | _,_,.nil,_=>rfl
 | y :: xs,u :: us,.cons r t,f=>by
  rw [List.all_cons,Bool.and_eq_true] at f
  rw [List.any_cons,List.any_cons,Cc r f.1,Ay t f.2]
theorem tE {A:Around} {s:Shared} {x:V} {v:Value} (rx:RelV x v) (fx:iJ x=true):∀ {xs:List V} {us:List Value},Vals xs us->xs.all iJ=true->∀ u∈us,SeqAt.EqAt A s u v (uT x u)
 | _,_,.nil,_=>fun u hu=>by cases hu
 | y :: xs,u :: us,.cons r t,f=>fun u' hu=>by
  rw [List.all_cons,Bool.and_eq_true] at f
  rcases List.mem_cons.mp hu with rfl | hu
  ·rw [Cc r f.1];exact RE r rx f.1 fx
  ·exact tE rx fx t f.2 u' hu
noncomputable def ME (x:V) (xs:List V):Bool:=xs.any fun y=>qX y x
noncomputable def SV (K:PySem.W.Frag) (neg:Bool):R2:=fun x y H Q=>∃ p xs,y=.ref p/\(eH K H p xs\/eQ K H p xs)/\iJ x=true/\xs.all iJ=true/\Q (.bl (if neg then !ME x xs else ME x xs)) H
theorem JK:cY X (compareOp .In) (SV X.K false):=by
 intro pins s σ H x y v u Q I rx ry h
 obtain ⟨p,xs,rfl,hq,fx,fs,q⟩:=h
 cases ry
 rcases hq with hq | hq
 ·obtain ⟨its,r,pl,hz⟩:=I.list hq
  refine SeqAt.in_listAt (uT x) pl.isList (fun w hw=>tE rx fx r fs w (by simpa using hw)) ⟨.bl _,H,I,rfl,?_⟩
  rw [show its.toArray.any (uT x)=its.any (uT x) by simp,Ay r fs]
  exact q
 ·obtain ⟨its,r,pl,hz⟩:=I.tuple hq
  refine SeqAt.in_tupleAt (uT x) pl (fun w hw=>tE rx fx r fs w (by simpa using hw)) ⟨.bl _,H,I,rfl,?_⟩
  rw [show its.toArray.any (uT x)=its.any (uT x) by simp,Ay r fs]
  exact q
theorem jB.or {f:Value} {r r':List V->Hp->VK->Prop} (h:jB X f r) (h':jB X f r'):jB X f (fun xs H Q=>r xs H Q\/r' xs H Q):=by
 intro pins s σ H xs us Q I rs q
 rcases q with q | q
 ·exact h pins s σ H xs us Q I rs q
 ·exact h' pins s σ H xs us Q I rs q
theorem BE:jB X (.type "tuple") (fun xs H Q=>∃ p ys,xs=[.ref p]/\((eH X.K H p ys/\∀ l,H l=none->Q (.ref l) (upd H l (.tup ys)))\/(eQ X.K H p ys/\Q (.ref p) H))):=by
 intro pins s σ H xs us Q I r h
 obtain ⟨p,ys,rfl,h⟩:=h
 obtain ⟨u,rfl,rx⟩:=vals1 r
 cases rx
 rcases h with ⟨hq,q⟩ | ⟨hq,q⟩
 ·obtain ⟨its,r',pl,hz⟩:=I.list hq
  have hlen:=r'.length
  refine call_tuple_list pl.isList (fun h' kp=>?_) (by simp only [List.size_toArray] <;> omega)
  have I1:Inv X pins σ H { s with heap:=h' }:=I.kept (t':=s.toks) kp
  have I2:Inv X pins σ (upd H h'.objs.size (.tup ys)) { s with heap:=h'.push { cls:=.type "tuple",data:=.seq its.toArray } } :=
   I1.laid (t':=s.toks) (fun b o e=>Heap.get?_push_of_some _ e) (Nat.le_refl _) (show eA X.prog X.w _ _ _ (.tup ys) from ⟨hz,its,r',fZ.new _ _⟩)
  exact ⟨.ref h'.objs.size,_,I2,rfl,q _ (I1.hok.fresh (Nat.le_refl _))⟩
 ·obtain ⟨its,r',pl,hz⟩:=I.tuple hq
  exact call_tuple_same pl ⟨.ref p,H,I,rfl,q⟩
noncomputable def MW (K:PySem.W.Frag) (T:String) (x:V) (H:Hp):Prop:=match x with
 | .str _=>T="str"
 | .int _=>T="int"
 | .ref p=>(T="list"/\∃ xs,eH K H p xs)\/(T="tuple"/\∃ o,K.lookup p=some o/\o.cls=.type "tuple"/\o.dict=none) \/
   (T="dict"/\((∃ kvs,H p=some (.dK kvs))\/∃ kvs,H p=some (.dT kvs)))\/(T="set"/\∃ S n,H p=some (.set S n))
 | _=>False
theorem IF {pins:List (Addr × Obj)} {σ:St} {H:Hp} {s:Shared} {T:String} {x:V} {v:Value} (I:Inv X pins σ H s) (r:RelV x v) (ty:MW X.K T x H) :
  s.TypeIs v T/\∀ a,v=.ref a->∃ ob,s.heap.get? a=some ob/\ob.dict=none:=by
 cases x with
 | str z =>
  obtain ⟨t,rfl⟩:=r
  cases (show T="str" from ty)
  exact ⟨typeIs_str s z t,fun _ e=>nomatch e⟩
 | int i =>
  obtain ⟨t,rfl⟩:=r
  cases (show T="int" from ty)
  exact ⟨typeIs_int s i t,fun _ e=>nomatch e⟩
 | ref p =>
  cases r
  rcases ty with ⟨rfl,xs,hq⟩ | ⟨rfl,o,hk,hc,hd⟩ | ⟨rfl,hk⟩ | ⟨rfl,S,n,hk⟩
  ·obtain ⟨its,_,pl,_⟩:=I.list hq
   refine ⟨pl.isList.typeIs,fun a e=>?_⟩
   cases e
   obtain ⟨o,n,e,c,hd,_⟩:=pl
   exact ⟨o,e,hd⟩
  ·refine ⟨⟨o,I.kIn p o hk,hc⟩,fun a e=>?_⟩
   cases e
   exact ⟨o,I.kIn _ o hk,hd⟩
  ·have z:∃ o,s.heap.get? p=some o/\o.ExactDict:=by
    rcases hk with ⟨kvs,hk⟩ | ⟨kvs,hk⟩
    ·obtain ⟨_,_,_,_,o,_,_,e,ex,_⟩:=I.hok p _ hk
     exact ⟨o,e,ex⟩
    ·obtain ⟨_,_,_,_,o,_,_,e,ex,_⟩:=I.hok p _ hk
     exact ⟨o,e,ex⟩
   obtain ⟨o,e,ex⟩:=z
   refine ⟨⟨o,e,ex.1⟩,fun a e2=>?_⟩
   cases e2
   exact ⟨o,e,ex.2.1⟩
  ·obtain ⟨o,_,_,_,e,ex,_⟩:=I.hok p _ hk
   refine ⟨⟨o,e,ex.1⟩,fun a e2=>?_⟩
   cases e2
   exact ⟨o,e,ex.2.1⟩
 | _=>exact False.elim ty
noncomputable def Pw (K:PySem.W.Frag) (T:String) (r:V->List V->Hp->VK->Prop) (to:TE):TE:=fun σ H Q=>to σ H fun x H1=>MW K T x H1/\r x [] H1 Q
noncomputable def Nr (K:PySem.W.Frag) (T:String) (r:V->List V->Hp->VK->Prop) (to:TE) (t:TA):TE:=fun σ H Q=>to σ H fun x H1=>MW K T x H1/\t σ H1 fun xs H2=>r x xs H2 Q
variable {o e:Expr} {es:List Expr} {to:TE} {t:TA} {name:Str} {apos cpos:Pos} {T id:String} {r:V->List V->Hp->VK->Prop}
theorem QH (pa:PlainAttrs T) (slot:Slot T name id) (hty:typeOf (.builtin id)=pure (.type "method_descriptor")) (hm:Qk X id r) (ho:PE X o to)
  (hbase:attributeBase o name X.env (eval o X.env)=eval o X.env:=by rfl) (hline:(apos.endLine == cpos.line)=true:=by rfl):PE X (.Call (.Attribute o name apos) [] [] cpos) (Pw X.K T r to):=by
 intro pins s σ H Q I h
 refine wpAny_Call_method0_late hbase hline (bJ (ho pins s σ H _ I h) fun v s1 ⟨x,H1,I1,r1,ty,q1⟩=>?_)
 obtain ⟨h1,h2⟩:=IF I1 r1 ty
 exact ⟨T,id,pa,slot,hty,h1,h2,Calls.callWith_builtin rfl (PySem.evalArgs_none (hm pins s1 σ H1 x [] v [] Q I1 r1 .nil q1))⟩
theorem vY (pa:PlainAttrs T) (slot:Slot T name id) (hty:typeOf (.builtin id)=pure (.type "method_descriptor")) (hm:Qk X id r) (ho:PE X o to) (ha:PA X (e :: es) t)
  (hbase:attributeBase o name X.env (eval o X.env)=eval o X.env:=by rfl)
  (hfew:((backTo cpos (starEach (e :: es) X.env)).all (fun x=>!x.1) && (backToKw cpos (keywordEach [] X.env)).all (fun x=>x.1.isSome)
   && decide ((e :: es).length + ([]:List Keyword).length + (if ([]:List Keyword).isEmpty then 0 else 1) < 30))=true:=by rfl)
  (hline:(apos.endLine == cpos.line)=true:=by rfl) (hs:starEach (e :: es) X.env=(false,eval e X.env) :: starEach es X.env:=by rfl) (hplain:(backTo cpos (starEach es X.env)).any (·.1)=false:=by rfl) :
  PE X (.Call (.Attribute o name apos) (e :: es) [] cpos) (Nr X.K T r to t):=by
 intro pins s σ H Q I h
 refine wpAny_Call_method_late hbase hfew hline rfl (bJ (ho pins s σ H _ I h) fun v s1 ⟨x,H1,I1,r1,ty,q1⟩=>?_)
 obtain ⟨h1,h2⟩:=IF I1 r1 ty
 refine ⟨T,id,pa,slot,hty,h1,h2,?_⟩
 have hA:=ha cpos pins s1 σ H1 _ I1 q1
 rw [hs] at hA ⊢
 refine Calls.callWith_builtin (by show (false || (backTo cpos (starEach es X.env)).any (·.1))=false;rw [hplain] <;> rfl) (Calls.evalArgs_plain ?_)
 exact bJ hA fun us s2 ⟨vs,H2,I2,r2,q2⟩=>hm pins s2 σ H2 x vs v us Q I2 r1 r2 q2
end
noncomputable def Cp (X:Cx) (id:String) (r:V->List V->Hp->VK->Prop):Prop :=
 ∀ (pins:List (Addr × Obj)) (s:Shared) (σ:St) (H:Hp) (x:V) (xs:List V) (v:Value) (us:List Value) (Q:VK),Inv X pins σ H s->RelV x v->Vals xs us->r x xs H Q ->
  wpAny (model X.prog X.w) X.A (call (.builtin id) (v :: us)) (EP X pins σ Q) X.xe s
theorem Vals.one:∀ {x:V} {us:List Value},Vals [x] us->∃ u,us=[u]/\RelV x u
 | _,_,.cons r .nil=>⟨_,rfl,r⟩
theorem Vals.zero:∀ {us:List Value},Vals [] us->us=[]
 | _,.nil=>rfl
theorem Vals.dropLast {xs:List V} {us:List Value} (h:Vals xs us):Vals xs.dropLast us.dropLast:=by
 induction h with
 | nil=>exact .nil
 | cons r t ih =>
  cases t with
  | nil=>exact .nil
  | cons q t'=>exact .cons r ih
theorem Vals.rep {xs:List V} {us:List Value} (h:Vals xs us):∀ k:Nat,Vals (List.replicate k xs).flatten (List.replicate k us).flatten
 | 0=>.nil
 | k + 1=>by
  rw [List.replicate_succ,List.replicate_succ,List.flatten_cons,List.flatten_cons]
  exact Vals.append h (Vals.rep h k)
theorem HN {α:Type} (l:List α):l.eraseIdx (l.length - 1)=l.dropLast:=by
 induction l with
 | nil=>rfl
 | cons a r ih =>
  cases r with
  | nil=>rfl
  | cons b r =>
   have e:(a :: b :: r).length - 1=((b :: r).length - 1) + 1:=by
    have h1:(a :: b :: r).length=r.length + 2:=rfl
    have h2:(b :: r).length=r.length + 1:=rfl
    omega
   rw [e,List.eraseIdx_cons_succ,ih]
   all_goals rfl
theorem foldl_rep (its:List Value):∀ (k:Nat) (acc:List Value),
  List.foldl (fun x1 x2=>x1++x2) acc.toArray (List.replicate k its.toArray)=(acc++(List.replicate k its).flatten).toArray
 | 0,acc=>by simp
 | k + 1,acc=>by
  have e:acc.toArray++its.toArray=(acc++its).toArray:=by simp
  have e2:(acc++its)++(List.replicate k its).flatten=acc++(List.replicate (k + 1) its).flatten:=by
   rw [List.replicate_succ,List.flatten_cons,List.append_assoc]
  rw [<- e2,<- foldl_rep its k (acc++its),<- e,List.replicate_succ,List.foldl_cons]
section
variable {X:Cx} {pins:List (Addr × Obj)} {σ:St} {H:Hp} {s:Shared} {l b:Addr} {xs ys zs:List V}
theorem Inv.lset {its its':List Value} {n:Nat} {f:Array Value->Array Value} {t':Nat} (I:Inv X pins σ H s) (hH:H l=some (.lst xs))
  (e:s.heap.get? l=some { cls:=.type "list",data:=.seq its.toArray n }) (hf:f its.toArray=its'.toArray) (hv:Vals ys its') (hz:ys.length<=sizeLine) :
  Inv X pins σ (upd H l (.lst ys)) { s with heap:=s.heap.update l (Obj.mapSeq f),toks:=t' }:=by
 have q:=PySem.IsL.update e f
 rw [hf] at q
 refine I.write (x:=l) (e:=l) (by rw [hH];exact trivial) (.inl rfl) (fun b' u hb hu=>(Heap.get?_update_other s.heap (Obj.mapSeq f) (Ne.symm hb)).trans hu) ⟨_,q⟩ ?_
 exact ⟨hz,its',_,hv,q⟩
theorem Inv.lnew {its:List Value} {t':Nat} (I:Inv X pins σ H s) (hv:Vals ys its) (hz:ys.length<=sizeLine) :
  Inv X pins σ (upd H s.heap.objs.size (.lst ys)) { s with heap:=s.heap.push { cls:=.type "list",data:=.seq its.toArray },toks:=t' } :=
 I.laid (fun _ _ q=>Heap.get?_push_of_some _ q) (Nat.le_refl _) ⟨hz,its,0,hv,Heap.get?_push_size _ rfl⟩
theorem Inv.fresh (I:Inv X pins σ H s):H s.heap.objs.size=none:=I.hok.fresh (Nat.le_refl _)
theorem Inv.lstM (I:Inv X pins σ H s) (hH:H l=some (.lst xs)):xs.length<=sizeLine/\∃ (its:List Value) (n:Nat),Vals xs its/\xs.length=its.length/\s.heap.get? l=some { cls:=.type "list",data:=.seq its.toArray n }:=by
 obtain ⟨z,its,n,r,e⟩:=I.hok l _ hH
 exact ⟨z,its,n,r,r.length,e⟩
theorem CV {n:Nat} (h:n<=sizeLine):Builtin.List.listTooLong n=false:=by
 unfold Builtin.List.listTooLong
 exact decide_eq_false (by omega)
end
section
variable {X:Cx}
noncomputable def Fu:V->List V->Hp->VK->Prop:=fun x vs H Q=>∃ l xs y,x=.ref l/\vs=[y]/\H l=some (.lst xs)/\xs.length < sizeLine/\Q .non (upd H l (.lst (xs++[y])))
theorem AH:Cp X "list.append" Fu:=by
 intro pins s σ H x vs v us Q I rx rv h
 obtain ⟨l,xs,y,rfl,rfl,hH,hz,q⟩:=h
 cases rx
 obtain ⟨u,rfl,ru⟩:=rv.one
 obtain ⟨z,its,n,r,hl,e⟩:=I.lstM hH
 refine call_meets F.slot_list_append ⟨_,e,rfl⟩ F.entry_list_append (F.args_list_append_2 _ _) (PySem.list_append l its.toArray n u (by rw [List.size_toArray];omega)) ⟨e,?_⟩
 refine ⟨.non,_,I.lset (its':=its++[u]) hH e (by simp) (r.append (.cons ru .nil)) ?_,rfl,q⟩
 rw [List.length_append,List.length_singleton]
 omega
noncomputable def RH:V->List V->Hp->VK->Prop:=fun x vs H Q=>∃ l xs y,x=.ref l/\vs=[]/\H l=some (.lst xs)/\xs[xs.length - 1]?=some y/\Q y (upd H l (.lst xs.dropLast))
theorem Ro:Cp X "list.pop" RH:=by
 intro pins s σ H x vs v us Q I rx rv h
 obtain ⟨l,xs,y,rfl,rfl,hH,hy,q⟩:=h
 cases rx
 have hus:=rv.zero
 subst hus
 obtain ⟨z,its,n,r,hl,e⟩:=I.lstM hH
 obtain ⟨u,hu,ru⟩:=r.get hy
 have hy':its.toArray[its.toArray.size - 1]?=some u:=by
  show its.toArray[its.length - 1]?=some u
  rw [<- Array.getElem?_toList,<- hl]
  exact hu
 refine call_meets F.slot_list_pop ⟨_,e,rfl⟩ F.entry_list_pop (F.args_list_pop_1 _) (MeetsSeq.list_pop_last l its.toArray n u hy' (by rw [List.size_toArray];omega)) ⟨e,?_⟩
 refine ⟨y,_,I.lset (its':=its.dropLast) hH e ?_ r.dropLast ?_,ru,q⟩
 ·show its.toArray.eraseIdxIfInBounds (its.toArray.size - 1)=its.dropLast.toArray
  rw [List.size_toArray,List.eraseIdxIfInBounds_toArray,HN]
 ·rw [List.length_dropLast]
  omega
noncomputable def QN:R2:=fun x y H Q=>∃ l k xs,x=.ref l/\y=.int k/\H l=some (.lst xs)/\-(2 ^ 63)<=k/\k < 2 ^ 63/\xs.length * k.toNat<=sizeLine /\
 ∀ p,H p=none->Q (.ref p) (upd H p (.lst (List.replicate k.toNat xs).flatten))
theorem len_rep {α:Type} (xs:List α) (k:Nat):(List.replicate k xs).flatten.length=k * xs.length:=by
 induction k with
 | zero=>simp
 | succ k ih=>rw [List.replicate_succ,List.flatten_cons,List.length_append,ih,Nat.succ_mul,Nat.add_comm]
theorem Qe:cY X (binaryOp .Mult) QN:=by
 intro pins s σ H x y v u Q I rx ry h
 obtain ⟨l,k,xs,rfl,rfl,hH,h1,h2,hz,q⟩:=h
 cases rx
 obtain ⟨t,rfl⟩:=ry
 obtain ⟨z,its,n,r,hl,e⟩:=I.lstM hH
 have hlen:its.toArray.size * k.toNat<=sizeLine:=by rw [List.size_toArray,<- hl];exact hz
 have hcap:¬ its.toArray.size * k.toNat > (2 ^ 63 - 1) / 8:=by
  have:(sizeLine:Nat)<=(2 ^ 63 - 1) / 8:=by decide
  omega
 have hfit:¬ (!Builtin.List.listFitsIndex k)=true:=by
  rw [fitsIndex_both h1 h2]
  exact Bool.false_ne_true
 have hlong:¬ Builtin.List.listTooLong (its.toArray.size * k.toNat)=true:=by
  rw [CV hlen]
  exact Bool.false_ne_true
 have hnew:List.foldl (fun x1 x2=>x1++x2) #[] (List.replicate (if its.toArray.isEmpty=true then 0 else k.toNat) its.toArray)=(List.replicate k.toNat its).flatten.toArray:=by
  have f0:∀ m:Nat,List.foldl (fun x1 x2=>x1++x2) #[] (List.replicate m its.toArray)=(List.replicate m its).flatten.toArray:=fun m=>by
   have:=foldl_rep its m []
   rw [List.nil_append] at this
   exact this
  rw [f0]
  cases its with
  | nil=>simp
  | cons a r'=>rw [if_neg (by simp)]
 refine wpAny_binaryOp_repeat_ref (T:="list") (U:="int") (by decide) ⟨_,e,rfl⟩ (fun s'=>typeIs_int s' k t) noFill_list_mul F.fills_int_mul F.slot_int_rmul repeat_list F.slot_int_index.lookup
  (call_meets F.slot_int_rmul (typeIs_int s k t) F.entry_int_rmul (F.args_int_rmul_2 _ _) (int___rmul___int_list k t l its.toArray n)
   ⟨e,rfl,⟨_,e,rfl⟩,call_meets F.slot_list_mul ⟨_,e,rfl⟩ F.entry_list_mul (F.args_list_mul_2 _ _) (AutoListH.list___mul___list_int_3 l its.toArray n k t hfit hcap hlong) ⟨e,?_⟩⟩)
 rw [hnew]
 exact ⟨.ref _,_,I.lnew (t':=s.toks) (r.rep k.toNat) (by rw [len_rep,Nat.mul_comm];exact hz),rfl,q _ I.fresh⟩
end
section
variable {prog:Program} {w:World} {A:Around} {E:Value->Shared->Prop} {s:Shared}
end
section
variable {X:Cx}
end
end L2
namespace Att
open PySem PySem.W PySem.Calls PyProof.Rows
theorem zB {P:Params} {h:Heap}:∀ (ns:List Int) (vs:List Value),WellAll P h vs (ns.map WData.int)->IntsAre vs ns:=by
 intro ns
 induction ns with
 | nil =>
  intro vs w
  rw [List.map_nil] at w
  cases w
  exact .nil
 | cons n ns ih =>
  intro vs w
  rw [List.map_cons] at w
  cases w with
  | cons a b =>
   cases a
   exact .cons _ _ (ih _ b)
theorem IY {l:OpenLaw} {n:Nat} (hn:l.most=some n) {P:Params} {h:Heap} {args:List WData} {vals:List Value}
  (hpre:l.row.toRowW.claim.pre args=true) (hwl:WellAll P h vals args) :
  ∃ a vs ns,vals=[Value.ref a]/\args=[WData.list (ns.map WData.int)]/\h.get? a=some { cls:=.type "list",data:=.seq vs.toArray }/\IntsAre vs ns/\ns.length<=n:=by
 have hsh:WShape.hasAll [] args [.list .int]=true:=(pre_splitW hpre).1
 have hc:l.pre.holds [] { args:=args }=true:=(pre_splitW hpre).2
 obtain ⟨d,r,rfl,h1,h2⟩:=hasAllW_cons hsh
 obtain rfl:=hasAllW_nil h2
 obtain ⟨xs,rfl,h3⟩:=hasW_list h1
 obtain ⟨ns,rfl⟩:=items_int h3
 have hlen:ns.length<=n:=by
  unfold OpenLaw.pre at hc
  have h4:(WTm.not (.lt (.lit (.int (n:Int))) (.len (.arg 0)))).holds [] { args:=[.list (ns.map .int)] }=true:=by
   have h4:=(holds_andW hc).1
   rw [hn] at h4
   exact h4
  have h5:=condW_of h4 (w_not (w_lt w_lit (w_len_list (w_arg rfl))))
  rw [List.length_map] at h5
  refine Nat.le_of_not_lt fun q=>?_
  have q':(n:Int) < ((ns.length:Nat):Int):=by omega
  first
   | (rw [decide_eq_true q'] at h5;exact absurd h5 (by decide))
   | (simp at h5;omega)
 cases hwl with
 | cons w1 w2 =>
  cases w2
  cases w1 with
  | list ho hall=>exact ⟨_,_,ns,rfl,rfl,ho,zB ns _ hall,hlen⟩
theorem Ij (l:OpenLaw) (args:List WData):l.row.toRowW.claim.post args (.bool true) args=true :=
 postW_of (r:=l.row.toRowW) (X:=(true == true))
  (show WShape.has [] (.bool true) .bool=true by first | rfl | decide | simp [WShape.has,WShape.arms,WShape.armsAll])
  (show (WTm.eq .res (.lit (.bool true))).value [] { args:=args,res:=some (.bool true),after:=args }=some (.bool (true == true)) from w_eq_bool (w_res rfl) w_lit) rfl
section
variable {prog:Program} {w:World} {A:Around} {E:Value->Shared->Prop} {s:Shared} {K:Frag}
end
end Att
namespace L2
open PySem PySem.Spec PyProof.Rows
theorem A5:∀ {vs:List Value} {ns:List Int},IntsAre vs ns->Vals (ns.map V.int) vs
 | _,_,.nil=>.nil
 | _,_,.cons n t h=>.cons ⟨t,rfl⟩ (A5 h)
end L2
namespace L2
open PySem PySem.Spec PyProof.Rows
noncomputable def aX (s:Stmt):Arguments:=match s with
 | .FunctionDef _ a _ _ _ _ _ _ _ _=>a
 | _=>{ posonlyargs:=[],args:=[],vararg:=none,kwonlyargs:=[],kw_defaults:=[],kwarg:=none,defaults:=[] }
noncomputable def aS (s:Stmt):List Stmt:=match s with
 | .FunctionDef _ _ b _ _ _ _ _ _ _=>b
 | _=>[]
noncomputable def aE (s:Stmt):Scope:=match s with
 | .FunctionDef _ _ _ _ _ _ sc _ _ _=>sc
 | _=>{ kind:=.function,names:=[],isGenerator:=false,isCoroutine:=false }
abbrev mM:wI:=fun _ _ _ _ _ _=>False
abbrev E0:XK:=fun _ _ _=>False
theorem BS {X:Cx}:Passes mM X E0:=fun _ _ _ _ _ _ _ h=>h.elim
structure cF (K:PySem.W.Frag) (x qual:Str) (st:Stmt) (f:Addr) (fd:FuncData):Prop where
 ex:∃ (oc:Value) (od:Option Addr) (kV doc pm:Value) (an:Option Addr) (cdv ct:Value) (osl:Array (Option Value)),
  fd=PySem.W.fnOf x qual (aX st) (aS st) (aE st) .none kV doc pm an cdv ct/\K.lookup f=some ⟨oc,od,.func fd,osl⟩/\PySem.W.codeIn K cdv qual=true
 kp:PySem.W.keepIn K (.ref f)=true
section
variable {P:Program} {w:World} {K:PySem.W.Frag} {mg:Str->Option Value} {base:Heap}
theorem cF.ok {x qual:Str} {st:Stmt} {f:Addr} {fd:FuncData} {N ps:List Str} {k:Nat} {sp:Sp} (F:cF K x qual st f fd) (S:aY N ps (aE st)) (len:∀ vs H Q E,sp vs H Q E->vs.length=ps.length)
  (hbody:∀ (cdv:Value) (A:Around) (outer:List Env) (s:Shared) (H:Hp) (vs:List V) (Q:VK) (E:XK),eI k (A.deeper (envOfC qual (aE st) s.heap.objs.size f cdv))->sp vs H Q E ->
   ∃ t,pM (An mM P w K mg base N qual (aE st) f cdv A outer s H E).nox (aS st) t/\t { nx:=fun _ H'=>Q .non H',rt:=Q } (start N vs) H):gI P w K mg base mM (k + 1) f fd ps sp:=by
 obtain ⟨oc,od,kV,doc,pm,an,cdv,ct,osl,rfl,lk,hcd⟩:=F.ex
 refine MF lk hcd S len fun A outer s H vs Q E hr hsp=>?_
 obtain ⟨t,h,q⟩:=hbody cdv A outer s H vs Q E hr hsp
 exact ⟨t,h.nox,q⟩
theorem cF.binds {x qual:Str} {st:Stmt} {f:Addr} {fd:FuncData} {ps:List Str} (F:cF K x qual st f fd)
  (h:∀ (kV doc pm:Value) (an:Option Addr) (cdv ct:Value) (us:List Value),us.length=ps.length->bindArgs (PySem.W.fnOf x qual (aX st) (aS st) (aE st) .none kV doc pm an cdv ct) ⟨us,[]⟩=pure (ps.zip us)):Binds K fd ps []:=by
 obtain ⟨oc,od,kV,doc,pm,an,cdv,ct,osl,rfl,lk,hcd⟩:=F.ex
 exact .all (h kV doc pm an cdv ct)
theorem bF {x qual:Str} {st:Stmt} {f:Addr} {oc:Value} {od an:Option Addr} {osl:Array (Option Value)} {kV doc pm cdv ct:Value} (l:K.lookup f=some ⟨oc,od,.func (PySem.W.fnOf x qual (aX st) (aS st) (aE st) .none kV doc pm an cdv ct),osl⟩)
  (c:PySem.W.codeIn K cdv qual=true) (k:PySem.W.keepIn K (.ref f)=true):cF K x qual st f (PySem.W.fnOf x qual (aX st) (aS st) (aE st) .none kV doc pm an cdv ct):=⟨⟨oc,od,kV,doc,pm,an,cdv,ct,osl,rfl,l,c⟩,k⟩
end
section
variable {X:Cx}
end
theorem fM {c A B:Prop} [Decidable c] (h1:c->A) (h2:¬ c->B):if c then A else B:=by
 by_cases h:c
 ·rw [if_pos h]
  exact h1 h
 ·rw [if_neg h]
  exact h2 h
end L2
namespace U2
open PySem L2
inductive U where
 | non | bl (b:Bool) | int (i:Int) | str (x:Str) | tup (us:List U) | lst (us:List U) | ref (a:Addr) | ty (n:String) | dic (ks:List (List Key)) (tk:Bool) (us:List U)
inductive MO where
 | lst (us:List U) | dK (kvs:List (Key × U)) | dT (kvs:List (List Key × U)) | dN (kvs:List ((List Key × Key) × U)) | tbl (q:Str) | cap (ps:Array Value) (vs:List V) (us:List U)
abbrev aG:=Addr->Option MO
noncomputable def mup (M:aG) (a:Addr) (o:MO):aG:=fun b=>if b=a then some o else M b
theorem bC {M:aG} {a:Addr} {o:MO}:mup M a o a=some o:=by unfold mup;rw [if_pos rfl]
theorem bH {M:aG} {a b:Addr} {o:MO} (h:b≠a):mup M a o b=M b:=by unfold mup;rw [if_neg h]
theorem iO {M:aG} {a:Addr} {o u:MO}:mup (mup M a o) a u=mup M a u:=by
 funext b;unfold mup;split <;> rfl
noncomputable def KT (K:PySem.W.Frag) (a:Addr) (xs:List V):Prop :=
 ∃ (o:Obj) (its:Array Value) (n:Nat),K.lookup a=some o/\o.cls=.type "tuple"/\o.dict=none/\o.data=.seq its n/\its.size<=sizeLine/\Vals xs its.toList
noncomputable def KL (K:PySem.W.Frag) (a:Addr) (xs:List V):Prop :=
 ∃ (o:Obj) (its:Array Value) (n:Nat),K.lookup a=some o/\o.cls=.type "list"/\o.dict=none/\o.data=.seq its n/\its.size<=sizeLine/\Vals xs its.toList
noncomputable def zF (H:Hp) (a:Addr) (ks:List (List Key)) (tk:Bool) (vs:List V):Prop:=match tk with
 | true=>∃ ws,Rd H a (.dT ws)/\ks=ws.map (·.1)/\vs=ws.map (·.2)
 | false=>∃ ws,Rd H a (.dK ws)/\ks=ws.map (fun p=>[p.1])/\vs=ws.map (·.2)
mutual
noncomputable def aP (K:PySem.W.Frag) (H:Hp) (M:aG):U->V->Prop
 | .non,v=>v=.non
 | .bl b,v=>v=.bl b
 | .int i,v=>v=.int i
 | .str x,v=>v=.str x
 | .ty n,v=>v=.ty n
 | .ref a,v=>v=.ref a
 | .tup us,v=>∃ a vs,v=.ref a/\(M a=none/\H a=some (.tup vs))/\aK K H M us vs
 | .dic ks tk us,v=>∃ a vs,v=.ref a/\M a=none/\zF H a ks tk vs/\aK K H M us vs
 | .lst us,v=>∃ a vs,v=.ref a/\((M a=none/\Rd H a (.lst vs))\/KL K a vs)/\aK K H M us vs
noncomputable def aK (K:PySem.W.Frag) (H:Hp) (M:aG):List U->List V->Prop
 | [],vs=>vs=[]
 | u :: us,vs=>∃ v vs',vs=v :: vs'/\aP K H M u v/\aK K H M us vs'
end
noncomputable def Md:HO->Bool
 | .dK _=>true
 | .dT _=>true
 | _=>false
noncomputable def aZ (H:Hp) (M:aG) (H1:Hp) (M1:aG):Prop:=∀ b o,H b=some o->M b=none->(H1 b=some o\/(Md o=true/\∃ ob,H1 b=some (.frz ob o)))/\M1 b=none
theorem aZ.by' {H H1:Hp} {M M1:aG} (h:∀ b o,H b=some o->M b=none->H1 b=some o/\M1 b=none):aZ H M H1 M1:=fun b o e m=>⟨.inl (h b o e m).1,(h b o e m).2⟩
theorem aZ.to {H H1:Hp} {M M1:aG} (st:aZ H M H1 M1) {b:Addr} {o:HO} (e:H b=some o) (m:M b=none) (n:Md o=false:=by rfl):H1 b=some o/\M1 b=none:=by
 obtain ⟨h | ⟨h,_⟩,m1⟩:=st b o e m
 ·exact ⟨h,m1⟩
 ·rw [n] at h;cases h
theorem aZ.refl (H:Hp) (M:aG):aZ H M H M:=.by' fun _ _ h m=>⟨h,m⟩
theorem aZ.trans {H H1 H2:Hp} {M M1 M2:aG} (a:aZ H M H1 M1) (b:aZ H1 M1 H2 M2):aZ H M H2 M2:=fun c o h m=>by
 obtain ⟨h1 | ⟨d,ob,h1⟩,m1⟩:=a c o h m
 ·exact b c o h1 m1
 ·obtain ⟨h2,m2⟩:=b.to h1 m1
  exact ⟨.inr ⟨d,ob,h2⟩,m2⟩
theorem Rd.stp {H H1:Hp} {M M1:aG} {a:Addr} {u:HO} (st:aZ H M H1 M1) (m:M a=none) (h:Rd H a u):M1 a=none/\Rd H1 a u:=by
 rcases h with h | ⟨o,h⟩
 ·obtain ⟨x | ⟨_,ob,x⟩,y⟩:=st a _ h m
  ·exact ⟨y,.inl x⟩
  ·exact ⟨y,.inr ⟨ob,x⟩⟩
 ·obtain ⟨x,y⟩:=st.to h m;exact ⟨y,.inr ⟨o,x⟩⟩
theorem zF.stp {H H1:Hp} {M M1:aG} {a:Addr} {ks:List (List Key)} {tk:Bool} {vs:List V} (st:aZ H M H1 M1) (m:M a=none) (h:zF H a ks tk vs):M1 a=none/\zF H1 a ks tk vs:=by
 cases tk with
 | true=>obtain ⟨ws,e,r⟩:=h;exact ⟨(Rd.stp st m e).1,ws,(Rd.stp st m e).2,r⟩
 | false=>obtain ⟨ws,e,r⟩:=h;exact ⟨(Rd.stp st m e).1,ws,(Rd.stp st m e).2,r⟩
mutual
theorem aP.stp {K:PySem.W.Frag} {H H1:Hp} {M M1:aG} (st:aZ H M H1 M1):∀ {u:U} {v:V},aP K H M u v->aP K H1 M1 u v
 | .non,_,h=>by simpa only [aP] using h
 | .bl _,_,h=>by simpa only [aP] using h
 | .int _,_,h=>by simpa only [aP] using h
 | .str _,_,h=>by simpa only [aP] using h
 | .ty _,_,h=>by simpa only [aP] using h
 | .ref _,_,h=>by simpa only [aP] using h
 | .tup us,_,h=>by
  simp only [aP] at h ⊢
  obtain ⟨a,vs,e,h1,h2⟩:=h
  refine ⟨a,vs,e,?_,aK.stp st h2⟩
  obtain ⟨m,r⟩:=h1
  exact ⟨(st.to r m).2,(st.to r m).1⟩
 | .dic ks tk us,_,h=>by
  simp only [aP] at h ⊢
  obtain ⟨a,vs,e,m,h1,h2⟩:=h
  have q:=zF.stp st m h1
  exact ⟨a,vs,e,q.1,q.2,aK.stp st h2⟩
 | .lst us,_,h=>by
  simp only [aP] at h ⊢
  obtain ⟨a,vs,e,h1,h2⟩:=h
  refine ⟨a,vs,e,?_,aK.stp st h2⟩
  rcases h1 with ⟨m,r⟩ | k
  ·exact .inl (Rd.stp st m r)
  ·exact .inr k
theorem aK.stp {K:PySem.W.Frag} {H H1:Hp} {M M1:aG} (st:aZ H M H1 M1):∀ {us:List U} {vs:List V},aK K H M us vs->aK K H1 M1 us vs
 | [],_,h=>by simpa only [aK] using h
 | u :: us,_,h=>by
  simp only [aK] at h ⊢
  obtain ⟨v,vs',e,h1,h2⟩:=h
  exact ⟨v,vs',e,aP.stp st h1,aK.stp st h2⟩
end
theorem aZ.less {H:Hp} {M M1:aG} (h:∀ b,M b=none->M1 b=none):aZ H M H M1:=.by' fun b o e m=>⟨e,h b m⟩
noncomputable def nG {κ:Type} (K:PySem.W.Frag) (H:Hp) (M:aG):List (κ × U)->List (κ × V)->Prop:=Paired fun p q=>p.1=q.1/\aP K H M p.2 q.2
theorem nG.stp {κ:Type} {K:PySem.W.Frag} {H H1:Hp} {M M1:aG} (st:aZ H M H1 M1):∀ {us:List (κ × U)} {vs:List (κ × V)},nG K H M us vs->nG K H1 M1 us vs
 | _,_,.nil=>.nil
 | _,_,.cons h t=>.cons ⟨h.1,h.2.stp st⟩ (nG.stp st t)
noncomputable def xZ (K:PySem.W.Frag) (H:Hp) (M:aG) (a:Addr):MO->Prop
 | .lst us=>∃ vs,H a=some (.lst vs)/\aK K H M us vs
 | .dK kvs=>∃ ws,H a=some (.dK ws)/\nG K H M kvs ws
 | .dT kvs=>∃ ws,H a=some (.dT ws)/\nG K H M kvs ws
 | .dN kvs=>∃ ws,H a=some (.dN ws)/\nG K H M kvs ws
 | .cap ps vs us=>H a=some (.tbl ps)/\aK K H M us vs
 | .tbl q=>(∀ b,M b=some (.tbl q)->b=a)/\∃ ps,H a=some (.tbl ps)/\TriplesOk ps.toList/\∀ pos c,codeAmong pos ps.toList=some c->∃ c' oc vs t,c=.ref c'/\H c'=some (.frz oc (.own 0))/\M c'=none/\oc.data=.fields vs/\vs[1]?=some (.str q t)
noncomputable def RelM (K:PySem.W.Frag) (H:Hp) (M:aG):Prop:=∀ a mo,M a=some mo->xZ K H M a mo
theorem xZ.stp {K:PySem.W.Frag} {H H1:Hp} {M M1:aG} {a:Addr} {mo:MO} (hu:∀ b q,M1 b=some (.tbl q)->M b=some (.tbl q)) (st:aZ H M H1 M1) (e:H1 a=H a) (h:xZ K H M a mo):xZ K H1 M1 a mo:=by
 cases mo with
 | lst us=>obtain ⟨vs,x,y⟩:=h;exact ⟨vs,e.trans x,y.stp st⟩
 | dK us=>obtain ⟨vs,x,y⟩:=h;exact ⟨vs,e.trans x,y.stp st⟩
 | dT us=>obtain ⟨vs,x,y⟩:=h;exact ⟨vs,e.trans x,y.stp st⟩
 | dN us=>obtain ⟨vs,x,y⟩:=h;exact ⟨vs,e.trans x,y.stp st⟩
 | cap ps vs us=>exact ⟨e.trans h.1,h.2.stp st⟩
 | tbl q =>
  obtain ⟨un,ps,x,y,z⟩:=h
  refine ⟨fun b hb=>un b (hu b q hb),ps,e.trans x,y,fun pos c hc=>?_⟩
  obtain ⟨c',oc,vs,t,h1,h2,h3,h4⟩:=z pos c hc
  exact ⟨c',oc,vs,t,h1,(st.to h2 h3).1,(st.to h2 h3).2,h4⟩
theorem RelM.ex {K:PySem.W.Frag} {H:Hp} {M:aG} (r:RelM K H M) {a:Addr} {mo:MO} (h:M a=some mo):∃ o,H a=some o:=by
 have:=r a mo h
 cases mo with
 | lst us=>obtain ⟨vs,x,y⟩:=this;exact ⟨_,x⟩
 | dK us=>obtain ⟨vs,x,y⟩:=this;exact ⟨_,x⟩
 | dT us=>obtain ⟨vs,x,y⟩:=this;exact ⟨_,x⟩
 | dN us=>obtain ⟨vs,x,y⟩:=this;exact ⟨_,x⟩
 | cap ps vs us=>exact ⟨_,this.1⟩
 | tbl q=>obtain ⟨_,ps,x,_⟩:=this;exact ⟨_,x⟩
theorem RelM.no {K:PySem.W.Frag} {H:Hp} {M:aG} (r:RelM K H M) {a:Addr} (h:H a=none):M a=none:=by
 cases e:M a with
 | none=>rfl
 | some mo=>obtain ⟨o,q⟩:=r.ex e;rw [h] at q;cases q
theorem aZ.laid {K:PySem.W.Frag} {H:Hp} {M:aG} {p:Addr} {o:HO} (r:RelM K H M) (h:H p=none):aZ H M (upd H p o) M:=.by' fun b u e m=>⟨by rw [bY (cJ e h)];exact e,m⟩
theorem RelM.laid {K:PySem.W.Frag} {H:Hp} {M:aG} {p:Addr} {o:HO} (r:RelM K H M) (h:H p=none):RelM K (upd H p o) M:=fun a mo e=>by
 obtain ⟨u,q⟩:=r.ex e
 exact (r a mo e).stp (fun _ _ z=>z) (aZ.laid r h) (bY (cJ q h))
theorem aZ.own {K:PySem.W.Frag} {H:Hp} {M:aG} {p:Addr} {o:HO} {mo:MO} (r:RelM K H M) (h:H p=none):aZ H M (upd H p o) (mup M p mo):=.by' fun b u e m=>by
 have n:=cJ e h
 exact ⟨by rw [bY n];exact e,by rw [bH n];exact m⟩
theorem RelM.put {K:PySem.W.Frag} {H:Hp} {M:aG} {p:Addr} {o:HO} {mo:MO} (r:RelM K H M) (st:aZ H M (upd H p o) (mup M p mo)) (new:xZ K (upd H p o) (mup M p mo) p mo) (hm:∀ q,mo≠.tbl q:=by intro q z;cases z):RelM K (upd H p o) (mup M p mo):=fun a m e=>by
 by_cases ha:a=p
 ·subst ha;rw [bC] at e;cases e;exact new
 ·rw [bH ha] at e
  refine (r a m e).stp (fun b q z=>?_) st (bY ha)
  by_cases hb:b=p
  ·subst hb;rw [bC] at z;exact absurd (Option.some.inj z) (hm q)
  ·rw [bH hb] at z;exact z
theorem aZ.write {H:Hp} {M:aG} {p:Addr} {o:HO} {mo m0:MO} (h:M p=some m0):aZ H M (upd H p o) (mup M p mo):=.by' fun b u e m=>by
 have n:b≠p:=fun z=>by subst z;rw [h] at m;cases m
 exact ⟨by rw [bY n];exact e,by rw [bH n];exact m⟩
section
variable {K:PySem.W.Frag} {H:Hp} {M:aG}
theorem aK.nil:aK K H M [] []:=by simp only [aK]
theorem aK.cons {u:U} {v:V} {us:List U} {vs:List V} (h:aP K H M u v) (t:aK K H M us vs):aK K H M (u :: us) (v :: vs):=by simp only [aK];exact ⟨v,vs,rfl,h,t⟩
theorem aK.length:∀ {us:List U} {vs:List V},aK K H M us vs->us.length=vs.length
 | [],_,h=>by simp only [aK] at h;subst h;rfl
 | u :: us,_,h=>by
  simp only [aK] at h
  obtain ⟨v,vs',rfl,_,t⟩:=h
  simp [aK.length t]
theorem aK.inv_cons {u:U} {us:List U} {vs:List V} (h:aK K H M (u :: us) vs):∃ v vs',vs=v :: vs'/\aP K H M u v/\aK K H M us vs':=by simpa only [aK] using h
theorem aK.inv_nil {vs:List V} (h:aK K H M [] vs):vs=[]:=by simpa only [aK] using h
theorem aK.append:∀ {us ws:List U} {vs zs:List V},aK K H M us vs->aK K H M ws zs->aK K H M (us++ws) (vs++zs)
 | [],_,_,_,h,t=>by cases h.inv_nil;exact t
 | u :: us,_,_,_,h,t=>by
  obtain ⟨v,vs',rfl,a,b⟩:=h.inv_cons
  exact .cons a (aK.append b t)
theorem aK.get:∀ {us:List U} {vs:List V} {i:Nat} {u:U},aK K H M us vs->us[i]?=some u->∃ v,vs[i]?=some v/\aP K H M u v
 | [],_,_,_,_,e=>by simp at e
 | u :: us,_,0,_,h,e=>by
  obtain ⟨v,vs',rfl,a,b⟩:=h.inv_cons
  simp at e;subst e;exact ⟨v,rfl,a⟩
 | u :: us,_,i + 1,_,h,e=>by
  obtain ⟨v,vs',rfl,a,b⟩:=h.inv_cons
  simp at e
  obtain ⟨w,x,y⟩:=aK.get b e
  exact ⟨w,by simpa using x,y⟩
theorem aK.drop:∀ {us:List U} {vs:List V} (n:Nat),aK K H M us vs->aK K H M (us.drop n) (vs.drop n)
 | _,_,0,h=>h
 | [],_,_ + 1,h=>by cases h.inv_nil;exact .nil
 | u :: us,_,n + 1,h=>by
  obtain ⟨v,vs',rfl,a,b⟩:=h.inv_cons
  exact aK.drop n b
theorem aK.take:∀ {us:List U} {vs:List V} (n:Nat),aK K H M us vs->aK K H M (us.take n) (vs.take n)
 | _,_,0,_=>by simp only [List.take_zero];exact .nil
 | [],_,_ + 1,h=>by cases h.inv_nil;exact .nil
 | u :: us,_,n + 1,h=>by
  obtain ⟨v,vs',rfl,a,b⟩:=h.inv_cons
  exact .cons a (aK.take n b)
theorem aK.dropLast {us:List U} {vs:List V} (h:aK K H M us vs):aK K H M us.dropLast vs.dropLast:=by
 rw [List.dropLast_eq_take,List.dropLast_eq_take,h.length];exact h.take _
end
abbrev SU:=List (Option U)
abbrev UK:=U->aG->Prop
abbrev UE:=SU->aG->UK->Prop
abbrev UT:=SU->aG->(Bool->aG->Prop)->Prop
abbrev UA:=SU->aG->(List U->aG->Prop)->Prop
structure mZ where
 nx:SU->aG->Prop
 rt:UK
 bk:SU->aG->Prop:=fun _ _=>False
 ct:SU->aG->Prop:=fun _ _=>False
abbrev US:=mZ->SU->aG->Prop
noncomputable def dW (K:PySem.W.Frag) (H:Hp) (M:aG) (σ:St) (τ:SU):Prop:=τ.length=σ.length/\∀ (i:Nat) u,τ[i]?=some (some u)->∃ v,σ[i]?=some (some v)/\aP K H M u v
theorem dW.stp {K:PySem.W.Frag} {H H1:Hp} {M M1:aG} {σ:St} {τ:SU} (st:aZ H M H1 M1) (r:dW K H M σ τ):dW K H1 M1 σ τ:=⟨r.1,fun i u e=>let ⟨v,a,b⟩:=r.2 i u e;⟨v,a,b.stp st⟩⟩
theorem dW.set {K:PySem.W.Frag} {H:Hp} {M:aG} {σ:St} {τ:SU} {i:Nat} {u:U} {v:V} (r:dW K H M σ τ) (h:aP K H M u v):dW K H M (σ.set i (some v)) (τ.set i (some u)):=by
 refine ⟨by simp [r.1],fun j w e=>?_⟩
 rw [List.getElem?_set] at e ⊢
 split at e
 ·rename_i hij
  subst hij
  split at e
  ·rename_i hl
   cases e
   rw [if_pos rfl,if_pos (by rw [<- r.1];exact hl)]
   exact ⟨v,rfl,h⟩
  ·cases e
 ·rename_i hij
  rw [if_neg hij]
  exact r.2 j w e
noncomputable def bS (K:PySem.W.Frag) (t:TE) (t':UE):Prop:=∀ (σ:St) (τ:SU) (H:Hp) (M:aG) (Q':UK),dW K H M σ τ->RelM K H M->t' τ M Q' ->
 ∀ Q:VK,(∀ u v M1 H1,aZ H M H1 M1->RelM K H1 M1->aP K H1 M1 u v->Q' u M1->Q v H1)->t σ H Q
noncomputable def kF (K:PySem.W.Frag) (t:TT) (t':UT):Prop:=∀ (σ:St) (τ:SU) (H:Hp) (M:aG) (Q':Bool->aG->Prop),dW K H M σ τ->RelM K H M->t' τ M Q' ->
 ∀ Q:Bool->Hp->Prop,(∀ b M1 H1,aZ H M H1 M1->RelM K H1 M1->Q' b M1->Q b H1)->t σ H Q
noncomputable def lK (K:PySem.W.Frag) (t:TA) (t':UA):Prop:=∀ (σ:St) (τ:SU) (H:Hp) (M:aG) (Q':List U->aG->Prop),dW K H M σ τ->RelM K H M->t' τ M Q' ->
 ∀ Q:List V->Hp->Prop,(∀ us vs M1 H1,aZ H M H1 M1->RelM K H1 M1->aK K H1 M1 us vs->Q' us M1->Q vs H1)->t σ H Q
structure GX (K:PySem.W.Frag) (H:Hp) (M:aG) (D:Ends) (D':mZ):Prop where
 nx:∀ σ τ H1 M1,aZ H M H1 M1->RelM K H1 M1->dW K H1 M1 σ τ->D'.nx τ M1->D.nx σ H1
 rt:∀ u v H1 M1,aZ H M H1 M1->RelM K H1 M1->aP K H1 M1 u v->D'.rt u M1->D.rt v H1
 bk:∀ σ τ H1 M1,aZ H M H1 M1->RelM K H1 M1->dW K H1 M1 σ τ->D'.bk τ M1->D.bk σ H1
 ct:∀ σ τ H1 M1,aZ H M H1 M1->RelM K H1 M1->dW K H1 M1 σ τ->D'.ct τ M1->D.ct σ H1
theorem GX.stp {K:PySem.W.Frag} {H H1:Hp} {M M1:aG} {D:Ends} {D':mZ} (d:GX K H M D D') (st:aZ H M H1 M1):GX K H1 M1 D D' :=
 ⟨fun σ τ H2 M2 s=>d.nx σ τ H2 M2 (st.trans s),fun u v H2 M2 s=>d.rt u v H2 M2 (st.trans s),fun σ τ H2 M2 s=>d.bk σ τ H2 M2 (st.trans s),fun σ τ H2 M2 s=>d.ct σ τ H2 M2 (st.trans s)⟩
noncomputable def kB (K:PySem.W.Frag) (t:TS) (t':US):Prop:=∀ (σ:St) (τ:SU) (H:Hp) (M:aG) (D':mZ),dW K H M σ τ->RelM K H M->t' D' τ M->∀ D:Ends,GX K H M D D'->t D σ H
end U2
namespace U2
open PySem L2
abbrev eD:=U->U->aG->UK->Prop
noncomputable def cN (K:PySem.W.Frag) (H:Hp) (M:aG) (Q':UK) (Q:VK):Prop:=∀ u v M1 H1,aZ H M H1 M1->RelM K H1 M1->aP K H1 M1 u v->Q' u M1->Q v H1
theorem cN.stp {K:PySem.W.Frag} {H H1:Hp} {M M1:aG} {Q':UK} {Q:VK} (c:cN K H M Q' Q) (st:aZ H M H1 M1):cN K H1 M1 Q' Q:=fun u v M2 H2 s=>c u v M2 H2 (st.trans s)
theorem cN.here {K:PySem.W.Frag} {H:Hp} {M:aG} {Q':UK} {Q:VK} {u:U} {v:V} (c:cN K H M Q' Q) (rm:RelM K H M) (r:aP K H M u v) (q:Q' u M):Q v H:=c u v M H (aZ.refl H M) rm r q
noncomputable def eJ (K:PySem.W.Frag) (r:R2) (r':eD):Prop:=∀ (x y:V) (u w:U) (H:Hp) (M:aG) (Q':UK),RelM K H M->aP K H M u x->aP K H M w y->r' u w M Q'->∀ Q:VK,cN K H M Q' Q->r x y H Q
noncomputable def SG (K:PySem.W.Frag) (r:V->Hp->VK->Prop) (r':U->aG->UK->Prop):Prop:=∀ (x:V) (u:U) (H:Hp) (M:aG) (Q':UK),RelM K H M->aP K H M u x->r' u M Q'->∀ Q:VK,cN K H M Q' Q->r x H Q
noncomputable def vE (K:PySem.W.Frag) (r:List V->Hp->VK->Prop) (r':List U->aG->UK->Prop):Prop:=∀ (xs:List V) (us:List U) (H:Hp) (M:aG) (Q':UK),RelM K H M->aK K H M us xs->r' us M Q'->∀ Q:VK,cN K H M Q' Q->r xs H Q
noncomputable def lW (K:PySem.W.Frag) (r:V->List V->Hp->VK->Prop) (r':U->List U->aG->UK->Prop):Prop:=∀ (x:V) (xs:List V) (u:U) (us:List U) (H:Hp) (M:aG) (Q':UK),RelM K H M->aP K H M u x->aK K H M us xs->r' u us M Q'->∀ Q:VK,cN K H M Q' Q->r x xs H Q
section
variable {K:PySem.W.Frag} {H:Hp} {M:aG} {v:V}
theorem aP.non (h:aP K H M .non v):v=.non:=by simpa only [aP] using h
theorem aP.bl {b:Bool} (h:aP K H M (.bl b) v):v=.bl b:=by simpa only [aP] using h
theorem aP.int {i:Int} (h:aP K H M (.int i) v):v=.int i:=by simpa only [aP] using h
theorem aP.str {x:Str} (h:aP K H M (.str x) v):v=.str x:=by simpa only [aP] using h
theorem aP.ty {n:String} (h:aP K H M (.ty n) v):v=.ty n:=by simpa only [aP] using h
theorem aP.ref {a:Addr} (h:aP K H M (.ref a) v):v=.ref a:=by simpa only [aP] using h
theorem aP.tup {us:List U} (h:aP K H M (.tup us) v):∃ a vs,v=.ref a/\eQ K H a vs/\aK K H M us vs:=by
 simp only [aP] at h
 obtain ⟨a,vs,e,h1,h2⟩:=h
 refine ⟨a,vs,e,?_,h2⟩
 exact .inl (.inl h1.2)
theorem aP.lst {us:List U} (h:aP K H M (.lst us) v):∃ a vs,v=.ref a/\eH K H a vs/\aK K H M us vs:=by
 simp only [aP] at h
 obtain ⟨a,vs,e,h1,h2⟩:=h
 refine ⟨a,vs,e,?_,h2⟩
 rcases h1 with ⟨_,r⟩ | k
 ·exact .inl r
 ·exact .inr k
theorem nZ:aP K H M .non .non:=by simp only [aP]
theorem dF {b:Bool}:aP K H M (.bl b) (.bl b):=by simp only [aP]
theorem cK {i:Int}:aP K H M (.int i) (.int i):=by simp only [aP]
theorem iF {x:Str}:aP K H M (.str x) (.str x):=by simp only [aP]
theorem Ou {n:String}:aP K H M (.ty n) (.ty n):=by simp only [aP]
theorem sU {a:Addr}:aP K H M (.ref a) (.ref a):=by simp only [aP]
theorem tP {a:Addr} {us:List U} {vs:List V} (m:M a=none) (h:H a=some (.tup vs)) (r:aK K H M us vs):aP K H M (.tup us) (.ref a):=by
 simp only [aP];exact ⟨a,vs,rfl,⟨m,h⟩,r⟩
theorem xR {a:Addr} {us:List U} {vs:List V} (m:M a=none) (h:H a=some (.lst vs)) (r:aK K H M us vs):aP K H M (.lst us) (.ref a):=by
 simp only [aP];exact ⟨a,vs,rfl,.inl ⟨m,.inl h⟩,r⟩
theorem cN.tup {Q':UK} {Q:VK} {us:List U} {vs:List V} {p:Addr} (c:cN K H M Q' Q) (rm:RelM K H M) (r:aK K H M us vs) (hp:H p=none) (q:Q' (.tup us) M):Q (.ref p) (upd H p (.tup vs)) :=
 c _ _ M _ (aZ.laid rm hp) (rm.laid hp) (tP (rm.no hp) dY (r.stp (aZ.laid rm hp))) q
noncomputable def mP (o:Bool) (us:List U) (M:aG) (Q:UK):Prop:=match o with
 | true=>∀ p,M p=none->Q (.ref p) (mup M p (.lst us))
 | false=>Q (.lst us) M
theorem cN.lst {o:Bool} {Q':UK} {Q:VK} {us:List U} {vs:List V} {p:Addr} (c:cN K H M Q' Q) (rm:RelM K H M) (r:aK K H M us vs) (hp:H p=none) (q:mP o us M Q'):Q (.ref p) (upd H p (.lst vs)):=by
 cases o with
 | false=>exact c _ _ M _ (aZ.laid rm hp) (rm.laid hp) (xR (rm.no hp) dY (r.stp (aZ.laid rm hp))) q
 | true =>
  have st:aZ H M (upd H p (.lst vs)) (mup M p (.lst us)):=aZ.own rm hp
  exact c (.ref p) _ _ _ st (rm.put st ⟨vs,dY,r.stp st⟩) sU (q p (rm.no hp))
end
noncomputable def view (M:aG):U->U
 | .ref a=>match M a with
  | some (.lst us)=>.lst us
  | _=>.ref a
 | u=>u
theorem qP {M:aG} {a:Addr} {us:List U} (h:M a=some (.lst us)):view M (.ref a)=.lst us:=by simp only [view,h]
theorem gE {K:PySem.W.Frag} {H:Hp} {M:aG} {u:U} {v:V} {us:List U} (rm:RelM K H M) (r:aP K H M u v) (h:view M u=.lst us):∃ a vs,v=.ref a/\eH K H a vs/\aK K H M us vs:=by
 cases u with
 | lst ws=>simp only [view] at h;cases h;exact r.lst
 | ref a =>
  simp only [view] at h
  split at h
  ·rename_i ws e
   cases h
   obtain ⟨vs,h1,h2⟩:=rm a _ e
   exact ⟨a,vs,r.ref,.inl (.inl h1),h2⟩
  ·cases h
 | _=>simp [view] at h
section
variable {K:PySem.W.Frag} {t ta tb tc:TE} {t' ta' tb' tc':UE}
noncomputable def mB (i:Nat):UE:=fun τ M Q=>match τ[i]? with
 | some (some u)=>Q u M
 | _=>False
theorem Ag (i:Nat):bS K (MA i) (mB i):=fun σ τ H M Q' rs rm h Q c=>by
 unfold mB at h
 split at h
 ·rename_i u e
  obtain ⟨v,e2,r⟩:=rs.2 i u e
  exact ⟨v,e2,c u v M H (aZ.refl _ _) rm r h⟩
 ·exact h.elim
noncomputable def uC (u:U):UE:=fun _ M Q=>Q u M
theorem vM {u:U} {v:V} (h:∀ H M,aP K H M u v):bS K (tC v) (uC u):=fun σ τ H M Q' rs rm q Q c=>c u v M H (aZ.refl _ _) rm (h H M) q
theorem Fb {i:Int}:bS K (tC (.int i)) (uC (.int i)):=vM fun _ _=>cK
theorem Px {i:Bool}:bS K (tC (.bl i)) (uC (.bl i)):=vM fun _ _=>dF
theorem FR {i:Str}:bS K (tC (.str i)) (uC (.str i)):=vM fun _ _=>iF
theorem Pb:bS K (tC .non) (uC .non):=vM fun _ _=>nZ
theorem RS {n:String}:bS K (tC (.ty n)) (uC (.ty n)):=vM fun _ _=>Ou
theorem Oc {a:Addr}:bS K (tC (.ref a)) (uC (.ref a)):=vM fun _ _=>sU
noncomputable def gA (r:eD) (ta tb:UE):UE:=fun τ M Q=>ta τ M fun x M1=>tb τ M1 fun y M2=>r x y M2 Q
theorem uQ {r:R2} {r':eD} (hr:eJ K r r') (ha:bS K ta ta') (hb:bS K tb tb'):bS K (Fg r ta tb) (gA r' ta' tb'):=fun σ τ H M Q' rs rm h Q c =>
 ha σ τ H M _ rs rm h _ fun u v M1 H1 s1 rm1 ru h1=>hb σ τ H1 M1 _ (rs.stp s1) rm1 h1 _ fun w x M2 H2 s2 rm2 rw h2=>hr v x u w H2 M2 Q' rm2 (ru.stp s2) rw h2 Q (cN.stp c (s1.trans s2))
noncomputable def CA (r:U->aG->UK->Prop) (ta:UE):UE:=fun τ M Q=>ta τ M fun x M1=>r x M1 Q
theorem Qr {r:V->Hp->VK->Prop} {r':U->aG->UK->Prop} (hr:SG K r r') (ha:bS K ta ta'):bS K (SJ r ta) (CA r' ta'):=fun σ τ H M Q' rs rm h Q c =>
 ha σ τ H M _ rs rm h _ fun u v M1 H1 s1 rm1 ru h1=>hr v u H1 M1 Q' rm1 ru h1 Q (cN.stp c s1)
noncomputable def pB (t:UE):UT:=fun τ M Q=>t τ M fun u M1=>match u with
 | .bl b=>Q b M1
 | _=>False
theorem DN (h:bS K t t'):kF K (Hx t) (pB t'):=fun σ τ H M Q' rs rm q Q c=>h σ τ H M _ rs rm q _ fun u v M1 H1 s1 rm1 ru h1=>by
 cases u with
 | bl b=>exact ⟨b,ru.bl,c b M1 H1 s1 rm1 h1⟩
 | _=>exact h1.elim
noncomputable def xE (t:UE):UT:=fun τ M Q=>t τ M fun u M1=>match view M1 u with
 | .non=>Q false M1
 | .bl b=>Q b M1
 | .int i=>Q (i != 0) M1
 | .str x=>x.length<=sizeLine/\Q ((x.length:Int) != 0) M1
 | .tup us=>Q (!us.isEmpty) M1
 | .lst us=>Q (!us.isEmpty) M1
 | _=>False
theorem wM {H:Hp} {M:aG} {us:List U} {vs:List V} (r:aK K H M us vs):us.isEmpty=vs.isEmpty:=by
 have:=r.length
 cases us <;> cases vs <;> simp_all
theorem OX (h:bS K t t'):kF K (fun σ H Q=>t σ H fun x H'=>∃ k,Li K x H' k/\Q k H') (xE t'):=fun σ τ H M Q' rs rm q Q c=>h σ τ H M _ rs rm q _ fun u v M1 H1 s1 rm1 ru h1=>by
 split at h1
 ·rename_i e
  cases u with
  | non=>exact ⟨false,by rw [ru.non];rfl,c _ M1 H1 s1 rm1 h1⟩
  | ref a=>simp only [view] at e;split at e <;> cases e
  | _=>simp [view] at e
 ·rename_i b e
  cases u with
  | bl b'=>simp only [view] at e;cases e;exact ⟨b,by rw [ru.bl];rfl,c _ M1 H1 s1 rm1 h1⟩
  | ref a=>simp only [view] at e;split at e <;> cases e
  | _=>simp [view] at e
 ·rename_i b e
  cases u with
  | int b'=>simp only [view] at e;cases e;exact ⟨b != 0,by rw [ru.int];rfl,c _ M1 H1 s1 rm1 h1⟩
  | ref a=>simp only [view] at e;split at e <;> cases e
  | _=>simp [view] at e
 ·rename_i b e
  cases u with
  | str b'=>simp only [view] at e;cases e;exact ⟨(b.length:Int) != 0,by rw [ru.str];exact ⟨h1.1,rfl⟩,c _ M1 H1 s1 rm1 h1.2⟩
  | ref a=>simp only [view] at e;split at e <;> cases e
  | _=>simp [view] at e
 ·rename_i us e
  cases u with
  | tup us' =>
   simp only [view] at e;cases e
   obtain ⟨a,vs,rfl,r1,r2⟩:=ru.tup
   exact ⟨!vs.isEmpty,.inr (.inl ⟨vs,r1,rfl⟩),c _ M1 H1 s1 rm1 (by rw [<- wM r2];exact h1)⟩
  | ref a=>simp only [view] at e;split at e <;> cases e
  | _=>simp [view] at e
 ·rename_i us e
  obtain ⟨a,vs,rfl,r1,r2⟩:=gE rm1 ru e
  exact ⟨!vs.isEmpty,.inl ⟨vs,r1,rfl⟩,c _ M1 H1 s1 rm1 (by rw [<- wM r2];exact h1)⟩
 ·exact h1.elim
noncomputable def wY (t u:UT):UT:=fun τ M Q=>t τ M fun c M1=>if c=true then u τ M1 Q else Q false M1
noncomputable def De (t u:UT):UT:=fun τ M Q=>t τ M fun c M1=>if c=true then Q true M1 else u τ M1 Q
noncomputable def xK (t:UT):UT:=fun τ M Q=>t τ M fun c M1=>Q (!c) M1
theorem NL {t u:TT} {t' u':UT} (h:kF K t t') (k:kF K u u'):kF K (QZ t u) (wY t' u'):=fun σ τ H M Q' rs rm q Q c=>h σ τ H M _ rs rm q _ fun b M1 H1 s1 rm1 h1=>by
 cases b with
 | true=>exact k σ τ H1 M1 Q' (rs.stp s1) rm1 h1 Q fun b M2 H2 s2=>c b M2 H2 (s1.trans s2)
 | false=>exact c _ M1 H1 s1 rm1 h1
theorem P9 {t u:TT} {t' u':UT} (h:kF K t t') (k:kF K u u'):kF K (SK t u) (De t' u'):=fun σ τ H M Q' rs rm q Q c=>h σ τ H M _ rs rm q _ fun b M1 H1 s1 rm1 h1=>by
 cases b with
 | false=>exact k σ τ H1 M1 Q' (rs.stp s1) rm1 h1 Q fun b M2 H2 s2=>c b M2 H2 (s1.trans s2)
 | true=>exact c _ M1 H1 s1 rm1 h1
theorem NM {t:TT} {t':UT} (h:kF K t t'):kF K (QX t) (xK t'):=fun σ τ H M Q' rs rm q Q c=>h σ τ H M _ rs rm q _ fun b M1 H1 s1 rm1 h1=>c _ M1 H1 s1 rm1 h1
noncomputable def nE (ta tb:UE):UE:=fun τ M Q=>ta τ M fun x M1=>match x with
 | .bl c=>if c=true then tb τ M1 Q else Q (.bl false) M1
 | _=>False
noncomputable def w5 (ta tb:UE):UE:=fun τ M Q=>ta τ M fun x M1=>match x with
 | .bl c=>if c=true then Q (.bl true) M1 else tb τ M1 Q
 | _=>False
noncomputable def tM (ta:UE):UE:=fun τ M Q=>ta τ M fun x M1=>match x with
 | .bl c=>Q (.bl (!c)) M1
 | _=>False
theorem KN (h:bS K ta ta') (k:bS K tb tb'):bS K (MK ta tb) (nE ta' tb'):=fun σ τ H M Q' rs rm q Q c=>h σ τ H M _ rs rm q _ fun u v M1 H1 s1 rm1 ru h1=>by
 cases u with
 | bl b =>
  refine ⟨b,ru.bl,?_⟩
  cases b with
  | true=>exact k σ τ H1 M1 Q' (rs.stp s1) rm1 h1 Q (cN.stp c s1)
  | false=>exact c _ _ M1 H1 s1 rm1 dF h1
 | _=>exact h1.elim
theorem Oy (h:bS K ta ta') (k:bS K tb tb'):bS K (PQ ta tb) (w5 ta' tb'):=fun σ τ H M Q' rs rm q Q c=>h σ τ H M _ rs rm q _ fun u v M1 H1 s1 rm1 ru h1=>by
 cases u with
 | bl b =>
  refine ⟨b,ru.bl,?_⟩
  cases b with
  | false=>exact k σ τ H1 M1 Q' (rs.stp s1) rm1 h1 Q (cN.stp c s1)
  | true=>exact c _ _ M1 H1 s1 rm1 dF h1
 | _=>exact h1.elim
theorem Ml (h:bS K ta ta'):bS K (Nl ta) (tM ta'):=fun σ τ H M Q' rs rm q Q c=>h σ τ H M _ rs rm q _ fun u v M1 H1 s1 rm1 ru h1=>by
 cases u with
 | bl b=>exact ⟨b,ru.bl,c _ _ M1 H1 s1 rm1 dF h1⟩
 | _=>exact h1.elim
noncomputable def DI (t:UT) (ta tb:UE):UE:=fun τ M Q=>t τ M fun c M1=>if c=true then ta τ M1 Q else tb τ M1 Q
theorem Rj {t:TT} {t':UT} (h:kF K t t') (k:bS K ta ta') (l:bS K tb tb'):bS K (SO t ta tb) (DI t' ta' tb'):=fun σ τ H M Q' rs rm q Q c=>h σ τ H M _ rs rm q _ fun b M1 H1 s1 rm1 h1=>by
 cases b with
 | true=>exact k σ τ H1 M1 Q' (rs.stp s1) rm1 h1 Q (cN.stp c s1)
 | false=>exact l σ τ H1 M1 Q' (rs.stp s1) rm1 h1 Q (cN.stp c s1)
noncomputable def oN (r r':eD) (ta tb tc:UE):UE:=fun τ M Q=>ta τ M fun x M1=>tb τ M1 fun y M2=>r x y M2 fun z M3=>match z with
 | .bl k=>if k=true then tc τ M3 fun w M4=>r' y w M4 Q else Q (.bl false) M3
 | _=>False
theorem AG {r r':R2} {s s':eD} (hr:eJ K r s) (hr':eJ K r' s') (ha:bS K ta ta') (hb:bS K tb tb') (hc:bS K tc tc'):bS K (Ca r r' ta tb tc) (oN s s' ta' tb' tc'):=fun σ τ H M Q' rs rm h Q c =>
 ha σ τ H M _ rs rm h _ fun u v M1 H1 s1 rm1 ru h1=>hb σ τ H1 M1 _ (rs.stp s1) rm1 h1 _ fun w x M2 H2 s2 rm2 rw h2 =>
  hr v x u w H2 M2 _ rm2 (ru.stp s2) rw h2 _ fun z zv M3 H3 s3 rm3 rz h3=>by
   cases z with
   | bl k =>
    refine ⟨k,rz.bl,?_⟩
    cases k with
    | true=>exact hc σ τ H3 M3 _ ((rs.stp s1).stp (s2.trans s3)) rm3 h3 _ fun w2 x2 M4 H4 s4 rm4 rw4 h4=>hr' x x2 w w2 H4 M4 Q' rm4 (rw.stp (s3.trans s4)) rw4 h4 Q (cN.stp c (((s1.trans s2).trans s3).trans s4))
    | false=>exact c _ _ M3 H3 ((s1.trans s2).trans s3) rm3 dF h3
   | _=>exact h3.elim
noncomputable def pU:UA:=fun _ M Q=>Q [] M
noncomputable def nK (ta:UE) (tr:UA):UA:=fun τ M Q=>ta τ M fun x M1=>tr τ M1 fun xs M2=>Q (x :: xs) M2
theorem NG:lK K Q7 pU:=fun σ τ H M Q' rs rm q Q c=>c [] [] M H (aZ.refl _ _) rm .nil q
theorem KR {tr:TA} {tr':UA} (ha:bS K ta ta') (hr:lK K tr tr'):lK K (Nd ta tr) (nK ta' tr'):=fun σ τ H M Q' rs rm h Q c =>
 ha σ τ H M _ rs rm h _ fun u v M1 H1 s1 rm1 ru h1=>hr σ τ H1 M1 _ (rs.stp s1) rm1 h1 _ fun us vs M2 H2 s2 rm2 rus h2=>c (u :: us) (v :: vs) M2 H2 (s1.trans s2) rm2 (.cons (ru.stp s2) rus) h2
noncomputable def wQ (t:UA):UE:=fun τ M Q=>t τ M fun us M1=>us.length<=sizeLine/\Q (.tup us) M1
noncomputable def xN (o:Bool) (t:UA):UE:=fun τ M Q=>t τ M fun us M1=>us.length<=sizeLine/\mP o us M1 Q
theorem Of {t:TA} {t':UA} (h:lK K t t'):bS K (PY t) (wQ t'):=fun σ τ H M Q' rs rm q Q c =>
 h σ τ H M _ rs rm q _ fun us vs M1 H1 s1 rm1 r h1=>⟨by rw [<- r.length];exact h1.1,fun p hp=>(cN.stp c s1).tup rm1 r hp h1.2⟩
theorem ON {o:Bool} {t:TA} {t':UA} (h:lK K t t'):bS K (Qp t) (xN o t'):=fun σ τ H M Q' rs rm q Q c =>
 h σ τ H M _ rs rm q _ fun us vs M1 H1 s1 rm1 r h1=>⟨by rw [<- r.length];exact h1.1,fun p hp=>(cN.stp c s1).lst rm1 r hp h1.2⟩
noncomputable def tV (r:List U->aG->UK->Prop) (t:UA):UE:=fun τ M Q=>t τ M fun us M1=>r us M1 Q
theorem Jo {r:List V->Hp->VK->Prop} {r':List U->aG->UK->Prop} {t:TA} {t':UA} (hr:vE K r r') (h:lK K t t'):bS K (PZ r t) (tV r' t'):=fun σ τ H M Q' rs rm q Q c =>
 h σ τ H M _ rs rm q _ fun us vs M1 H1 s1 rm1 ru h1=>hr vs us H1 M1 Q' rm1 ru h1 Q (cN.stp c s1)
end
end U2
namespace U2
open PySem L2
section
variable {K:PySem.W.Frag}
noncomputable def r9 (g:Int->Int->U):eD:=fun x y M Q=>match x,y with
 | .int i,.int j=>Q (g i j) M
 | _,_=>False
noncomputable def uI (C:Int->Int->Prop) (g:Int->Int->U):eD:=fun x y M Q=>match x,y with
 | .int i,.int j=>C i j/\Q (g i j) M
 | _,_=>False
theorem Kp {g:Int->Int->V} {g':Int->Int->U} (hg:∀ H M i j,aP K H M (g' i j) (g i j)):eJ K (t4 g) (r9 g'):=fun x y u w H M Q' rm ru rw h Q c=>by
 cases u with
 | int i=>cases w with
  | int j=>exact ⟨i,j,ru.int,rw.int,c _ _ M H (aZ.refl _ _) rm (hg H M i j) h⟩
  | _=>exact h.elim
 | _=>exact h.elim
theorem Sa {C:Int->Int->Prop} {g:Int->Int->V} {g':Int->Int->U} (hg:∀ H M i j,aP K H M (g' i j) (g i j)):eJ K (rI C g) (uI C g'):=fun x y u w H M Q' rm ru rw h Q c=>by
 cases u with
 | int i=>cases w with
  | int j=>exact ⟨i,j,ru.int,rw.int,h.1,c _ _ M H (aZ.refl _ _) rm (hg H M i j) h.2⟩
  | _=>exact h.elim
 | _=>exact h.elim
theorem CC {f:Int->Int->Int}:eJ K (t4 fun i j=>.int (f i j)) (r9 fun i j=>.int (f i j)):=Kp fun _ _ _ _=>cK
theorem qR {f:Int->Int->Bool}:eJ K (t4 fun i j=>.bl (f i j)) (r9 fun i j=>.bl (f i j)):=Kp fun _ _ _ _=>dF
theorem rC {C:Int->Int->Prop} {f:Int->Int->Int}:eJ K (rI C fun i j=>.int (f i j)) (uI C fun i j=>.int (f i j)):=Sa fun _ _ _ _=>cK
noncomputable def R3:eD:=fun x y M Q=>match x,y with
 | .str i,.str j=>i.length + j.length<=sizeLine/\Q (.str (i++j)) M
 | _,_=>False
theorem LY:eJ K (fun x y H Q=>∃ i j,x=.str i/\y=.str j/\i.length + j.length<=sizeLine/\Q (.str (i++j)) H) R3:=fun x y u w H M Q' rm ru rw h Q c=>by
 cases u with
 | str i=>cases w with
  | str j=>exact ⟨i,j,ru.str,rw.str,h.1,c _ _ M H (aZ.refl _ _) rm iF h.2⟩
  | _=>exact h.elim
 | _=>exact h.elim
noncomputable def DV (K:PySem.W.Frag):R2:=fun x y H Q=>∃ a b xs ys,x=.ref a/\y=.ref b/\eQ K H a xs/\eQ K H b ys/\xs.length + ys.length<=sizeLine /\
 (xs=[]->Q (.ref b) H)/\(xs≠[]->ys=[]->Q (.ref a) H)/\(xs≠[]->ys≠[]->∀ p,H p=none->Q (.ref p) (upd H p (.tup (xs++ys))))
noncomputable def SH:eD:=fun x y M Q=>match x,y with
 | .tup us,.tup ws=>us.length + ws.length<=sizeLine/\Q (.tup (us++ws)) M
 | _,_=>False
theorem LX:eJ K (DV K) SH:=fun x y u w H M Q' rm ru rw h Q c=>by
 cases u with
 | tup us=>cases w with
  | tup ws =>
   obtain ⟨h2,h3⟩:=h
   obtain ⟨a,xs,rfl,s1,r1⟩:=ru.tup
   obtain ⟨b,ys,rfl,s2,r2⟩:=rw.tup
   refine ⟨a,b,xs,ys,rfl,rfl,s1,s2,by rw [<- r1.length,<- r2.length];exact h2,fun e=>?_,fun _ e=>?_,fun _ _ p hp=>c.tup rm (r1.append r2) hp h3⟩
   ·subst e
    have e2:us=[]:=List.length_eq_zero_iff.mp r1.length
    subst e2
    exact c _ _ M H (aZ.refl _ _) rm rw h3
   ·subst e
    have e2:ws=[]:=List.length_eq_zero_iff.mp r2.length
    subst e2
    exact c _ _ M H (aZ.refl _ _) rm ru (by rw [List.append_nil] at h3;exact h3)
  | _=>exact h.elim
 | _=>exact h.elim
noncomputable def rE (o:Bool):eD:=fun x y M Q=>match view M x,view M y with
 | .lst us,.lst ws=>us.length + ws.length<=sizeLine/\mP o (us++ws) M Q
 | _,_=>False
noncomputable def Ie (K:PySem.W.Frag):R2:=fun x y H Q=>∃ l b xs zs,x=.ref l/\y=.ref b/\eH K H l xs/\eH K H b zs/\xs.length + zs.length<=sizeLine/\∀ p,H p=none->Q (.ref p) (upd H p (.lst (xs++zs)))
theorem KO {o:Bool}:eJ K (Ie K) (rE o):=fun x y u w H M Q' rm ru rw h Q c=>by
 unfold rE at h
 split at h
 ·rename_i us ws e1 e2
  obtain ⟨a,xs,rfl,s1,r1⟩:=gE rm ru e1
  obtain ⟨b,ys,rfl,s2,r2⟩:=gE rm rw e2
  exact ⟨a,b,xs,ys,rfl,rfl,s1,s2,by rw [<- r1.length,<- r2.length];exact h.1,fun p hp=>c.lst rm (r1.append r2) hp h.2⟩
 ·exact h.elim
theorem Fe {H:Hp} {M:aG} {us:List U} {vs:List V} {i:Int} {u:U} (r:aK K H M us vs) (h:eP us i=some u):∃ v,eP vs i=some v/\aP K H M u v:=by
 unfold eP at h ⊢
 rw [<- r.length]
 cases e:qW us.length i with
 | none=>rw [e] at h;cases h
 | some j=>rw [e] at h;exact r.get h
noncomputable def tU:eD:=fun x y M Q=>match view M x,y with
 | .lst us,.int i=>∃ u,eP us i=some u/\Q u M
 | .tup us,.int i=>∃ u,eP us i=some u/\Q u M
 | .str z,.int i=>z.length<=sizeLine/\∃ c,eP z.cps.toList i=some c/\Q (.str ⟨#[c]⟩) M
 | _,_=>False
theorem sL {M:aG} {u:U} {us:List U} (h:view M u=.tup us):u=.tup us:=by
 cases u with
 | ref a=>simp only [view] at h;split at h <;> cases h
 | _=>simpa [view] using h
theorem xP {M:aG} {u:U} {x:Str} (h:view M u=.str x):u=.str x:=by
 cases u with
 | ref a=>simp only [view] at h;split at h <;> cases h
 | _=>simpa [view] using h
theorem P7:eJ K (SS K) tU:=fun x y u w H M Q' rm ru rw h Q c=>by
 unfold tU at h
 split at h
 ·rename_i us i e
  obtain ⟨z,h1,h2⟩:=h
  obtain ⟨a,xs,rfl,s1,r1⟩:=gE rm ru e
  obtain ⟨v,h3,h4⟩:=Fe r1 h1
  exact .inl ⟨a,xs,i,v,rfl,rw.int,s1,h3,c _ _ M H (aZ.refl _ _) rm h4 h2⟩
 ·rename_i us i e
  obtain ⟨z,h1,h2⟩:=h
  have e':=sL e
  subst e'
  obtain ⟨a,xs,rfl,s1,r1⟩:=ru.tup
  obtain ⟨v,h3,h4⟩:=Fe r1 h1
  exact .inr (.inl ⟨a,xs,i,v,rfl,rw.int,s1,h3,c _ _ M H (aZ.refl _ _) rm h4 h2⟩)
 ·rename_i z i e
  obtain ⟨h0,d,h1,h2⟩:=h
  have e':=xP e
  subst e'
  exact .inr (.inr ⟨z,i,d,ru.str,rw.int,h0,h1,c _ _ M H (aZ.refl _ _) rm iF h2⟩)
 ·exact h.elim
abbrev UO:=SU->aG->(Option Int->aG->Prop)->Prop
noncomputable def C3 (K:PySem.W.Frag) (t:TO) (t':UO):Prop:=∀ (σ:St) (τ:SU) (H:Hp) (M:aG) (Q':Option Int->aG->Prop),dW K H M σ τ->RelM K H M->t' τ M Q' ->
 ∀ Q:Option Int->Hp->Prop,(∀ o M1 H1,aZ H M H1 M1->RelM K H1 M1->Q' o M1->Q o H1)->t σ H Q
noncomputable def n6:UO:=fun _ M Q=>Q none M
noncomputable def sV (t:UE):UO:=fun τ M Q=>t τ M fun x M1=>match x with
 | .int i=>Q (some i) M1
 | _=>False
theorem Gi:C3 K Fi n6:=fun σ τ H M Q' rs rm q Q c=>c none M H (aZ.refl _ _) rm q
theorem Lw {t:TE} {t':UE} (h:bS K t t'):C3 K (MG t) (sV t'):=fun σ τ H M Q' rs rm q Q c=>h σ τ H M _ rs rm q _ fun u v M1 H1 s1 rm1 ru h1=>by
 cases u with
 | int i=>exact ⟨i,ru.int,c _ M1 H1 s1 rm1 h1⟩
 | _=>exact h1.elim
noncomputable def gF {α:Type} (xs:List α) (lo hi:Option Int):List α:=(xs.drop (HT.bV xs.length 0 lo)).take (HT.bV xs.length xs.length hi - HT.bV xs.length 0 lo)
theorem FO {H:Hp} {M:aG} {us:List U} {vs:List V} (r:aK K H M us vs) (lo hi:Option Int):aK K H M (gF us lo hi) (rO vs lo hi):=by
 unfold gF rO
 rw [r.length]
 exact (r.drop _).take _
noncomputable def PX (K:PySem.W.Frag):V->Option Int->Option Int->Hp->VK->Prop:=fun x lo hi H Q =>
 (∃ a xs,x=.ref a/\eH K H a xs/\∀ p,H p=none->Q (.ref p) (upd H p (.lst (rO xs lo hi)))) \/
 (∃ a xs,x=.ref a/\eQ K H a xs/\¬ (HT.bV xs.length 0 lo=0/\HT.bV xs.length xs.length hi=xs.length)/\∀ p,H p=none->Q (.ref p) (upd H p (.tup (rO xs lo hi)))) \/
 (∃ z:Str,x=.str z/\z.length<=sizeLine/\Q (.str (Txt.slice z lo hi)) H)
noncomputable def Ut (o:Bool) (te:UE) (tl th:UO):UE:=fun τ M Q=>te τ M fun x M1=>tl τ M1 fun l M2=>th τ M2 fun h M3=>match view M3 x with
 | .lst us=>mP o (gF us l h) M3 Q
 | .tup us=>¬ (HT.bV us.length 0 l=0/\HT.bV us.length us.length h=us.length)/\Q (.tup (gF us l h)) M3
 | .str z=>z.length<=sizeLine/\Q (.str (Txt.slice z l h)) M3
 | _=>False
end
section
variable {K:PySem.W.Frag} {t u:TS} {t' u':US} {te:TE} {te':UE}
noncomputable def bW:US:=fun D τ M=>D.nx τ M
noncomputable def fD (t u:US):US:=fun D τ M=>t { D with nx:=u D } τ M
noncomputable def lM:US:=fun D τ M=>D.bk τ M
noncomputable def rB:US:=fun D τ M=>D.ct τ M
noncomputable def gH (te:UE):US:=fun D τ M=>te τ M fun _ M1=>D.nx τ M1
noncomputable def bM (te:UE):US:=fun D τ M=>te τ M D.rt
noncomputable def qU:US:=fun D _ M=>D.rt .non M
noncomputable def lL (c:UT) (t u:US):US:=fun D τ M=>c τ M fun b M1=>if b=true then t D τ M1 else u D τ M1
theorem K5:kB K MX bW:=fun σ τ H M D' rs rm h D d=>d.nx σ τ H M (aZ.refl _ _) rm rs h
theorem Ii:kB K IA lM:=fun σ τ H M D' rs rm h D d=>d.bk σ τ H M (aZ.refl _ _) rm rs h
theorem Ol (h1:kB K t t') (h2:kB K u u'):kB K (Rk t u) (fD t' u'):=fun σ τ H M D' rs rm h D d =>
 h1 σ τ H M _ rs rm h _ ⟨fun σ1 τ1 H1 M1 s rm1 rs1 q=>h2 σ1 τ1 H1 M1 D' rs1 rm1 q D (d.stp s),d.rt,d.bk,d.ct⟩
theorem LH (h1:bS K te te'):kB K (MM te) (gH te'):=fun σ τ H M D' rs rm h D d=>h1 σ τ H M _ rs rm h _ fun u v M1 H1 s rm1 ru q=>d.nx σ τ H1 M1 s rm1 (rs.stp s) q
theorem Ny (h1:bS K te te'):kB K (P6 te) (bM te'):=fun σ τ H M D' rs rm h D d=>h1 σ τ H M _ rs rm h _ fun u v M1 H1 s rm1 ru q=>d.rt u v H1 M1 s rm1 ru q
theorem Oi {c:TT} {c':UT} (hc:kF K c c') (h1:kB K t t') (h2:kB K u u'):kB K (RB c t u) (lL c' t' u'):=fun σ τ H M D' rs rm h D d=>hc σ τ H M _ rs rm h _ fun b M1 H1 s rm1 q=>by
 cases b with
 | true=>exact h1 σ τ H1 M1 D' (rs.stp s) rm1 q D (d.stp s)
 | false=>exact h2 σ τ H1 M1 D' (rs.stp s) rm1 q D (d.stp s)
abbrev UG:=U->SU->aG->(SU->aG->Prop)->Prop
abbrev yV:=List U->SU->aG->(SU->aG->Prop)->Prop
noncomputable def wW (K:PySem.W.Frag) (g:TG) (g':UG):Prop:=∀ (u:U) (v:V) (σ:St) (τ:SU) (H:Hp) (M:aG) (Q':SU->aG->Prop),aP K H M u v->dW K H M σ τ->RelM K H M->g' u τ M Q' ->
 ∀ Q:St->Hp->Prop,(∀ σ1 τ1 H1 M1,aZ H M H1 M1->RelM K H1 M1->dW K H1 M1 σ1 τ1->Q' τ1 M1->Q σ1 H1)->g v σ H Q
noncomputable def zE (K:PySem.W.Frag) (g:qL) (g':yV):Prop:=∀ (us:List U) (vs:List V) (σ:St) (τ:SU) (H:Hp) (M:aG) (Q':SU->aG->Prop),aK K H M us vs->dW K H M σ τ->RelM K H M->g' us τ M Q' ->
 ∀ Q:St->Hp->Prop,(∀ σ1 τ1 H1 M1,aZ H M H1 M1->RelM K H1 M1->dW K H1 M1 σ1 τ1->Q' τ1 M1->Q σ1 H1)->g vs σ H Q
noncomputable def hName (i:Nat):UG:=fun u τ M Q=>Q (τ.set i (some u)) M
theorem uG (i:Nat):wW K (tR i) (hName i):=fun u v σ τ H M Q' ru rs rm h Q c=>c _ _ H M (aZ.refl _ _) rm (rs.set ru) h
noncomputable def nW:yV:=fun us τ M Q=>match us with
 | []=>Q τ M
 | _=>False
noncomputable def kZ (g:UG) (r:yV):yV:=fun us τ M Q=>match us with
 | u :: us=>g u τ M fun τ1 M1=>r us τ1 M1 Q
 | _=>False
theorem Mg:zE K Dq nW:=fun us vs σ τ H M Q' ru rs rm h Q c=>by
 cases us with
 | nil=>exact ⟨ru.inv_nil,c σ τ H M (aZ.refl _ _) rm rs h⟩
 | cons _ _=>exact h.elim
theorem II {g:TG} {g':UG} {r:qL} {r':yV} (h1:wW K g g') (h2:zE K r r'):zE K (yW g r) (kZ g' r'):=fun us vs σ τ H M Q' ru rs rm h Q c=>by
 cases us with
 | nil=>exact h.elim
 | cons u us =>
  obtain ⟨v,vs',rfl,a,b⟩:=ru.inv_cons
  exact ⟨v,vs',rfl,h1 u v σ τ H M _ a rs rm h _ fun σ1 τ1 H1 M1 s rm1 rs1 q=>h2 us vs' σ1 τ1 H1 M1 Q' (b.stp s) rs1 rm1 q Q fun σ2 τ2 H2 M2 s2=>c σ2 τ2 H2 M2 (s.trans s2)⟩
noncomputable def i9 (n:Nat) (r:yV):UG:=fun u τ M Q=>match u with
 | .tup us=>us.length=n/\r us τ M Q
 | _=>False
theorem KP {n:Nat} {r:qL} {r':yV} (h2:zE K r r'):wW K (Dy K n r) (i9 n r'):=fun u v σ τ H M Q' ru rs rm h Q c=>by
 cases u with
 | tup us =>
  obtain ⟨a,vs,rfl,s1,r1⟩:=ru.tup
  exact ⟨a,vs,rfl,s1,by rw [<- r1.length];exact h.1,h2 us vs σ τ H M Q' r1 rs rm h.2 Q c⟩
 | _=>exact h.elim
noncomputable def bU (te:UE) (g:UG):US:=fun D τ M=>te τ M fun x M1=>g x τ M1 D.nx
theorem zO {g:TG} {g':UG} (h1:bS K te te') (h2:wW K g g'):kB K (Gy te g) (bU te' g'):=fun σ τ H M D' rs rm h D d =>
 h1 σ τ H M _ rs rm h _ fun u v M1 H1 s rm1 ru q=>h2 u v σ τ H1 M1 _ ru (rs.stp s) rm1 q _ fun σ1 τ1 H2 M2 s2 rm2 rs2 q2=>d.nx σ1 τ1 H2 M2 (s.trans s2) rm2 rs2 q2
noncomputable def y6 (c:UT) (tb:US):US:=fun D τ M=>∃ (P:SU->aG->Prop) (μ:SU->aG->Nat),P τ M/\∀ τ M,P τ M->c τ M fun b M1=>if b=true then tb { D with nx:=fun τ' M'=>P τ' M'/\μ τ' M' < μ τ M,ct:=fun τ' M'=>P τ' M'/\μ τ' M' < μ τ M,bk:=D.nx } τ M1 else D.nx τ M1
theorem IC {c:TT} {c':UT} (hc:kF K c c') (h1:kB K t t'):kB K (Iv c t) (y6 c' t'):=fun σ τ H M D' rs rm h D d=>by
 obtain ⟨P,μ,p0,turn⟩:=h
 refine ⟨fun m σ1 H1=>∃ τ1 M1,aZ H M H1 M1/\RelM K H1 M1/\dW K H1 M1 σ1 τ1/\P τ1 M1/\m=μ τ1 M1,⟨_,τ,M,aZ.refl _ _,rm,rs,p0,rfl⟩,?_⟩
 rintro m σ1 H1 ⟨τ1,M1,s1,rm1,rs1,p1,rfl⟩
 refine hc σ1 τ1 H1 M1 _ rs1 rm1 (turn τ1 M1 p1) _ fun b M2 H2 s2 rm2 q=>?_
 cases b with
 | true =>
  refine ⟨fun σ3 H3=>∃ τ3 M3,aZ H M H3 M3/\RelM K H3 M3/\dW K H3 M3 σ3 τ3/\P τ3 M3/\μ τ3 M3 < μ τ1 M1,?_,?_⟩
  ·rintro σ3 H3 ⟨τ3,M3,s3,rm3,rs3,p3,lt⟩
   exact ⟨_,lt,τ3,M3,s3,rm3,rs3,p3,rfl⟩
  ·have d2:=d.stp (s1.trans s2)
   exact h1 σ1 τ1 H2 M2 _ (rs1.stp s2) rm2 q _ ⟨fun σ3 τ3 H3 M3 s3 rm3 rs3 q3=>⟨τ3,M3,(s1.trans s2).trans s3,rm3,rs3,q3.1,q3.2⟩,d2.rt,d2.nx,fun σ3 τ3 H3 M3 s3 rm3 rs3 q3=>⟨τ3,M3,(s1.trans s2).trans s3,rm3,rs3,q3.1,q3.2⟩⟩
 | false=>exact d.nx σ1 τ1 H2 M2 (s1.trans s2) rm2 (rs1.stp s2) q
structure Src where
 own:Option Addr
 xs:List U
noncomputable def Src.ok (S:Src) (M:aG):Prop:=∀ a,S.own=some a->M a=some (.lst S.xs)
structure Walk (K:PySem.W.Frag) (J:It) (S:Src) (H:Hp) (M:aG):Prop where
 step:∀ H1 M1,aZ H M H1 M1->RelM K H1 M1->S.ok M1->∀ (i:Nat) u,S.xs[i]?=some u->J.go i H1/\∀ x H2,J.yld i H1 x H2->aZ H1 M1 H2 M1/\RelM K H2 M1/\aP K H2 M1 u x
 stop:∀ H1 M1,aZ H M H1 M1->RelM K H1 M1->S.ok M1->J.stop S.xs.length H1
abbrev UI:=SU->aG->(Src->aG->Prop)->Prop
noncomputable def vC (K:PySem.W.Frag) (t:TI) (t':UI):Prop:=∀ (σ:St) (τ:SU) (H:Hp) (M:aG) (R':Src->aG->Prop),dW K H M σ τ->RelM K H M->t' τ M R' ->
 ∀ R:It->Hp->Prop,(∀ J S M1 H1,aZ H M H1 M1->RelM K H1 M1->Walk K J S H1 M1->R' S M1->R J H1)->t σ H R
noncomputable def HE (wi:UI) (g:UG) (tb:US):US:=fun D τ M=>wi τ M fun S M1=>∃ P:Nat->SU->aG->Prop,P 0 τ M1/\(∀ i τ M,P i τ M->S.ok M) /\
 (∀ i x τ M,S.xs[i]?=some x->P i τ M->g x τ M fun τ2 M2=>tb { D with nx:=P (i + 1),ct:=P (i + 1),bk:=D.nx } τ2 M2)/\∀ τ M,P S.xs.length τ M->D.nx τ M
theorem O6 {wi:TI} {wi':UI} {g:TG} {g':UG} (hi:vC K wi wi') (hg:wW K g g') (h1:kB K t t'):kB K (Rm wi g t) (HE wi' g' t'):=fun σ τ H M D' rs rm h D d=>by
 refine hi σ τ H M _ rs rm h _ fun J S M0 H0 s0 rm0 w h=>?_
 obtain ⟨P,p0,hok,turn,fin⟩:=h
 refine ⟨fun i m σ1 H1=>∃ τ1 M1,aZ H0 M0 H1 M1/\RelM K H1 M1/\dW K H1 M1 σ1 τ1/\P i τ1 M1/\i<=S.xs.length/\m=S.xs.length - i,⟨_,τ,M0,aZ.refl _ _,rm0,rs.stp s0,p0,Nat.zero_le _,rfl⟩,?_⟩
 rintro i m σ1 H1 ⟨τ1,M1,s1,rm1,rs1,p1,hle,rfl⟩
 have ok1:=hok i τ1 M1 p1
 by_cases hlt:i < S.xs.length
 ·obtain ⟨go,yl⟩:=w.step H1 M1 s1 rm1 ok1 i S.xs[i] (by simp [hlt])
  refine .inr ⟨go,fun σ3 H3=>∃ τ3 M3,aZ H0 M0 H3 M3/\RelM K H3 M3/\dW K H3 M3 σ3 τ3/\P (i + 1) τ3 M3,?_,fun x H2 y=>?_⟩
  ·rintro σ3 H3 ⟨τ3,M3,s3,rm3,rs3,p3⟩
   exact ⟨S.xs.length - (i + 1),by omega,τ3,M3,s3,rm3,rs3,p3,hlt,rfl⟩
  ·obtain ⟨s2,rm2,ru⟩:=yl x H2 y
   refine hg _ x σ1 τ1 H2 M1 _ ru (rs1.stp s2) rm2 (turn i S.xs[i] τ1 M1 (by simp [hlt]) p1) _ fun σ3 τ3 H3 M3 s3 rm3 rs3 q3=>?_
   have d3:=d.stp (((s0.trans s1).trans s2).trans s3)
   exact h1 σ3 τ3 H3 M3 _ rs3 rm3 q3 _ ⟨fun σ4 τ4 H4 M4 s4 rm4 rs4 q4=>⟨τ4,M4,((s1.trans s2).trans s3).trans s4,rm4,rs4,q4⟩,d3.rt,d3.nx,fun σ4 τ4 H4 M4 s4 rm4 rs4 q4=>⟨τ4,M4,((s1.trans s2).trans s3).trans s4,rm4,rs4,q4⟩⟩
 ·have e:i=S.xs.length:=by omega
  subst e
  exact .inl ⟨w.stop H1 M1 s1 rm1 ok1,d.nx σ1 τ1 H1 M1 (s0.trans s1) rm1 rs1 (fin τ1 M1 p1)⟩
end
end U2
namespace U2
open PySem L2
section
variable {K:PySem.W.Frag}
theorem Km {a:Addr} {us:List U} {vs:List V} {H:Hp} {M:aG} (m:(M a=none/\Rd H a (.lst vs))\/KL K a vs) (r:aK K H M us vs):Walk K (Nh K a) ⟨none,us⟩ H M:=by
 have sq:∀ H1 M1,aZ H M H1 M1->eH K H1 a vs:=fun H1 M1 s=>by
  rcases m with ⟨m,h⟩ | k
  ·exact .inl (Rd.stp s m h).2
  ·exact .inr k
 refine ⟨fun H1 M1 s rm _ i u e=>?_,fun H1 M1 s rm _=>⟨vs,sq H1 M1 s,by rw [r.length];exact Nat.le_refl _⟩⟩
 obtain ⟨v,e2,ru⟩:=r.get e
 refine ⟨⟨vs,v,sq H1 M1 s,e2⟩,fun x H2 y=>?_⟩
 obtain ⟨rfl,y⟩:=y
 have:=y vs (sq _ M1 s)
 rw [e2] at this;cases this
 exact ⟨aZ.refl _ _,rm,ru.stp s⟩
theorem Lv {a:Addr} {us:List U} {vs:List V} {H:Hp} {M:aG} (m:M a=none/\H a=some (.tup vs)) (r:aK K H M us vs):Walk K (P5 K a) ⟨none,us⟩ H M:=by
 have sq:∀ H1 M1,aZ H M H1 M1->eQ K H1 a vs:=fun H1 M1 s=>by
  exact .inl (.inl (s.to m.2 m.1).1)
 refine ⟨fun H1 M1 s rm _ i u e=>?_,fun H1 M1 s rm _=>⟨vs,sq H1 M1 s,by rw [r.length];exact Nat.le_refl _⟩⟩
 obtain ⟨v,e2,ru⟩:=r.get e
 refine ⟨⟨vs,v,sq H1 M1 s,e2⟩,fun x H2 y=>?_⟩
 obtain ⟨rfl,y⟩:=y
 have:=y vs (sq _ M1 s)
 rw [e2] at this;cases this
 exact ⟨aZ.refl _ _,rm,ru.stp s⟩
theorem Mh {a:Addr} {us:List U} {H:Hp} {M:aG}:Walk K (Nh K a) ⟨some a,us⟩ H M:=by
 refine ⟨fun H1 M1 s rm ok i u e=>?_,fun H1 M1 s rm ok=>?_⟩
 ·obtain ⟨vs,h1,r⟩:=rm a _ (ok a rfl)
  obtain ⟨v,e2,ru⟩:=r.get e
  refine ⟨⟨vs,v,.inl (.inl h1),e2⟩,fun x H2 y=>?_⟩
  obtain ⟨rfl,y⟩:=y
  have:=y vs (.inl (.inl h1))
  rw [e2] at this;cases this
  exact ⟨aZ.refl _ _,rm,ru⟩
 ·obtain ⟨vs,h1,r⟩:=rm a _ (ok a rfl)
  exact ⟨vs,.inl (.inl h1),by rw [r.length];exact Nat.le_refl _⟩
noncomputable def Pz (z:Str):It:=⟨fun i _=>i < z.cps.size,fun i H x H'=>H'=H/\∃ c,z.cps[i]?=some c/\x=.str ⟨#[c]⟩,fun i _=>i=z.cps.size⟩
noncomputable def chars (z:Str):List U:=z.cps.toList.map fun c=>.str ⟨#[c]⟩
theorem L1 {z:Str} {H:Hp} {M:aG}:Walk K (Pz z) ⟨none,chars z⟩ H M:=by
 refine ⟨fun H1 M1 s rm _ i u e=>?_,fun H1 M1 s rm _=>?_⟩
 ·have hi:i < z.cps.size:=by
   have:=(List.getElem?_eq_some_iff.mp e).1
   simpa [chars] using this
  refine ⟨hi,fun x H2 y=>?_⟩
  obtain ⟨rfl,c,h1,rfl⟩:=y
  have:u=.str ⟨#[c]⟩:=by
   simp only [chars,List.getElem?_map,Array.getElem?_toList,h1,Option.map_some] at e
   exact (Option.some.inj e).symm
  subst this
  exact ⟨aZ.refl _ _,rm,iF⟩
 ·show (chars z).length=z.cps.size
  simp [chars]
noncomputable def Q9 (K:PySem.W.Frag) (tl:TE):TI:=fun σ H R=>tl σ H fun x H1 =>
 (∃ a,x=.ref a/\(∃ xs,eH K H1 a xs)/\R (Nh K a) H1)\/(∃ a,x=.ref a/\(∃ xs,eQ K H1 a xs)/\R (P5 K a) H1)\/(∃ z,x=.str z/\R (Pz z) H1)
noncomputable def sX (te:UE):UI:=fun τ M R=>te τ M fun u M1=>match u with
 | .lst us=>R ⟨none,us⟩ M1
 | .tup us=>R ⟨none,us⟩ M1
 | .str z=>R ⟨none,chars z⟩ M1
 | .ref a=>match M1 a with
  | some (.lst us)=>R ⟨some a,us⟩ M1
  | _=>False
 | _=>False
theorem L8 {te:TE} {te':UE} (h:bS K te te'):vC K (Q9 K te) (sX te'):=fun σ τ H M R' rs rm q R c=>h σ τ H M _ rs rm q _ fun u v M1 H1 s1 rm1 ru h1=>by
 cases u with
 | lst us =>
  simp only [aP] at ru
  obtain ⟨a,vs,rfl,m,r⟩:=ru
  refine .inl ⟨a,rfl,⟨vs,?_⟩,c _ _ M1 H1 s1 rm1 (Km m r) h1⟩
  rcases m with ⟨_,m⟩ | k
  ·exact .inl m
  ·exact .inr k
 | tup us =>
  simp only [aP] at ru
  obtain ⟨a,vs,rfl,m,r⟩:=ru
  refine .inr (.inl ⟨a,rfl,⟨vs,?_⟩,c _ _ M1 H1 s1 rm1 (Lv m r) h1⟩)
  exact .inl (.inl m.2)
 | str z=>exact .inr (.inr ⟨z,ru.str,c _ _ M1 H1 s1 rm1 L1 h1⟩)
 | ref a =>
  dsimp only at h1
  split at h1
  ·rename_i us e
   obtain ⟨vs,h2,r⟩:=rm1 a _ e
   exact .inl ⟨a,ru.ref,⟨vs,.inl (.inl h2)⟩,c _ _ M1 H1 s1 rm1 Mh h1⟩
  ·exact h1.elim
 | _=>exact h1.elim
noncomputable def hZ (lo:Int) (n:Nat):List U:=(List.range n).map fun (k:Nat)=>U.int (lo + (k:Int))
theorem HM {lo:Int} {n:Nat} {H:Hp} {M:aG}:Walk K (Nn lo n) ⟨none,hZ lo n⟩ H M:=by
 refine ⟨fun H1 M1 s rm _ i u e=>?_,fun H1 M1 s rm _=>?_⟩
 ·have hi:i < n:=by
   have:=(List.getElem?_eq_some_iff.mp e).1
   simpa [hZ] using this
  refine ⟨hi,fun x H2 y=>?_⟩
  obtain ⟨rfl,rfl⟩:=y
  have:u=.int (lo + i):=by
   simp only [hZ,List.getElem?_map,List.getElem?_range hi,Option.map_some] at e
   exact (Option.some.inj e).symm
  subst this
  exact ⟨aZ.refl _ _,rm,cK⟩
 ·show n<=(hZ lo n).length
  simp [hZ]
noncomputable def tT (ta:UA):UI:=fun τ M R=>ta τ M fun us M1=>match us with
 | [.int j]=>-(2 ^ 62)<=j/\j < 2 ^ 62/\R ⟨none,hZ 0 j.toNat⟩ M1
 | _=>False
noncomputable def yZ (ta:UA):UI:=fun τ M R=>ta τ M fun us M1=>match us with
 | [.int i,.int j]=>(-(2 ^ 62)<=i/\i < 2 ^ 62/\-(2 ^ 62)<=j/\j < 2 ^ 62)/\R ⟨none,hZ i (j - i).toNat⟩ M1
 | _=>False
theorem LA {ta:TA} {ta':UA} (h:lK K ta ta'):vC K (MR ta) (tT ta'):=fun σ τ H M R' rs rm q R c=>h σ τ H M _ rs rm q _ fun us vs M1 H1 s1 rm1 ru h1=>by
 split at h1
 ·rename_i j
  obtain ⟨v,vs',rfl,a,b⟩:=ru.inv_cons
  cases b.inv_nil
  cases a.int
  exact ⟨j,rfl,h1.1,h1.2.1,c _ _ M1 H1 s1 rm1 HM h1.2.2⟩
 ·exact h1.elim
abbrev bN:=List U->aG->UK->Prop
noncomputable def dQ (K:PySem.W.Frag) (sp:bN):Sp:=fun vs H Q _=>∃ us M Q',RelM K H M/\aK K H M us vs/\sp us M Q'/\cN K H M Q' Q
noncomputable def tS (sp:bN) (dus:List U) (t:UA):UE:=fun τ M Q=>t τ M fun us M1=>sp (us++dus) M1 Q
theorem KI {sp:bN} {dus:List U} {dvs:List V} {E:XK} {t:TA} {t':UA} (hd:∀ H M,aK K H M dus dvs) (h:lK K t t'):bS K (G1 (dQ K sp) dvs E t) (tS sp dus t'):=fun σ τ H M Q' rs rm q Q c =>
 h σ τ H M _ rs rm q _ fun us vs M1 H1 s1 rm1 ru h1=>⟨us++dus,M1,Q',rm1,ru.append (hd _ _),h1,cN.stp c s1⟩
noncomputable def Sub (M' M1:aG):Prop:=∀ b mo,M' b=some mo->M1 b=some mo
theorem Sub.refl (M:aG):Sub M M:=fun _ _ h=>h
theorem Sub.mup {M M1:aG} {p:Addr} {o:MO} (h:Sub M M1) (hp:M p=none):Sub M (mup M1 p o):=fun b mo e=>by
 have:b≠p:=fun z=>by subst z;rw [hp] at e;cases e
 rw [bH this];exact h b mo e
theorem Sub.less {M M1:aG} (h:Sub M M1) {H:Hp}:aZ H M1 H M:=aZ.less fun b e=>by
 cases q:M b with
 | none=>rfl
 | some mo=>rw [h b mo q] at e;cases e
theorem RelM.sub {H:Hp} {M M1:aG} (rm:RelM K H M1) (h:Sub M M1):RelM K H M:=fun a mo e=>(rm a mo (h a mo e)).stp (fun b q z=>h b _ z) (h.less) rfl
noncomputable def Out (M1 M':aG) (u u':U):Prop:=u'=u\/∃ a us,u=.ref a/\M1 a=some (.lst us)/\M' a=none/\u'=.lst us
noncomputable def i4 (Q:UK):UK:=fun u M1=>∃ u' M',Sub M' M1/\Out M1 M' u u'/\Q u' M'
theorem i4.ok {H H1:Hp} {M M1:aG} {Q':UK} {Q:VK} {u:U} {v:V} (c:cN K H M Q' Q) (s:aZ H M H1 M1) (rm:RelM K H1 M1) (ru:aP K H1 M1 u v) (h:i4 Q' u M1):Q v H1:=by
 obtain ⟨u',M',sb,o,q⟩:=h
 have s':aZ H1 M1 H1 M':=sb.less
 refine c u' v M' H1 (s.trans s') (rm.sub sb) ?_ q
 rcases o with rfl | ⟨a,us,rfl,h1,h2,rfl⟩
 ·exact ru.stp s'
 ·obtain ⟨vs,h3,h4⟩:=rm a _ h1
  cases ru.ref
  exact xR h2 h3 (h4.stp s')
noncomputable def eU (N:List Str) (us:List U):SU:=us.map some++List.replicate (N.length - us.length) none
noncomputable def JR (M:aG) (x:U):Prop:=∃ us,view M x=.lst us
noncomputable def Bc (r:U->List U->aG->UK->Prop) (to:UE) (t:UA):UE:=fun τ M Q=>to τ M fun x M1=>JR M1 x/\t τ M1 fun xs M2=>r x xs M2 Q
noncomputable def xM (r:U->List U->aG->UK->Prop) (to:UE):UE:=fun τ M Q=>to τ M fun x M1=>JR M1 x/\r x [] M1 Q
theorem JR.ty {H:Hp} {M:aG} {u:U} {v:V} (rm:RelM K H M) (ru:aP K H M u v) (h:JR M u):MW K "list" v H:=by
 obtain ⟨us,h⟩:=h
 obtain ⟨a,vs,rfl,s,_⟩:=gE rm ru h
 exact .inl ⟨rfl,vs,s⟩
theorem Jr {r:V->List V->Hp->VK->Prop} {r':U->List U->aG->UK->Prop} {to:TE} {to':UE} {t:TA} {t':UA} (hr:lW K r r') (ho:bS K to to') (h:lK K t t') :
  bS K (Nr K "list" r to t) (Bc r' to' t'):=fun σ τ H M Q' rs rm q Q c =>
 ho σ τ H M _ rs rm q _ fun u v M1 H1 s1 rm1 ru h1=>⟨h1.1.ty rm1 ru,h σ τ H1 M1 _ (rs.stp s1) rm1 h1.2 _ fun us vs M2 H2 s2 rm2 rus h2=>hr v vs u us H2 M2 Q' rm2 (ru.stp s2) rus h2 Q (cN.stp c (s1.trans s2))⟩
theorem O5 {r:V->List V->Hp->VK->Prop} {r':U->List U->aG->UK->Prop} {to:TE} {to':UE} (hr:lW K r r') (ho:bS K to to') :
  bS K (Pw K "list" r to) (xM r' to'):=fun σ τ H M Q' rs rm q Q c =>
 ho σ τ H M _ rs rm q _ fun u v M1 H1 s1 rm1 ru h1=>⟨h1.1.ty rm1 ru,hr v [] u [] H1 M1 Q' rm1 ru .nil h1.2 Q (cN.stp c s1)⟩
theorem cN.write {H:Hp} {M:aG} {Q':UK} {Q:VK} {a:Addr} {us us':List U} {xs':List V} {r:U} {v:V} (c:cN K H M Q' Q) (rm:RelM K H M) (e:M a=some (.lst us)) (r1:aK K H M us' xs') (r2:aP K H M r v) (q:Q' r (mup M a (.lst us'))):Q v (upd H a (.lst xs')):=by
 have st:aZ H M (upd H a (.lst xs')) (mup M a (.lst us')):=aZ.write e
 exact c _ _ _ _ st (rm.put st ⟨xs',dY,r1.stp st⟩) (r2.stp st) q
noncomputable def mO:U->List U->aG->UK->Prop:=fun x ws M Q=>match x,ws with
 | .ref a,[w]=>match M a with
  | some (.lst us)=>us.length < sizeLine/\Q .non (mup M a (.lst (us++[w])))
  | _=>False
 | _,_=>False
theorem Gp:lW K Fu mO:=fun x xs u us H M Q' rm ru rus h Q c=>by
 unfold mO at h
 split at h
 ·rename_i a w
  split at h
  ·rename_i ws e
   obtain ⟨vs,h1,r⟩:=rm a _ e
   obtain ⟨v,vs',rfl,a1,b⟩:=rus.inv_cons
   cases b.inv_nil
   cases ru.ref
   exact ⟨a,vs,v,rfl,rfl,h1,by rw [<- r.length];exact h.1,c.write rm e (r.append (.cons a1 .nil)) nZ h.2⟩
  ·exact h.elim
 ·exact h.elim
noncomputable def uB:U->List U->aG->UK->Prop:=fun x ws M Q=>match x,ws with
 | .ref a,[]=>match M a with
  | some (.lst us)=>match us.getLast? with
   | some w=>Q w (mup M a (.lst us.dropLast))
   | none=>False
  | _=>False
 | _,_=>False
theorem O8:lW K RH uB:=fun x xs u us H M Q' rm ru rus h Q c=>by
 unfold uB at h
 split at h
 ·rename_i a
  split at h
  ·rename_i ws e
   split at h
   ·rename_i w e2
    obtain ⟨vs,h1,r⟩:=rm a _ e
    cases rus.inv_nil
    cases ru.ref
    rw [List.getLast?_eq_getElem?] at e2
    obtain ⟨v,h3,h4⟩:=r.get e2
    exact ⟨a,vs,v,rfl,rfl,h1,by rw [<- r.length];exact h3,c.write rm e r.dropLast h4 h⟩
   ·exact h.elim
  ·exact h.elim
 ·exact h.elim
noncomputable def Eb (K:PySem.W.Frag):V->List V->Hp->VK->Prop:=fun x vs H Q=>∃ l b xs zs,x=.ref l/\vs=[.ref b]/\H l=some (.lst xs)/\eH K H b zs/\xs.length + zs.length<=sizeLine/\Q .non (upd H l (.lst (xs++zs)))
noncomputable def mN:U->List U->aG->UK->Prop:=fun x ws M Q=>match x,ws with
 | .ref a,[w]=>match M a,view M w with
  | some (.lst us),.lst zs=>us.length + zs.length<=sizeLine/\Q .non (mup M a (.lst (us++zs)))
  | _,_=>False
 | _,_=>False
theorem Gj:lW K (Eb K) mN:=fun x xs u us H M Q' rm ru rus h Q c=>by
 unfold mN at h
 split at h
 ·rename_i a w
  split at h
  ·rename_i ws zs e e2
   obtain ⟨vs,h1,r⟩:=rm a _ e
   obtain ⟨v,vs',rfl,a1,b⟩:=rus.inv_cons
   cases b.inv_nil
   cases ru.ref
   obtain ⟨b,zvs,rfl,s2,r2⟩:=gE rm a1 e2
   exact ⟨a,b,vs,zvs,rfl,rfl,h1,s2,by rw [<- r.length,<- r2.length];exact h.1,c.write rm e (r.append r2) nZ h.2⟩
  ·exact h.elim
 ·exact h.elim
noncomputable def uS:U->List U->aG->UK->Prop:=fun x ws M Q=>match x,ws with
 | .ref a,[]=>match M a with
  | some (.lst us)=>Q .non (mup M a (.lst []))
  | _=>False
 | _,_=>False
noncomputable def rR:List U->aG->UK->Prop:=fun us M Q=>match us with
 | [x]=>match view M x with
  | .lst ws=>Q (.int ws.length) M
  | .tup ws=>Q (.int ws.length) M
  | .str z=>z.length<=sizeLine/\Q (.int z.length) M
  | _=>False
 | _=>False
theorem NW:vE K (fun xs H Q=>∃ x n,xs=[x]/\RK K x H n/\Q (.int n) H) rR:=fun xs us H M Q' rm rus h Q c=>by
 unfold rR at h
 split at h
 ·rename_i x
  obtain ⟨v,vs',rfl,a1,b⟩:=rus.inv_cons
  cases b.inv_nil
  split at h
  ·rename_i ws e
   obtain ⟨b,zvs,rfl,s2,r2⟩:=gE rm a1 e
   exact ⟨_,zvs.length,rfl,.inl ⟨zvs,s2,rfl⟩,c.here rm cK (by rw [<- r2.length];exact h)⟩
  ·rename_i ws e
   have e':=sL e
   subst e'
   obtain ⟨b,zvs,rfl,s2,r2⟩:=a1.tup
   exact ⟨_,zvs.length,rfl,.inr ⟨zvs,s2,rfl⟩,c.here rm cK (by rw [<- r2.length];exact h)⟩
  ·rename_i z e
   have e':=xP e
   subst e'
   cases a1.str
   exact ⟨_,z.length,rfl,⟨h.1,rfl⟩,c.here rm cK h.2⟩
  ·exact h.elim
 ·exact h.elim
noncomputable def oD (C:Int->Prop) (g:Int->U):List U->aG->UK->Prop:=fun us M Q=>match us with
 | [.int i]=>C i/\Q (g i) M
 | _=>False
noncomputable def yR (g:Int->Int->U):List U->aG->UK->Prop:=fun us M Q=>match us with
 | [.int i,.int j]=>Q (g i j) M
 | _=>False
theorem aK.one {H:Hp} {M:aG} {u:U} {vs:List V} (h:aK K H M [u] vs):∃ v,vs=[v]/\aP K H M u v:=by
 obtain ⟨v,vs',rfl,a1,b⟩:=h.inv_cons
 cases b.inv_nil
 exact ⟨v,rfl,a1⟩
theorem aK.two {H:Hp} {M:aG} {u w:U} {vs:List V} (h:aK K H M [u,w] vs):∃ v z,vs=[v,z]/\aP K H M u v/\aP K H M w z:=by
 obtain ⟨v,vs',rfl,a1,b⟩:=h.inv_cons
 obtain ⟨z,rfl,b1⟩:=b.one
 exact ⟨v,z,rfl,a1,b1⟩
theorem Hm:vE K (fun xs H Q=>∃ i,xs=[.int i]/\i.natAbs.log2 < 1920/\Q (.str (toString i)) H) (oD (fun i=>i.natAbs.log2 < 1920) fun i=>.str (toString i)):=fun xs us H M Q' rm rus h Q c=>by
 unfold oD at h
 split at h
 ·rename_i i
  obtain ⟨v,rfl,a⟩:=rus.one
  cases a.int
  exact ⟨i,rfl,h.1,c.here rm iF h.2⟩
 ·exact h.elim
noncomputable def y9 (o:Bool):List U->aG->UK->Prop:=fun us M Q=>match us with
 | [x]=>match view M x with
  | .lst ws=>mP o ws M Q
  | .tup ws=>mP o ws M Q
  | _=>False
 | _=>False
noncomputable def oJ:List U->aG->UK->Prop:=fun us M Q=>match us with
 | [x]=>match view M x with
  | .lst ws=>Q (.tup ws) M
  | .tup ws=>Q (.tup ws) M
  | _=>False
 | _=>False
theorem Ki:vE K (fun xs H Q=>∃ p ys,xs=[.ref p]/\((eH K H p ys/\∀ l,H l=none->Q (.ref l) (upd H l (.tup ys)))\/(eQ K H p ys/\Q (.ref p) H))) oJ:=fun xs us H M Q' rm rus h Q c=>by
 unfold oJ at h
 split at h
 ·rename_i x
  obtain ⟨v,rfl,a1⟩:=rus.one
  split at h
  ·rename_i ws e
   obtain ⟨b,zvs,rfl,s2,r2⟩:=gE rm a1 e
   exact ⟨b,zvs,rfl,.inl ⟨s2,fun l hl=>c.tup rm r2 hl h⟩⟩
  ·rename_i ws e
   have e':=sL e
   subst e'
   have a2:=a1
   obtain ⟨b,zvs,rfl,s2,r2⟩:=a1.tup
   exact ⟨b,zvs,rfl,.inr ⟨s2,c.here rm a2 h⟩⟩
  ·exact h.elim
 ·exact h.elim
noncomputable def xO (M:aG) (x:U):Option String:=match x with
 | .non=>some "NoneType"
 | .bl _=>some "bool"
 | .int _=>some "int"
 | .str _=>some "str"
 | .tup _=>some "tuple"
 | .lst _=>some "list"
 | .ref a=>match M a with
  | some (.lst _)=>some "list"
  | some (.dK _)=>some "dict"
  | some (.dT _)=>some "dict"
  | _=>none
 | .dic _ _ _=>some "dict"
 | .ty _=>none
noncomputable def wL:U->U->Option Bool
 | .non,.non=>some true
 | .non,.int _=>some false | .int _,.non=>some false | .non,.bl _=>some false | .bl _,.non=>some false | .non,.str _=>some false | .str _,.non=>some false
 | .int i,.int j=>some (decide (i=j))
 | .bl i,.bl j=>some (decide (i=j))
 | .str i,.str j=>some (decide (i=j))
 | .int _,.str _=>some false | .str _,.int _=>some false | .bl _,.str _=>some false | .str _,.bl _=>some false
 | _,_=>none
noncomputable def Cm:eD:=fun x y M Q=>match wL x y with
 | some b=>Q (.bl b) M
 | none=>False
noncomputable def Cg:eD:=fun x y M Q=>match wL x y with
 | some b=>Q (.bl (!b)) M
 | none=>False
theorem Fy {H:Hp} {M:aG} {x y:V} {u w:U} {b:Bool} (ru:aP K H M u x) (rw:aP K H M w y) (h:wL u w=some b):HA x y=true/\decide (x=y)=b:=by
 cases u <;> cases w <;> simp only [wL,Option.some.injEq,reduceCtorEq] at h <;> subst h <;>
  (first
   | (cases ru.non) | (cases ru.bl) | (cases ru.int) | (cases ru.str)) <;>
  (first
   | (cases rw.non) | (cases rw.bl) | (cases rw.int) | (cases rw.str)) <;> simp [HA]
noncomputable def fC:U->Bool
 | .non=>true
 | _=>false
noncomputable def uN:eD:=fun x y M Q=>match y with
 | .non=>Q (.bl (fC x)) M
 | _=>False
noncomputable def yN:eD:=fun x y M Q=>match y with
 | .non=>Q (.bl (!fC x)) M
 | _=>False
theorem Og {H:Hp} {M:aG} {x:V} {u:U} (ru:aP K H M u x):decide (x=.non)=fC u:=by
 cases u with
 | non=>cases ru.non;simp [fC]
 | bl b=>cases ru.bl;simp [fC]
 | int b=>cases ru.int;simp [fC]
 | str b=>cases ru.str;simp [fC]
 | ty b=>cases ru.ty;simp [fC]
 | ref b=>cases ru.ref;simp [fC]
 | tup b=>obtain ⟨a,vs,rfl,_⟩:=ru.tup;simp [fC]
 | lst b=>obtain ⟨a,vs,rfl,_⟩:=ru.lst;simp [fC]
 | dic ks tk us=>simp only [aP] at ru;obtain ⟨a,vs,rfl,_⟩:=ru;simp [fC]
theorem Oq:eJ K (fun x y H Q=>y=.non/\Q (.bl (decide (x=.non))) H) uN:=fun x y u w H M Q' rm ru rw h Q c=>by
 unfold uN at h
 split at h
 ·exact ⟨rw.non,c.here rm (by rw [Og ru];exact dF) h⟩
 ·exact h.elim
noncomputable def wF (neg:Bool):eD:=fun x y M Q=>match x,y with
 | .str i,.str j=>Q (.bl (if neg then !(!(Builtin.Str.occurrences j i 0 j.length 1).isEmpty) else !(Builtin.Str.occurrences j i 0 j.length 1).isEmpty)) M
 | _,_=>False
end
end U2
namespace U2
open PySem L2
noncomputable def eW {α:Type} (k:Nat) (ix:List Nat) (σ:List (Option α)):List (Option α):=List.replicate k none++ix.map fun i=>(σ[i]?).getD none
noncomputable def BX (k:Nat) (ix:List Nat) (wi:TI) (g:TG) (tc:TT) (te:TE):TE:=fun σ H Q=>wi σ H fun J H1=>∀ D,H1 D=none->∃ W:Nat->Nat->Hp->Prop,(∃ m,W 0 m (upd H1 D (.lst [])))/\∀ i m H,W i m H ->
 (J.stop i H/\Q (.ref D) H)\/(J.go i H/\∀ x H',J.yld i H x H'->g x (eW k ix σ) H' fun σ2 H2=>tc σ2 H2 fun ok H3 =>
  if ok=true then te σ2 H3 fun y H4=>∃ ys,H4 D=some (.lst ys)/\ys.length < sizeLine/\∃ m',m' < m/\W (i + 1) m' (upd H4 D (.lst (ys++[y]))) else ∃ m',m' < m/\W (i + 1) m' H3)
noncomputable def Qo (o:Bool) (Q:UK) (D:Addr) (ys:List U) (M:aG):Prop:=match o with
 | true=>Q (.ref D) M
 | false=>∃ M',Sub M' M/\M' D=none/\Q (.lst ys) M'
noncomputable def xW (o:Bool) (k:Nat) (ix:List Nat) (wi:UI) (g:UG) (tc:UT) (te:UE):UE:=fun τ M Q=>wi τ M fun S M1=>S.xs.length<=sizeLine/\∀ D,M1 D=none->∃ P:Nat->List U->aG->Prop,P 0 [] (mup M1 D (.lst [])) /\
 (∀ i ys M,P i ys M->S.ok M/\M D=some (.lst ys)/\ys.length<=i) /\
 (∀ i x ys M,S.xs[i]?=some x->P i ys M->g x (eW k ix τ) M fun τ2 M2=>tc τ2 M2 fun ok M3=>if ok=true then te τ2 M3 fun y M4=>M4 D=some (.lst ys)/\P (i + 1) (ys++[y]) (mup M4 D (.lst (ys++[y]))) else P (i + 1) ys M3) /\
 ∀ ys M,P S.xs.length ys M->Qo o Q D ys M
section
variable {K:PySem.W.Frag}
theorem KZ {H:Hp} {M:aG} {σ:St} {τ:SU} (k:Nat) (ix:List Nat) (r:dW K H M σ τ):dW K H M (eW k ix σ) (eW k ix τ):=by
 refine ⟨by simp [eW],fun i u e=>?_⟩
 unfold eW at e ⊢
 by_cases hi:i < k
 ·rw [List.getElem?_append_left (by simpa using hi),List.getElem?_replicate] at e
  split at e <;> cases e
 ·rw [List.getElem?_append_right (by simpa using Nat.le_of_not_lt hi),List.getElem?_map] at e ⊢
  simp only [List.length_replicate] at e ⊢
  cases q:ix[i - k]? with
  | none=>rw [q] at e;cases e
  | some j =>
   rw [q] at e
   simp only [Option.map_some,Option.some.injEq] at e ⊢
   cases z:τ[j]? with
   | none=>rw [z] at e;cases e
   | some w =>
    rw [z] at e
    simp only [Option.getD_some] at e
    subst e
    obtain ⟨v,h1,h2⟩:=r.2 j u z
    exact ⟨v,by rw [h1];rfl,h2⟩
theorem DO {o:Bool} {k:Nat} {ix:List Nat} {wi:TI} {wi':UI} {g:TG} {g':UG} {tc:TT} {tc':UT} {te:TE} {te':UE} (hi:vC K wi wi') (hg:wW K g g') (hc:kF K tc tc') (he:bS K te te') :
  bS K (BX k ix wi g tc te) (xW o k ix wi' g' tc' te'):=fun σ τ H M Q' rs rm h Q c=>by
 refine hi σ τ H M _ rs rm h _ fun J S M1 H1 s1 rm1 w h=>?_
 obtain ⟨hz,h⟩:=h
 intro D hD
 obtain ⟨P,p0,inv,turn,fin⟩:=h D (rm1.no hD)
 have sD:aZ H1 M1 (upd H1 D (.lst [])) (mup M1 D (.lst [])):=aZ.own rm1 hD
 have rmD:RelM K (upd H1 D (.lst [])) (mup M1 D (.lst [])):=rm1.put sD ⟨[],dY,.nil⟩
 refine ⟨fun i m H2=>∃ M2 ys,aZ H1 M1 H2 M2/\RelM K H2 M2/\P i ys M2/\i<=S.xs.length/\m=S.xs.length - i,⟨_,_,[],sD,rmD,p0,Nat.zero_le _,rfl⟩,?_⟩
 rintro i m H2 ⟨M2,ys,s2,rm2,p2,hle,rfl⟩
 obtain ⟨ok2,d2,l2⟩:=inv i ys M2 p2
 by_cases hlt:i < S.xs.length
 ·obtain ⟨go,yl⟩:=w.step H2 M2 s2 rm2 ok2 i S.xs[i] (by simp [hlt])
  refine .inr ⟨go,fun x H3 y=>?_⟩
  obtain ⟨s3,rm3,ru⟩:=yl x H3 y
  have rs3:dW K H3 M2 (eW k ix σ) (eW k ix τ):=KZ k ix (((rs.stp s1).stp s2).stp s3)
  refine hg _ x _ _ H3 M2 _ ru rs3 rm3 (turn i S.xs[i] ys M2 (by simp [hlt]) p2) _ fun σ4 τ4 H4 M4 s4 rm4 rs4 q4=>?_
  refine hc σ4 τ4 H4 M4 _ rs4 rm4 q4 _ fun b M5 H5 s5 rm5 q5=>?_
  have s25:aZ H1 M1 H5 M5:=((s2.trans s3).trans s4).trans s5
  cases b with
  | false =>
   exact ⟨S.xs.length - (i + 1),by omega,M5,ys,s25,rm5,q5,hlt,rfl⟩
  | true =>
   refine he σ4 τ4 H5 M5 _ (rs4.stp s5) rm5 q5 _ fun u v M6 H6 s6 rm6 ru6 q6=>?_
   obtain ⟨d6,p6⟩:=q6
   obtain ⟨vs,h6,r6⟩:=rm6 D _ d6
   have l6:vs.length < sizeLine:=by rw [<- r6.length];omega
   have s7:aZ H6 M6 (upd H6 D (.lst (vs++[v]))) (mup M6 D (.lst (ys++[u]))):=aZ.write d6
   exact ⟨vs,h6,l6,S.xs.length - (i + 1),by omega,_,ys++[u],(s25.trans s6).trans s7,rm6.put s7 ⟨_,dY,(r6.append (.cons ru6 .nil)).stp s7⟩,p6,hlt,rfl⟩
 ·have e:i=S.xs.length:=by omega
  subst e
  refine .inl ⟨w.stop H2 M2 s2 rm2 ok2,?_⟩
  have q:=fin ys M2 p2
  cases o with
  | true=>exact c _ _ M2 H2 (s1.trans s2) rm2 sU q
  | false =>
   obtain ⟨M',sb,n,q⟩:=q
   obtain ⟨vs,h6,r6⟩:=rm2 D _ d2
   have s':aZ H2 M2 H2 M':=sb.less
   exact c _ _ M' H2 ((s1.trans s2).trans s') (rm2.sub sb) (xR n h6 (r6.stp s')) q
end
theorem Ji {o:Bool} {k:Nat} {ix:List Nat} {wi:UI} {g:UG} {tc:UT} {te:UE} {τ:SU} {M1:aG} {Q:UK} {S:Src} (f:U->Option U) (hz:S.xs.length<=sizeLine) (hs:S.ok M1)
  (h:∀ x∈S.xs,∀ M,Sub M1 M->∀ R:Option U->aG->Prop,R (f x) M->g x (eW k ix τ) M fun τ2 M2=>tc τ2 M2 fun ok M3=>if ok=true then te τ2 M3 fun y M4=>R (some y) M4 else R none M3)
  (q:mP o (S.xs.filterMap f) M1 Q):S.xs.length<=sizeLine/\∀ D,M1 D=none->∃ P:Nat->List U->aG->Prop,P 0 [] (mup M1 D (.lst [])) /\
 (∀ i ys M,P i ys M->S.ok M/\M D=some (.lst ys)/\ys.length<=i) /\
 (∀ i x ys M,S.xs[i]?=some x->P i ys M->g x (eW k ix τ) M fun τ2 M2=>tc τ2 M2 fun ok M3=>if ok=true then te τ2 M3 fun y M4=>M4 D=some (.lst ys)/\P (i + 1) (ys++[y]) (mup M4 D (.lst (ys++[y]))) else P (i + 1) ys M3) /\
 ∀ ys M,P S.xs.length ys M->Qo o Q D ys M:=by
 refine ⟨hz,fun D hD=>⟨fun i ys M=>ys=(S.xs.take i).filterMap f/\M=mup M1 D (.lst ys)/\i<=S.xs.length,⟨by simp,rfl,Nat.zero_le _⟩,?_,?_,?_⟩⟩
 ·rintro i ys M ⟨rfl,rfl,hi⟩
  refine ⟨fun a e=>?_,bC,?_⟩
  ·have:=hs a e
   rw [bH (fun z=>by subst z;rw [hD] at this;cases this)]
   exact this
  ·refine Nat.le_trans (List.length_filterMap_le _ _) ?_
   rw [List.length_take];omega
 ·rintro i x ys M e ⟨rfl,rfl,hi⟩
  have hlt:i < S.xs.length:=(List.getElem?_eq_some_iff.mp e).1
  have hx:x∈S.xs:=List.mem_of_getElem? e
  have tk:(S.xs.take (i + 1)).filterMap f=(S.xs.take i).filterMap f++(f x).toList:=by
   rw [List.take_add_one,e,List.filterMap_append]
   cases q:f x <;> simp [q]
  refine h x hx (mup M1 D (.lst ((S.xs.take i).filterMap f))) ((Sub.refl M1).mup hD) (fun r M4=>match r with
   | some y=>M4 D=some (.lst ((S.xs.take i).filterMap f))/\((S.xs.take i).filterMap f++[y]=(S.xs.take (i + 1)).filterMap f/\mup M4 D (.lst ((S.xs.take i).filterMap f++[y]))=mup M1 D (.lst ((S.xs.take i).filterMap f++[y]))/\i + 1<=S.xs.length)
   | none=>(S.xs.take i).filterMap f=(S.xs.take (i + 1)).filterMap f/\M4=mup M1 D (.lst ((S.xs.take i).filterMap f))/\i + 1<=S.xs.length) ?_
  rw [tk]
  cases f x with
  | none=>exact ⟨by simp,rfl,hlt⟩
  | some y=>exact ⟨bC,rfl,iO,hlt⟩
 ·rintro ys M ⟨rfl,rfl,hi⟩
  rw [List.take_length]
  cases o with
  | true=>exact q D hD
  | false=>exact ⟨M1,(Sub.refl M1).mup hD,hD,q⟩
end U2
namespace U2
open PySem PySem.Spec PyProof.Rows L2
theorem C2 {P:Program} {w:World} {K:PySem.W.Frag} {tg:Expr} {ty:String} (z:Str) (t:Tok) (it:Addr)
  (W:∀ A':Around,A'.handled=none->Walks P w A' it [it] [it] z.cps.size (SignAt z) (fun i h=>h.IsStrIter it ty z t i))
  (hty:["enumerate","zip","dict_itemiterator","dict_reverseitemiterator","odict_iterator","itertools.zip_longest","itertools.pairwise"].contains ty=false)
  (self:∀ (A:Around) (i:Nat) (s:Shared) (Q:Value->Shared->Prop) (E:Value->Shared->Prop),s.heap.IsStrIter it ty z t i->Q (.ref it) s->wpAny (model P w) A (pyIter (.ref it)) Q E s) :
  Turn P w K tg (Pz z) [it] it (fun i h=>h.IsStrIter it ty z t i) where
 mem:=by simp
 obj:=fun i h st b hb=>by
  have e:b=it:=by simpa using hb
  subst e
  obtain ⟨o,e,c,d⟩:=st
  exact ⟨o,e,fun v z=>by rw [d] at z;cases z⟩
 keep:=fun i h h' st k=>let ⟨o,ho,r⟩:=st;⟨o,k it (by simp) o ho,r⟩
 item:=by
  intro X hP hw hK hc i pins s σ H E I hf st hg
  subst hP hw hK
  obtain ⟨f0,f1,f2,f3,f4,f5⟩:=hf it (by simp)
  refine (W X.A (I.ok.hd hc)).item i s _ E hg st fun v h' tk hv st' k=>?_
  obtain ⟨c,u,hc',rfl⟩:=hv
  have I1:Inv X pins σ H { s with heap:=h',toks:=tk }:=I.turned (t':=tk) (fun b o hb e=>k b o (by simpa using hb) e) f0 f1 f3 f4 f5
  obtain ⟨o,e,cl,d⟩:=id st'
  exact ⟨_,rfl,BU (s:={ s with heap:=h',toks:=tk }) e cl d hty ⟨.str ⟨#[c]⟩,H,I1,⟨_,rfl⟩,⟨rfl,c,hc',rfl⟩,st',fun b hb=>(hf b hb).1⟩⟩
 done:=by
  intro X hP hw hK hc i pins s σ H E I hf st hg
  subst hP hw hK
  have hg':i=z.cps.size:=hg
  subst hg'
  obtain ⟨f0,f1,f2,f3,f4,f5⟩:=hf it (by simp)
  exact (W X.A (I.ok.hd hc)).done s _ E st fun h' tk k=>⟨rfl,I.turned (t':=tk) (fun b o hb e=>k b o (by simpa using hb) e) f0 f1 f3 f4 f5⟩
 self:=self
section
variable {X:Cx} {tg:Expr}
theorem PV {l:Expr} {tl:TE} (hl:PE X l tl):PI X tg l (Q9 X.K tl):=by
 intro pins s σ H R I h
 refine bJ (hl pins s σ H _ I h) fun v s1 ⟨x,H1,I1,r1,q1⟩=>?_
 have fp:∀ b∈[s1.heap.objs.size],tD X pins H1 b:=fun b hb=>by
  have e:b=s1.heap.objs.size:=by simpa using hb
  subst e
  exact I1.fpOk (Nat.le_refl _) (I1.hok.fresh (Nat.le_refl _))
 rcases q1 with ⟨a,rfl,⟨xs,hq⟩,q⟩ | ⟨a,rfl,⟨xs,hq⟩,q⟩ | ⟨z,rfl,q⟩
 ·cases r1
  obtain ⟨its,rv,p,hz⟩:=I1.list hq
  refine wpAny_pyIter_list p.isList ?_
  exact ⟨s1.heap.objs.size,[s1.heap.objs.size],_,_,H1,rfl,I1.kept (t':=s1.toks) fun b o e=>Heap.get?_push_of_some _ e,ID a _,⟨_,Heap.get?_push_size _ rfl,rfl,rfl⟩,fp,q⟩
 ·cases r1
  obtain ⟨its,rv,p,hz⟩:=I1.tuple hq
  refine wpAny_pyIter_tuple (show s1.heap.IsTuple a its.toArray from p) ?_
  exact ⟨s1.heap.objs.size,[s1.heap.objs.size],_,_,H1,rfl,I1.kept (t':=s1.toks) fun b o e=>Heap.get?_push_of_some _ e,Ho a _,⟨_,Heap.get?_push_size _ rfl,rfl,rfl⟩,fp,q⟩
 ·obtain ⟨t,rfl⟩:=r1
  cases ha:z.cps.all (· < 128)
  ·refine wpAny_pyIter_wide ha ?_
   exact ⟨s1.heap.objs.size,[s1.heap.objs.size],_,_,H1,rfl,I1.kept (t':=s1.toks) fun b o e=>Heap.get?_push_of_some _ e,
    C2 z t _ (fun A' hA=>Walks.strWide hA _ z t) (by decide) (fun A i s Q E st h=>wpAny_pyIter_striter_wide st h),⟨_,Heap.get?_push_size _ rfl,rfl,rfl⟩,fp,q⟩
  ·refine wpAny_pyIter_ascii ha ?_
   exact ⟨s1.heap.objs.size,[s1.heap.objs.size],_,_,H1,rfl,I1.kept (t':=s1.toks) fun b o e=>Heap.get?_push_of_some _ e,
    C2 z t _ (fun A' hA=>Walks.strAscii hA _ z t) (by decide) (fun A i s Q E st h=>wpAny_pyIter_striter_ascii st h),⟨_,Heap.get?_push_size _ rfl,rfl,rfl⟩,fp,q⟩
end
section
variable {prog:Program} {w:World} {A:Around} {R:Result->Shared->Prop} {s:Shared}
theorem Ey {elt target iter:Expr} {ifs:List Expr} {scope:Scope} {pos:Pos} {it acc:Value} {env:Env} (I:Nat->Shared->Prop)
  (turn:∀ n s,I n s->wpAny (model prog w) A (pyNext it) (fun r s₁=>match r with
   | none=>R (.ok .next) s₁
   | some v=>wpAny (model prog w) A (letOwnedTupleGo target it v) (fun _ s₀=>wpAny (model prog w) A (assign target env v) (fun _ s₂ =>
     wpAny (model prog w) A (forIn ifs true fun c r=>if r=true then do let ok <- isTrue c env (eval c env);pure (ForInStep.yield ok) else pure (ForInStep.yield r)) (fun ok s₃ =>
      if ok=true then wpAny (model prog w) A (eval elt env) (fun x s₄ =>
       wpAny (model prog w) A (call (.builtin "list.append") [acc,x]) (fun _ s₅=>∃ m,m < n/\I m s₅) (fun _ _=>False) s₄) (fun _ _=>False) s₃
      else ∃ m,m < n/\I m s₃) (fun _ _=>False) s₂) (fun _ _=>False) s₀) (fun _ _=>False) s₁) (fun _ _=>False) s)
  (n:Nat) (h:I n s) :
  codeAny (model prog w) A (.compLoop (.ListComp elt [⟨target,iter,ifs,0⟩] scope pos) 0 it acc env) R s:=by
 refine codeAny_loop rfl I (fun n s hI=>?_) n h
 show wpAny _ A ((compTurn (.ListComp elt [⟨target,iter,ifs,0⟩] scope pos) 0 it acc env).onRaise (fun x=>do noteFrame x env;theTreesLotGoes x)) _ _ s
 refine wpAny_noted ?_
 rw [compTurn_list]
 refine wpAny_bind (wpAny_standAt (wpAny_bind (wpAny_mono (turn n s hI) (fun r s₁ h₁=>?_) fun _ _ h'=>h'.elim)))
 cases r with
 | none=>exact wpAny_pure h₁
 | some v =>
  refine wpAny_bind (wpAny_mono h₁ (fun _ s₀ h₀=>?_) fun _ _ h'=>h'.elim)
  refine wpAny_bind (wpAny_mono h₀ (fun _ s₂ h₂=>wpAny_bind (wpAny_mono h₂ (fun ok s₃ h₃=>?_) fun _ _ h'=>h'.elim)) fun _ _ h'=>h'.elim)
  cases ok with
  | false=>exact wpAny_pure ⟨rfl,h₃⟩
  | true =>
   exact wpAny_bind (wpAny_bind (wpAny_mono h₃ (fun x s₄ h₄=>wpAny_bind (wpAny_mono h₄ (fun _ s₅ h₅=>wpAny_pure (wpAny_pure ⟨rfl,h₅⟩)) fun _ _ h'=>h'.elim)) fun _ _ h'=>h'.elim))
theorem tK {env:Env}:∀ (names:List (Str × NameKind)) (cs:List (Str × Addr)),(∀ x∈names,x.2=.free->∃ c,env.cells.lookup x.1=some c) ->
  (∀ x c,cs.lookup x=some c->env.cells.lookup x=some c) ->
  ∃ cl,(forIn names cs fun (x:Str × NameKind) (cs:List (Str × Addr))=>(if (x.2 == NameKind.free)=true then do let c <- cellOf env x.1;pure (ForInStep.yield ((x.1,c) :: cs)) else pure (ForInStep.yield cs):Sem (ForInStep (List (Str × Addr)))))=pure cl /\
   (∀ x c,cl.lookup x=some c->env.cells.lookup x=some c)/\(∀ x,(∃ c,cs.lookup x=some c)\/(x,NameKind.free)∈names->∃ c,cl.lookup x=some c)
 | [],cs,_,h=>⟨cs,rfl,h,fun x hx=>by rcases hx with hx | hx;exact hx;cases hx⟩
 | (n,k) :: r,cs,hf,h=>by
  rw [List.forIn_cons]
  by_cases hk:k=.free
  ·subst hk
   obtain ⟨c,hc⟩:=hf (n,.free) List.mem_cons_self rfl
   have e:cellOf env n=pure c:=by unfold cellOf;rw [hc]
   simp only [beq_self_eq_true,if_true,e,pure_bind]
   obtain ⟨cl,h1,h2,h3⟩:=tK r ((n,c) :: cs) (fun x hx=>hf x (List.mem_cons_of_mem _ hx)) (fun x d q=>by
    rw [List.lookup_cons] at q
    split at q
    ·rename_i e;cases q;rw [beq_iff_eq.mp e];exact hc
    ·exact h x d q)
   refine ⟨cl,h1,h2,fun x hx=>h3 x ?_⟩
   rcases hx with ⟨d,hd⟩ | hx
   ·left
    rw [List.lookup_cons]
    split
    ·exact ⟨_,rfl⟩
    ·exact ⟨d,hd⟩
   ·rcases List.mem_cons.mp hx with e | hx
    ·left;cases e;exact ⟨c,by simp [List.lookup_cons]⟩
    ·exact .inr hx
  ·have hb:(k == NameKind.free)=false:=by simpa using hk
   simp only [hb,Bool.false_eq_true,if_false,pure_bind]
   obtain ⟨cl,h1,h2,h3⟩:=tK r cs (fun x hx=>hf x (List.mem_cons_of_mem _ hx)) h
   refine ⟨cl,h1,h2,fun x hx=>h3 x ?_⟩
   rcases hx with hx | hx
   ·exact .inl hx
   ·rcases List.mem_cons.mp hx with e | hx
    ·cases e;exact absurd rfl hk
    ·exact .inr hx
theorem tF {env:Env} {scope:Scope} (hf:∀ x∈scope.names,x.2=.free->∃ c,env.cells.lookup x.1=some c) :
  ∃ cl,closureFor scope env=pure cl/\(∀ x c,cl.lookup x=some c->env.cells.lookup x=some c)/\(∀ x,(x,NameKind.free)∈scope.names->∃ c,cl.lookup x=some c):=by
 obtain ⟨cl,h1,h2,h3⟩:=tK (env:=env) scope.names [] hf (fun x c h=>by cases h)
 refine ⟨cl,?_,h2,fun x hx=>h3 x (.inr hx)⟩
 unfold closureFor
 first
  | exact h1
  | (have:_:=h1;simpa using this)
end
noncomputable def dZ (X:Cx) (N:List Str) (scope:Scope) (cl:List (Str × Addr)) (C:Addr) (s:Shared) (H:Hp) (fp:List Addr):Cx where
 prog:=X.prog
 w:=X.w
 K:=X.K
 mg:=X.mg
 base:=X.base
 A:=X.A
 N:=N
 s₀:=s
 H₀:=H
 env:=compEnvC scope cl C X.env
 outer:=X.stack
 stack:=X.stack
 ex:=fp
 fn:=fun _=>false
 calm:=X.calm
 pn:=[]
 xe:=fun _ _=>False
noncomputable def FD (X:Cx) (ifs:List Expr) (t:TT):Prop :=
 ∀ (pins:List (Addr × Obj)) (s:Shared) (σ:L2.St) (H:Hp) (Q:Bool->Hp->Prop),Inv X pins σ H s->t σ H Q ->
  wpAny (model X.prog X.w) X.A (forIn ifs true fun c r=>if r=true then do let ok <- isTrue c X.env (eval c X.env);pure (ForInStep.yield ok) else pure (ForInStep.yield r)) (TP X pins σ Q) X.xe s
noncomputable def Qz:TT:=fun _ H Q=>Q true H
theorem N8 {X:Cx}:FD X [] Qz:=fun pins s σ H Q I h=>wpAny_tests_nil ⟨H,I,h⟩
theorem Nx {X:Cx} {c:Expr} {t:TT} (h:PT X c t):FD X [c] t:=fun pins s σ H Q I q=>wpAny_tests_one (h pins s σ H Q I q)
noncomputable def GK (k:Nat) (g:TG):Prop:=∀ x σ H Q,g x σ H Q->g x σ H (fun σ2 H2=>(∀ j,k<=j->σ2[j]?=σ[j]?)/\Q σ2 H2)
noncomputable def Iz (k:Nat) (g:qL):Prop:=∀ xs σ H Q,g xs σ H Q->g xs σ H (fun σ2 H2=>(∀ j,k<=j->σ2[j]?=σ[j]?)/\Q σ2 H2)
theorem NT {k i:Nat} (h:i < k):GK k (tR i):=fun x σ H Q q=>⟨fun j hj=>by rw [List.getElem?_set,if_neg (by omega)],q⟩
theorem Py {k:Nat}:Iz k Dq:=fun xs σ H Q q=>⟨q.1,fun j _=>rfl,q.2⟩
theorem OZ {k:Nat} {g:TG} {r:qL} (h1:GK k g) (h2:Iz k r) (m2:∀ xs σ H Q Q',(∀ σ2 H2,Q σ2 H2->Q' σ2 H2)->r xs σ H Q->r xs σ H Q') (m1:∀ x σ H Q Q',(∀ σ2 H2,Q σ2 H2->Q' σ2 H2)->g x σ H Q->g x σ H Q'):Iz k (yW g r):=fun xs σ H Q q=>by
 obtain ⟨v,r',rfl,q⟩:=q
 refine ⟨v,r',rfl,m1 _ _ _ _ _ (fun σ2 H2 z=>?_) (h1 _ _ _ _ q)⟩
 exact m2 _ _ _ _ _ (fun σ3 H3 y=>⟨fun j hj=>(y.1 j hj).trans (z.1 j hj),y.2⟩) (h2 _ _ _ _ z.2)
theorem Qq {i:Nat}:∀ x σ H (Q Q':L2.St->Hp->Prop),(∀ σ2 H2,Q σ2 H2->Q' σ2 H2)->tR i x σ H Q->tR i x σ H Q':=fun x σ H Q Q' h q=>h _ _ q
theorem Sz:∀ xs σ H (Q Q':L2.St->Hp->Prop),(∀ σ2 H2,Q σ2 H2->Q' σ2 H2)->Dq xs σ H Q->Dq xs σ H Q':=fun x σ H Q Q' h q=>⟨q.1,h _ _ q.2⟩
theorem Ql {g:TG} {r:qL} (m1:∀ x σ H Q Q',(∀ σ2 H2,Q σ2 H2->Q' σ2 H2)->g x σ H Q->g x σ H Q') (m2:∀ xs σ H Q Q',(∀ σ2 H2,Q σ2 H2->Q' σ2 H2)->r xs σ H Q->r xs σ H Q') :
  ∀ xs σ H (Q Q':L2.St->Hp->Prop),(∀ σ2 H2,Q σ2 H2->Q' σ2 H2)->yW g r xs σ H Q->yW g r xs σ H Q':=fun xs σ H Q Q' h q=>by
 obtain ⟨v,r',rfl,q⟩:=q
 exact ⟨v,r',rfl,m1 _ _ _ _ _ (fun σ2 H2 z=>m2 _ _ _ _ _ h z) q⟩
theorem RJ {K:PySem.W.Frag} {k n:Nat} {r:qL} (h:Iz k r):GK k (Dy K n r):=fun x σ H Q q=>by
 obtain ⟨a,xs,rfl,h1,h2,q⟩:=q
 exact ⟨a,xs,rfl,h1,h2,h _ _ _ _ q⟩
theorem Sk {K:PySem.W.Frag} {n:Nat} {r:qL} (m2:∀ xs σ H Q Q',(∀ σ2 H2,Q σ2 H2->Q' σ2 H2)->r xs σ H Q->r xs σ H Q') :
  ∀ x σ H (Q Q':L2.St->Hp->Prop),(∀ σ2 H2,Q σ2 H2->Q' σ2 H2)->Dy K n r x σ H Q->Dy K n r x σ H Q':=fun x σ H Q Q' h q=>by
 obtain ⟨a,xs,rfl,h1,h2,q⟩:=q
 exact ⟨a,xs,rfl,h1,h2,m2 _ _ _ _ _ h q⟩
theorem AS {X:Cx} {tg elt iter:Expr} {ifs:List Expr} {scope:Scope} {pos:Pos} {N:List Str} {k:Nat} {ix:List Nat} {wi:TI} {g:TG} {tc:TT} {te:TE}
  (hc:X.calm=true) (hi:PI X tg iter wi) (gk:GK k g)
  (hk:scope.kind=.function) (hcell:∀ y∈scope.names,y.2≠.cell) (hnames:∀ y∈scope.names,y.2=.local->scope.names.lookup y.1=some .local)
  (hfree:∀ y∈scope.names,y.2=.free->X.env.kindOf y.1=some .cell\/X.env.kindOf y.1=some .free)
  (hone:∀ y∈scope.names,y.2=.free->scope.names.lookup y.1=some .free)
  (hN:∀ (j:Nat) x,N[k + j]?=some x->∃ i,ix[j]?=some i/\X.N[i]?=some x)
  (hcap:∀ (j:Nat) x,N[k + j]?=some x->scope.names.lookup x=some .free)
  (hlen:N.length=k + ix.length)
  (hg:∀ cl C s H fp,PG (dZ X N scope cl C s H fp) tg g)
  (hif:∀ cl C s H fp,FD (dZ X N scope cl C s H fp) ifs tc)
  (he:∀ cl C s H fp,PE (dZ X N scope cl C s H fp) elt te)
  (hs:∀ x,foldedSetIterable iter X.env x=pure x) {pins:List (Addr × Obj)} {s:Shared} {σ:L2.St} {H:Hp} {Q:VK} (I:L2.Inv X pins σ H s) (h:BX k ix wi g tc te σ H Q) {pos':Pos} {use:Option (Value->Sem Unit)} {QQ:Value->Shared->Prop}
  (end_:∀ (D C:Addr) (H3:Hp) (s4:Shared),L2.Inv X pins σ H3 s4->(∃ m,s4.heap.Ns C m)->H3 C=none->C≠X.env.locals->X.s₀.heap.objs.size<=C->(∀ x c,X.env.cells.lookup x=some c->c≠C)->(∀ p∈X.pn++pins,p.1≠C) ->
   (∀ h':Heap,Heap.SameBut C s4.heap h'->L2.Inv X pins σ H3 { s4 with heap:=h' })->Q (.ref D) H3->compPost (model X.prog X.w) X.A X.xe use QQ (.ref D) C (.ok .next) s4) :
  wpAny (model X.prog X.w) X.A (comprehension (.ListComp elt [⟨tg,iter,ifs,0⟩] scope pos) scope X.env pos' (newList []) false (eval iter X.env) use) QQ X.xe s:=by
 obtain ⟨cl,hclos,hcl,hcl2⟩:=tF (env:=X.env) (scope:=scope) (fun x hx e=>I.ok.has x.1 (hfree x hx e))
 refine wpAny_comprehension_free (use:=use) rfl hs hclos hk hnames (bJ (hi pins s σ H _ I h) fun v s1 h1=>bJ h1 fun itv s2 h2=>?_)
 obtain ⟨it,fp,tn,J,H2,rfl,I2,T,st2,f2,h2⟩:=h2
 refine wpAny_newObj_type (wpAny_newFunctionEnv hcell (by intro y hy;simp at hy) (fun h₁ hns₁ hsb₁=>?_) hk)
 dsimp only at hns₁ hsb₁ ⊢
 generalize hP:s2.heap.push { cls:=.type "list",dict:=none,data:=.seq ([]:List Value).toArray }=P2 at hns₁ hsb₁ ⊢
 have hCs:P2.objs.size=s2.heap.objs.size + 1:=by rw [<- hP,Heap.size_push]
 have below:∀ b,b < s2.heap.objs.size->b≠P2.objs.size:=fun b hb=>by rw [hCs];omega
 have old:∀ b o,s2.heap.get? b=some o->h₁.get? b=some o:=fun b o e=>hsb₁.extBut b o (below b (Heap.lt_size e)) (Heap.get?_push_of_some _ (hP ▸ Heap.get?_push_of_some _ e))
 have hacc:h₁.get? s2.heap.objs.size=some { cls:=.type "list",dict:=none,data:=.seq ([]:List Value).toArray }:=hsb₁.extBut _ _ (show s2.heap.objs.size≠P2.objs.size by rw [hCs];exact Nat.ne_of_lt (Nat.lt_succ_self _)) (Heap.get?_push_of_some _ (hP ▸ Heap.get?_push_size _ rfl))
 obtain ⟨W,⟨m0,w0⟩,turn⟩:=h2 s2.heap.objs.size (I2.hok.fresh (Nat.le_refl _))
 have fpl:∀ b∈fp,b < s2.heap.objs.size:=fun b hb=>let ⟨o,e,_⟩:=T.obj _ _ st2 b hb;Heap.lt_size e
 have σl:(eW k ix σ).length=N.length:=by rw [hlen];simp [eW]
 have i2:=I2.ok
 have ok':(dZ X N scope cl P2.objs.size s2 H2 fp).Ok:=by
  refine ⟨i2.mod,hk,i2.glob,i2.blt,(by show s2.heap.objs.size<=P2.objs.size;rw [hCs];exact Nat.le_succ _),fun x y c e1 e2=>i2.inj x y c (hcl x c e1) (hcl y c e2),fun x hx=>?_,(fun x c e=>by cases e),i2.hd,i2.frames,.inl rfl,fun b hb=>?_,fun b o e=>I2.bs b o e,Nat.le_trans i2.bsz I2.sz,fun b o e hb=>?_,fun b hb hb2=>?_,I2.stack,I2.stkFree⟩
  ·
   have hx':(relabel scope X.env).names.lookup x=some .cell\/(relabel scope X.env).names.lookup x=some .free:=hx
   have key:∀ (names:List (Str × NameKind)),(∀ y∈names,y.2≠.cell)->((names.map fun (n,k)=>if (k == NameKind.free && X.env.scope.kind == .function && X.env.kindOf n == some .cell) then (n,NameKind.cell) else (n,k)).lookup x=some .cell \/
     (names.map fun (n,k)=>if (k == NameKind.free && X.env.scope.kind == .function && X.env.kindOf n == some .cell) then (n,NameKind.cell) else (n,k)).lookup x=some .free)->(x,NameKind.free)∈names:=by
    intro names
    induction names with
    | nil=>intro _ h;rcases h with h | h <;> cases h
    | cons y r ih =>
     obtain ⟨n,kd⟩:=y
     intro hnc h
     by_cases hxn:x=n
     ·subst hxn
      have hkc:kd≠.cell:=hnc (x,kd) List.mem_cons_self
      by_cases hkf:kd=.free
      ·subst hkf;exact List.mem_cons_self
      ·exfalso
       have hb:(kd == NameKind.free)=false:=by simpa using hkf
       simp only [List.map_cons,hb,Bool.false_and,Bool.false_eq_true,if_false,List.lookup_cons,beq_self_eq_true] at h
       rcases h with h | h
       ·exact hkc (Option.some.inj h)
       ·exact hkf (Option.some.inj h)
     ·have hb:(x == n)=false:=by simpa using hxn
      refine List.mem_cons_of_mem _ (ih (fun y hy=>hnc y (List.mem_cons_of_mem _ hy)) ?_)
      have e1:∀ z:NameKind,List.lookup x (((n,z)) :: (r.map fun (n,k)=>if (k == NameKind.free && X.env.scope.kind == .function && X.env.kindOf n == some .cell) then (n,NameKind.cell) else (n,k)))=List.lookup x (r.map fun (n,k)=>if (k == NameKind.free && X.env.scope.kind == .function && X.env.kindOf n == some .cell) then (n,NameKind.cell) else (n,k)):=fun z=>by rw [List.lookup_cons,hb]
      rw [List.map_cons] at h
      dsimp only at h
      split at h
      ·rw [e1] at h;exact h
      ·rw [e1] at h;exact h
   exact hcl2 x (key scope.names hcell hx')
  ·exact ⟨below b (fpl b hb),fun x c e=>(f2 b hb).2.2.2.2.1 x c (hcl x c e)⟩
  ·rcases (f2 b hb).2.2.2.1 with z | z
   ·exact i2.noex b o e z
   ·exact absurd (Nat.lt_of_lt_of_le (Heap.lt_size e) (Nat.le_trans i2.bsz z)) (Nat.lt_irrefl _)
  ·rcases List.mem_cons.mp (I2.stkSub b hb2) with z | z
   ·exact (f2 b hb).2.1 z
   ·exact (f2 b hb).2.2.1 z
 have stat:∀ {H':Hp},(∀ b∈fp,H' b=none)->∀ b∈fp,tD (dZ X N scope cl P2.objs.size s2 H2 fp) [] H' b:=fun hn b hb =>
  ⟨hn b hb,below b (fpl b hb),fun z=>ok'.exfs b hb z,.inl hb,fun x c e=>(f2 b hb).2.2.2.2.1 x c (hcl x c e),(fun p hp=>by cases hp)⟩
 have hD:H2 s2.heap.objs.size=none:=I2.hok.fresh (Nat.le_refl _)
 have relf:∀ x,scope.names.lookup x=some .free->(X.env.kindOf x=some .cell\/X.env.kindOf x=some .free)->((relabel scope X.env).names.lookup x=some .cell\/(relabel scope X.env).names.lookup x=some .free):=by
  intro x hx hkx
  have key:∀ (names:List (Str × NameKind)),names.lookup x=some .free->((names.map fun (n,k)=>if (k == NameKind.free && X.env.scope.kind == .function && X.env.kindOf n == some .cell) then (n,NameKind.cell) else (n,k)).lookup x=some .cell \/
    (names.map fun (n,k)=>if (k == NameKind.free && X.env.scope.kind == .function && X.env.kindOf n == some .cell) then (n,NameKind.cell) else (n,k)).lookup x=some .free):=by
   intro names
   induction names with
   | nil=>intro h;cases h
   | cons y r ih =>
    obtain ⟨n,kd⟩:=y
    intro h
    rw [List.lookup_cons] at h
    by_cases hxn:x=n
    ·subst hxn
     simp only [beq_self_eq_true] at h
     cases h
     rw [List.map_cons]
     dsimp only
     split
     ·left;simp [List.lookup_cons]
     ·right;simp [List.lookup_cons]
    ·have hb:(x == n)=false:=by simpa using hxn
     rw [hb] at h
     have:=ih h
     rw [List.map_cons]
     dsimp only
     split
     ·rw [List.lookup_cons,hb];exact this
     ·rw [List.lookup_cons,hb];exact this
  exact key scope.names hx
 have Istart:∀ tk,Inv (dZ X N scope cl P2.objs.size s2 H2 fp) [] (eW k ix σ) (upd H2 s2.heap.objs.size (.lst [])) { s2 with heap:=h₁,toks:=tk }:=fun tk=>by
  refine ⟨ok',rfl,I2.bare,Un.laid old (Nat.le_refl _) hD,⟨_,hns₁,fun i x v e1 e2 e3=>?_⟩,fun x c e=>?_,?_,fun x c e=>?_,(fun p hp=>by cases hp),I2.hok.laid old (Nat.le_refl _) ⟨Nat.zero_le _,[],_,.nil,hacc⟩,σl⟩
  ·by_cases hik:i < k
   ·exfalso
    unfold eW at e2
    rw [List.getElem?_append_left (by simpa using hik),List.getElem?_replicate] at e2
    split at e2 <;> cases e2
   ·have ej:i=k + (i - k):=by omega
    have e1':N[k + (i - k)]?=some x:=by rw [<- ej];exact e1
    obtain ⟨i0,hi0,hXN⟩:=hN (i - k) x e1'
    have hfx:=hcap (i - k) x e1'
    have hmem:(x,NameKind.free)∈scope.names:=PySem.mem_of_lookup hfx
    have hkx:=hfree _ hmem rfl
    have e4:σ[i0]?=some (some v):=by
     unfold eW at e2
     rw [List.getElem?_append_right (by simpa using Nat.le_of_not_lt hik),List.getElem?_map] at e2
     simp only [List.length_replicate,hi0,Option.map_some,Option.some.injEq] at e2
     cases z:σ[i0]? with
     | none=>rw [z] at e2;cases e2
     | some y=>rw [z] at e2;simp only [Option.getD_some] at e2;rw [e2]
    obtain ⟨m2,hn2,hl2⟩:=I2.loc
    obtain ⟨u,ru,lk⟩:=hl2 i0 x v hXN e4 (by rcases hkx with z | z;exact .inr (.inl z);exact .inr (.inr z))
    rcases lk with ⟨z,_⟩ | ⟨_,c,hc1,hc2⟩
    ·exfalso
     have z':X.env.kindOf x=some .local:=z
     rcases hkx with y | y <;> (rw [z'] at y;cases y)
    ·obtain ⟨c',hc'⟩:=hcl2 x hmem
     have e5:=hcl x c' hc'
     rw [hc1] at e5;cases e5
     obtain ⟨o,ho,hd⟩:=hc2
     exact ⟨u,ru,.inr ⟨relf x hfx hkx,c,hc',o,old _ _ ho,hd⟩⟩
  ·obtain ⟨v,o,ho,hd⟩:=I2.cell x c (hcl x c e)
   exact ⟨v,o,old _ _ ho,hd⟩
  ·show upd H2 s2.heap.objs.size (.lst []) P2.objs.size=none
   rw [bY (show P2.objs.size≠s2.heap.objs.size by rw [hCs];exact Nat.succ_ne_self _)]
   exact I2.hok.fresh (show s2.heap.objs.size<=P2.objs.size by rw [hCs];exact Nat.le_succ _)
  ·have e':=hcl x c e
   obtain ⟨v,o,ho,hd⟩:=I2.cell x c e'
   rw [bY (Nat.ne_of_lt (Heap.lt_size ho))]
   exact I2.freeC x c e'
 have st1:tn 0 h₁:=T.keep 0 _ _ st2 fun b hb o e=>old b o e
 have fr1:∀ b∈fp,upd H2 s2.heap.objs.size (.lst []) b=none:=fun b hb=>by rw [bY (Nat.ne_of_lt (fpl b hb))];exact (f2 b hb).1
 have fin:∀ (H3:Hp) (s4:Shared),Inv (dZ X N scope cl P2.objs.size s2 H2 fp) [] (eW k ix σ) H3 s4->∀ h':Heap,Heap.SameBut P2.objs.size s4.heap h'->Inv X pins σ H3 { s4 with heap:=h' }:=fun H3 s4 I4 h' sb=>by
  have kp:∀ b o,b < s2.heap.objs.size->s4.heap.get? b=some o->h'.get? b=some o:=fun b o hb e=>sb.extBut b o (below b hb) e
  have u:Un (i3 X.stack) fp H2 H3 s2.heap s4.heap:=I4.base
  refine I2.call' (ch:=fp) (H':=H3) I4.os ⟨fun b o q n hb hx=>kp b o (Heap.lt_size q) (u.keep b o q n hb hx),fun b o q n hb hx=>?_,u.free,fun b o q hx=>?_,u.tups,u.frzs,u.tbls⟩ (fun a o e=>?_) I4.bare fun b hb=>⟨(f2 b hb).2.2.2.1,(f2 b hb).2.1,(f2 b hb).2.2.2.2.1,(f2 b hb).2.2.2.2.2⟩
  ·obtain ⟨sl,e⟩:=u.slot b o q n hb hx
   exact ⟨sl,kp b _ (Heap.lt_size q) e⟩
  ·obtain ⟨o',e⟩:=u.there b o q hx
   exact ⟨o',kp b _ (Heap.lt_size q) e⟩
  ·have nC:H3 P2.objs.size=none:=I4.free
   refine (I4.hok a o e).stay (fun b z hb q=>sb.extBut b z ?_ q) (fun _ q=>q) fun _ _ q=>q
   rcases hb with rfl | hb
   ·exact cJ e nC
   ·exact cJ hb nC
 have loop:∀ tk,codeAny (model X.prog X.w) X.A (.compLoop (.ListComp elt [⟨tg,iter,ifs,0⟩] scope pos) 0 (.ref it) (.ref s2.heap.objs.size) (compEnvC scope cl P2.objs.size X.env))
   (compPost (model X.prog X.w) X.A X.xe use QQ (.ref s2.heap.objs.size) P2.objs.size) { s2 with heap:=h₁,toks:=tk }:=fun tk=>by
  refine Ey (fun n s'=>∃ i H',Inv (dZ X N scope cl P2.objs.size s2 H2 fp) [] (eW k ix σ) H' s'/\tn i s'.heap/\(∀ b∈fp,H' b=none)/\W i n H') ?_ m0 ⟨0,_,Istart tk,st1,fr1,w0⟩
  rintro n s3 ⟨i,H3,I3,st3,fr3,w3⟩
  rcases turn i n H3 w3 with ⟨stop,q⟩ | ⟨go,step⟩
  ·refine bJ (T.done (dZ X N scope cl P2.objs.size s2 H2 fp) rfl rfl rfl hc i [] s3 _ H3 (fun _ _=>False) I3 (stat fr3) st3 stop) fun r s4 ⟨hr,I4⟩=>?_
   subst hr
   obtain ⟨m,hn,_⟩:=I4.loc
   refine end_ s2.heap.objs.size P2.objs.size H3 s4 (fin H3 s4 I4 s4.heap (Heap.SameBut.refl ..)) ⟨m,hn⟩ I4.free (Ne.symm (below _ I2.lt)) (Nat.le_trans I2.sz (show s2.heap.objs.size<=P2.objs.size by rw [hCs];exact Nat.le_succ _)) (fun x c e=>?_) (fun p hp=>below _ (Heap.lt_size (I2.pin p hp).1)) (fin H3 s4 I4) q
   obtain ⟨v,o,ho,_⟩:=I2.cell x c e
   exact below _ (Heap.lt_size ho)
  ·refine bJ (T.item (dZ X N scope cl P2.objs.size s2 H2 fp) rfl rfl rfl hc i [] s3 _ H3 (fun _ _=>False) I3 (stat fr3) st3 go) fun r s4 ⟨u,hr,h4⟩=>?_
   subst hr
   refine bJ h4 fun _ s5 ⟨x,H5,I5,r5,y5,st5,fr5⟩=>?_
   have I5':=I5.pinned (stat fr5) (T.obj _ _ st5)
   refine bJ (hg cl P2.objs.size s2 H2 fp _ s5 _ H5 x u _ I5' r5 (gk _ _ _ _ (step x H5 y5))) fun _ s6 ⟨σ6,H6,I6,ag,q6⟩=>?_
   have again:∀ {s7:Shared} {H7:Hp} {m':Nat},Inv (dZ X N scope cl P2.objs.size s2 H2 fp) ([]++u6 fp s5.heap) σ6 H7 s7->m' < n->W (i + 1) m' H7->∃ m,m < n/\∃ i H',Inv (dZ X N scope cl P2.objs.size s2 H2 fp) [] (eW k ix σ) H' s7/\tn i s7.heap/\(∀ b∈fp,H' b=none)/\W i m H':=fun {s7 H7 m'} I7 hm w7=>by
    refine ⟨m',hm,i + 1,H7,(I7.unpinned).weak (by rw [σl];exact (I7.len).symm) (fun j v e=>?_),T.keep _ _ _ st5 fun b hb o e=>(I7.pin (b,o) (List.mem_append_right _ (List.mem_append_right _ (pJ hb e)))).1,fun b hb=>?_,w7⟩
    ·by_cases hj:j < k
     ·exfalso
      unfold eW at e
      rw [List.getElem?_append_left (by simpa using hj),List.getElem?_replicate] at e
      split at e <;> cases e
     ·rw [ag j (by omega)];exact e
    ·obtain ⟨o,e,d⟩:=T.obj _ _ st5 b hb
     exact (I7.pin (b,o) (List.mem_append_right _ (List.mem_append_right _ (pJ hb e)))).2.1
   refine bJ (hif cl P2.objs.size s2 H2 fp _ s6 σ6 H6 _ I6 q6) fun ok s7 ⟨H7,I7,q7⟩=>?_
   cases ok with
   | false =>
    obtain ⟨m',hm,w7⟩:=q7
    exact again I7 hm w7
   | true =>
    refine bJ (he cl P2.objs.size s2 H2 fp _ s7 σ6 H7 _ I7 q7) fun y s8 ⟨yv,H8,I8,r8,ys,hD8,hz8,m',hm,w8⟩=>?_
    refine bJ (AH _ s8 σ6 H8 (.ref s2.heap.objs.size) [yv] (.ref s2.heap.objs.size) [y] (fun v H9=>H9=upd H8 s2.heap.objs.size (.lst (ys++[yv]))) I8 rfl (.cons r8 .nil) ⟨_,ys,yv,rfl,rfl,hD8,hz8,rfl⟩) fun _ s9 ⟨_,H9,I9,_,e9⟩=>?_
    subst e9
    exact again I9 hm w8
 exact codeAny_compStart_list (loop _) (T.self _ 0 _ _ _ st1 (loop _))
theorem NH {X:Cx} {tg elt iter:Expr} {ifs:List Expr} {scope:Scope} {pos:Pos} {N:List Str} {k:Nat} {ix:List Nat} {wi:TI} {g:TG} {tc:TT} {te:TE}
  (hc:X.calm=true) (hi:PI X tg iter wi) (gk:GK k g)
  (hk:scope.kind=.function) (hcell:∀ y∈scope.names,y.2≠.cell) (hnames:∀ y∈scope.names,y.2=.local->scope.names.lookup y.1=some .local)
  (hfree:∀ y∈scope.names,y.2=.free->X.env.kindOf y.1=some .cell\/X.env.kindOf y.1=some .free)
  (hone:∀ y∈scope.names,y.2=.free->scope.names.lookup y.1=some .free)
  (hN:∀ (j:Nat) x,N[k + j]?=some x->∃ i,ix[j]?=some i/\X.N[i]?=some x)
  (hcap:∀ (j:Nat) x,N[k + j]?=some x->scope.names.lookup x=some .free)
  (hlen:N.length=k + ix.length)
  (hg:∀ cl C s H fp,PG (dZ X N scope cl C s H fp) tg g)
  (hif:∀ cl C s H fp,FD (dZ X N scope cl C s H fp) ifs tc)
  (he:∀ cl C s H fp,PE (dZ X N scope cl C s H fp) elt te)
  (hs:∀ x,foldedSetIterable iter X.env x=pure x:=by intro _;rfl) :
  PE X (.ListComp elt [⟨tg,iter,ifs,0⟩] scope pos) (BX k ix wi g tc te):=by
 intro pins s σ H Q I h
 rw [eval_ListComp]
 refine AS (use:=none) hc hi gk hk hcell hnames hfree hone hN hcap hlen hg hif he hs I h fun D C H3 s4 I4 ⟨m,hn⟩ _ _ _ _ _ fin q=>?_
 exact ⟨m,hn,fun h' sb=>⟨.ref D,H3,fin h' sb,rfl,q⟩⟩
theorem N4 {X:Cx} {tg elt iter:Expr} {ifs:List Expr} {scope:Scope} {pos spos py:Pos} {N:List Str} {k:Nat} {ix:List Nat} {wi:TI} {g:TG} {tc:TT} {te:TE} {i:Nat} {y:Str}
  (hc:X.calm=true) (hi:PI X tg iter wi) (gk:GK k g)
  (hk:scope.kind=.function) (hcell:∀ y∈scope.names,y.2≠.cell) (hnames:∀ y∈scope.names,y.2=.local->scope.names.lookup y.1=some .local)
  (hfree:∀ y∈scope.names,y.2=.free->X.env.kindOf y.1=some .cell\/X.env.kindOf y.1=some .free)
  (hone:∀ y∈scope.names,y.2=.free->scope.names.lookup y.1=some .free)
  (hN:∀ (j:Nat) x,N[k + j]?=some x->∃ i,ix[j]?=some i/\X.N[i]?=some x)
  (hcap:∀ (j:Nat) x,N[k + j]?=some x->scope.names.lookup x=some .free)
  (hlen:N.length=k + ix.length)
  (hg:∀ cl C s H fp,PG (dZ X N scope cl C s H fp) tg g)
  (hif:∀ cl C s H fp,FD (dZ X N scope cl C s H fp) ifs tc)
  (he:∀ cl C s H fp,PE (dZ X N scope cl C s H fp) elt te)
  (hs:∀ x,foldedSetIterable iter X.env x=pure x) (hsw:swapsWith (.ListComp elt [⟨tg,iter,ifs,0⟩] scope pos) (some (.Name y py)) spos.line X.env=pure true)
  (hNd:X.N.Nodup) (hiy:X.N[i]?=some y) (hy:Loc X.env.scope y) (hf:X.fn y=true\/X.env.scope.names.lookup y=some .local) :
  PS X (.Assign [.Name y py] (.ListComp elt [⟨tg,iter,ifs,0⟩] scope pos) spos) (Gy (BX k ix wi g tc te) (tR i)):=by
 intro pins s σ H D I h
 rw [exec_Assign_Name_used _ _ _ _ hsw]
 refine wpAny_bind (wpAny_standAt (wpAny_bind ?_))
 show wpAny _ X.A (do let _ <- comprehension (.ListComp elt [⟨tg,iter,ifs,0⟩] scope pos) scope X.env _ (newList []) false (eval iter X.env) (some (assign (.Name y py) X.env))) _ _ s
 refine wpAny_bind (wpAny_mono (AS (use:=some (assign (.Name y py) X.env)) (QQ:=fun _ s'=>SP X pins D .next s') hc hi gk hk hcell hnames hfree hone hN hcap hlen hg hif he hs I h fun A C H3 s4 I4 hn nC nL sC cC pC fin q=>?_) (fun _ s' hq=>wpAny_pure (wpAny_pure hq)) fun _ _ e=>e)
 show wpAny _ X.A (assign (.Name y py) X.env (.ref A)) _ _ _
 refine wpAny_assign_Name (Ba (i:=i) (v:=.ref A) I4 hNd hiy hy rfl (fun s5 I5 ⟨a,sb,ha⟩=>?_) hf)
 obtain ⟨m,hn⟩:=hn
 have aC:C≠a:=by
  rcases ha with z | z
  ·rw [z];exact nL
  ·exact fun e=>cC y a z e.symm
 refine ⟨m,hn.at' fun o e=>sb.extBut C o aC e,fun h' sb'=>?_⟩
 exact ⟨_,H3,I5.turned (t':=s5.toks) (fun b o hb e=>sb'.extBut b o hb e) nC nL (.inr sC) cC pC,q⟩
section
variable {X:Cx}
theorem Pf:cY X (binaryOp .Add) (Ie X.K):=by
 intro pins s σ H x y v u Q I rx ry h
 obtain ⟨l,b,xs,zs,rfl,rfl,hH,hB,hz,q⟩:=h
 cases rx
 cases ry
 obtain ⟨its,r,p,hl⟩:=I.list hH
 obtain ⟨its2,r2,p2,hl2⟩:=I.list hB
 obtain ⟨⟨cls,dd,data,sl⟩,n,ho,hc,_,hd⟩:=p
 obtain ⟨⟨cls2,dd2,data2,sl2⟩,n2,ho2,hc2,_,hd2⟩:=p2
 simp only at hc hd hc2 hd2
 subst hc hd hc2 hd2
 have q1:=r.length
 have q2:=r2.length
 have e:its.toArray++its2.toArray=(its++its2).toArray:=by simp
 refine concat_meets ⟨_,ho,rfl⟩ ⟨_,ho2,rfl⟩ noFill_list_add seq_list_add PySem.F.slot_list_add PySem.F.entry_list_add (PySem.F.args_list_add_2 _ _) (list_addW l b its.toArray its2.toArray n n2 dd dd2 sl sl2 (by rw [List.size_toArray,List.size_toArray];omega)) ⟨ho,ho2,?_⟩
 rw [e]
 exact ⟨.ref _,_,I.lnew (t':=s.toks) (r.append r2) (by rw [List.length_append];omega),rfl,q _ I.fresh⟩
theorem L5:cY X (binaryOp .Add) (DV X.K):=by
 intro pins s σ H x y v u Q I rx ry h
 obtain ⟨a,b,xs,ys,rfl,rfl,ha,hb,hz,q0,q1,q2⟩:=h
 by_cases hx:xs=[]
 ·cases rx
  cases ry
  obtain ⟨its,r1,p1,_⟩:=I.tuple ha
  obtain ⟨its2,r2,p2,_⟩:=I.tuple hb
  obtain ⟨⟨cls,dd,data,sl⟩,ho,hc,n,hd⟩:=p1
  obtain ⟨⟨cls2,dd2,data2,sl2⟩,ho2,hc2,n2,hd2⟩:=p2
  simp only at hc hd hc2 hd2
  subst hc hd hc2 hd2
  have e:its=[]:=r1.nil_iff.mpr hx
  exact concat_meets ⟨_,ho,rfl⟩ ⟨_,ho2,rfl⟩ noFill_tuple_add seq_tuple_add PySem.F.slot_tuple_add PySem.F.entry_tuple_add (PySem.F.args_tuple_add_2 _ _) (tuple_addW0 a b its.toArray its2.toArray n n2 dd dd2 sl sl2 (by rw [e];rfl)) ⟨ho,ho2,.ref b,H,I,rfl,q0 hx⟩
 ·exact NN pins s σ H _ _ v u Q I rx ry ⟨a,b,xs,ys,rfl,rfl,ha,hb,hx,hz,q1 hx,q2 hx⟩
theorem PR:wK X (fun x lo hi H Q=>∃ z:Str,x=.str z/\z.length<=sizeLine/\Q (.str (Txt.slice z lo hi)) H):=by
 intro pins s σ H x v vl vu lo hi sl Q I rx hs pl pu h
 obtain ⟨z,rfl,hz,q⟩:=h
 obtain ⟨t,rfl⟩:=rx
 refine ⟨"str",_,F.slot_str_getitem.lookup,typeIs_str _ _ _,?_⟩
 have fin:∀ t' k,EP X pins σ Q (.str (Txt.slice z lo hi) t') { s with toks:=k }:=fun t' k=>⟨.str (Txt.slice z lo hi),H,I.tok k,⟨t',rfl⟩,q⟩
 cases pl with
 | none=>cases pu with
  | none=>exact wpAny_getItem_str_slice (l:=none) (u:=none) (st:=none) hs rfl (post_val_or_str ⟨Nat.le_trans (Txt.slice_le z _ _) hz,fun t' k=>fin t' k⟩)
  | int j uj=>exact wpAny_getItem_str_slice (l:=none) (u:=some (j,uj)) (st:=none) hs rfl (post_val_or_str ⟨Nat.le_trans (Txt.slice_le z _ _) hz,fun t' k=>fin t' k⟩)
 | int i ui=>cases pu with
  | none=>exact wpAny_getItem_str_slice (l:=some (i,ui)) (u:=none) (st:=none) hs rfl (post_val_or_str ⟨Nat.le_trans (Txt.slice_le z _ _) hz,fun t' k=>fin t' k⟩)
  | int j uj=>exact wpAny_getItem_str_slice (l:=some (i,ui)) (u:=some (j,uj)) (st:=none) hs rfl (post_val_or_str ⟨Nat.le_trans (Txt.slice_le z _ _) hz,fun t' k=>fin t' k⟩)
theorem P8:wK X (PX X.K):=OY.or (Q0.or PR)
theorem Jh (hc:X.calm=true):jB X (.builtin "all") (fun xs H Q=>∃ (p:Addr) (bs:List Bool),xs=[.ref p]/\eH X.K H p (bs.map V.bl)/\Q (.bl (bs.all fun b=>b)) H):=by
 intro pins s σ H xs us Q I r h
 obtain ⟨a,bs,rfl,ha,q⟩:=h
 obtain ⟨u,rfl,ru⟩:=vals1 r
 cases ru
 obtain ⟨its,rv,p,hz⟩:=I.list ha
 have hl:=rv.length
 have hne:a≠s.heap.objs.size:=by
  obtain ⟨o,n,e,_⟩:=p
  exact Nat.ne_of_lt (Heap.lt_size e)
 refine call_all_walk (wpAny_pyIter_list p.isList ?_)
 refine ⟨s.heap.objs.size,_,_,_,_,_,fun i=>(bs[i]?).getD false,rfl,Walks.list (show X.A.in1.handled=none from I.ok.hd hc) s.heap.objs.size a hne its.toArray,⟨⟨_,Heap.get?_push_size _ rfl,rfl,rfl⟩,?_⟩,?_,fun h' tk k=>?_⟩
 ·obtain ⟨o,n,e,c,d,z⟩:=p
  exact ⟨o,Heap.get?_push_of_some _ e,c,n,z⟩
 ·intro i v s' Q' E' hP hQ
  have hv:its[i]?=some v:=by simpa using hP
  have hi:i < bs.length:=by
   have:=(List.getElem?_eq_some_iff.mp hv).1
   rw [<- hl] at this;simpa using this
  obtain ⟨u,hu,ru⟩:=rv.get (i:=i) (x:=.bl bs[i]) (by simp [hi])
  rw [hv] at hu;cases hu
  cases ru
  refine wpAny_truthy_bool ?_
  have:(bs[i]?).getD false=bs[i]:=by simp [hi]
  rw [<- this];exact hQ
 ·have e:(List.range its.toArray.size).all (fun i=>(bs[i]?).getD false)=bs.all fun b=>b:=by
   have:its.toArray.size=bs.length:=by rw [List.size_toArray,<- hl,List.length_map]
   rw [this]
   clear this hl rv p hz k
   rw [Bool.eq_iff_iff]
   simp only [List.all_eq_true,List.mem_range]
   constructor
   ·intro h b hb
    obtain ⟨i,hi,rfl⟩:=List.mem_iff_getElem.mp hb
    have:=h i hi
    simpa [hi] using this
   ·intro h i hi
    have:=h bs[i] (List.getElem_mem hi)
    simpa [hi] using this
  rw [e]
  exact ⟨.bl _,H,I.kept (t':=tk) (fun b o e=>k b o (fun z=>Nat.lt_irrefl _ (Nat.lt_of_lt_of_le (Heap.lt_size e) (Nat.le_of_eq (show s.heap.objs.size=b from (List.mem_singleton.mp z).symm)))) (Heap.get?_push_of_some _ e)),rfl,q⟩
end
end U2
namespace U2
open PySem PySem.Spec PyProof.Rows L2
structure Dat where
 prog:Program
 w:World
 K:PySem.W.Frag
 mg:Str->Option Value
 base:Heap
 N:List Str
 sc:Scope
 k:Nat
 fn:Bool
 cod:Value:=.none
 qual:Str:=""
structure mU (D:Dat) (X:Cx):Prop where
 prog:X.prog=D.prog
 w:X.w=D.w
 K:X.K=D.K
 mg:X.mg=D.mg
 base:X.base=D.base
 N:X.N=D.N
 sc:X.env.scope=D.sc
 room:eI D.k X.A
 calm:X.calm=true
 xe:X.xe=fun _ _=>False
 fn:D.fn=true->∀ x,X.fn x=true
 cod:D.cod≠.none->X.env.code=D.cod/\X.env.qual=D.qual
 dl:D.fn=true->X.ex=[]/\X.stack=X.env :: X.outer/\X.env.frame=some X.env.locals
noncomputable def bA (D:Dat) (e:Expr) (t':UE):Prop:=∃ t,(∀ X,mU D X->PE X e t)/\bS D.K t t'
noncomputable def qF (D:Dat) (e:Expr) (t':UT):Prop:=∃ t,(∀ X,mU D X->PT X e t)/\kF D.K t t'
noncomputable def gW (D:Dat) (e:Expr) (t':UT):Prop:=∃ t,(∀ X,mU D X->PW X e t)/\kF D.K t t'
noncomputable def lH (D:Dat) (es:List Expr) (t':UA):Prop:=∃ t,(∀ X,mU D X->PA X es t)/\lK D.K t t'
noncomputable def sH (D:Dat) (s:Stmt) (t':US):Prop:=∃ t,(∀ X,mU D X->PS X s t)/\kB D.K t t'
noncomputable def nR (D:Dat) (s:List Stmt) (t':US):Prop:=∃ t,(∀ X,mU D X->pM X s t)/\kB D.K t t'
noncomputable def D6 (D:Dat) (k:Nat) (e:Expr) (g':UG):Prop:=∃ g,(∀ X,mU D X->PG X e g)/\wW D.K g g'/\GK k g/\∀ x σ H Q Q',(∀ σ2 H2,Q σ2 H2->Q' σ2 H2)->g x σ H Q->g x σ H Q'
noncomputable def GR (D:Dat) (k:Nat) (es:List Expr) (g':yV):Prop:=∃ g,(∀ X,mU D X->IJ X es g)/\zE D.K g g'/\Iz k g/\∀ x σ H Q Q',(∀ σ2 H2,Q σ2 H2->Q' σ2 H2)->g x σ H Q->g x σ H Q'
noncomputable def A6 (D:Dat) (tg e:Expr) (t':UI):Prop:=∃ t,(∀ X,mU D X->PI X tg e t)/\vC D.K t t'
noncomputable def MT (D:Dat) (e:Option Expr) (t':UO):Prop:=∃ t,(∀ X,mU D X->PO X e t)/\C3 D.K t t'
noncomputable def He (D:Dat) (es:List Expr) (t':UT):Prop:=∃ t,(∀ X,mU D X->FD X es t)/\kF D.K t t'
section
variable {D:Dat} {a b c e o:Expr} {ta tb tc te:UE} {pos:Pos}
theorem uv (i:Nat) {x:Str} (hN:D.N[i]?=some x:=by rfl) (hv:AF D.sc x:=by first | exact Or.inl rfl | exact Or.inr (Or.inl rfl) | exact Or.inr (Or.inr rfl)) (hd:(x == ("__debug__":Str))=false:=by decide)
  (hcd:(x == ("__classdict__":Str))=false:=by decide):bA D (.Name x pos) (mB i) :=
 ⟨_,fun X h=>Ce (by rw [h.N];exact hN) (by rw [h.sc];exact hv) hd hcd,Ag i⟩
theorem aH {i j}:bA D (.Constant (.int i) j pos) (uC (.int i)):=⟨_,fun X h=>PH,Fb⟩
theorem nO {i j}:bA D (.Constant (.bool i) j pos) (uC (.bl i)):=⟨_,fun X h=>R4,Px⟩
theorem bZ {i j}:bA D (.Constant (.str i) j pos) (uC (.str i)):=⟨_,fun X h=>QA,FR⟩
theorem QJ {j}:bA D (.Constant .none j pos) (uC .non):=⟨_,fun X h=>Rz,Pb⟩
theorem lS {x:Str} {i:Int} {t:Tok} (hm:D.mg x=some (.int i t)) (hg:D.sc.names.lookup x=some .globalImplicit:=by rfl) (hd:(x == ("__debug__":Str))=false:=by decide):bA D (.Name x pos) (uC (.int i)) :=
 ⟨_,fun X h=>zT (v:=.int i) (by show X.env.scope.names.lookup x=_;rw [h.sc];exact hg) (by rw [h.mg];exact hm) ⟨t,rfl⟩ hd,Fb⟩
theorem zH {x:Str} {i:Str} {t:Tok} (hm:D.mg x=some (.str i t)) (hg:D.sc.names.lookup x=some .globalImplicit:=by rfl) (hd:(x == ("__debug__":Str))=false:=by decide):bA D (.Name x pos) (uC (.str i)) :=
 ⟨_,fun X h=>zT (v:=.str i) (by show X.env.scope.names.lookup x=_;rw [h.sc];exact hg) (by rw [h.mg];exact hm) ⟨t,rfl⟩ hd,FR⟩
theorem nA {x:Str} {f:Addr} (hm:D.mg x=some (.ref f)) (hg:D.sc.names.lookup x=some .globalImplicit:=by rfl) (hd:(x == ("__debug__":Str))=false:=by decide):bA D (.Name x pos) (uC (.ref f)) :=
 ⟨_,fun X h=>zT (v:=.ref f) (by show X.env.scope.names.lookup x=_;rw [h.sc];exact hg) (by rw [h.mg];exact hm) rfl hd,Oc⟩
theorem hJ {x:Str} {n:String} (hm:D.mg x=none) (hv:bootBuiltins x=some (.type n):=by kernel_rfl) (hg:D.sc.names.lookup x=some .globalImplicit:=by rfl) (hn:x≠"__name__":=by decide) (hd:(x == ("__debug__":Str))=false:=by decide):bA D (.Name x pos) (uC (.ty n)) :=
 ⟨_,fun X h=>Ov (v:=.ty n) (by show X.env.scope.names.lookup x=_;rw [h.sc];exact hg) (by rw [h.mg];exact hm) hv rfl hn hd,RS⟩
theorem vW {op:Operator} {r:R2} {r':eD} (ho:∀ X,mU D X->cY X (binaryOp op) r) (hr:eJ D.K r r') (ha:bA D a ta) (hb:bA D b tb):bA D (.BinOp a op b pos) (gA r' ta tb):=by
 obtain ⟨x,p,s⟩:=ha;obtain ⟨y,q,r⟩:=hb
 exact ⟨_,fun X h=>Sg (ho X h) (p X h) (q X h),uQ hr s r⟩
theorem yY (ha:bA D a ta) (hb:bA D b tb):bA D (.BinOp a .Sub b pos) (gA (r9 fun i j=>.int (i - j)) ta tb):=vW (fun _ _=>QM) CC ha hb
theorem eE (ha:bA D a ta) (hb:bA D b tb):bA D (.BinOp a .Mod b pos) (gA (uI (fun _ j=>0 < j) fun i j=>.int (i % j)) ta tb):=vW (fun _ _=>P0) rC ha hb
theorem lV (ha:bA D a ta) (hb:bA D b tb):bA D (.BinOp a .Pow b pos) (gA (uI xH fun i j=>.int (i ^ j.toNat)) ta tb):=vW (fun _ _=>Ru) rC ha hb
noncomputable def oU (o:Bool):eD:=fun x y M Q=>match x,y with
 | .int i,.int j=>Q (.int (i + j)) M
 | .str i,.str j=>i.length + j.length<=sizeLine/\Q (.str (i++j)) M
 | .tup us,.tup ws=>us.length + ws.length<=sizeLine/\Q (.tup (us++ws)) M
 | x,y=>rE o x y M Q
noncomputable def MC (K:PySem.W.Frag):R2:=fun x y H Q=>t4 (fun i j=>.int (i + j)) x y H Q\/((∃ i j,x=.str i/\y=.str j/\i.length + j.length<=sizeLine/\Q (.str (i++j)) H)\/(DV K x y H Q\/Ie K x y H Q))
theorem N2 {K:PySem.W.Frag} {o:Bool}:eJ K (MC K) (oU o):=fun x y u w H M Q' rm ru rw h Q c=>by
 unfold oU at h
 split at h
 ·exact .inl (CC x y _ _ H M Q' rm ru rw h Q c)
 ·exact .inr (.inl (LY x y _ _ H M Q' rm ru rw h Q c))
 ·exact .inr (.inr (.inl (LX x y _ _ H M Q' rm ru rw h Q c)))
 ·exact .inr (.inr (.inr (KO x y _ _ H M Q' rm ru rw h Q c)))
theorem aO (own:Bool:=false) (ha:bA D a ta) (hb:bA D b tb):bA D (.BinOp a .Add b pos) (gA (oU own) ta tb) :=
 vW (r:=MC D.K) (fun X h=>by have:=QW.or (Ih.or ((L5 (X:=X)).or (Pf (X:=X))));rw [h.K] at this;exact this) N2 ha hb
theorem uA (ha:bA D a ta):bA D (.UnaryOp .USub a pos) (CA (fun x M Q=>match x with | .int i=>Q (.int (-i)) M | _=>False) ta):=by
 obtain ⟨x,p,s⟩:=ha
 refine ⟨_,fun X h=>Sv QI (p X h),Qr (fun x u H M Q' rm ru h Q c=>?_) s⟩
 cases u with
 | int i=>exact ⟨i,ru.int,c.here rm cK h⟩
 | _=>exact h.elim
theorem Qa {op:CmpOp} {r:R2} {r':eD} (ho:∀ X,mU D X->cY X (compareOp op) r) (hr:eJ D.K r r') (ha:bA D a ta) (hb:bA D b tb) (hm:behindInMarks op b=false):bA D (.Compare a [op] [b] pos) (gA r' ta tb):=by
 obtain ⟨x,p,s⟩:=ha;obtain ⟨y,q,r⟩:=hb
 exact ⟨_,fun X h=>NR (ho X h) (p X h) (q X h) hm,uQ hr s r⟩
theorem Qm {op:CmpOp} {r:R2} {r':eD} (ho:∀ X,mU D X->cY X (compareOp op) r) (hr:eJ D.K r r') (ha:bA D a ta) (hb:bA D b tb) (hm:behindInMarks op b=false):qF D (.Compare a [op] [b] pos) (pB (gA r' ta tb)):=by
 obtain ⟨x,p,s⟩:=ha;obtain ⟨y,q,r⟩:=hb
 exact ⟨_,fun X h=>Po (ho X h) (p X h) (q X h) hm,DN (uQ hr s r)⟩
abbrev JG:eD:=r9 fun i j=>.bl (decide (i < j))
abbrev FL:eD:=r9 fun i j=>.bl (decide (i<=j))
abbrev FN:eD:=r9 fun i j=>.bl (decide (j < i))
abbrev FH:eD:=r9 fun i j=>.bl (decide (j<=i))
structure nJ (D:Dat) (op:CmpOp) (r':eD):Prop where
 ex:∃ r:R2,(∀ X,mU D X->cY X (compareOp op) r)/\eJ D.K r r'
theorem mC:nJ D .LtE FL:=⟨⟨_,fun _ _=>Sq,qR⟩⟩
theorem qO:nJ D .Gt FN:=⟨⟨_,fun _ _=>Se,qR⟩⟩
theorem Tj:nJ D .GtE FH:=⟨⟨_,fun _ _=>SD,qR⟩⟩
theorem Sd:nJ D .Is uN:=⟨⟨_,fun _ _=>Rg,Oq⟩⟩
noncomputable def zW (neg:Bool):eD:=fun x y M Q=>match x,y with
 | .str i,.str j=>Q (.bl (if neg then !(!(Builtin.Str.occurrences j i 0 j.length 1).isEmpty) else !(Builtin.Str.occurrences j i 0 j.length 1).isEmpty)) M
 | _,_=>False
theorem Hw:nJ D .In (zW false):=⟨⟨_,fun _ _=>Io,fun x y u w H M Q' rm ru rw h Q c=>by
 cases u with
 | str i=>cases w with
  | str j=>exact ⟨i,j,ru.str,rw.str,c.here rm dF h⟩
  | _=>exact h.elim
 | _=>exact h.elim⟩⟩
theorem j7 {op:CmpOp} {r':eD} (k:nJ D op r') (ha:bA D a ta) (hb:bA D b tb) (hm:behindInMarks op b=false:=by first | exact IM _ | with_unfolding_all rfl):bA D (.Compare a [op] [b] pos) (gA r' ta tb) :=
 let ⟨_,h1,h2⟩:=k.ex;Qa h1 h2 ha hb hm
theorem bO {op:CmpOp} {r':eD} (k:nJ D op r') (ha:bA D a ta) (hb:bA D b tb) (hm:behindInMarks op b=false:=by first | exact IM _ | with_unfolding_all rfl):qF D (.Compare a [op] [b] pos) (pB (gA r' ta tb)) :=
 let ⟨_,h1,h2⟩:=k.ex;Qm h1 h2 ha hb hm
theorem Si {op op':CmpOp} {r r':eD} (k:nJ D op r) (k':nJ D op' r') (ha:bA D a ta) (hb:bA D b tb) (hc:bA D c tc) (hm:lastMarks [op,op'] [b,c]=false:=by with_unfolding_all rfl) :
  bA D (.Compare a [op,op'] [b,c] pos) (oN r r' ta tb tc):=by
 obtain ⟨x,p,s⟩:=ha;obtain ⟨y,q,r⟩:=hb;obtain ⟨z,u,v⟩:=hc
 obtain ⟨_,h1,h2⟩:=k.ex
 obtain ⟨_,h3,h4⟩:=k'.ex
 exact ⟨_,fun X h=>Ma (h1 X h) (h3 X h) (p X h) (q X h) (u X h) hm,AG h2 h4 s r v⟩
theorem zD {op op':CmpOp} {r r':eD} (k:nJ D op r) (k':nJ D op' r') (ha:bA D a ta) (hb:bA D b tb) (hc:bA D c tc) (hm:lastMarks [op,op'] [b,c]=false:=by with_unfolding_all rfl) :
  qF D (.Compare a [op,op'] [b,c] pos) (pB (oN r r' ta tb tc)):=by
 obtain ⟨x,p,s⟩:=ha;obtain ⟨y,q,r⟩:=hb;obtain ⟨z,u,v⟩:=hc
 obtain ⟨_,h1,h2⟩:=k.ex
 obtain ⟨_,h3,h4⟩:=k'.ex
 exact ⟨_,fun X h=>K4 (h1 X h) (h3 X h) (p X h) (q X h) (u X h) hm,DN (AG h2 h4 s r v)⟩
theorem cM (ha:bA D a ta) (he:∀ env whole,isTrue a env whole=(do let v <- whole;standAt a.pos;holding [v] (truthy v)):=by intro _ _;rfl):qF D a (xE ta):=by
 obtain ⟨x,p,s⟩:=ha
 refine ⟨_,fun X h=>?_,OX s⟩
 have:=Ls (p X h) (he X.env)
 rw [h.K] at this
 exact this
theorem gW.pt {t:UT} (h:gW D a t):qF D a t:=let ⟨_,p,s⟩:=h;⟨_,fun X h=>(p X h).pt,s⟩
variable {rest:List Expr} {tA tB':UT}
theorem nQ (ha:qF D a tA):gW D (.BoolOp .And [a] pos) tA:=let ⟨_,p,s⟩:=ha;⟨_,fun X h=>NC (p X h),s⟩
theorem gZ (ha:qF D a tA):gW D (.BoolOp .Or [a] pos) tA:=let ⟨_,p,s⟩:=ha;⟨_,fun X h=>RR (p X h),s⟩
theorem kJ (ha:qF D a tA) (hb:gW D (.BoolOp .And (b :: rest) pos) tB'):gW D (.BoolOp .And (a :: b :: rest) pos) (wY tA tB'):=let ⟨_,p,s⟩:=ha;let ⟨_,q,r⟩:=hb;⟨_,fun X h=>RD (p X h) (q X h),NL s r⟩
theorem iH (ha:qF D a tA) (hb:gW D (.BoolOp .Or (b :: rest) pos) tB'):gW D (.BoolOp .Or (a :: b :: rest) pos) (De tA tB'):=let ⟨_,p,s⟩:=ha;let ⟨_,q,r⟩:=hb;⟨_,fun X h=>RW (p X h) (q X h),P9 s r⟩
theorem dD (ha:qF D a tA):qF D (.UnaryOp .Not a pos) (xK tA):=let ⟨_,p,s⟩:=ha;⟨_,fun X h=>Rt (p X h),NM s⟩
theorem iP {op} (ha:bA D a ta):bA D (.BoolOp op [a] pos) ta:=let ⟨_,p,s⟩:=ha;⟨_,fun X h=>QL (p X h),s⟩
theorem gY (ha:bA D a ta) (hb:bA D (.BoolOp .And (b :: rest) pos) tb):bA D (.BoolOp .And (a :: b :: rest) pos) (nE ta tb):=let ⟨_,p,s⟩:=ha;let ⟨_,q,r⟩:=hb;⟨_,fun X h=>Qw (p X h) (q X h),KN s r⟩
theorem R9 (ha:bA D a ta) (hb:bA D (.BoolOp .Or (b :: rest) pos) tb):bA D (.BoolOp .Or (a :: b :: rest) pos) (w5 ta tb):=let ⟨_,p,s⟩:=ha;let ⟨_,q,r⟩:=hb;⟨_,fun X h=>Sh (p X h) (q X h),Oy s r⟩
theorem DB (ha:bA D a ta):bA D (.UnaryOp .Not a pos) (tM ta):=let ⟨_,p,s⟩:=ha;⟨_,fun X h=>RI (p X h),Ml s⟩
theorem SE (hc:qF D c tA) (ha:bA D a ta) (hb:bA D b tb):bA D (.IfExp c a b pos) (DI tA ta tb):=let ⟨_,p,s⟩:=ha;let ⟨_,q,r⟩:=hb;let ⟨_,u,v⟩:=hc;⟨_,fun X h=>Mx (u X h) (p X h) (q X h),Rj v s r⟩
variable {es:List Expr} {tas:UA}
theorem aB:lH D [] pU:=⟨_,fun X h=>Rl,NG⟩
theorem aA (ha:bA D e te) (hr:lH D es tas) (hs:∀ env,starEach (e :: es) env=(false,eval e env) :: starEach es env:=by intro _;rfl):lH D (e :: es) (nK te tas):=let ⟨_,p,s⟩:=ha;let ⟨_,q,r⟩:=hr;⟨_,fun X h=>Pc (p X h) (q X h) (hs _),KR s r⟩
theorem bG {x1} (h:lH D es tas):bA D (.Tuple es x1 pos) (wQ tas):=let ⟨_,p,s⟩:=h;⟨_,fun X h=>Q3 (p X h),Of s⟩
theorem dH (own:Bool:=false) (h:lH D es tas):bA D (.List es pos) (xN own tas):=let ⟨_,p,s⟩:=h;⟨_,fun X h=>Qb (p X h),ON s⟩
theorem aL (ha:bA D a ta) (hb:bA D b tb) (hs:vD b:=by intro _ _;rfl):bA D (.Subscript a b pos) (gA tU ta tb):=by
 obtain ⟨x,p,s⟩:=ha;obtain ⟨y,q,r⟩:=hb
 refine ⟨_,fun X h=>?_,uQ P7 s r⟩
 have:=RY (pos:=pos) Rq (p X h) (q X h) hs
 rw [h.K] at this
 exact this
theorem vO:MT D none n6:=⟨_,fun X h=>Oe,Gi⟩
theorem cR (h:bA D e te):MT D (some e) (sV te):=let ⟨_,p,s⟩:=h;⟨_,fun X h=>OV (p X h),Lw s⟩
variable {st:Stmt} {sts body body2:List Stmt} {t u:US}
theorem bB:nR D [] bW:=⟨_,fun X h=>Pn,K5⟩
theorem aD (h1:sH D st t) (h2:nR D sts u):nR D (st :: sts) (fD t u):=let ⟨_,p,s⟩:=h1;let ⟨_,q,r⟩:=h2;⟨_,fun X h=>Ky (p X h) (q X h),Ol s r⟩
theorem aF (h1:sH D st t):nR D [st] t:=let ⟨_,p,s⟩:=h1;⟨_,fun X h=>Oh (p X h),s⟩
theorem LW:sH D (.Break pos) lM:=⟨_,fun X h=>K1,Ii⟩
theorem cZ (he:bA D e te) (hs:∀ env,swapsWith e none pos.line env=pure false:=by intro _;rfl):sH D (.Expr e pos) (gH te):=let ⟨_,p,s⟩:=he;⟨_,fun X h=>OB (p X h) (hs _),LH s⟩
theorem aQ (he:bA D e te):sH D (.Return (some e) pos) (bM te):=let ⟨_,p,s⟩:=he;⟨_,fun X h=>RT (p X h),Ny s⟩
theorem bK {c:Expr} {tc:UT} (hc:qF D c tc) (ha:nR D body t) (hb:nR D body2 u):sH D (.If c body body2 pos) (lL tc t u):=let ⟨_,p,s⟩:=ha;let ⟨_,q,r⟩:=hb;let ⟨_,x,y⟩:=hc;⟨_,fun X h=>R1 (x X h) (p X h) (q X h),Oi y s r⟩
theorem iD {c:Expr} {tc:UT} (hc:qF D c tc) (hb:nR D body t):sH D (.While c body [] pos) (y6 tc t):=by
 obtain ⟨_,p,s⟩:=hb;obtain ⟨_,x,y⟩:=hc
 exact ⟨_,fun X h=>Le (by rw [h.xe];exact PassesOwn.never) (x X h) (p X h),IC y s⟩
variable {k:Nat} {g:UG} {gs:yV}
theorem bQ (i:Nat) {x:Str} (hN:D.N.Nodup) (hi:D.N[i]?=some x:=by rfl) (hx:Loc D.sc x:=by first | exact Or.inl rfl | exact Or.inr rfl) (hik:i < k:=by decide) (hf:D.fn=true\/D.sc.names.lookup x=some .local:=by first | exact .inl rfl | exact .inr rfl):D6 D k (.Name x pos) (hName i) :=
 ⟨_,fun X h=>Pj (i:=i) (by rw [h.N];exact hN) (by rw [h.N];exact hi) (by rw [h.sc];exact hx) (by rcases hf with z | z;exact .inl (h.fn z x);exact .inr (by rw [h.sc];exact z)),uG i,NT hik,Qq⟩
theorem mI:GR D k [] nW:=⟨_,fun X h=>OQ,Mg,Py,Sz⟩
theorem cH (h1:D6 D k e g) (h2:GR D k es gs) (hs:∀ env,(assignEach (e :: es) env).map (·.2)=assign e env :: (assignEach es env).map (·.2):=by intro _;rfl):GR D k (e :: es) (kZ g gs) :=
 let ⟨_,p,s,x,y⟩:=h1;let ⟨_,q,r,z,w⟩:=h2;⟨_,fun X h=>Ms (p X h) (q X h) (hs _),II s r,OZ x z w y,Ql y w⟩
theorem oS {kk:Nat} {n:Nat} (h:GR D k es gs) (hn:∀ env,(assignEach es env).length=n:=by intro _;rfl) (hst:∀ env,(assignEach es env).findIdx? (·.1)=none:=by intro _;rfl):D6 D k (.Tuple es kk pos) (i9 n gs):=by
 obtain ⟨_,p,s,x,y⟩:=h
 refine ⟨_,fun X h=>?_,KP s,RJ x,Sk y⟩
 have:=QB (pos:=pos) (k:=kk) h.calm (p X h) (hn _) (hst _)
 rw [h.K] at this
 exact this
theorem DC {tg:Expr} (he:bA D e te) (hg:D6 D k tg g) (hs:∀ env,swapsWithSole [tg] e pos.line env=pure false:=by intro _;rfl) (hw:∀ env,swappedStores [tg] e env=pure none:=by intro _;rfl)
  (h1:∀ env,(assignEach [tg] env).map (·.2)=[assign tg env]:=by intro _;rfl):sH D (.Assign [tg] e pos) (bU te g):=let ⟨_,p,s⟩:=he;let ⟨_,q,r,_⟩:=hg;⟨_,fun X h=>PC (p X h) (q X h) (hs _) (hw _) (h1 _),zO s r⟩
theorem aJ (i:Nat) {x:Str} {pos':Pos} (hN:D.N.Nodup) (he:bA D e te) (hi:D.N[i]?=some x:=by rfl) (hx:Loc D.sc x:=by first | exact Or.inl rfl | exact Or.inr rfl) (hs:∀ env,swapsWith e (some (.Name x pos')) pos.line env=pure false:=by intro _;rfl)
  (hf:D.fn=true\/D.sc.names.lookup x=some .local:=by first | exact .inl rfl | exact .inr rfl):sH D (.Assign [.Name x pos'] e pos) (bU te (hName i)):=by
 obtain ⟨_,p,s⟩:=he
 exact ⟨_,fun X h=>PB (i:=i) (by rw [h.N];exact hN) (by rw [h.N];exact hi) (by rw [h.sc];exact hx) (p X h) (hs _) (by rcases hf with z | z;exact .inl (h.fn z x);exact .inr (by rw [h.sc];exact z)),zO s (uG i)⟩
variable {tg iter:Expr} {wi:UI}
theorem iT (h:bA D e te):A6 D tg e (sX te):=by
 obtain ⟨_,p,s⟩:=h
 refine ⟨_,fun X h=>?_,L8 s⟩
 have:=PV (tg:=tg) (p X h)
 rw [h.K] at this
 exact this
theorem NZ {p:Pos} {ta:UA} (hm:D.mg "range"=none) (ha:lH D [a] ta) (hg:D.sc.names.lookup ("range":Str)=some .globalImplicit:=by rfl) (hs:∀ env,starEach [a] env=[(false,eval a env)]:=by intro _;rfl):A6 D tg (.Call (.Name "range" p) [a] [] pos) (tT ta):=by
 obtain ⟨_,q,s⟩:=ha
 exact ⟨_,fun X h=>IP (by show X.env.scope.names.lookup _=_;rw [h.sc];exact hg) (by rw [h.mg];exact hm) (q X h) (hs _),LA s⟩
theorem oR (hi:A6 D tg iter wi) (hg:D6 D k tg g) (hb:nR D body t) (hs:∀ env x,foldedSetIterable iter env x=pure x:=by intro _ _;rfl):sH D (.For tg iter body [] pos) (HE wi g t):=by
 obtain ⟨_,p,s⟩:=hi;obtain ⟨_,q,r,_⟩:=hg;obtain ⟨_,x,y⟩:=hb
 exact ⟨_,fun X h=>Qs (by rw [h.xe];exact PassesOwn.never) h.calm (p X h) (q X h) (x X h) (hs _),O6 s r y⟩
end
end U2
namespace U2
open PySem PySem.Spec PyProof.Rows L2
structure Callee (P:Program) (w:World) (K:PySem.W.Frag) (mg:Str->Option Value) (base:Heap) (j:Nat) (x:Str) (sp:bN) (dus:List U):Prop where
 ex:∃ f fd ps dvs ds,gI P w K mg base mM j f fd ps (dQ K sp)/\mg x=some (.ref f)/\PySem.W.keepIn K (.ref f)=true/\Binds K fd ps ds/\Vals dvs ds/\∀ H M,aK K H M dus dvs
abbrev TZ (D:Dat):=Callee D.prog D.w D.K D.mg D.base
section
variable {D:Dat} {a b c e o:Expr} {ta tb tc te:UE} {pos p:Pos} {es:List Expr} {tas:UA} {x:Str}
theorem aR {sp:bN} {dus:List U} {j:Nat} (F:TZ D j x sp dus) (ha:lH D (e :: es) tas) (hj:j<=D.k:=by first | exact Nat.le_refl _ | (dsimp only;omega) | omega | (dsimp only [cQ];omega)) (hg:D.sc.names.lookup x=some .globalImplicit:=by rfl) (hdb:(x == ("__debug__":Str))=false:=by decide)
  (he:∀ env,starEach (e :: es) env=(false,eval e env) :: starEach es env:=by intro _;rfl) (hpl:∀ env,(backTo pos (starEach es env)).any (·.1)=false:=by intro _;rfl):bA D (.Call (.Name x p) (e :: es) [] pos) (tS sp dus tas):=by
 obtain ⟨f,fd,ps,dvs,ds,F,hm,kp,hb,hd,hr⟩:=F.ex
 obtain ⟨_,q,s⟩:=ha
 refine ⟨G1 (dQ D.K sp) dvs E0 _,fun X h=>?_,KI hr s⟩
 have F':gI X.prog X.w X.K X.mg X.base mM j f fd ps (dQ D.K sp):=by rw [h.prog,h.w,h.K,h.mg,h.base];exact F
 exact OT F' (h.room.mono hj) (by show X.env.scope.names.lookup x=_;rw [h.sc];exact hg) (by rw [h.mg];exact hm) (by rw [h.K];exact kp) (by rw [h.K];exact hb) hd BS (q X h) hdb (he _) (hpl _)
structure yH (D:Dat) (f:Value) (r':List U->aG->UK->Prop):Prop where
 ex:∃ r,(∀ X,mU D X->jB X f r)/\vE D.K r r'
theorem b8 {id:String} {r':List U->aG->UK->Prop} (k:yH D (.builtin id) r') (hm:D.mg x=none) (ha:lH D (e :: es) tas) (hv:bootBuiltins x=some (.builtin id):=by kernel_rfl) (hg:D.sc.names.lookup x=some .globalImplicit:=by rfl) (hn:x≠"__name__":=by decide) (hdb:(x == ("__debug__":Str))=false:=by decide)
  (he:∀ env,starEach (e :: es) env=(false,eval e env) :: starEach es env:=by intro _;rfl) (hpl:∀ env,(backTo pos (starEach es env)).any (·.1)=false:=by intro _;rfl):bA D (.Call (.Name x p) (e :: es) [] pos) (tV r' tas):=by
 obtain ⟨r,h1,h2⟩:=k.ex
 obtain ⟨_,q,s⟩:=ha
 exact ⟨_,fun X h=>Lb (h1 X h) (by show X.env.scope.names.lookup x=_;rw [h.sc];exact hg) (by rw [h.mg];exact hm) hv (q X h) hn hdb (he _) (hpl _),Jo h2 s⟩
theorem oX {T:String} {r':List U->aG->UK->Prop} (k:yH D (.type T) r') (hm:D.mg x=none) (ha:lH D (e :: es) tas) (hv:bootBuiltins x=some (.type T):=by kernel_rfl) (hg:D.sc.names.lookup x=some .globalImplicit:=by rfl) (hn:x≠"__name__":=by decide) (hdb:(x == ("__debug__":Str))=false:=by decide)
  (he:∀ env,starEach (e :: es) env=(false,eval e env) :: starEach es env:=by intro _;rfl) (hpl:∀ env,(backTo pos (starEach es env)).any (·.1)=false:=by intro _;rfl):bA D (.Call (.Name x p) (e :: es) [] pos) (tV r' tas):=by
 obtain ⟨r,h1,h2⟩:=k.ex
 obtain ⟨_,q,s⟩:=ha
 exact ⟨_,fun X h=>JQ (h1 X h) (by show X.env.scope.names.lookup x=_;rw [h.sc];exact hg) (by rw [h.mg];exact hm) hv (q X h) hn hdb (he _) (hpl _),Jo h2 s⟩
theorem cO:yH D (.builtin "len") rR:=⟨⟨_,fun X h=>by have:=LU (X:=X);rw [h.K] at this;exact this,NW⟩⟩
theorem vI:yH D (.type "str") (oD (fun i=>i.natAbs.log2 < 1920) fun i=>.str (toString i)):=⟨⟨_,fun X h=>Ea,Hm⟩⟩
theorem vH:yH D (.type "tuple") oJ:=⟨⟨_,fun X h=>by have:=BE (X:=X);rw [h.K] at this;exact this,Ki⟩⟩
noncomputable def Qj (K:PySem.W.Frag):List V->Hp->VK->Prop:=fun xs H Q=>∃ x T t b,xs=[x,.ty T]/\(nY K H x (.type t)\/(t="tuple"/\∃ p vs ob,x=.ref p/\H p=some (.frz ob (.tup vs)))\/(t="tuple"/\∃ p vs,x=.ref p/\KT K p vs)\/(t="list"/\∃ p vs,x=.ref p/\KL K p vs)\/(t="dict"/\∃ p ob u,x=.ref p/\H p=some (.frz ob u)/\Md u=true))/\PySem.W.kitOne K (.type t) (.type T)=some b/\Q (.bl b) H
theorem LJ {X:Cx}:jB X (.builtin "isinstance") (Qj X.K):=by
 intro pins s σ H xs us Q I r h
 obtain ⟨x,T,t,b,rfl,ty,e,q⟩:=h
 obtain ⟨u,w',rfl,ru,rw'⟩:=vals2 r
 cases rw'
 rcases ty with ty | ⟨rfl,p,vs,ob,rfl,m⟩ | ⟨rfl,p,vs,rfl,o,its,n,hk,hc,hd,_,_⟩ | ⟨rfl,p,vs,rfl,o,its,n,hk,hc,_,hd,_,_⟩ | ⟨rfl,p,ob,du,rfl,m,dk⟩
 ·exact Kt I ru ty e fun tk=>⟨.bl b,H,I.tok tk,rfl,q⟩
 ·cases ru
  obtain ⟨_,_,_,_,o,h1,h2,_⟩:=(show eA X.prog X.w H s.heap p (.frz ob (.tup vs)) from I.hok p _ m)
  exact PySem.W.kia_one PySem.W.kitx_tuple I.kIn ⟨o,h1,h2⟩ e (fun z=>nomatch z) fun tk=>⟨.bl b,H,I.tok tk,rfl,q⟩
 ·cases ru
  exact PySem.W.kia_one PySem.W.kitx_tuple I.kIn ⟨o,I.kIn _ _ hk,hc⟩ e (fun z=>nomatch z) fun tk=>⟨.bl b,H,I.tok tk,rfl,q⟩
 ·cases ru
  exact PySem.W.kia_one PySem.W.kitx_list I.kIn ⟨o,I.kIn _ _ hk,hc⟩ e (fun z=>nomatch z) fun tk=>⟨.bl b,H,I.tok tk,rfl,q⟩
 ·cases ru
  obtain ⟨hg,ho⟩:=(show eA X.prog X.w H s.heap p (.frz ob du) from I.hok p _ m)
  have hx:∃ o,s.heap.get? p=some o/\o.cls=.type "dict":=by
   cases du with
   | dK kvs=>obtain ⟨_,_,_,_,o,_,_,h1,h2,_⟩:=ho;exact ⟨o,h1,h2.1⟩
   | dT kvs=>obtain ⟨_,_,_,_,o,_,_,h1,h2,_⟩:=ho;exact ⟨o,h1,h2.1⟩
   | _=>cases dk
  exact PySem.W.kia_one PySem.W.kitx_dict I.kIn hx e (fun z=>nomatch z) fun tk=>⟨.bl b,H,I.tok tk,rfl,q⟩
noncomputable def yX:List (String × String × Bool):=[("NoneType","bool",false),("NoneType","int",false),("NoneType","str",false),("NoneType","tuple",false),("NoneType","list",false),("NoneType","dict",false),("bool","bool",true),("bool","int",true),("bool","str",false),("bool","tuple",false),("bool","list",false),("bool","dict",false),("int","bool",false),("int","int",true),("int","str",false),("int","tuple",false),("int","list",false),("int","dict",false),("str","bool",false),("str","int",false),("str","str",true),("str","tuple",false),("str","list",false),("str","dict",false),("tuple","bool",false),("tuple","int",false),("tuple","str",false),("tuple","tuple",true),("tuple","list",false),("tuple","dict",false),("list","bool",false),("list","int",false),("list","str",false),("list","tuple",false),("list","list",true),("list","dict",false),("dict","bool",false),("dict","int",false),("dict","str",false),("dict","tuple",false),("dict","list",false),("dict","dict",true)]
theorem IU {K:PySem.W.Frag}:∀ r∈yX,PySem.W.kitOne K (.type r.1) (.type r.2.1)=some r.2.2:=by
 intro r hr
 simp only [yX,List.mem_cons,List.not_mem_nil,or_false] at hr
 rcases hr with rfl | rfl | rfl | rfl | rfl | rfl | rfl | rfl | rfl | rfl | rfl | rfl | rfl | rfl | rfl | rfl | rfl | rfl | rfl | rfl | rfl | rfl | rfl | rfl | rfl | rfl | rfl | rfl | rfl | rfl | rfl | rfl | rfl | rfl | rfl | rfl | rfl | rfl | rfl | rfl | rfl | rfl <;> first | rfl | kernel_rfl
noncomputable def bE (t T:String):Option Bool:=(yX.find? fun r=>r.1 == t && r.2.1 == T).map (·.2.2)
theorem Im {K:PySem.W.Frag} {t T:String} {b:Bool} (h:bE t T=some b):PySem.W.kitOne K (.type t) (.type T)=some b:=by
 unfold bE at h
 cases e:yX.find? fun r=>r.1 == t && r.2.1 == T with
 | none=>rw [e] at h;cases h
 | some r =>
  rw [e] at h
  cases h
  have h1:=List.find?_some e
  have h2:=IU (K:=K) r (List.mem_of_find?_eq_some e)
  simp only [Bool.and_eq_true,beq_iff_eq] at h1
  rw [h1.1,h1.2] at h2
  exact h2
noncomputable def q8:List U->aG->UK->Prop:=fun us M Q=>match us with
 | [x,.ty T]=>match xO M x with
  | some t=>match bE t T with
   | some b=>Q (.bl b) M
   | none=>False
  | none=>False
 | _=>False
theorem Pm {K:PySem.W.Frag}:vE K (Qj K) q8:=fun xs us H M Q' rm rus h Q c=>by
 unfold q8 at h
 split at h
 ·rename_i x T
  split at h
  ·rename_i t e
   split at h
   ·rename_i b e2
    obtain ⟨v,z,rfl,a1,a2⟩:=rus.two
    cases a2.ty
    refine ⟨v,T,t,b,rfl,?_,Im e2,c.here rm dF h⟩
    cases x with
    | non=>cases a1.non;cases e;exact .inl .non
    | bl y=>cases a1.bl;cases e;exact .inl (.bl y)
    | int y=>cases a1.int;cases e;exact .inl (.int y)
    | str y=>cases a1.str;cases e;exact .inl (.str y)
    | ty y=>cases e
    | tup y =>
     cases e
     simp only [aP] at a1
     obtain ⟨a,vs,rfl,m,r⟩:=a1
     exact .inl (.tup m.2)
    | lst y =>
     cases e
     simp only [aP] at a1
     obtain ⟨a,vs,rfl,m,r⟩:=a1
     rcases m with ⟨_,m | ⟨ob,m⟩⟩ | k
     ·exact .inl (.lst m)
     ·exact .inl (.frz m)
     ·exact .inr (.inr (.inr (.inl ⟨rfl,a,vs,rfl,k⟩)))
    | dic ks tk y =>
     cases e
     simp only [aP] at a1
     obtain ⟨a,vs,rfl,m,r,_⟩:=a1
     cases tk with
     | true =>
      obtain ⟨ws,h1 | ⟨ob,h1⟩,_⟩:=r
      ·exact .inl (.dT h1)
      ·exact .inr (.inr (.inr (.inr ⟨rfl,a,ob,_,rfl,h1,rfl⟩)))
     | false =>
      obtain ⟨ws,h1 | ⟨ob,h1⟩,_⟩:=r
      ·exact .inl (.dK h1)
      ·exact .inr (.inr (.inr (.inr ⟨rfl,a,ob,_,rfl,h1,rfl⟩)))
    | ref y =>
     cases a1.ref
     simp only [xO] at e
     split at e
     ·rename_i ws e3
      cases e
      obtain ⟨vs,h1,_⟩:=rm y _ e3
      exact .inl (.lst h1)
     ·rename_i ws e4
      cases e
      obtain ⟨vs,h1,_⟩:=rm y _ e4;exact .inl (.dK h1)
     ·rename_i ws e4
      cases e
      obtain ⟨vs,h1,_⟩:=rm y _ e4;exact .inl (.dT h1)
     ·cases e
   ·exact h.elim
  ·exact h.elim
 ·exact h.elim
theorem h9:yH D (.builtin "isinstance") q8:=⟨⟨_,fun X h=>by have:=LJ (X:=X);rw [h.K] at this;exact this,Pm⟩⟩
noncomputable def oV:List U->Option (List Bool)
 | []=>some []
 | .bl b :: r=>(oV r).map (b :: ·)
 | _=>none
noncomputable def xF:List U->aG->UK->Prop:=fun us M Q=>match us with
 | [x]=>match view M x with
  | .lst ws=>match oV ws with
   | some bs=>Q (.bl (bs.all fun b=>b)) M
   | none=>False
  | _=>False
 | _=>False
theorem B5 {K:PySem.W.Frag} {H:Hp} {M:aG}:∀ {us:List U} {vs:List V} {bs:List Bool},aK K H M us vs->oV us=some bs->vs=bs.map V.bl
 | [],_,_,r,h=>by cases h;exact r.inv_nil
 | u :: us,_,bs,r,h=>by
  obtain ⟨v,vs',rfl,a,b⟩:=r.inv_cons
  cases u with
  | bl y =>
   simp only [oV] at h
   cases e:oV us with
   | none=>rw [e] at h;cases h
   | some cs =>
    rw [e] at h
    cases h
    rw [B5 b e,a.bl];rfl
  | _=>cases h
theorem F7:yH D (.builtin "all") xF:=⟨⟨_,fun X h=>by have:=Jh (X:=X) h.calm;rw [h.K] at this;exact this,fun xs us H M Q' rm rus h Q c=>by
 unfold xF at h
 split at h
 ·rename_i x
  obtain ⟨v,rfl,a1⟩:=rus.one
  split at h
  ·rename_i ws e
   split at h
   ·rename_i bs e2
    obtain ⟨b,zvs,rfl,s2,r2⟩:=gE rm a1 e
    rw [B5 r2 e2] at s2
    exact ⟨b,bs,rfl,s2,c.here rm dF h⟩
   ·exact h.elim
  ·exact h.elim
 ·exact h.elim⟩⟩
theorem eG {apos:Pos} (ho:bA D o ta) (ha:lH D [e] tas) (hbase:∀ env,attributeBase o "append" env (eval o env)=eval o env:=by intro _;rfl)
  (hfew:∀ env,((backTo pos (starEach [e] env)).all (fun x=>!x.1) && (backToKw pos (keywordEach [] env)).all (fun x=>x.1.isSome) && decide ([e].length + ([]:List Keyword).length + (if ([]:List Keyword).isEmpty then 0 else 1) < 30))=true:=by intro _;rfl)
  (hline:(apos.endLine == pos.line)=true:=by rfl) (hs:∀ env,starEach [e] env=[(false,eval e env)]:=by intro _;rfl):bA D (.Call (.Attribute o "append" apos) [e] [] pos) (Bc mO ta tas):=by
 obtain ⟨_,p,s⟩:=ho;obtain ⟨_,q,r⟩:=ha
 refine ⟨_,fun X h=>?_,Jr Gp s r⟩
 have:=vY (cpos:=pos) (apos:=apos) PySem.F.plainAttrs_list PySem.F.slot_list_append PySem.F.type_list_append AH (p X h) (q X h) (hbase _) (hfew _) hline (hs _) (by rfl)
 rw [h.K] at this
 exact this
theorem oK {apos:Pos} (ho:bA D o ta) (hbase:∀ env,attributeBase o "pop" env (eval o env)=eval o env:=by intro _;rfl)
  (hline:(apos.endLine == pos.line)=true:=by rfl):bA D (.Call (.Attribute o "pop" apos) [] [] pos) (xM uB ta):=by
 obtain ⟨_,p,s⟩:=ho
 refine ⟨_,fun X h=>?_,O5 O8 s⟩
 have:=QH (cpos:=pos) (apos:=apos) PySem.F.plainAttrs_list PySem.F.slot_list_pop PySem.F.type_list_pop Ro (p X h) (hbase _) hline
 rw [h.K] at this
 exact this
noncomputable def dS (scope sc:Scope):Scope :=
 { scope with names:=scope.names.map fun (n,k)=>if (k == .free && sc.kind == .function && sc.names.lookup n == some .cell) then (n,.cell) else (n,k) }
noncomputable def cQ (D:Dat) (N:List Str) (scope:Scope):Dat:={ D with N:=N,sc:=dS scope D.sc,fn:=false,cod:=.none }
theorem mU.comp {X:Cx} (h:mU D X) (N:List Str) (scope:Scope) (cl:List (Str × Addr)) (C:Addr) (s:Shared) (H:Hp) (fp:List Addr):mU (cQ D N scope) (dZ X N scope cl C s H fp) :=
 ⟨h.prog,h.w,h.K,h.mg,h.base,rfl,by show dS scope X.env.scope=dS scope D.sc;rw [h.sc],h.room,h.calm,rfl,(fun z=>by cases z),(fun z=>absurd rfl z),(fun z=>by cases z)⟩
theorem mG:He D [] (fun _ M Q=>Q true M):=⟨Qz,fun X h=>N8,fun σ τ H M Q' rs rm q Q c=>c true M H (aZ.refl _ _) rm q⟩
theorem Nz {t:UT} (h:qF D c t):He D [c] t:=let ⟨_,p,s⟩:=h;⟨_,fun X h=>Nx (p X h),s⟩
theorem n8 (own:Bool) (N:List Str) (k:Nat) (ix:List Nat) {scope:Scope} {tg iter elt:Expr} {ifs:List Expr} {wi:UI} {g:UG} {tcs:UT} (hi:A6 D tg iter wi) (hg:D6 (cQ D N scope) k tg g) (hif:He (cQ D N scope) ifs tcs) (he:bA (cQ D N scope) elt te)
  (hk:scope.kind=.function:=by rfl) (hcell:∀ y∈scope.names,y.2≠.cell:=by first | decide +kernel | (dsimp only;decide +kernel) | (dsimp only [cQ,dS];decide +kernel)) (hnames:∀ y∈scope.names,y.2=.local->scope.names.lookup y.1=some .local:=by first | decide +kernel | (dsimp only;decide +kernel) | (dsimp only [cQ,dS];decide +kernel))
  (hfree:∀ y∈scope.names,y.2=.free->D.sc.names.lookup y.1=some .cell\/D.sc.names.lookup y.1=some .free:=by first | decide +kernel | (dsimp only;decide +kernel) | (dsimp only [cQ,dS];decide +kernel)) (hone:∀ y∈scope.names,y.2=.free->scope.names.lookup y.1=some .free:=by first | decide +kernel | (dsimp only;decide +kernel) | (dsimp only [cQ,dS];decide +kernel))
  (hN:ix.map (fun i=>D.N[i]?)=(N.drop k).map some:=by rfl) (hcap:∀ x∈N.drop k,scope.names.lookup x=some .free:=by first | decide +kernel | (dsimp only;decide +kernel) | (dsimp only [cQ,dS];decide +kernel)) (hlen:N.length=k + ix.length:=by rfl)
  (hs:∀ env x,foldedSetIterable iter env x=pure x:=by intro _ _;rfl):bA D (.ListComp elt [⟨tg,iter,ifs,0⟩] scope pos) (xW own k ix wi g tcs te):=by
 obtain ⟨_,p1,s1⟩:=hi;obtain ⟨_,p2,s2,gk,_⟩:=hg;obtain ⟨_,p3,s3⟩:=hif;obtain ⟨_,p4,s4⟩:=he
 have hN':∀ (j:Nat) x,N[k + j]?=some x->∃ i,ix[j]?=some i/\D.N[i]?=some x:=fun j x e=>by
  have e1:((N.drop k).map some)[j]?=some (some x):=by rw [List.getElem?_map,List.getElem?_drop,e];rfl
  rw [<- hN,List.getElem?_map] at e1
  cases q:ix[j]? with
  | none=>rw [q] at e1;cases e1
  | some i=>rw [q] at e1;exact ⟨i,rfl,Option.some.inj e1⟩
 have hcap':∀ (j:Nat) x,N[k + j]?=some x->scope.names.lookup x=some .free:=fun j x e=>hcap x (List.mem_of_getElem? (i:=j) (by rw [List.getElem?_drop];exact e))
 refine ⟨_,fun X h=>NH (N:=N) (k:=k) (ix:=ix) h.calm (p1 X h) gk hk hcell hnames (fun y hy e=>by show X.env.scope.names.lookup y.1=_\/X.env.scope.names.lookup y.1=_;rw [h.sc];exact hfree y hy e) hone (fun j x e=>by rw [h.N];exact hN' j x e) hcap' hlen
  (fun cl C s H fp=>p2 _ (h.comp N scope cl C s H fp)) (fun cl C s H fp=>p3 _ (h.comp N scope cl C s H fp)) (fun cl C s H fp=>p4 _ (h.comp N scope cl C s H fp)) (hs _),DO s1 s2 s3 s4⟩
theorem K8 {elt:Expr} {gens:List Comprehension} {scope:Scope} {pos py:Pos} {y:Str} {line:Nat} {env:Env} (h1:env.scope.kind=.function) (h2:env.scope.names.lookup y=some .local) (h3:(py.line == pos.line && !(scope.names.any fun (n,k)=>n == y && (k == .local || k == .cell)))=true) :
  swapsWith (.ListComp elt gens scope pos) (some (.Name y py)) line env=pure true:=by
 have e1:(env.blockKind == .function)=true:=by first | (unfold Env.blockKind;rw [h1];rfl) | (unfold Env.blockKind;simp [h1])
 have e2:(env.kindOf y == some .local)=true:=by unfold Env.kindOf;rw [h2];rfl
 show pure (env.blockKind == .function && env.kindOf y == some .local && py.line == pos.line && !(scope.names.any fun (n,k)=>n == y && (k == .local || k == .cell)))=pure true
 rw [e1,e2]
 simp only [Bool.and_eq_true] at h3
 rw [h3.1,h3.2]
 rfl
theorem Fd (i:Nat) {y:Str} {spos py:Pos} (hNd:D.N.Nodup) (own:Bool) (N:List Str) (k:Nat) (ix:List Nat) {scope:Scope} {tg iter elt:Expr} {ifs:List Expr} {wi:UI} {g:UG} {tcs:UT} (hi:A6 D tg iter wi) (hg:D6 (cQ D N scope) k tg g) (hif:He (cQ D N scope) ifs tcs) (he:bA (cQ D N scope) elt te)
  (hk:scope.kind=.function:=by rfl) (hcell:∀ y∈scope.names,y.2≠.cell:=by first | decide +kernel | (dsimp only;decide +kernel) | (dsimp only [cQ,dS];decide +kernel)) (hnames:∀ y∈scope.names,y.2=.local->scope.names.lookup y.1=some .local:=by first | decide +kernel | (dsimp only;decide +kernel) | (dsimp only [cQ,dS];decide +kernel))
  (hfree:∀ y∈scope.names,y.2=.free->D.sc.names.lookup y.1=some .cell\/D.sc.names.lookup y.1=some .free:=by first | decide +kernel | (dsimp only;decide +kernel) | (dsimp only [cQ,dS];decide +kernel)) (hone:∀ y∈scope.names,y.2=.free->scope.names.lookup y.1=some .free:=by first | decide +kernel | (dsimp only;decide +kernel) | (dsimp only [cQ,dS];decide +kernel))
  (hN:ix.map (fun i=>D.N[i]?)=(N.drop k).map some:=by rfl) (hcap:∀ x∈N.drop k,scope.names.lookup x=some .free:=by first | decide +kernel | (dsimp only;decide +kernel) | (dsimp only [cQ,dS];decide +kernel)) (hlen:N.length=k + ix.length:=by rfl)
  (hs:∀ env x,foldedSetIterable iter env x=pure x:=by intro _ _;rfl) (hl1:D.sc.kind=.function:=by rfl) (hl2:D.sc.names.lookup y=some .local:=by rfl) (hl3:(py.line == pos.line && !(scope.names.any fun (n,k)=>n == y && (k == .local || k == .cell)))=true:=by decide +kernel)
  (hiy:D.N[i]?=some y:=by rfl) (hy:Loc D.sc y:=by first | exact Or.inl rfl | exact Or.inr rfl) (hf:D.fn=true\/D.sc.names.lookup y=some .local:=by first | exact .inl rfl | exact .inr rfl):sH D (.Assign [.Name y py] (.ListComp elt [⟨tg,iter,ifs,0⟩] scope pos) spos) (bU (xW own k ix wi g tcs te) (hName i)):=by
 obtain ⟨_,p1,s1⟩:=hi;obtain ⟨_,p2,s2,gk,_⟩:=hg;obtain ⟨_,p3,s3⟩:=hif;obtain ⟨_,p4,s4⟩:=he
 have hN':∀ (j:Nat) x,N[k + j]?=some x->∃ i,ix[j]?=some i/\D.N[i]?=some x:=fun j x e=>by
  have e1:((N.drop k).map some)[j]?=some (some x):=by rw [List.getElem?_map,List.getElem?_drop,e];rfl
  rw [<- hN,List.getElem?_map] at e1
  cases q:ix[j]? with
  | none=>rw [q] at e1;cases e1
  | some i=>rw [q] at e1;exact ⟨i,rfl,Option.some.inj e1⟩
 have hcap':∀ (j:Nat) x,N[k + j]?=some x->scope.names.lookup x=some .free:=fun j x e=>hcap x (List.mem_of_getElem? (i:=j) (by rw [List.getElem?_drop];exact e))
 refine ⟨_,fun X h=>N4 (i:=i) (N:=N) (k:=k) (ix:=ix) h.calm (p1 X h) gk hk hcell hnames (fun y hy e=>by show X.env.scope.names.lookup y.1=_\/X.env.scope.names.lookup y.1=_;rw [h.sc];exact hfree y hy e) hone (fun j x e=>by rw [h.N];exact hN' j x e) hcap' hlen
  (fun cl C s H fp=>p2 _ (h.comp N scope cl C s H fp)) (fun cl C s H fp=>p3 _ (h.comp N scope cl C s H fp)) (fun cl C s H fp=>p4 _ (h.comp N scope cl C s H fp)) (hs _) (K8 (by rw [h.sc];exact hl1) (by rw [h.sc];exact hl2) hl3) (by rw [h.N];exact hNd) (by rw [h.N];exact hiy) (by rw [h.sc];exact hy) (by rcases hf with z | z;exact .inl (h.fn z y);exact .inr (by rw [h.sc];exact z)),zO (DO s1 s2 s3 s4) (uG i)⟩
end
section
variable {P:Program} {w:World} {K:PySem.W.Frag} {mg:Str->Option Value} {base:Heap}
theorem uF {H:Hp} {M:aG} {N:List Str} {us:List U} {vs:List V} (r:aK K H M us vs):dW K H M (L2.start N vs) (eU N us):=by
 have hl:=r.length
 refine ⟨by simp [L2.start,eU,hl],fun i u e=>?_⟩
 unfold eU at e
 unfold L2.start
 by_cases hi:i < us.length
 ·rw [List.getElem?_append_left (by simpa using hi),List.getElem?_map] at e
  cases q:us[i]? with
  | none=>rw [q] at e;cases e
  | some u' =>
   rw [q] at e
   cases e
   obtain ⟨v,h1,h2⟩:=r.get q
   exact ⟨v,by rw [List.getElem?_append_left (by rw [List.length_map];omega),List.getElem?_map,h1];rfl,h2⟩
 ·rw [List.getElem?_append_right (by simpa using hi),List.getElem?_replicate] at e
  split at e <;> cases e
theorem zY {x:Str} {st:Stmt} {f:Addr} {fd:FuncData} {N ps:List Str} {k:Nat} {sp:bN} {t:US} (F:cF K x x st f fd) (S:aY N ps (aE st))
  (len:∀ us M Q,sp us M Q->us.length=ps.length)
  (h:nR ⟨P,w,K,mg,base,N,aE st,k,true,.none,""⟩ (aS st) t)
  (q:∀ us M Q,sp us M Q->t { nx:=fun _ M'=>i4 Q .non M',rt:=i4 Q } (eU N us) M):gI P w K mg base mM (k + 1) f fd ps (dQ K sp):=by
 obtain ⟨t0,h1,h2⟩:=h
 refine F.ok S (fun vs H Q E ⟨us,M,Q',_,r,hs,_⟩=>by rw [<- r.length];exact len us M Q' hs) (fun cdv A outer s H vs Q E hr ⟨us,M,Q',rm,r,hs,c⟩=>?_)
 refine ⟨t0,h1 _ ⟨rfl,rfl,rfl,rfl,rfl,rfl,rfl,hr,rfl,rfl,fun _ _=>rfl,fun h=>absurd rfl h,fun _=>⟨rfl,rfl,rfl⟩⟩,?_⟩
 refine h2 _ (eU N us) H M _ (uF r) rm (q us M Q' hs) _ ⟨fun σ τ H1 M1 s1 rm1 rs1 q1=>?_,fun u v H1 M1 s1 rm1 ru q1=>i4.ok c s1 rm1 ru q1,fun _ _ _ _ _ _ _ z=>z.elim,fun _ _ _ _ _ _ _ z=>z.elim⟩
 exact i4.ok c s1 rm1 nZ q1
theorem Jy {x:Str} {st:Stmt} {f:Addr} {fd:FuncData} {N ps:List Str} {k:Nat} {sp:bN} {t:US} (F:cF K x x st f fd) (hm:mg x=some (.ref f)) (S:aY N ps (aE st))
  (bind:∀ (kV doc pm:Value) (an:Option Addr) (cdv ct:Value) (us:List Value),us.length=ps.length->bindArgs (PySem.W.fnOf x x (aX st) (aS st) (aE st) .none kV doc pm an cdv ct) ⟨us,[]⟩=pure (ps.zip us))
  (len:∀ us M Q,sp us M Q->us.length=ps.length)
  (h:nR ⟨P,w,K,mg,base,N,aE st,k,true,.none,""⟩ (aS st) t)
  (q:∀ us M Q,sp us M Q->t { nx:=fun _ M'=>i4 Q .non M',rt:=i4 Q } (eU N us) M):Callee P w K mg base (k + 1) x sp []:=by
 obtain ⟨t0,h1,h2⟩:=h
 refine ⟨f,fd,ps,[],[],F.ok S (fun vs H Q E ⟨us,M,Q',_,r,hs,_⟩=>by rw [<- r.length];exact len us M Q' hs) (fun cdv A outer s H vs Q E hr ⟨us,M,Q',rm,r,hs,c⟩=>?_),hm,F.kp,F.binds bind,.nil,fun H M=>.nil⟩
 refine ⟨t0,h1 _ ⟨rfl,rfl,rfl,rfl,rfl,rfl,rfl,hr,rfl,rfl,fun _ _=>rfl,fun h=>absurd rfl h,fun _=>⟨rfl,rfl,rfl⟩⟩,?_⟩
 refine h2 _ (eU N us) H M _ (uF r) rm (q us M Q' hs) _ ⟨fun σ τ H1 M1 s1 rm1 rs1 q1=>?_,fun u v H1 M1 s1 rm1 ru q1=>i4.ok c s1 rm1 ru q1,fun _ _ _ _ _ _ _ z=>z.elim,fun _ _ _ _ _ _ _ z=>z.elim⟩
 exact i4.ok c s1 rm1 nZ q1
end
end U2
namespace U2
open PySem L2
theorem fG:bE "NoneType" "bool"=some false:=by decide +kernel
theorem gD:bE "NoneType" "int"=some false:=by decide +kernel
theorem gB:bE "NoneType" "str"=some false:=by decide +kernel
theorem eX:bE "NoneType" "tuple"=some false:=by decide +kernel
theorem fF:bE "NoneType" "list"=some false:=by decide +kernel
theorem fJ:bE "NoneType" "dict"=some false:=by decide +kernel
theorem jF:bE "bool" "bool"=some true:=by decide +kernel
theorem kH:bE "bool" "int"=some true:=by decide +kernel
theorem kD:bE "bool" "str"=some false:=by decide +kernel
theorem iV:bE "bool" "tuple"=some false:=by decide +kernel
theorem jC:bE "bool" "list"=some false:=by decide +kernel
theorem jQ:bE "bool" "dict"=some false:=by decide +kernel
theorem kI:bE "int" "bool"=some false:=by decide +kernel
theorem lQ:bE "int" "int"=some true:=by decide +kernel
theorem lT:bE "int" "str"=some false:=by decide +kernel
theorem jK:bE "int" "tuple"=some false:=by decide +kernel
theorem kM:bE "int" "list"=some false:=by decide +kernel
theorem kO:bE "int" "dict"=some false:=by decide +kernel
theorem kK:bE "str" "bool"=some false:=by decide +kernel
theorem lN:bE "str" "int"=some false:=by decide +kernel
theorem lP:bE "str" "str"=some true:=by decide +kernel
theorem jO:bE "str" "tuple"=some false:=by decide +kernel
theorem kN:bE "str" "list"=some false:=by decide +kernel
theorem kC:bE "str" "dict"=some false:=by decide +kernel
theorem iY:bE "tuple" "bool"=some false:=by decide +kernel
theorem jG:bE "tuple" "int"=some false:=by decide +kernel
theorem jJ:bE "tuple" "str"=some false:=by decide +kernel
theorem hG:bE "tuple" "tuple"=some true:=by decide +kernel
theorem iS:bE "tuple" "list"=some false:=by decide +kernel
theorem iK:bE "tuple" "dict"=some false:=by decide +kernel
theorem jE:bE "list" "bool"=some false:=by decide +kernel
theorem kQ:bE "list" "int"=some false:=by decide +kernel
theorem kP:bE "list" "str"=some false:=by decide +kernel
theorem iX:bE "list" "tuple"=some false:=by decide +kernel
theorem jM:bE "list" "list"=some true:=by decide +kernel
theorem jN:bE "list" "dict"=some false:=by decide +kernel
theorem jP:bE "dict" "bool"=some false:=by decide +kernel
theorem kG:bE "dict" "int"=some false:=by decide +kernel
theorem kL:bE "dict" "str"=some false:=by decide +kernel
theorem iQ:bE "dict" "tuple"=some false:=by decide +kernel
theorem jH:bE "dict" "list"=some false:=by decide +kernel
theorem jI:bE "dict" "dict"=some true:=by decide +kernel
theorem aI {Q:UK} {u:U} {M:aG} (q:Q u M):i4 Q u M:=⟨u,M,Sub.refl M,.inl rfl,q⟩
theorem xV {o:Bool} {k:Nat} {ix:List Nat} {wi:UI} {g:UG} {tc:UT} {te:UE} {τ:SU} {M M1:aG} {Q:UK} {S:Src} (f:U->Option U) (hw:∀ R:Src->aG->Prop,R S M1->wi τ M R) (hz:S.xs.length<=sizeLine) (hs:S.ok M1)
  (h:∀ x∈S.xs,∀ M,Sub M1 M->∀ R:Option U->aG->Prop,R (f x) M->g x (eW k ix τ) M fun τ2 M2=>tc τ2 M2 fun ok M3=>if ok=true then te τ2 M3 fun y M4=>R (some y) M4 else R none M3)
  (q:mP o (S.xs.filterMap f) M1 Q):xW o k ix wi g tc te τ M Q:=hw _ (Ji (wi:=wi) f hz hs h q)
theorem pQ {wi:UI} {g:UG} {tb:US} {D:mZ} {τ:SU} {M M1:aG} {S:Src} (hw:∀ R:Src->aG->Prop,R S M1->wi τ M R) (P:Nat->SU->aG->Prop) (h0:P 0 τ M1) (hok:∀ i τ M,P i τ M->S.ok M)
  (turn:∀ i x τ M,S.xs[i]?=some x->P i τ M->g x τ M fun τ2 M2=>tb { D with nx:=P (i + 1),ct:=P (i + 1),bk:=D.nx } τ2 M2) (fin:∀ τ M,P S.xs.length τ M->D.nx τ M):HE wi g tb D τ M:=hw _ ⟨P,h0,hok,turn,fin⟩
theorem i8 {c:UT} {tb:US} {D:mZ} {τ:SU} {M:aG} (P:SU->aG->Prop) (μ:SU->aG->Nat) (h0:P τ M)
  (turn:∀ τ M,P τ M->c τ M fun b M1=>if b=true then tb { D with nx:=fun τ' M'=>P τ' M'/\μ τ' M' < μ τ M,ct:=fun τ' M'=>P τ' M'/\μ τ' M' < μ τ M,bk:=D.nx } τ M1 else D.nx τ M1):y6 c tb D τ M:=⟨P,μ,h0,turn⟩
theorem Gu {lo:Int} {n i:Nat} {x:U} (h:(hZ lo n)[i]?=some x):x=.int (lo + i)/\i < n:=by
 have hi:i < n:=by
  have:=(List.getElem?_eq_some_iff.mp h).1
  simpa [hZ] using this
 simp only [hZ,List.getElem?_map,List.getElem?_range hi,Option.map_some] at h
 exact ⟨(Option.some.inj h).symm,hi⟩
theorem Hr (lo:Int) (n:Nat):(hZ lo n).length=n:=by simp [hZ]
end U2
namespace U2
open PySem PySem.Spec PyProof.Rows L2
inductive Fl where
 | int (i:Int) | str (x:Str)
noncomputable def Fl.d:Fl->PyData
 | .int i=>.int i
 | .str x=>.str x
noncomputable def Fl.u:Fl->U
 | .int i=>.int i
 | .str x=>.str x
noncomputable def Fl.v:Fl->V
 | .int i=>.int i
 | .str x=>.str x
noncomputable def LQ (T:List (Str × Fl)):List (PyData × PyData):=T.map fun p=>(PyData.str p.1,p.2.d)
noncomputable def cB:List (Str × Fl)->Str->Option Fl
 | [],_=>none
 | (a,b) :: r,z=>if a=z then some b else cB r z
structure i6 (P:Program) (w:World) (K:PySem.W.Frag) (d:Addr) (T:List (Str × Fl)):Prop where
 at_:∀ h:Heap,K.In h->StrTab P w h d (LQ T)
theorem R8 (a b:Str):same (.str a) (.str b)=decide (a=b):=by
 by_cases h:a=b <;> simp [same,h]
theorem lookup_tab:∀ (T:List (Str × Fl)) (z:Str),PySem.Spec.lookup (.str z) (LQ T)=(cB T z).map Fl.d
 | [],_=>rfl
 | (a,b) :: r,z=>by
  have ih:=lookup_tab r z
  show (if same (.str a) (.str z)=true then some b.d else PySem.Spec.lookup (.str z) (LQ r))=((if a=z then some b else cB r z).map Fl.d)
  rw [R8]
  by_cases e:a=z
  ·rw [if_pos (decide_eq_true e),if_pos e];rfl
  ·rw [if_neg (by simpa using e),if_neg e,ih]
noncomputable def rG (T:List (Str × Fl)):List (Str × PyData):=T.map fun p=>(p.1,p.2.d)
theorem tab_of {P:Program} {w:World} {K:PySem.W.Frag} {d:Addr} {T:List (Str × Fl)} (n:((rG T).map (·.1)).Nodup) (e:KTD.tabLook KTD.flatLooks (fun b=>K.lookup b) d (rG T)=true) (q:KTD.hashesOf (fun b=>K.lookup b) d=(rG T).map fun p=>(PySem.strKind P w).hash p.1):i6 P w K d T:=⟨fun h hK=>by
 have:=PySem.W.kt_tab_in P w hK e n q
 unfold rG at this
 rw [List.map_map] at this
 exact this⟩
section
variable {X:Cx} {d:Addr} {T:List (Str × Fl)}
theorem Lq (t:i6 X.prog X.w X.K d T):cY X (compareOp .In) (fun x y H Q=>∃ z,x=.str z/\y=.ref d/\Q (.bl (cB T z).isSome) H):=by
 intro pins s σ H x y v u Q I rx ry h
 obtain ⟨z,rfl,rfl,q⟩:=h
 obtain ⟨tk,rfl⟩:=rx
 cases ry
 refine in_strTab (t.at_ _ I.kIn) ?_
 rw [lookup_tab,Option.isSome_map]
 exact ⟨.bl _,H,I.tok _,rfl,q⟩
theorem Eh (t:i6 X.prog X.w X.K d T):cY X (compareOp .NotIn) (fun x y H Q=>∃ z,x=.str z/\y=.ref d/\Q (.bl (!(cB T z).isSome)) H):=by
 intro pins s σ H x y v u Q I rx ry h
 obtain ⟨z,rfl,rfl,q⟩:=h
 obtain ⟨tk,rfl⟩:=rx
 cases ry
 refine notin_strTab (t.at_ _ I.kIn) ?_
 rw [lookup_tab,Option.isSome_map]
 exact ⟨.bl _,H,I.tok _,rfl,q⟩
theorem OO {f:Fl} {v:Value} (h:PyProof.V.Flat v f.d):RelV f.v v:=by
 have:=h default
 cases f with
 | int i=>cases this;exact ⟨_,rfl⟩
 | str i=>cases this;exact ⟨_,rfl⟩
theorem RQ {x:Str} {px pos:Pos} {b:Expr} {ta tb:TE} (t:i6 X.prog X.w X.K d T) (ha:PE X (.Name x px) ta) (hb:PE X b tb) (hs:vD b) :
  PE X (.Subscript (.Name x px) b pos) (Fg (fun x y H Q=>∃ z f,x=.ref d/\y=.str z/\cB T z=some f/\Q f.v H) ta tb):=by
 intro pins s σ H Q I h
 refine Subscript_ (GB ha hb I h fun v u s2 x' y H2 I2 rx ry q=>?_)
 obtain ⟨z,f,rfl,rfl,e,q⟩:=q
 cases rx
 obtain ⟨tk,rfl⟩:=ry
 exact item_strTab (t.at_ _ I2.kIn) (dv:=f.d) (by rw [lookup_tab,e];rfl) (fun v hv=>⟨f.v,H2,I2.tok _,OO hv,q⟩) (hs _ _) (fun r=>rfl)
end
section
variable {D:Dat} {d:Addr} {T:List (Str × Fl)}
abbrev Tab (D:Dat):=i6 D.prog D.w D.K
noncomputable def aU (d:Addr) (T:List (Str × Fl)) (neg:Bool):eD:=fun x y M Q=>match x with
 | .str z=>y=.ref d/\Q (.bl (if neg then !(cB T z).isSome else (cB T z).isSome)) M
 | _=>False
theorem Fs (t:Tab D d T):nJ D .In (aU d T false):=⟨⟨_,fun X h=>Lq (by rw [h.prog,h.w,h.K];exact t),fun x y u w H M Q' rm ru rw h Q c=>by
 cases u with
 | str z=>obtain ⟨rfl,h⟩:=h;exact ⟨z,ru.str,rw.ref,c.here rm dF h⟩
 | _=>exact h.elim⟩⟩
theorem zL (t:Tab D d T):nJ D .NotIn (aU d T true):=⟨⟨_,fun X h=>Eh (by rw [h.prog,h.w,h.K];exact t),fun x y u w H M Q' rm ru rw h Q c=>by
 cases u with
 | str z=>obtain ⟨rfl,h⟩:=h;exact ⟨z,ru.str,rw.ref,c.here rm dF h⟩
 | _=>exact h.elim⟩⟩
noncomputable def aV (d:Addr) (T:List (Str × Fl)):eD:=fun x y M Q=>match y with
 | .str z=>x=.ref d/\match cB T z with
  | some f=>Q f.u M
  | none=>False
 | _=>False
theorem Q5 {K:PySem.W.Frag} {H:Hp} {M:aG} (f:Fl):aP K H M f.u f.v:=by cases f;exact cK;exact iF
theorem B4 {x:Str} {px pos:Pos} {b:Expr} {ta tb:UE} (t:Tab D d T) (ha:bA D (.Name x px) ta) (hb:bA D b tb) (hs:vD b:=by intro _ _;rfl):bA D (.Subscript (.Name x px) b pos) (gA (aV d T) ta tb):=by
 obtain ⟨_,p,s⟩:=ha;obtain ⟨_,q,r⟩:=hb
 refine ⟨_,fun X h=>RQ (d:=d) (T:=T) (by rw [h.prog,h.w,h.K];exact t) (p X h) (q X h) hs,uQ (fun x y u w H M Q' rm ru rw h Q c=>?_) s r⟩
 cases w with
 | str z =>
  obtain ⟨rfl,h⟩:=h
  cases e:cB T z with
  | none=>rw [e] at h;exact h.elim
  | some f=>rw [e] at h;exact ⟨z,f,ru.ref,rw.str,e,c.here rm (Q5 f) h⟩
 | _=>exact h.elim
noncomputable def yK (i:Nat) (f:Addr) (sp:Sp) (t:TA):TE:=fun σ H Q=>MA i σ H fun v H1=>v=.ref f/\t σ H1 fun vs H2=>sp vs H2 Q E0
theorem K9 {X:Cx} {x:Str} {p pos:Pos} {e:Expr} {es:List Expr} {i k:Nat} {f:Addr} {fd:FuncData} {ps:List Str} {sp:Sp} {t:TA} (hN:X.N[i]?=some x) (hv:AF X.env.scope x) (F:gI X.prog X.w X.K X.mg X.base mM k f fd ps sp) (hr:eI k X.A) (hk:PySem.W.keepIn X.K (.ref f)=true) (hb:Binds X.K fd ps [])
  (ha:PA X (e :: es) t) (hd:(x == ("__debug__":Str))=false) (hcd:(x == ("__classdict__":Str))=false) (he:starEach (e :: es) X.env=(false,eval e X.env) :: starEach es X.env) (hpl:(backTo pos (starEach es X.env)).any (·.1)=false) :
  PE X (.Call (.Name x p) (e :: es) [] pos) (yK i f sp t):=by
 intro pins s σ H Q I h
 refine wpAny_Call_Name_kw (bJ (Ce (i:=i) hN hv hd hcd pins s σ H _ I h) fun v s1 ⟨x',H1,I1,r1,e1,q1⟩=>?_)
 subst e1
 cases r1
 refine PySem.W.callWith_K (h₀:=X.base) I1.ok.mod.kin hk (bJ (ha pos pins s1 σ H1 _ I1 q1) fun us s2 ⟨vs,H2,I2,r,q⟩=>⟨I2.kIn,?_⟩) he hpl
 exact xU (dvs:=[]) F hr hb .nil BS I2 r (by rw [List.append_nil];exact q)
structure nU (P:Program) (w:World) (K:PySem.W.Frag) (mg:Str->Option Value) (base:Heap) (j:Nat) (f:Addr) (sp:bN):Prop where
 ex:∃ fd ps,gI P w K mg base mM j f fd ps (dQ K sp)/\PySem.W.keepIn K (.ref f)=true/\Binds K fd ps []
noncomputable def qH (i:Nat) (f:Addr) (sp:bN) (t:UA):UE:=fun τ M Q=>mB i τ M fun v M1=>v=.ref f/\t τ M1 fun us M2=>sp us M2 Q
theorem CK (i:Nat) {x:Str} {p pos:Pos} {e:Expr} {es:List Expr} {j:Nat} {f:Addr} {sp:bN} {tas:UA} (F:nU D.prog D.w D.K D.mg D.base j f sp) (ha:lH D (e :: es) tas) (hN:D.N[i]?=some x:=by rfl) (hv:AF D.sc x:=by first | exact Or.inl rfl | exact Or.inr (Or.inl rfl) | exact Or.inr (Or.inr rfl))
  (hj:j<=D.k:=by first | exact Nat.le_refl _ | (dsimp only;omega) | omega | (dsimp only [cQ];omega)) (hd:(x == ("__debug__":Str))=false:=by decide) (hcd:(x == ("__classdict__":Str))=false:=by decide)
  (he:∀ env,starEach (e :: es) env=(false,eval e env) :: starEach es env:=by intro _;rfl) (hpl:∀ env,(backTo pos (starEach es env)).any (·.1)=false:=by intro _;rfl):bA D (.Call (.Name x p) (e :: es) [] pos) (qH i f sp tas):=by
 obtain ⟨fd,ps,F,kp,hb⟩:=F.ex
 obtain ⟨t,q,s⟩:=ha
 refine ⟨yK i f (dQ D.K sp) t,fun X h=>?_,fun σ τ H M Q' rs rm h Q c=>?_⟩
 ·have F':gI X.prog X.w X.K X.mg X.base mM j f fd ps (dQ D.K sp):=by rw [h.prog,h.w,h.K,h.mg,h.base];exact F
  exact K9 (by rw [h.N];exact hN) (by rw [h.sc];exact hv) F' (h.room.mono hj) (by rw [h.K];exact kp) (by rw [h.K];exact hb) (q X h) hd hcd (he _) (hpl _)
 ·refine Ag i σ τ H M _ rs rm h _ fun u v M1 H1 s1 rm1 ru h1=>?_
  obtain ⟨rfl,h1⟩:=h1
  refine ⟨ru.ref,s σ τ H1 M1 _ (rs.stp s1) rm1 h1 _ fun us vs M2 H2 s2 rm2 rus h2=>?_⟩
  exact ⟨us,M2,Q',rm2,rus,h2,cN.stp c (s1.trans s2)⟩
end
end U2
namespace U2
open PySem PySem.Spec PyProof.Rows L2
noncomputable def half (j:Int):Nat:=((j + 1) / 2).toNat
theorem Tb {j:Int} (h:0<=j):Builtin.Range.rangeSize 0 j 2=(half j:Nat):=by
 unfold Builtin.Range.rangeSize half
 simp only [show (2:Int) > 0 by decide,if_true]
 split <;> omega
noncomputable def Ff (n:Nat):List U:=(List.range n).map fun (k:Nat)=>U.int ((k:Int) * 2)
theorem RU (n:Nat):(Ff n).length=n:=by simp [Ff]
end U2
namespace U2
open PySem PySem.Spec PyProof.Rows L2
noncomputable def pE:List U->Option (List Str)
 | []=>some []
 | .str b :: r=>(pE r).map (b :: ·)
 | _=>none
theorem u4 {K:PySem.W.Frag} {H:Hp} {M:aG}:∀ {us:List U} {vs:List V} {bs:List Str},aK K H M us vs->pE us=some bs->vs=bs.map V.str
 | [],_,_,r,h=>by cases h;exact r.inv_nil
 | u :: us,_,bs,r,h=>by
  obtain ⟨v,vs',rfl,a,b⟩:=r.inv_cons
  cases u with
  | str y =>
   simp only [pE] at h
   cases e:pE us with
   | none=>rw [e] at h;cases h
   | some cs =>
    rw [e] at h
    cases h
    rw [u4 b e,a.str];rfl
  | _=>cases h
end U2
namespace U2
open PySem L2
theorem DG {α:Type} {a:α} {r:List α}:eP (a :: r) 0=some a:=mL (j:=0) rfl
theorem Iy {α:Type} {a b:α} {r:List α}:eP (a :: b :: r) 1=some b:=mL (j:=1) rfl
theorem at2 {α:Type} {a b c:α} {r:List α}:eP (a :: b :: c :: r) 2=some c:=mL (j:=2) rfl
theorem Js {α:Type} {a b c d:α} {r:List α}:eP (a :: b :: c :: d :: r) 3=some d:=mL (j:=3) rfl
theorem DL {α:Type} (l:List α) (i:Int) (h0:0<=i) (h1:i < l.length):∃ c,eP l i=some c:=by
 have hl:i.toNat < l.length:=by omega
 refine ⟨l[i.toNat],?_⟩
 have e:((i.toNat:Nat):Int)=i:=by omega
 have q:=mL (xs:=l) (j:=i.toNat) (v:=l[i.toNat]) (by simp [hl])
 rw [e] at q
 exact q
theorem QG {α:Type} (l:List α) (a:α):eP (l++[a]) (-1)=some a:=wU l a
theorem J2 {α:Type} (l:List α) (a b:α):eP (l++[a,b]) (-2)=some a:=by
 have e:(l++[a,b]).length=l.length + 2:=by simp
 unfold eP qW
 rw [e]
 rw [if_neg (by decide),if_pos (by omega)]
 have h:((-2:Int) + ((l.length + 2:Nat):Int)).toNat=l.length:=by omega
 rw [h]
 simp
theorem IH {α:Type} (l:List α) (a b:α):eP (l++[a,b]) (-1)=some b:=by
 have:=wU (l++[a]) b
 rw [List.append_assoc] at this
 exact this
theorem Pr {α:Type} (a:α):eP [a] (-1)=some a:=wU [] a
theorem KC {α:Type} (l:List α) (a b:α):(l++[a,b]).getLast?=some b:=by simp
theorem Mr {α:Type} (l:List α) (a b:α):(l++[a,b]).dropLast=l++[a]:=by
 rw [show l++[a,b]=(l++[a])++[b] by simp];exact List.dropLast_concat
theorem Dw {α:Type} (l:List α) (a:α):(l++[a]).getLast?=some a:=by simp
theorem Dc {α:Type} (l:List α) (a:α):(l++[a]).dropLast=l:=List.dropLast_concat
theorem Te {α:Type} (a:α):[a].getLast?=some a:=rfl
theorem Tv {α:Type} (a:α):[a].dropLast=[]:=rfl
theorem Kw {α:Type} (a:α) (r:List α):gF (a :: r) (some 1) none=r:=by
 unfold gF
 simp [HT.bV]
 try omega
theorem yC {M:aG}:view M .non=.non:=rfl
theorem yS {M:aG} {x:Bool}:view M (.bl x)=.bl x:=rfl
theorem zN {M:aG} {x:Int}:view M (.int x)=.int x:=rfl
theorem y8 {M:aG} {x:Str}:view M (.str x)=.str x:=rfl
theorem zJ {M:aG} {x:List U}:view M (.tup x)=.tup x:=rfl
theorem yU {M:aG} {x:List U}:view M (.lst x)=.lst x:=rfl
theorem u9 {M:aG} {p:Addr} {us:List U}:view (mup M p (.lst us)) (.ref p)=.lst us:=qP bC
theorem cD {M:aG} {p:Addr} {us:List U}:JR (mup M p (.lst us)) (.ref p):=⟨us,u9⟩
theorem fL {o:Bool} {k:Nat} {ix:List Nat} {wi:UI} {g:UG} {te:UE} {τ:SU} {M M1:aG} {Q:UK} {S:Src} (zs:List U) (hw:∀ R:Src->aG->Prop,R S M1->wi τ M R) (hl:zs.length=S.xs.length) (hz:S.xs.length<=sizeLine) (hs:S.ok M1)
  (h:∀ (i:Nat) x y,S.xs[i]?=some x->zs[i]?=some y->∀ M,Sub M1 M->∀ R:UK,R y M->g x (eW k ix τ) M fun τ2 M2=>te τ2 M2 R)
  (q:mP o zs M1 Q):xW o k ix wi g (fun _ M Q=>Q true M) te τ M Q:=by
 refine hw _ ⟨hz,fun D hD=>⟨fun i ys M=>ys=zs.take i/\M=mup M1 D (.lst ys)/\i<=S.xs.length,⟨by simp,rfl,Nat.zero_le _⟩,?_,?_,?_⟩⟩
 ·rintro i ys M ⟨rfl,rfl,hi⟩
  refine ⟨fun a e=>?_,bC,?_⟩
  ·have:=hs a e
   rw [bH (fun z=>by subst z;rw [hD] at this;cases this)]
   exact this
  ·rw [List.length_take];omega
 ·rintro i x ys M e ⟨rfl,rfl,hi⟩
  have hlt:i < S.xs.length:=(List.getElem?_eq_some_iff.mp e).1
  have hy:zs[i]?=some zs[i]:=by simp [show i < zs.length by omega]
  have tk:zs.take (i + 1)=zs.take i++[zs[i]]:=by rw [List.take_add_one,hy];rfl
  refine h i x zs[i] e hy (mup M1 D (.lst (zs.take i))) ((Sub.refl M1).mup hD) (fun y M4=>M4 D=some (.lst (zs.take i))/\(zs.take i++[y]=zs.take (i + 1)/\mup M4 D (.lst (zs.take i++[y]))=mup M1 D (.lst (zs.take i++[y]))/\i + 1<=S.xs.length)) ?_
  exact ⟨bC,tk.symm,iO,hlt⟩
 ·rintro ys M ⟨rfl,rfl,hi⟩
  rw [show zs.take S.xs.length=zs by rw [<- hl];exact List.take_length]
  cases o with
  | true=>exact q D hD
  | false=>exact ⟨M1,(Sub.refl M1).mup hD,hD,q⟩
end U2
namespace U2
open PySem PySem.Spec PyProof.Rows L2
section
variable {prog:Program} {w:World} {A:Around} {E:Value->Shared->Prop} {s:Shared}
theorem v9 {it t:Addr} {i:Nat} {items} {x:Value} {Q:Value->Shared->Prop} (hit:s.heap.IsTupleIter it t i)
  (ht:s.heap.IsTuple t items) (hx:items[i]?=some x)
  (hQ:∀ h',h'.IsTupleIter it t (i + 1)->Heap.SameBut it s.heap h'->Q x { s with heap:=h' }) :
  wpAny (model prog w) A (Builtin.SmallTypes.nextOf (.ref it)) Q E s:=by
 obtain ⟨o,ho,hc,hd⟩:=id hit
 obtain ⟨ol,hol,_,nl,hdl⟩:=ht
 unfold Builtin.SmallTypes.nextOf
 refine wpAny_bind (wpAny_callSpecial?_slot (name:=Str.ofString "__next__") hit.typeIs PySem.F.slot_tuple_iterator_next
  (wpAny_call_entry PySem.F.slot_tuple_iterator_next hit.typeIs PySem.F.entry_tuple_iterator_next ?_ (PySem.F.args_tuple_iterator_next_1 _)))
 show wpAny _ _ (field (.ref it) 0 >>= _) _ _ s
 refine wpAny_bind (wpAny_field ho hd (x:=.ref t) rfl ?_)
 show wpAny _ _ (if (Value.ref t == Value.none)=true then _ else _) _ _ s
 rw [if_neg (show ¬ ((Value.ref t == Value.none)=true) from Bool.false_ne_true)]
 show wpAny _ _ (field (.ref it) 1 >>= _) _ _ s
 refine wpAny_bind (wpAny_field ho hd (x:=.int i 0) rfl ?_)
 show wpAny _ _ (seqItems? (.ref t) >>= _) _ _ s
 refine wpAny_bind (wpAny_seqItems hol hdl ?_)
 simp only [Int.toNat_natCast,hx]
 refine wpAny_bind (wpAny_setField ho hd (by simp) (wpAny_pure ⟨x,rfl,wpAny_pure (hQ _ ?_ (Heap.SameBut.update ..))⟩))
 exact ⟨_,Heap.get?_update_self _ ho (Obj.isFreed_of_fields (Obj.data_mapFields hd _)),(Obj.cls_mapFields ..).trans hc,by
  rw [Obj.data_mapFields hd];simp [rawInt]⟩
theorem xA {it t:Addr} {i:Nat} {items} {Q:Value->Shared->Prop} (hh:A.handled=none)
  (hit:s.heap.IsTupleIter it t i) (ht:s.heap.IsTuple t items) (hx:items[i]?=none)
  (hE:∀ h' e,Heap.ExtBut it s.heap h'->(∃ o,h'.get? e=some o/\o.cls=.type "StopIteration")->E (.ref e) { s with heap:=h' }) :
  wpAny (model prog w) A (Builtin.SmallTypes.nextOf (.ref it)) Q E s:=by
 obtain ⟨o,ho,hc,hd⟩:=id hit
 obtain ⟨ol,hol,_,nl,hdl⟩:=ht
 unfold Builtin.SmallTypes.nextOf
 refine wpAny_bind (wpAny_callSpecial?_slot (name:=Str.ofString "__next__") hit.typeIs PySem.F.slot_tuple_iterator_next
  (wpAny_call_entry PySem.F.slot_tuple_iterator_next hit.typeIs PySem.F.entry_tuple_iterator_next ?_ (PySem.F.args_tuple_iterator_next_1 _)))
 show wpAny _ _ (field (.ref it) 0 >>= _) _ _ s
 refine wpAny_bind (wpAny_field ho hd (x:=.ref t) rfl ?_)
 show wpAny _ _ (if (Value.ref t == Value.none)=true then _ else _) _ _ s
 rw [if_neg (show ¬ ((Value.ref t == Value.none)=true) from Bool.false_ne_true)]
 show wpAny _ _ (field (.ref it) 1 >>= _) _ _ s
 refine wpAny_bind (wpAny_field ho hd (x:=.int i 0) rfl ?_)
 show wpAny _ _ (seqItems? (.ref t) >>= _) _ _ s
 refine wpAny_bind (wpAny_seqItems hol hdl ?_)
 simp only [Int.toNat_natCast,hx]
 refine wpAny_bind (wpAny_rule (wpAny_bind (wpAny_setField ho hd (by simp) ?_)))
 show wpAny _ _ (newExc (.type "StopIteration") [] >>= _) _ _ _
 refine wpAny_bind ?_
 simp only [newExc,newTuple]
 refine wpAny_bind (wpAny_newObj_type ?_ (by size_fits))
 refine wpAny_bind (m:=firstArgMember _ _) (wpAny_of_eq (a:=Value.none) (by first | rfl | (simp only [firstArgMember];rfl)) ?_)
 refine wpAny_newObj_type ?_ (by size_fits)
 simp only [raiseNew]
 refine wpAny_bind (wpAny_handled ?_)
 first | rw [show A.in1.handled=none from hh] | rw [hh]
 refine wpAny_bind (wpAny_pure (wpAny_throw ?_))
 exact hE _ _ (((Heap.SameBut.update ..).extBut.push _).push _) ⟨_,Heap.get?_push_size _ rfl,rfl⟩
theorem EV {prog:Program} {w:World} {A:Around} (hh:A.handled=none) (it l:Addr) (hne:l≠it) (items:Array Value) :
  Draws prog w A it [it,l] items.size (fun i v=>items[i]?=some v) (fun i h=>h.IsTupleIter it l i/\h.IsTuple l items) where
 live:=fun _ _ st=>let ⟨o,ho,_⟩:=st.1;⟨o,ho⟩
 frame:=fun _ _ _ st hk=>⟨st.1.at fun o e=>hk it (by simp) o e,let ⟨o,ho,r⟩:=st.2;⟨o,hk l (by simp) o ho,r⟩⟩
 item:=fun i s Q E hi st hQ=>by
  refine v9 st.1 st.2 (x:=items[i]) (by simp [hi]) fun h' hit' hs'=>?_
  exact hQ _ h' s.toks (by simp [hi]) ⟨hit',let ⟨o,ho,r⟩:=st.2;⟨o,hs'.extBut l o hne ho,r⟩⟩ hs'
 done:=fun s Q E st hE=>xA hh st.1 st.2 (by simp) hE
end
noncomputable def mR (b:Bool) (K:PySem.W.Frag) (H:Hp) (a:Addr) (xs:List V):Prop:=match b with
 | true=>eH K H a xs
 | false=>eQ K H a xs
noncomputable def jL (b:Bool) (h:Heap) (a:Addr) (xs:Array Value):Prop:=match b with
 | true=>h.IsList a xs
 | false=>h.IsTuple a xs
noncomputable def lI (b:Bool) (h:Heap) (it a:Addr) (i:Nat):Prop:=match b with
 | true=>h.IsListIter it a i
 | false=>h.IsTupleIter it a i
noncomputable def S5:Bool->String
 | true=>"list"
 | false=>"tuple"
noncomputable def tY:Bool->String
 | true=>"list_iterator"
 | false=>"tuple_iterator"
theorem gX {h:Heap} {b b':Addr} {o o':Obj} {n n':String} (x:h.get? b=some o) (y:h.get? b'=some o') (p:o.cls=.type n) (q:o'.cls=.type n') (ne:n≠n'):b≠b':=fun z=>by
 subst z;rw [x] at y;cases y;rw [p] at q;exact ne (Value.type.inj q)
theorem jL.obj {b:Bool} {h:Heap} {a:Addr} {xs:Array Value} (p:jL b h a xs):∃ o n,h.get? a=some o/\o.cls=.type (S5 b)/\o.data=.seq xs n:=by
 cases b <;> (obtain ⟨o,e,c,n,d⟩:=p;exact ⟨o,n,e,c,d⟩)
theorem lI.obj {b:Bool} {h:Heap} {it a:Addr} {i:Nat} (p:lI b h it a i):∃ o,h.get? it=some o/\o.cls=.type (tY b)/\o.data=.fields #[.ref a,.int i 0]:=by
 cases b <;> exact p
theorem lI.of {b:Bool} {h:Heap} {it a:Addr} {i:Nat} {o:Obj} (e:h.get? it=some o) (c:o.cls=.type (tY b)) (d:o.data=.fields #[.ref a,.int i 0]):lI b h it a i:=by
 cases b <;> exact ⟨o,e,c,d⟩
theorem lI.at {b:Bool} {h h':Heap} {it a:Addr} {i:Nat} (p:lI b h it a i) (k:∀ o,h.get? it=some o->h'.get? it=some o):lI b h' it a i :=
 let ⟨o,e,c,d⟩:=p.obj;.of (k o e) c d
theorem jL.ne {b b':Bool} {h:Heap} {a it c:Addr} {xs:Array Value} {i:Nat} (p:jL b h a xs) (q:lI b' h it c i):a≠it :=
 let ⟨_,_,e,c,_⟩:=p.obj;let ⟨_,e',c',_⟩:=q.obj;gX e e' c c' (by cases b <;> cases b' <;> decide)
theorem tX {X:Cx} {pins:List (Addr × Obj)} {σ:L2.St} {H:Hp} {s:Shared} {b:Bool} {a:Addr} {xs:List V} (I:L2.Inv X pins σ H s) (h:mR b X.K H a xs):∃ its:List Value,Vals xs its/\jL b s.heap a its.toArray/\xs.length<=sizeLine:=by
 cases b
 ·exact I.tuple h
 ·obtain ⟨its,r,p,z⟩:=I.list h;exact ⟨its,r,p.isList,z⟩
theorem Nm {X:Cx} {pins:List (Addr × Obj)} {σ:L2.St} {H:Hp} {s:Shared} {b:Bool} {a:Addr} {xs ys:List V} (I:L2.Inv X pins σ H s) (h:mR b X.K H a xs) (h':mR b X.K H a ys):xs=ys:=by
 cases b
 ·exact I.tuple_inj h h'
 ·exact I.list_inj h h'
theorem jX {prog:Program} {w:World} {A:Around} (b:Bool) (hh:A.handled=none) (it l:Addr) (hne:l≠it) (items:Array Value) :
  Draws prog w A it [it,l] items.size (fun i v=>items[i]?=some v) (fun i h=>lI b h it l i/\jL b h l items):=by
 cases b
 ·exact EV hh it l hne items
 ·exact Draws.list hh it l hne items
noncomputable def FX (b:Bool) (K:PySem.W.Frag) (H:Hp) (M:aG) (a:Addr) (vs:List V):Prop:=∀ H1 M1,aZ H M H1 M1->mR b K H1 a vs
theorem Ja {K:PySem.W.Frag} {H:Hp} {M:aG} {a:Addr} {vs:List V} (m:M a=none/\H a=some (.tup vs)):FX false K H M a vs:=fun _ _ s=>.inl (.inl (s.to m.2 m.1).1)
theorem TL {K:PySem.W.Frag} {H:Hp} {M:aG} {a:Addr} {vs:List V} (m:(M a=none/\Rd H a (.lst vs))\/KL K a vs):FX true K H M a vs:=fun _ _ s=>by
 rcases m with ⟨m,h⟩ | k
 ·exact .inl (Rd.stp s m h).2
 ·exact .inr k
section
variable {prog:Program} {w:World} {A:Around} {E:Value->Shared->Prop} {s:Shared}
theorem xD (l:Addr) (items:Array Value) (n:Nat) (dd:Option Addr) (sl:Array (Option Value)) :
  Meets (Builtin.«enumerate.__new__» ⟨[.type "enumerate",.ref l],[]⟩) (fun _ R s=>s.heap.get? l=some { cls:=.type "tuple",dict:=dd,data:=.seq items n,slots:=sl } /\
   R (.ok (.ret (.ref (s.heap.push { cls:=.type "tuple_iterator",data:=.fields #[.ref l,.int 0 0] }).objs.size)))
    { s with heap:=(s.heap.push { cls:=.type "tuple_iterator",data:=.fields #[.ref l,.int 0 0] }).push { cls:=.type "enumerate",data:=.fields #[.none,.bool false,.ref s.heap.objs.size,rawInt 0,.none,.none] } }) :=
 .of_wp fun prog w A R s h=>by
  obtain ⟨hp,g,d,tk,os⟩:=s;obtain ⟨hl,h⟩:=h
  have hsub:=PySem.sub_enumerate
  have hL:Heap.IsTuple (Shared.heap ⟨hp,g,d,tk,os⟩) l items:=⟨_,hl,rfl,n,rfl⟩
  wp_walk using wpAny_loadPart' hl
  refine wpAny_stack_any fun st=>wpAny_pure ?_
  split
  ·rename_i c _ _ _ _ _
   cases (c == Value.type "enumerate")
   ·wp_walk using wpAny_loadPart' hl,wpAny_pyIter_tuple hL
    exact ⟨_,rfl,h⟩
   ·wp_walk using wpAny_loadPart' hl,wpAny_pyIter_tuple hL
    exact ⟨_,rfl,h⟩
  ·wp_walk using wpAny_loadPart' hl,wpAny_pyIter_tuple hL
   exact ⟨_,rfl,h⟩
theorem xT (l:Addr) (items:Array Value) (n:Nat) (dd:Option Addr) (sl:Array (Option Value)) :
  Meets (Builtin.«enumerate.__new__» ⟨[.type "enumerate",.ref l],[]⟩) (fun _ R s=>s.heap.get? l=some { cls:=.type "list",dict:=dd,data:=.seq items n,slots:=sl } /\
   R (.ok (.ret (.ref (s.heap.push { cls:=.type "list_iterator",data:=.fields #[.ref l,.int 0 0] }).objs.size)))
    { s with heap:=(s.heap.push { cls:=.type "list_iterator",data:=.fields #[.ref l,.int 0 0] }).push { cls:=.type "enumerate",data:=.fields #[.none,.bool false,.ref s.heap.objs.size,rawInt 0,.none,.none] } }) :=
 .of_wp fun prog w A R s h=>by
  obtain ⟨hp,g,d,tk,os⟩:=s;obtain ⟨hl,h⟩:=h
  have hsub:=PySem.sub_enumerate
  have hL:Heap.IsList (Shared.heap ⟨hp,g,d,tk,os⟩) l items:=⟨_,hl,rfl,n,rfl⟩
  wp_walk using wpAny_loadPart' hl
  refine wpAny_stack_any fun st=>wpAny_pure ?_
  split
  ·rename_i c _ _ _ _ _
   cases (c == Value.type "enumerate")
   ·wp_walk using wpAny_loadPart' hl,wpAny_pyIter_list hL
    exact ⟨_,rfl,h⟩
   ·wp_walk using wpAny_loadPart' hl,wpAny_pyIter_list hL
    exact ⟨_,rfl,h⟩
  ·wp_walk using wpAny_loadPart' hl,wpAny_pyIter_list hL
   exact ⟨_,rfl,h⟩
end
theorem oB {X:Cx} {pins:List (Addr × Obj)} {σ:L2.St} {H:Hp} {s:Shared} {h':Heap} {ch:List Addr} {T:Addr} {o:HO} {tk:Nat} (I:L2.Inv X pins σ H s) (hf:∀ b∈ch,tD X pins H b)
  (k:∀ b o,b ∉ ch->s.heap.get? b=some o->h'.get? b=some o) (hT:s.heap.objs.size<=T) (new:eA X.prog X.w (upd H T o) h' T o):L2.Inv X pins σ (upd H T o) { s with heap:=h',toks:=tk }:=by
 have hn:H T=none:=I.hok.fresh hT
 refine I.call' (ch:=ch) (H':=upd H T o) rfl ⟨fun b u q n hb hx=>k b u hx q,fun b u q n hb hx=>⟨u.slots,k b u hx q⟩,fun b u q n hx=>?_,fun b u q hx=>⟨u,k b u hx q⟩,fun b xs q=>by rw [bY (cJ q hn)];exact q,fun b u xs q=>by rw [bY (cJ q hn)];exact q,
  fun b ps q=>⟨#[],by rw [bY (cJ q hn),q];simp⟩⟩ (fun a u e=>?_) I.bare fun b hb=>⟨(hf b hb).2.2.2.1,(hf b hb).2.1,(hf b hb).2.2.2.2.1,(hf b hb).2.2.2.2.2⟩
 ·rw [bY (Nat.ne_of_lt (Nat.lt_of_lt_of_le (Heap.lt_size q) hT))];exact n
 ·by_cases ha:a=T
  ·subst ha;rw [dY] at e;cases e;exact new
  ·rw [bY ha] at e
   refine (I.hok a u e).stay (fun b z hb q=>k b z (fun hc=>?_) q) (fun c q=>by rw [bY (cJ q hn)];exact q) fun c xs q=>by rw [bY (cJ q hn)];exact q
   have hnone:=(hf b hc).1
   rcases hb with rfl | hb
   ·rw [hnone] at e;cases e
   ·rw [hnone] at hb;cases hb
noncomputable def RG (f:Bool) (K:PySem.W.Frag) (a:Addr):It :=
 ⟨fun i H=>∃ xs x,mR f K H a xs/\xs[i]?=some x,fun i H x H'=>∃ p v,(∀ xs,mR f K H a xs->xs[i]?=some v)/\H p=none/\x=.ref p/\H'=upd H p (.tup [.int i,v]),fun i H=>∃ xs,mR f K H a xs/\xs.length=i⟩
theorem Ke {P:Program} {w:World} {K:PySem.W.Frag} {elts:List Expr} {kk:Nat} {pos:Pos} (f:Bool) (a it e:Addr):Turn P w K (.Tuple elts kk pos) (RG f K a) [e,it] e (fun i h=>(∃ old,IsEnum h e it i old)/\lI f h it a i) where
 mem:=by simp
 obj:=fun i h st b hb=>by
  obtain ⟨⟨old,he⟩,hi⟩:=st
  obtain ⟨o,ho,hc,hd⟩:=hi.obj
  have:b=e\/b=it:=by simpa using hb
  rcases this with rfl | rfl
  ·exact ⟨_,he,fun v z=>by
    have z':Data.fields _=Data.cell v:=z
    cases z'⟩
  ·exact ⟨o,ho,fun v z=>by rw [hd] at z;cases z⟩
 keep:=fun i h h' st k=>let ⟨⟨old,he⟩,hi⟩:=st;⟨⟨old,k e (by simp) _ he⟩,hi.at fun o q=>k it (by simp) o q⟩
 item:=by
  intro X hP hw hK hc i pins s σ H E I hf st hg
  subst hP hw hK
  obtain ⟨⟨old,he⟩,hit⟩:=st
  obtain ⟨xs,x,hq,hx⟩:=hg
  obtain ⟨its,rv,p,hz⟩:=tX I hq
  obtain ⟨u,hu,ru⟩:=rv.get hx
  have p':jL f s.heap a its.toArray:=p
  obtain ⟨oi,hoi,hci,hdi⟩:=hit.obj
  obtain ⟨oa,na,hoa,hca,hda⟩:=p'.obj
  have n1:a≠it:=p'.ne hit
  have n2:e≠it:=gX he hoi rfl hci (by cases f <;> decide)
  have n3:e≠a:=gX he hoa rfl hca (by cases f <;> decide)
  have W:=WalksT.enumerateD (prog:=X.prog) (w:=X.w) (A:=X.A) (jX f (A:=X.A.in1) (show X.A.in1.handled=none from I.ok.hd hc) it a n1 its.toArray) e n2 (by simp [n2,n3]) (by simp)
  have hlt:i < its.toArray.size:=by
   have:=(List.getElem?_eq_some_iff.mp hu).1
   simpa using this
  have hD:=jX f (prog:=X.prog) (w:=X.w) (A:=X.A.in1) (show X.A.in1.handled=none from I.ok.hd hc) it a n1 its.toArray
  refine wpAny_pyNext_enum_itemD hD he ⟨hit,p'⟩ hlt n2 (by simp [n2,n3]) fun y h' tk hy ho0 hs0 hT0 hsz0 hk0=>?_
  have helt:e < s.heap.objs.size:=Heap.lt_size he
  have hilt:it < s.heap.objs.size:=Heap.lt_size hoi
  have i9:fZ h' s.heap.objs.size #[Value.int i tk,y]:=⟨_,hT0,rfl,rfl,_,rfl⟩
  have hk:∀ b o,b ∉ [e,it]->s.heap.get? b=some o->h'.get? b=some o:=fun b o hb z=>hk0 b o (fun e'=>hb (by simp [e'])) (fun e'=>hb (by simp [e'])) z
  have hMid:=(⟨⟨_,ho0⟩,hs0,Nat.ne_of_gt helt,Nat.ne_of_gt hilt⟩:(∃ x,IsEnumOut h' e it ((i:Int) + 1) x s.heap.objs.size)/\_/\s.heap.objs.size≠e/\s.heap.objs.size≠it)
  obtain ⟨T,hTe⟩:∃ T,T=s.heap.objs.size:=⟨_,rfl⟩
  rw [<- hTe] at i9 hMid ⊢
  have hT:s.heap.objs.size<=T:=Nat.le_of_eq hTe.symm
  refine ⟨.ref T,rfl,W.go elts kk pos i T _ _ E hMid fun h'' hSt hk2=>?_⟩
  have hy':y=u:=by
   have h3:its[i]?=some y:=by simpa using hy
   rw [hu] at h3;exact (Option.some.inj h3).symm
  subst hy'
  have hTT:fZ h'' T #[.int i tk,y]:=let ⟨o,ho,r⟩:=i9;⟨o,hk2 T o (W.apart i T _ hMid) ho,r⟩
  refine ⟨.ref T,upd H T (.tup [.int i,x]),oB (s:=s) (h':=h'') (tk:=tk + 1) (ch:=[e,it]) I hf (fun b o hb q=>hk2 b o (by simpa using hb) (hk b o (by simpa using hb) q)) hT ⟨by show 2<=sizeLine;decide,[.int i tk,y],.cons ⟨tk,rfl⟩ (.cons ru .nil),hTT⟩,rfl,⟨T,x,fun ys hy=>by rw [<- Nm I hq hy];exact hx,I.hok.fresh hT,rfl,rfl⟩,⟨by simpa using hSt.1,hSt.2.1⟩,fun b hb=>?_⟩
  have hn:=(hf b hb).1
  rw [bY (Nat.ne_of_lt (Nat.lt_of_lt_of_le ?_ hT))]
  ·exact hn
  ·have:b=e\/b=it:=by simpa using hb
   rcases this with rfl | rfl
   ·exact Heap.lt_size he
   ·exact Heap.lt_size hoi
 done:=by
  intro X hP hw hK hc i pins s σ H E I hf st hg
  subst hP hw hK
  obtain ⟨⟨old,he⟩,hit⟩:=st
  obtain ⟨xs,hq,hx⟩:=hg
  obtain ⟨its,rv,p,hz⟩:=tX I hq
  have p':jL f s.heap a its.toArray:=p
  obtain ⟨oi,hoi,hci,hdi⟩:=hit.obj
  obtain ⟨oa,na,hoa,hca,hda⟩:=p'.obj
  have n1:a≠it:=p'.ne hit
  have n2:e≠it:=gX he hoi rfl hci (by cases f <;> decide)
  have n3:e≠a:=gX he hoa rfl hca (by cases f <;> decide)
  have W:=WalksT.enumerateD (prog:=X.prog) (w:=X.w) (A:=X.A) (jX f (A:=X.A.in1) (show X.A.in1.handled=none from I.ok.hd hc) it a n1 its.toArray) e n2 (by simp [n2,n3]) (by simp)
  have hi:i=its.toArray.size:=by rw [List.size_toArray,<- rv.length];exact hx.symm
  subst hi
  refine W.done s _ E ⟨⟨old,he⟩,hit,p'⟩ fun h' tk hk=>⟨rfl,?_⟩
  have:=I.call' (ch:=[e,it]) (H':=H) (s':={ s with heap:=h',toks:=tk }) rfl ⟨fun b u q n hb hx=>hk b u (by simpa using hx) q,fun b u q n hb hx=>⟨u.slots,hk b u (by simpa using hx) q⟩,fun b u q n hx=>n,fun b u q hx=>⟨u,hk b u (by simpa using hx) q⟩,fun b xs q=>q,fun b u xs q=>q,fun b ps q=>⟨#[],by rw [q];simp⟩⟩
   (fun a u e'=>?_) I.bare fun b hb=>⟨(hf b hb).2.2.2.1,(hf b hb).2.1,(hf b hb).2.2.2.2.1,(hf b hb).2.2.2.2.2⟩
  ·exact this
  ·refine (I.hok a u e').stay (fun b z hb q=>hk b z (fun hc=>?_) q) (fun _ q=>q) fun _ _ q=>q
   have hnone:=(hf b (by simpa using hc)).1
   rcases hb with rfl | hb
   ·rw [hnone] at e';cases e'
   ·rw [hnone] at hb;cases hb
 self:=fun _ _ _ _ _ st h=>let ⟨⟨old,he⟩,_⟩:=st;wpAny_pyIter_enum he h
theorem HP {prog:Program} {w:World} {A:Around} {E:Value->Shared->Prop} {s:Shared} {f:Bool} {l:Addr} {items:Array Value} {Q:Value->Shared->Prop}
  (hl:jL f s.heap l items)
  (h:∀ h',IsEnum h' (s.heap.objs.size + 1) s.heap.objs.size 0 .none->lI f h' s.heap.objs.size l 0->h'.objs.size=s.heap.objs.size + 2 ->
   (∀ b o,s.heap.get? b=some o->h'.get? b=some o)->Q (.ref (s.heap.objs.size + 1)) { s with heap:=h' }) :
  wpAny (model prog w) A (call (.type "enumerate") [.ref l]) Q E s:=by
 have fin:Q (.ref (s.heap.push { cls:=.type (tY f),data:=.fields #[.ref l,.int 0 0] }).objs.size)
   { s with heap:=(s.heap.push { cls:=.type (tY f),data:=.fields #[.ref l,.int 0 0] }).push { cls:=.type "enumerate",data:=.fields #[.none,.bool false,.ref s.heap.objs.size,rawInt 0,.none,.none] } } /\
   ((s.heap.push { cls:=.type (tY f),data:=.fields #[.ref l,.int 0 0] }).push { cls:=.type "enumerate",data:=.fields #[.none,.bool false,.ref s.heap.objs.size,rawInt 0,.none,.none] }).get? (s.heap.push { cls:=.type (tY f),data:=.fields #[.ref l,.int 0 0] }).objs.size=some { cls:=.type "enumerate",data:=.fields #[.none,.bool false,.ref s.heap.objs.size,rawInt 0,.none,.none] }:=by
  have hz:(s.heap.push { cls:=.type (tY f),data:=.fields #[.ref l,.int 0 0] }).objs.size=s.heap.objs.size + 1:=Heap.size_push ..
  have he:=Heap.get?_push_size (s.heap.push { cls:=.type (tY f),data:=.fields #[.ref l,.int 0 0] })
   (o:={ cls:=.type "enumerate",data:=.fields #[.none,.bool false,.ref s.heap.objs.size,rawInt 0,.none,.none] }) rfl
  refine ⟨?_,he⟩
  rw [hz] at he
  rw [hz]
  exact h _ he (.of (Heap.get?_push_of_some _ (Heap.get?_push_size _ rfl)) rfl rfl) (by rw [Heap.size_push,hz]) fun b o x=>Heap.get?_push_of_some _ (Heap.get?_push_of_some _ x)
 obtain ⟨⟨oc,od,odt,osl⟩,n,ho,hc,hd⟩:=hl.obj
 have hc':oc=.type (S5 f):=hc
 have hd':odt=.seq items n:=hd
 subst hc' hd'
 cases f
 ·exact callType_new F.called_enumerate (by decide) (F.typeCall_enumerate_1 _) (F.newCall_enumerate_1 _) (fun obj=>F.args_object_init_2 obj _) F.entry_enumerate_new
   (xD l items n od osl) ⟨ho,⟨_,fin.2,rfl⟩,fin.1⟩
 ·exact callType_new F.called_enumerate (by decide) (F.typeCall_enumerate_1 _) (F.newCall_enumerate_1 _) (fun obj=>F.args_object_init_2 obj _) F.entry_enumerate_new
   (xT l items n od osl) ⟨ho,⟨_,fin.2,rfl⟩,fin.1⟩
noncomputable def MJ (f:Bool) (K:PySem.W.Frag) (ta:TA):TI:=fun σ H R=>ta σ H fun vs H1=>∃ a,vs=[.ref a]/\(∃ xs,mR f K H1 a xs)/\R (RG f K a) H1
theorem Oa {f:Bool} {X:Cx} {elts:List Expr} {kk:Nat} {tpos:Pos} {a:Expr} {ta:TA} {p pos:Pos} (hg:Gl X "enumerate") (hm:X.mg "enumerate"=none) (ha:PA X [a] ta) (hs:starEach [a] X.env=[(false,eval a X.env)]) :
  PI X (.Tuple elts kk tpos) (.Call (.Name "enumerate" p) [a] [] pos) (MJ f X.K ta):=by
 intro pins s σ H R I h
 refine Call_ (mW I hg hm boot_enumerate (PyProof.Rows.callWith_type1 (bJ (ha pos pins s σ H _ I h) fun us s1 ⟨vs,H1,I1,r1,q1⟩=>?_) hs rfl))
 obtain ⟨a,e,⟨xs,hq⟩,q⟩:=q1
 subst e
 cases r1 with
 | cons r rr =>
  cases rr
  cases r
  obtain ⟨its,rv,p,hz⟩:=tX I1 hq
  refine HP p fun h' he hit hsz hk=>?_
  refine wpAny_pyIter_enum (s:={ s1 with heap:=h' }) he ?_
  have I2:L2.Inv X pins σ H1 { s1 with heap:=h',toks:=s1.toks }:=I1.kept hk
  refine ⟨s1.heap.objs.size + 1,[s1.heap.objs.size + 1,s1.heap.objs.size],_,_,H1,rfl,I2,Ke f a s1.heap.objs.size (s1.heap.objs.size + 1),⟨⟨_,he⟩,hit⟩,fun b hb=>?_,q⟩
  have e:b=s1.heap.objs.size + 1\/b=s1.heap.objs.size:=by simpa using hb
  rcases e with rfl | rfl
  ·exact I1.fpOk (Nat.le_succ _) (I1.hok.fresh (Nat.le_succ _))
  ·exact I1.fpOk (Nat.le_refl _) (I1.hok.fresh (Nat.le_refl _))
noncomputable def numbered (us:List U):List U:=us.zipIdx.map fun p=>.tup [.int (p.2:Nat),p.1]
theorem uH (us:List U):(numbered us).length=us.length:=by simp [numbered]
theorem uK {us:List U} {i:Nat} {x:U} (h:(numbered us)[i]?=some x):∃ u,us[i]?=some u/\x=.tup [.int i,u]:=by
 simp only [numbered,List.getElem?_map,List.getElem?_zipIdx] at h
 cases e:us[i]? with
 | none=>rw [e] at h;simp at h
 | some u=>rw [e] at h;simp at h;exact ⟨u,rfl,h.symm⟩
theorem J0 {f:Bool} {K:PySem.W.Frag} {a:Addr} {us:List U} {vs:List V} {H:Hp} {M:aG} (sq:FX f K H M a vs) (r:aK K H M us vs):Walk K (RG f K a) ⟨none,numbered us⟩ H M:=by
 refine ⟨fun H1 M1 s rm _ i u e=>?_,fun H1 M1 s rm _=>⟨vs,sq H1 M1 s,by show vs.length=(numbered us).length;rw [uH,r.length]⟩⟩
 obtain ⟨w,e1,rfl⟩:=uK e
 obtain ⟨v,e2,ru⟩:=r.get e1
 refine ⟨⟨vs,v,sq H1 M1 s,e2⟩,fun x H2 y=>?_⟩
 obtain ⟨p,v',y,hp,rfl,rfl⟩:=y
 have:=y vs (sq _ M1 s)
 rw [e2] at this;cases this
 have st:=aZ.laid (o:=.tup [.int i,v]) rm hp
 have rr:aK K H1 M1 [.int i,w] [.int i,v]:=by
  simp only [aK]
  exact ⟨_,_,rfl,cK,_,_,rfl,ru.stp s,rfl⟩
 exact ⟨st,rm.laid hp,tP (rm.no hp) dY (rr.stp st)⟩
noncomputable def b9 (ta:UA):UI:=fun τ M R=>ta τ M fun us M1=>match us with
 | [.tup us]=>R ⟨none,numbered us⟩ M1
 | _=>False
theorem Mc {K:PySem.W.Frag} {ta:TA} {ta':UA} (h:lK K ta ta'):vC K (MJ false K ta) (b9 ta'):=fun σ τ H M R' rs rm q R c=>h σ τ H M _ rs rm q _ fun us vs M1 H1 s1 rm1 ru h1=>by
 split at h1
 ·rename_i xs
  obtain ⟨v,rfl,a⟩:=ru.one
  simp only [aP] at a
  obtain ⟨a,vs,rfl,m,r⟩:=a
  refine ⟨a,rfl,⟨vs,?_⟩,c _ _ M1 H1 s1 rm1 (J0 (Ja m) r) h1⟩
  exact .inl (.inl m.2)
 ·exact h1.elim
theorem CD {D:Dat} {elts:List Expr} {kk:Nat} {tpos:Pos} {a:Expr} {p pos:Pos} {ta:UA} (hm:D.mg "enumerate"=none) (ha:lH D [a] ta) (hg:D.sc.names.lookup ("enumerate":Str)=some .globalImplicit:=by rfl) (hs:∀ env,starEach [a] env=[(false,eval a env)]:=by intro _;rfl):A6 D (.Tuple elts kk tpos) (.Call (.Name "enumerate" p) [a] [] pos) (b9 ta):=by
 obtain ⟨_,q,s⟩:=ha
 exact ⟨_,fun X h=>h.K ▸ Oa (by show X.env.scope.names.lookup _=_;rw [h.sc];exact hg) (by rw [h.mg];exact hm) (q X h) (hs _),Mc s⟩
noncomputable def bR (ta:UA):UI:=fun τ M R=>ta τ M fun us M1=>match us with
 | [.lst us]=>R ⟨none,numbered us⟩ M1
 | _=>False
end U2
namespace U2
open PySem PySem.Spec PyProof.Rows L2
mutual
noncomputable def fK (K:PySem.W.Frag) (H:Hp):PyData->V->Prop
 | .none,v=>v=.non
 | .bool b,v=>v=.bl b
 | .int i,v=>v=.int i
 | .str z,v=>v=.str z
 | .list ds,v=>∃ a xs,v=.ref a/\eH K H a xs/\dM K H ds xs
 | .tuple ds,v=>∃ a xs,v=.ref a/\eQ K H a xs/\dM K H ds xs
 | .dict _,_=>False
noncomputable def dM (K:PySem.W.Frag) (H:Hp):List PyData->List V->Prop
 | [],vs=>vs=[]
 | d :: ds,vs=>∃ v vs',vs=v :: vs'/\fK K H d v/\dM K H ds vs'
end
mutual
theorem fK.reads {X:Cx} {pins:List (Addr × Obj)} {σ:L2.St} {H:Hp} {s:Shared} (I:L2.Inv X pins σ H s):∀ {d:PyData} {v:V} {u:Value},fK X.K H d v->RelV v u->∃ as,Reads s.heap u d as
 | .none,v,u,h,r=>by simp only [fK] at h;subst h;cases r;exact ⟨_,.none⟩
 | .bool b,v,u,h,r=>by simp only [fK] at h;subst h;cases r;exact ⟨_,.bool b⟩
 | .int i,v,u,h,r=>by simp only [fK] at h;subst h;obtain ⟨t,rfl⟩:=r;exact ⟨_,.int i t⟩
 | .str z,v,u,h,r=>by simp only [fK] at h;subst h;obtain ⟨t,rfl⟩:=r;exact ⟨_,.str z t⟩
 | .list ds,v,u,h,r=>by
  simp only [fK] at h
  obtain ⟨a,xs,rfl,q,hs⟩:=h
  cases r
  obtain ⟨its,rv,p,hz⟩:=I.list q
  obtain ⟨as,ra⟩:=dM.reads I hs rv
  obtain ⟨o,h1,h2,n,h3⟩:=p.isList
  exact ⟨_,.list h1 h2 h3 (by simpa using ra)⟩
 | .tuple ds,v,u,h,r=>by
  simp only [fK] at h
  obtain ⟨a,xs,rfl,q,hs⟩:=h
  cases r
  obtain ⟨its,rv,p,hz⟩:=I.tuple q
  obtain ⟨as,ra⟩:=dM.reads I hs rv
  obtain ⟨o,h1,h2,n,h3⟩:=(show s.heap.IsTuple a its.toArray from p)
  exact ⟨_,.tuple h1 h2 h3 (by simpa using ra)⟩
 | .dict _,v,u,h,r=>by simp only [fK] at h
theorem dM.reads {X:Cx} {pins:List (Addr × Obj)} {σ:L2.St} {H:Hp} {s:Shared} (I:L2.Inv X pins σ H s):∀ {ds:List PyData} {vs:List V} {us:List Value},dM X.K H ds vs->Vals vs us->∃ as,ReadsAll s.heap us ds as
 | [],vs,us,h,r=>by simp only [dM] at h;subst h;cases r;exact ⟨_,.nil⟩
 | d :: ds,vs,us,h,r=>by
  simp only [dM] at h
  obtain ⟨v,vs',rfl,h1,h2⟩:=h
  cases r with
  | cons r rr =>
   obtain ⟨as,ra⟩:=fK.reads I h1 r
   obtain ⟨bs,rb⟩:=dM.reads I h2 rr
   exact ⟨_,.cons ra rb⟩
end
noncomputable def KQ (K:PySem.W.Frag) (neg:Bool):R2:=fun x y H Q=>∃ d d',fK K H d x/\fK K H d' y/\d.canLay0=true/\d'.canLay0=true/\min d.depth d'.depth<=64/\Q (.bl (if neg then !PyData.eqv d d' else PyData.eqv d d')) H
theorem Ri {X:Cx} {k:Nat} (hr:eI k X.A):cY X (compareOp .Eq) (KQ X.K false):=by
 intro pins s σ H x y v u Q I rx ry h
 obtain ⟨d,d',h1,h2,c1,c2,hd,q⟩:=h
 obtain ⟨as,ra⟩:=h1.reads I rx
 obtain ⟨bs,rb⟩:=h2.reads I ry
 exact SeqAt.compareEq_reads ra rb c1 c2 (by have:=hr.units;omega) ⟨.bl _,H,I,rfl,q⟩
theorem QD {X:Cx} {k:Nat} (hr:eI k X.A):cY X (compareOp .NotEq) (KQ X.K true):=by
 intro pins s σ H x y v u Q I rx ry h
 obtain ⟨d,d',h1,h2,c1,c2,hd,q⟩:=h
 obtain ⟨as,ra⟩:=h1.reads I rx
 obtain ⟨bs,rb⟩:=h2.reads I ry
 exact SeqAt.compareNe_reads ra rb c1 c2 (by have:=hr.units;omega) ⟨.bl _,H,I,rfl,q⟩
mutual
noncomputable def toD:U->Option PyData
 | .non=>some .none
 | .bl b=>some (.bool b)
 | .int i=>some (.int i)
 | .str z=>some (.str z)
 | .tup us=>(dO us).map .tuple
 | .lst us=>(dO us).map .list
 | .ty _=>none
 | .ref _=>none
 | .dic _ _ _=>none
noncomputable def dO:List U->Option (List PyData)
 | []=>some []
 | u :: us=>match toD u,dO us with
  | some d,some ds=>some (d :: ds)
  | _,_=>none
end
noncomputable def pR (M:aG) (u:U):Option PyData:=match u with
 | .ref a=>match M a with
  | some (.lst us)=>(dO us).map .list
  | _=>none
 | u=>toD u
mutual
theorem E6 {K:PySem.W.Frag} {H:Hp} {M:aG}:∀ {u:U} {v:V} {d:PyData},aP K H M u v->toD u=some d->fK K H d v
 | .non,v,d,r,e=>by simp only [toD,Option.some.injEq] at e;subst e;simp only [fK];exact r.non
 | .bl b,v,d,r,e=>by simp only [toD,Option.some.injEq] at e;subst e;simp only [fK];exact r.bl
 | .int i,v,d,r,e=>by simp only [toD,Option.some.injEq] at e;subst e;simp only [fK];exact r.int
 | .str i,v,d,r,e=>by simp only [toD,Option.some.injEq] at e;subst e;simp only [fK];exact r.str
 | .tup us,v,d,r,e=>by
  simp only [toD] at e
  cases e2:dO us with
  | none=>rw [e2] at e;simp at e
  | some ds =>
   rw [e2] at e;simp at e;subst e
   obtain ⟨a,vs,rfl,q,rs⟩:=r.tup
   simp only [fK]
   exact ⟨a,vs,rfl,q,qB rs e2⟩
 | .lst us,v,d,r,e=>by
  simp only [toD] at e
  cases e2:dO us with
  | none=>rw [e2] at e;simp at e
  | some ds =>
   rw [e2] at e;simp at e;subst e
   obtain ⟨a,vs,rfl,q,rs⟩:=r.lst
   simp only [fK]
   exact ⟨a,vs,rfl,q,qB rs e2⟩
 | .ty _,v,d,r,e=>by simp [toD] at e
 | .ref _,v,d,r,e=>by simp [toD] at e
 | .dic _ _ _,v,d,r,e=>by simp [toD] at e
theorem qB {K:PySem.W.Frag} {H:Hp} {M:aG}:∀ {us:List U} {vs:List V} {ds:List PyData},aK K H M us vs->dO us=some ds->dM K H ds vs
 | [],vs,ds,r,e=>by simp only [dO,Option.some.injEq] at e;subst e;simp only [dM];exact r.inv_nil
 | u :: us,vs,ds,r,e=>by
  obtain ⟨v,vs',rfl,a,b⟩:=r.inv_cons
  simp only [dO] at e
  cases e1:toD u with
  | none=>rw [e1] at e;simp at e
  | some d =>
   cases e2:dO us with
   | none=>rw [e1,e2] at e;simp at e
   | some ds' =>
    rw [e1,e2] at e;simp at e;subst e
    simp only [dM]
    exact ⟨v,vs',rfl,E6 a e1,qB b e2⟩
end
theorem xJ {K:PySem.W.Frag} {H:Hp} {M:aG} {u:U} {v:V} {d:PyData} (rm:RelM K H M) (r:aP K H M u v) (e:pR M u=some d):fK K H d v:=by
 cases u with
 | ref a =>
  simp only [pR] at e
  split at e
  ·rename_i us hM
   cases e2:dO us with
   | none=>rw [e2] at e;simp at e
   | some ds =>
    rw [e2] at e;simp at e;subst e
    obtain ⟨vs,h1,rs⟩:=rm a _ hM
    cases r.ref
    simp only [fK]
    exact ⟨a,vs,rfl,.inl (.inl h1),qB rs e2⟩
  ·cases e
 | _=>exact E6 r (by simpa only [pR] using e)
noncomputable def xC (neg:Bool):eD:=fun x y M Q=>∃ d d',pR M x=some d/\pR M y=some d'/\d.canLay0=true/\d'.canLay0=true/\min d.depth d'.depth<=64/\Q (.bl (if neg then !PyData.eqv d d' else PyData.eqv d d')) M
theorem FK {K:PySem.W.Frag} {neg:Bool}:eJ K (KQ K neg) (xC neg):=fun x y u w H M Q' rm ru rw h Q c=>by
 obtain ⟨d,d',e1,e2,c1,c2,hd,q⟩:=h
 exact ⟨d,d',xJ rm ru e1,xJ rm rw e2,c1,c2,hd,c.here rm dF q⟩
variable {D:Dat}
noncomputable def oG:U->Bool
 | .non=>true
 | .bl _=>true
 | .int _=>true
 | .str _=>true
 | _=>false
noncomputable def E8:U->U->Bool
 | .non,.non=>true
 | .bl a,.bl b=>a == b
 | .bl a,.int j=>(if a then 1 else 0) == j
 | .int i,.bl b=>i == (if b then 1 else 0)
 | .int i,.int j=>i == j
 | .str x,.str y=>x == y
 | _,_=>false
noncomputable def items (M:aG):U->Option (List U)
 | .tup us=>some us
 | .lst us=>some us
 | .ref a=>match M a with
  | some (.lst us)=>some us
  | _=>none
 | _=>none
noncomputable def bP (neg:Bool):eD:=fun x y M Q=>match items M y with
 | some us=>oG x=true/\us.all oG=true/\Q (.bl (if neg then !us.any (fun u=>E8 u x) else us.any (fun u=>E8 u x))) M
 | none=>False
theorem Co {K:PySem.W.Frag} {H:Hp} {M:aG} {u:U} {v:V} (r:aP K H M u v) (f:oG u=true):iJ v=true:=by
 cases u with
 | non=>cases r.non;rfl
 | bl b=>cases r.bl;rfl
 | int b=>cases r.int;rfl
 | str b=>cases r.str;rfl
 | _=>exact absurd (show false=true from f) Bool.false_ne_true
theorem OJ {K:PySem.W.Frag} {H:Hp} {M:aG} {u w:U} {v x:V} (r:aP K H M u v) (r':aP K H M w x) (f:oG u=true) (f':oG w=true):qX v x=E8 u w:=by
 cases u <;> (first | (cases r.non) | (cases r.bl) | (cases r.int) | (cases r.str) | exact absurd (show false=true from f) Bool.false_ne_true) <;> cases w <;>
  (first | (cases r'.non) | (cases r'.bl) | (cases r'.int) | (cases r'.str) | exact absurd (show false=true from f') Bool.false_ne_true) <;> rfl
theorem AE {K:PySem.W.Frag} {H:Hp} {M:aG}:∀ {us:List U} {vs:List V},aK K H M us vs->us.all oG=true->vs.all iJ=true
 | [],vs,r,_=>by cases r.inv_nil;rfl
 | u :: us,vs,r,f=>by
  obtain ⟨v,vs',rfl,a,b⟩:=r.inv_cons
  rw [List.all_cons,Bool.and_eq_true] at f ⊢
  exact ⟨Co a f.1,AE b f.2⟩
theorem F1 {K:PySem.W.Frag} {H:Hp} {M:aG} {w:U} {x:V} (r':aP K H M w x) (f':oG w=true):∀ {us:List U} {vs:List V},aK K H M us vs->us.all oG=true->ME x vs=us.any fun u=>E8 u w
 | [],vs,r,_=>by cases r.inv_nil;rfl
 | u :: us,vs,r,f=>by
  obtain ⟨v,vs',rfl,a,b⟩:=r.inv_cons
  rw [List.all_cons,Bool.and_eq_true] at f
  have:=F1 r' f' b f.2
  unfold ME at this ⊢
  rw [List.any_cons,List.any_cons,this,OJ a r' f.1 f']
theorem qV {K:PySem.W.Frag} {H:Hp} {M:aG} {u:U} {v:V} {us:List U} (rm:RelM K H M) (r:aP K H M u v) (e:items M u=some us):∃ p xs,v=.ref p/\(eH K H p xs\/eQ K H p xs)/\aK K H M us xs:=by
 cases u with
 | tup us'=>cases e;obtain ⟨a,vs,rfl,q,rs⟩:=r.tup;exact ⟨a,vs,rfl,.inr q,rs⟩
 | lst us'=>cases e;obtain ⟨a,vs,rfl,q,rs⟩:=r.lst;exact ⟨a,vs,rfl,.inl q,rs⟩
 | ref a =>
  simp only [items] at e
  split at e
  ·rename_i us' hM
   cases e
   obtain ⟨vs,h1,rs⟩:=rm a _ hM
   exact ⟨a,vs,r.ref,.inl (.inl (.inl h1)),rs⟩
  ·cases e
 | _=>cases e
theorem RM {K:PySem.W.Frag} {neg:Bool}:eJ K (SV K neg) (bP neg):=fun x y u w H M Q' rm ru rw h Q c=>by
 unfold bP at h
 split at h
 ·rename_i us e
  obtain ⟨f,fs,q⟩:=h
  obtain ⟨p,xs,rfl,hs,rs⟩:=qV rm rw e
  refine ⟨p,xs,rfl,hs,Co ru f,AE rs fs,?_⟩
  rw [F1 ru f rs fs]
  exact c.here rm dF q
 ·exact h.elim
theorem Ta:nJ D .In (bP false):=⟨⟨_,fun X h=>h.K ▸ JK,RM⟩⟩
noncomputable def kE (neg:Bool):eD:=fun x y M Q=>match wL x y with
 | some b=>Q (.bl (if neg then !b else b)) M
 | none=>xC neg x y M Q
theorem cI:nJ D .Eq (kE false):=⟨⟨_,fun X h=>h.K ▸ Sf.or (Ri h.room),fun x y u w H M Q' rm ru rw h Q c=>by
 unfold kE at h
 split at h
 ·rename_i b e
  obtain ⟨h1,h2⟩:=Fy ru rw e
  exact .inl ⟨h1,c.here rm (by rw [h2];exact dF) h⟩
 ·exact .inr (FK x y u w H M Q' rm ru rw h Q c)⟩⟩
theorem rA:nJ D .NotEq (kE true):=⟨⟨_,fun X h=>h.K ▸ Su.or (QD h.room),fun x y u w H M Q' rm ru rw h Q c=>by
 unfold kE at h
 split at h
 ·rename_i b e
  obtain ⟨h1,h2⟩:=Fy ru rw e
  exact .inl ⟨h1,c.here rm (by rw [h2];exact dF) h⟩
 ·exact .inr (FK x y u w H M Q' rm ru rw h Q c)⟩⟩
end U2
namespace U2
open PySem PySem.Spec PyProof.Rows L2
structure Zp (z TI TO i1 i2:Addr) (f1 f2:List Addr):Prop where
 TIz:TI≠z
 TOz:TO≠z
 i1z:i1≠z
 i2z:i2≠z
 TITO:TI≠TO
 TIi1:TI≠i1
 TIi2:TI≠i2
 TOi1:TO≠i1
 TOi2:TO≠i2
 i12:i1≠i2
 zf1:z ∉ f1
 zf2:z ∉ f2
 Tf1:TO ∉ f1
 Tf2:TO ∉ f2
 if2:i1 ∉ f2
 if1:i2 ∉ f1
theorem Draws.same {prog:Program} {w:World} {A:Around} {it:Addr} {fp:List Addr} {n:Nat} {P:Nat->Value->Prop} {St:Nat->Heap->Prop} (D:Draws prog w A it fp n P St) {i:Nat} {h h':Heap} {c:Addr} (st:St i h) (sb:Heap.ExtBut c h h') (hc:c ∉ fp):St i h' :=
 D.frame _ _ _ st fun b hb o e=>sb b o (fun q=>hc (q ▸ hb)) e
section
variable {prog:Program} {w:World} {A:Around} {E:Value->Shared->Prop} {s:Shared} {z TI TO i1 i2:Addr} {f1 f2:List Addr} {n1 n2:Nat} {P1 P2:Nat->Value->Prop} {S1 S2:Nat->Heap->Prop} {i:Nat} {a b:Value}
theorem L6 (Z:Zp z TI TO i1 i2 f1 f2) (D1:Draws prog w A i1 f1 n1 P1 S1) (D2:Draws prog w A i2 f2 n2 P2 S2) {Q:Value->Shared->Prop}
  (hz:IsZip s.heap z TI TO .none) (hTI:IsPair s.heap TI (.ref i1) (.ref i2)) (hTO:IsPair s.heap TO a b) (h1:S1 i s.heap) (h2:S2 i s.heap) (l1:i < n1) (l2:i < n2)
  (hQ:∀ x y h' tk,P1 i x->P2 i y->IsZip h' z TI TO (rawInt s.heap.objs.size)->IsPair h' TO x y->S1 (i + 1) h'->S2 (i + 1) h'->IsPair h' s.heap.objs.size x y ->
   (∀ c o,c≠z->c≠TO->c≠i1->c≠i2->s.heap.get? c=some o->h'.get? c=some o)->Q (.ref s.heap.objs.size) { s with heap:=h',toks:=tk }) :
  wpAny (model prog w) A (Builtin.«zip.__next__» ⟨[.ref z],[]⟩) (fun fin s'=>∃ v,fin=.done (.ret v)/\Q v s') E s:=by
 show wpAny _ _ (field (.ref z) 2 >>= _) _ _ _
 refine wpAny_bind (wpAny_field hz rfl (x:=.bool false) rfl ?_)
 show wpAny _ _ (field (.ref z) 3 >>= _) _ _ _
 refine wpAny_bind (wpAny_field hz rfl (x:=.ref TI) rfl ?_)
 refine wpAny_bind (wpAny_seqItems hTI rfl ?_)
 show wpAny _ _ (Builtin.SmallTypes.ownedTupleIsFree (.ref z) >>= _) _ _ _
 refine wpAny_bind ?_
 unfold Builtin.SmallTypes.ownedTupleIsFree
 refine wpAny_bind (wpAny_field hz rfl (x:=.none) rfl (wpAny_pure ?_))
 simp only [if_true]
 refine wpAny_bind (wpAny_rule ?_)
 refine wpAny_bind (wpAny_field hz rfl (x:=.ref TO) rfl ?_)
 refine wpAny_bind (wpAny_setField_rec hz (by simp) fun g1 hz1 hs1=>?_)
 replace hz1:IsZip g1 z TI TO .ellipsis:=hz1
 refine wpAny_bind ?_
 simp only [List.zipIdx_cons,List.zipIdx_nil,List.forIn_cons,List.forIn_nil]
 refine wpAny_bind (wpAny_bind (wpAny_onRaise ?_))
 show wpAny _ _ (Builtin.SmallTypes.nextOf (.ref i1) >>= _) _ _ _
 refine wpAny_bind (D1.item i _ _ _ l1 (Draws.same D1 h1 hs1.extBut Z.zf1) fun x g2 tk2 px st2 hs2=>wpAny_pure ?_)
 have hTO2:IsPair g2 TO a b:=hs2.extBut _ _ Z.TOi1 (hs1.extBut _ _ Z.TOz hTO)
 refine wpAny_bind (wpAny_seqItems hTO2 rfl ?_)
 refine wpAny_bind (wpAny_updateSeq_pair hTO2 fun g3 hTO3 hs3=>?_)
 replace hTO3:IsPair g3 TO x b:=hTO3
 refine wpAny_bind (wpAny_letGo (wpAny_pure ?_))
 refine wpAny_bind (wpAny_bind (wpAny_onRaise ?_))
 show wpAny _ _ (Builtin.SmallTypes.nextOf (.ref i2) >>= _) _ _ _
 refine wpAny_bind (D2.item i _ _ _ l2 (Draws.same D2 (Draws.same D2 (Draws.same D2 h2 hs1.extBut Z.zf2) hs2.extBut Z.if2) hs3.extBut Z.Tf2) fun y g4 tk4 py st4 hs4=>wpAny_pure ?_)
 have hTO4:IsPair g4 TO x b:=hs4.extBut _ _ Z.TOi2 hTO3
 refine wpAny_bind (wpAny_seqItems hTO4 rfl ?_)
 refine wpAny_bind (wpAny_updateSeq_pair hTO4 fun g5 hTO5 hs5=>?_)
 replace hTO5:IsPair g5 TO x y:=hTO5
 refine wpAny_bind (wpAny_letGo (wpAny_pure (wpAny_pure ?_)))
 refine wpAny_bind (wpAny_seqItems hTO5 rfl ?_)
 refine wpAny_bind (wpAny_newTuple ?_)
 have hsz:g5.objs.size=s.heap.objs.size:=by rw [hs5.1,hs4.1,hs3.1,hs2.1,hs1.1]
 have hz5:IsZip g5 z TI TO .ellipsis:=hs5.extBut _ _ Z.TOz.symm (hs4.extBut _ _ Z.i2z.symm (hs3.extBut _ _ Z.TOz.symm (hs2.extBut _ _ Z.i1z.symm hz1)))
 have hk5:∀ c o,c≠z->c≠TO->c≠i1->c≠i2->s.heap.get? c=some o->g5.get? c=some o:=fun c o c1 c2 c3 c4 e =>
  hs5.extBut _ _ c2 (hs4.extBut _ _ c4 (hs3.extBut _ _ c2 (hs2.extBut _ _ c3 (hs1.extBut _ _ c1 e))))
 have h15:S1 (i + 1) g5:=Draws.same D1 (Draws.same D1 (Draws.same D1 st2 hs3.extBut Z.Tf1) hs4.extBut Z.if1) hs5.extBut Z.Tf1
 have h25:S2 (i + 1) g5:=Draws.same D2 st4 hs5.extBut Z.Tf2
 have hzlt:z < g5.objs.size:=Heap.lt_size hz5
 show wpAny _ _ (Builtin.SmallTypes.ownedTupleHandOut (.ref z) (.ref g5.objs.size) >>= _) _ _ _
 refine wpAny_bind ?_
 unfold Builtin.SmallTypes.ownedTupleHandOut
 have hz6:IsZip (g5.push { cls:=.type "tuple",data:=.seq #[x,y] }) z TI TO .ellipsis:=Heap.get?_push_of_some _ hz5
 refine wpAny_bind (wpAny_setField_rec hz6 (by simp) fun g7 hz7 hs7=>?_)
 replace hz7:IsZip g7 z TI TO (rawInt g5.objs.size):=hz7
 refine wpAny_setField_rec hz7 (by simp) fun g8 hz8 hs8=>?_
 replace hz8:IsZip g8 z TI TO (rawInt g5.objs.size):=hz8
 have up:∀ c o,c≠z->g5.get? c=some o->g8.get? c=some o:=fun c o c1 e=>hs8.extBut _ _ c1 (hs7.extBut _ _ c1 (Heap.get?_push_of_some _ e))
 have hT8:IsPair g8 g5.objs.size x y:=hs8.extBut _ _ (Nat.ne_of_gt hzlt) (hs7.extBut _ _ (Nat.ne_of_gt hzlt) (Heap.get?_push_size _ rfl))
 rw [hsz] at hz8 hT8
 refine wpAny_pure ⟨_,rfl,?_⟩
 show Q (.ref g5.objs.size) _
 rw [hsz]
 exact hQ x y g8 _ px py hz8 (up _ _ Z.TOz hTO5) (D1.frame _ _ _ h15 fun b hb o e=>up b o (fun q=>Z.zf1 (q ▸ hb)) e) (D2.frame _ _ _ h25 fun b hb o e=>up b o (fun q=>Z.zf2 (q ▸ hb)) e) hT8 fun c o c1 c2 c3 c4 e=>up c o c1 (hk5 c o c1 c2 c3 c4 e)
theorem Pe (Z:Zp z TI TO i1 i2 f1 f2) (D1:Draws prog w A i1 f1 n1 P1 S1) (D2:Draws prog w A i2 f2 n2 P2 S2) {Q:Fin->Shared->Prop}
  (hz:IsZip s.heap z TI TO .none) (hTI:IsPair s.heap TI (.ref i1) (.ref i2)) (hTO:IsPair s.heap TO a b) (h1:S1 i s.heap) (h2:S2 i s.heap) (l1:i<=n1) (hi:i=min n1 n2)
  (hE:∀ h' e tk,(∀ c o,c≠z->c≠TO->c≠i1->c≠i2->s.heap.get? c=some o->h'.get? c=some o)->(∃ o,h'.get? e=some o/\o.cls=.type "StopIteration")->E (.ref e) { s with heap:=h',toks:=tk }) :
  wpAny (model prog w) A (Builtin.«zip.__next__» ⟨[.ref z],[]⟩) Q E s:=by
 show wpAny _ _ (field (.ref z) 2 >>= _) _ _ _
 refine wpAny_bind (wpAny_field hz rfl (x:=.bool false) rfl ?_)
 show wpAny _ _ (field (.ref z) 3 >>= _) _ _ _
 refine wpAny_bind (wpAny_field hz rfl (x:=.ref TI) rfl ?_)
 refine wpAny_bind (wpAny_seqItems hTI rfl ?_)
 show wpAny _ _ (Builtin.SmallTypes.ownedTupleIsFree (.ref z) >>= _) _ _ _
 refine wpAny_bind ?_
 unfold Builtin.SmallTypes.ownedTupleIsFree
 refine wpAny_bind (wpAny_field hz rfl (x:=.none) rfl (wpAny_pure ?_))
 simp only [if_true]
 refine wpAny_bind (wpAny_rule ?_)
 refine wpAny_bind (wpAny_field hz rfl (x:=.ref TO) rfl ?_)
 refine wpAny_bind (wpAny_setField_rec hz (by simp) fun g1 hz1 hs1=>?_)
 replace hz1:IsZip g1 z TI TO .ellipsis:=hz1
 refine wpAny_bind ?_
 simp only [List.zipIdx_cons,List.zipIdx_nil,List.forIn_cons,List.forIn_nil]
 refine wpAny_bind (wpAny_bind (wpAny_onRaise ?_))
 show wpAny _ _ (Builtin.SmallTypes.nextOf (.ref i1) >>= _) _ _ _
 have hA:S1 i g1:=Draws.same D1 h1 hs1.extBut Z.zf1
 by_cases hlt:i < n1
 ·have hn2:i=n2:=by omega
  refine wpAny_bind (D1.item i _ _ _ hlt hA fun x g2 tk2 px st2 hs2=>wpAny_pure ?_)
  have hTO2:IsPair g2 TO a b:=hs2.extBut _ _ Z.TOi1 (hs1.extBut _ _ Z.TOz hTO)
  refine wpAny_bind (wpAny_seqItems hTO2 rfl ?_)
  refine wpAny_bind (wpAny_updateSeq_pair hTO2 fun g3 hTO3 hs3=>?_)
  refine wpAny_bind (wpAny_letGo (wpAny_pure ?_))
  refine wpAny_bind (wpAny_bind (wpAny_onRaise ?_))
  show wpAny _ _ (Builtin.SmallTypes.nextOf (.ref i2) >>= _) _ _ _
  refine wpAny_bind (D2.done _ _ _ (hn2 ▸ Draws.same D2 (Draws.same D2 (Draws.same D2 h2 hs1.extBut Z.zf2) hs2.extBut Z.if2) hs3.extBut Z.Tf2) fun g4 e hs4 he=>?_)
  obtain ⟨oe,hoe,hce⟩:=he
  have hz4:IsZip g4 z TI TO .ellipsis:=hs4 _ _ Z.i2z.symm (hs3.extBut _ _ Z.TOz.symm (hs2.extBut _ _ Z.i1z.symm hz1))
  have hez:e≠z:=fun x=>by subst x;rw [hz4] at hoe;cases hoe;simp at hce
  exact wpAny_setField_rec hz4 (by simp) fun g5 _ hs5=>hE g5 e _ (fun c o c1 c2 c3 c4 x=>hs5.extBut _ _ c1 (hs4 _ _ c4 (hs3.extBut _ _ c2 (hs2.extBut _ _ c3 (hs1.extBut _ _ c1 x))))) ⟨oe,hs5.extBut _ _ hez hoe,hce⟩
 ·have hn1:i=n1:=by omega
  refine wpAny_bind (D1.done _ _ _ (hn1 ▸ hA) fun g2 e hs2 he=>?_)
  obtain ⟨oe,hoe,hce⟩:=he
  have hz2:IsZip g2 z TI TO .ellipsis:=hs2 _ _ Z.i1z.symm hz1
  have hez:e≠z:=fun x=>by subst x;rw [hz2] at hoe;cases hoe;simp at hce
  exact wpAny_setField_rec hz2 (by simp) fun g3 _ hs3=>hE g3 e _ (fun c o c1 _ c3 _ x=>hs3.extBut _ _ c1 (hs2 _ _ c3 (hs1.extBut _ _ c1 x))) ⟨oe,hs3.extBut _ _ hez hoe,hce⟩
theorem Bm (Z:Zp z TI TO i1 i2 f1 f2) (D1:Draws prog w A.in1 i1 f1 n1 P1 S1) (D2:Draws prog w A.in1 i2 f2 n2 P2 S2) {Q:Option Value->Shared->Prop}
  (hz:IsZip s.heap z TI TO .none) (hTI:IsPair s.heap TI (.ref i1) (.ref i2)) (hTO:IsPair s.heap TO a b) (h1:S1 i s.heap) (h2:S2 i s.heap) (l1:i < n1) (l2:i < n2)
  (hQ:∀ x y h' tk,P1 i x->P2 i y->IsZip h' z TI TO (rawInt s.heap.objs.size)->IsPair h' TO x y->S1 (i + 1) h'->S2 (i + 1) h'->IsPair h' s.heap.objs.size x y ->
   (∀ c o,c≠z->c≠TO->c≠i1->c≠i2->s.heap.get? c=some o->h'.get? c=some o)->Q (some (.ref s.heap.objs.size)) { s with heap:=h',toks:=tk }) :
  wpAny (model prog w) A (pyNext (.ref z)) Q E s:=by
 have hT:s.TypeIs (.ref z) "zip":=⟨_,hz,rfl⟩
 unfold pyNext
 exact wpAny_bind (wpAny_attempt (wpAny_callSpecial?_slot (name:=Str.ofString "__next__") hT PySem.F.slot_zip_next
  (wpAny_call_entry PySem.F.slot_zip_next hT PySem.F.entry_zip_next
   (L6 Z D1 D2 hz hTI hTO h1 h2 l1 l2 fun x y h' tk a1 a2 a3 a4 a5 a6 a7 a8=>wpAny_pure (hQ x y h' tk a1 a2 a3 a4 a5 a6 a7 a8)) (PySem.F.args_zip_next_1 _))))
theorem DF (Z:Zp z TI TO i1 i2 f1 f2) (D1:Draws prog w A.in1 i1 f1 n1 P1 S1) (D2:Draws prog w A.in1 i2 f2 n2 P2 S2) {Q:Option Value->Shared->Prop}
  (hz:IsZip s.heap z TI TO .none) (hTI:IsPair s.heap TI (.ref i1) (.ref i2)) (hTO:IsPair s.heap TO a b) (h1:S1 i s.heap) (h2:S2 i s.heap) (l1:i<=n1) (hi:i=min n1 n2)
  (hQ:∀ h' tk,(∀ c o,c≠z->c≠TO->c≠i1->c≠i2->s.heap.get? c=some o->h'.get? c=some o)->Q none { s with heap:=h',toks:=tk }):wpAny (model prog w) A (pyNext (.ref z)) Q E s:=by
 have hT:s.TypeIs (.ref z) "zip":=⟨_,hz,rfl⟩
 unfold pyNext
 refine wpAny_bind (wpAny_attempt (wpAny_callSpecial?_slot (name:=Str.ofString "__next__") hT PySem.F.slot_zip_next
  (wpAny_call_entry PySem.F.slot_zip_next hT PySem.F.entry_zip_next (Pe Z D1 D2 hz hTI hTO h1 h2 l1 hi fun h' e tk hk he=>?_) (PySem.F.args_zip_next_1 _))))
 obtain ⟨o,ho,hc⟩:=he
 refine wpAny_bind (wpAny_isInstance (T:="StopIteration") (b:=true) ⟨o,ho,hc⟩ isSubtype_stop ?_)
 exact wpAny_pure (hQ _ _ hk)
end
noncomputable def PJ (f g:Bool) (K:PySem.W.Frag) (a c:Addr):It :=
  ⟨fun i H=>∃ xs ys x y,mR f K H a xs/\mR g K H c ys/\xs[i]?=some x/\ys[i]?=some y,
   fun i H v H'=>∃ p x y,(∀ xs,mR f K H a xs->xs[i]?=some x)/\(∀ ys,mR g K H c ys->ys[i]?=some y)/\H p=none/\v=.ref p/\H'=upd H p (.tup [x,y]),
   fun i H=>∃ xs ys,mR f K H a xs/\mR g K H c ys/\i=min xs.length ys.length⟩
theorem Ng {f g:Bool} {h:Heap} {z TI TO i1 i2 a c:Addr} {f0 u v:Value} {k1 k2:Nat} {xs ys:Array Value} (hz:IsZip h z TI TO f0) (q:TI≠TO/\i1≠i2/\TO≠a/\TO≠c) (hTI:IsPair h TI (.ref i1) (.ref i2)) (hTO:IsPair h TO u v)
  (h1:lI f h i1 a k1) (h2:lI g h i2 c k2) (ha:jL f h a xs) (hc:jL g h c ys):Zp z TI TO i1 i2 [i1,a] [i2,c]:=by
 have iz:=fun {r:Bool} {i x:Addr} {k:Nat} (p:lI r h i x k)=>let ⟨_,e,c,_⟩:=p.obj;gX e hz c rfl (by cases r <;> decide)
 have az:=fun {r:Bool} {x:Addr} {xs:Array Value} (p:jL r h x xs)=>let ⟨_,_,e,c,_⟩:=p.obj;gX e hz c rfl (by cases r <;> decide)
 have ti:=fun {r:Bool} {i x t:Addr} {u v:Value} {k:Nat} (w:IsPair h t u v) (p:lI r h i x k)=>let ⟨_,e,c,_⟩:=p.obj;gX w e rfl c (by cases r <;> decide)
 refine ⟨gX hTI hz rfl rfl (by decide),gX hTO hz rfl rfl (by decide),iz h1,iz h2,q.1,ti hTI h1,ti hTI h2,ti hTO h1,ti hTO h2,q.2.1,?_,?_,?_,?_,?_,?_⟩ <;> simp only [List.mem_cons,List.not_mem_nil,or_false,not_or]
 ·exact ⟨(iz h1).symm,(az ha).symm⟩
 ·exact ⟨(iz h2).symm,(az hc).symm⟩
 ·exact ⟨ti hTO h1,q.2.2.1⟩
 ·exact ⟨ti hTO h2,q.2.2.2⟩
 ·exact ⟨q.2.1,(hc.ne h1).symm⟩
 ·exact ⟨q.2.1.symm,(ha.ne h2).symm⟩
theorem L0 {P:Program} {w:World} {K:PySem.W.Frag} {elts:List Expr} {kk:Nat} {pos:Pos} (f g:Bool) (a c z TI TO i1 i2:Addr) (q:TI≠TO/\i1≠i2/\TO≠a/\TO≠c) :
  Turn P w K (.Tuple elts kk pos) (PJ f g K a c) [z,TI,TO,i1,i2] z (fun i h=>IsZip h z TI TO .none/\IsPair h TI (.ref i1) (.ref i2)/\(∃ u v,IsPair h TO u v)/\lI f h i1 a i/\lI g h i2 c i) where
 mem:=by simp
 obj:=fun i h st b hb=>by
  obtain ⟨hz,hTI,⟨u,v,hTO⟩,h1,h2⟩:=st
  obtain ⟨o1,e1,c1,d1⟩:=h1.obj
  obtain ⟨o2,e2,c2,d2⟩:=h2.obj
  have:b=z\/b=TI\/b=TO\/b=i1\/b=i2:=by simpa using hb
  rcases this with rfl | rfl | rfl | rfl | rfl
  ·exact ⟨_,hz,fun v x=>by
    have x':Data.fields _=Data.cell v:=x
    cases x'⟩
  ·exact ⟨_,hTI,fun v x=>by
    have x':Data.seq _ _=Data.cell v:=x
    cases x'⟩
  ·exact ⟨_,hTO,fun v x=>by
    have x':Data.seq _ _=Data.cell v:=x
    cases x'⟩
  ·exact ⟨_,e1,fun v x=>by rw [d1] at x;cases x⟩
  ·exact ⟨_,e2,fun v x=>by rw [d2] at x;cases x⟩
 keep:=fun i h h' st k=>let ⟨hz,hTI,⟨u,v,hTO⟩,h1,h2⟩:=st
  ⟨k z (by simp) _ hz,k TI (by simp) _ hTI,⟨u,v,k TO (by simp) _ hTO⟩,h1.at fun o e=>k i1 (by simp) o e,h2.at fun o e=>k i2 (by simp) o e⟩
 item:=by
  intro X hP hw hK hc i pins s σ H E I hf st hg
  subst hP hw hK
  obtain ⟨hz,hTI,⟨u,v,hTO⟩,h1,h2⟩:=st
  obtain ⟨xs,ys,x,y,hqx,hqy,hx,hy⟩:=hg
  obtain ⟨its,rv,p,_⟩:=tX I hqx
  obtain ⟨its',rv',p',_⟩:=tX I hqy
  obtain ⟨x',hu,ru⟩:=rv.get hx
  obtain ⟨y',hu',ru'⟩:=rv'.get hy
  have Z:=Ng hz q hTI hTO h1 h2 p p'
  have n1:a≠i1:=p.ne h1
  have n2:c≠i2:=p'.ne h2
  have hd:X.A.in1.handled=none:=I.ok.hd hc
  have lt1:i < its.toArray.size:=by
   have:=(List.getElem?_eq_some_iff.mp hu).1
   simpa using this
  have lt2:i < its'.toArray.size:=by
   have:=(List.getElem?_eq_some_iff.mp hu').1
   simpa using this
  refine Bm Z (jX f hd i1 a n1 its.toArray) (jX g hd i2 c n2 its'.toArray) hz hTI hTO ⟨h1,p⟩ ⟨h2,p'⟩ lt1 lt2 fun x1 y1 h' tk px py hz' hTO' s1 s2 hT hk=>?_
  refine ⟨_,rfl,wpAny_letOwnedTupleGo_zip (s:={ s with heap:=h',toks:=tk }) hz' fun h'' hz'' hs''=>?_⟩
  have ex:x1=x':=by
   have h3:its[i]?=some x1:=by simpa using px
   rw [hu] at h3;exact (Option.some.inj h3).symm
  have ey:y1=y':=by
   have h3:its'[i]?=some y1:=by simpa using py
   rw [hu'] at h3;exact (Option.some.inj h3).symm
  subst ex ey
  have lt:∀ {b o},s.heap.get? b=some o->s.heap.objs.size≠b:=fun e=>Nat.ne_of_gt (Heap.lt_size e)
  have hTT:fZ h'' s.heap.objs.size #[x1,y1]:=⟨_,hs''.extBut _ _ (lt hz) hT,rfl,rfl,_,rfl⟩
  refine ⟨.ref s.heap.objs.size,upd H s.heap.objs.size (.tup [x,y]),oB (s:=s) (h':=h'') (tk:=tk) (ch:=[z,TI,TO,i1,i2]) I hf (fun b o hb e=>?_) (Nat.le_refl _) ⟨by show 2<=sizeLine;decide,[x1,y1],.cons ru (.cons ru' .nil),hTT⟩,rfl,
   ⟨s.heap.objs.size,x,y,fun zs hz=>by rw [<- Nm I hqx hz];exact hx,fun zs hz=>by rw [<- Nm I hqy hz];exact hy,I.hok.fresh (Nat.le_refl _),rfl,rfl⟩,⟨hz'',?_,?_,?_,?_⟩,fun b hb=>?_⟩
  ·have hb':¬ (b=z\/b=TI\/b=TO\/b=i1\/b=i2):=by simpa using hb
   simp only [not_or] at hb'
   exact hs''.extBut _ _ hb'.1 (hk b o hb'.1 hb'.2.2.1 hb'.2.2.2.1 hb'.2.2.2.2 e)
  ·exact hs''.extBut _ _ Z.TIz (hk _ _ Z.TIz Z.TITO Z.TIi1 Z.TIi2 hTI)
  ·exact ⟨_,_,hs''.extBut _ _ Z.TOz hTO'⟩
  ·exact s1.1.at fun o e=>hs''.extBut _ _ Z.i1z e
  ·exact s2.1.at fun o e=>hs''.extBut _ _ Z.i2z e
  ·rw [bY (fun e=>?_)]
   ·exact (hf b hb).1
   ·have:b=z\/b=TI\/b=TO\/b=i1\/b=i2:=by simpa using hb
    obtain ⟨o1,e1,_⟩:=h1.obj
    obtain ⟨o2,e2,_⟩:=h2.obj
    rcases this with rfl | rfl | rfl | rfl | rfl
    ·exact lt hz e.symm
    ·exact lt hTI e.symm
    ·exact lt hTO e.symm
    ·exact lt e1 e.symm
    ·exact lt e2 e.symm
 done:=by
  intro X hP hw hK hc i pins s σ H E I hf st hg
  subst hP hw hK
  obtain ⟨hz,hTI,⟨u,v,hTO⟩,h1,h2⟩:=st
  obtain ⟨xs,ys,hqx,hqy,hi⟩:=hg
  obtain ⟨its,rv,p,_⟩:=tX I hqx
  obtain ⟨its',rv',p',_⟩:=tX I hqy
  have Z:=Ng hz q hTI hTO h1 h2 p p'
  have n1:a≠i1:=p.ne h1
  have n2:c≠i2:=p'.ne h2
  have hd:X.A.in1.handled=none:=I.ok.hd hc
  have hi':i=min its.toArray.size its'.toArray.size:=by rw [List.size_toArray,List.size_toArray,<- rv.length,<- rv'.length];exact hi
  refine DF Z (jX f hd i1 a n1 its.toArray) (jX g hd i2 c n2 its'.toArray) hz hTI hTO ⟨h1,p⟩ ⟨h2,p'⟩ (by omega) hi' fun h' tk hk=>⟨rfl,?_⟩
  have kk:∀ b o,b ∉ [z,TI,TO,i1,i2]->s.heap.get? b=some o->h'.get? b=some o:=fun b o hb e=>by
   have hb':¬ (b=z\/b=TI\/b=TO\/b=i1\/b=i2):=by simpa using hb
   simp only [not_or] at hb'
   exact hk b o hb'.1 hb'.2.2.1 hb'.2.2.2.1 hb'.2.2.2.2 e
  have:=I.call' (ch:=[z,TI,TO,i1,i2]) (H':=H) (s':={ s with heap:=h',toks:=tk }) rfl ⟨fun b u q n hb hx=>kk b u hx q,fun b u q n hb hx=>⟨u.slots,kk b u hx q⟩,fun b u q n hx=>n,fun b u q hx=>⟨u,kk b u hx q⟩,fun b xs q=>q,fun b u xs q=>q,fun b ps q=>⟨#[],by rw [q];simp⟩⟩
   (fun a u e'=>?_) I.bare fun b hb=>⟨(hf b hb).2.2.2.1,(hf b hb).2.1,(hf b hb).2.2.2.2.1,(hf b hb).2.2.2.2.2⟩
  ·exact this
  ·refine (I.hok a u e').stay (fun b z hb q=>kk b z (fun hc=>?_) q) (fun _ q=>q) fun _ _ q=>q
   have hnone:=(hf b hc).1
   rcases hb with rfl | hb
   ·rw [hnone] at e';cases e'
   ·rw [hnone] at hb;cases hb
 self:=fun _ _ _ _ _ st h=>wpAny_pyIter_zip st.1 h
abbrev Nf (f:Bool) (h:Heap) (a:Addr):Heap:=h.push { cls:=.type (tY f),data:=.fields #[.ref a,.int 0 0] }
abbrev MV (f g:Bool) (h:Heap) (a c:Addr):Heap:=(Nf f h a).push { cls:=.type (tY g),data:=.fields #[.ref c,.int 0 0] }
abbrev M9 (f g:Bool) (h:Heap) (a c:Addr):Heap:=(MV f g h a c).push { cls:=.type "tuple",data:=.seq #[.ref h.objs.size,.ref (Nf f h a).objs.size] }
abbrev MN (f g:Bool) (h:Heap) (a c:Addr):Heap:=(M9 f g h a c).push { cls:=.type "tuple",data:=.seq #[.none,.none] }
abbrev FV (f g:Bool) (h:Heap) (a c:Addr):Heap:=(MN f g h a c).push { cls:=.type "zip",data:=.fields #[.none,.bool false,.bool false,.ref (MV f g h a c).objs.size,.ref (M9 f g h a c).objs.size] }
theorem jL.push {f:Bool} {h:Heap} {a:Addr} {xs:Array Value} (p:jL f h a xs) (o:Obj):jL f (h.push o) a xs:=by
 obtain ⟨o',n,e,c,d⟩:=p.obj
 cases f <;> exact ⟨o',Heap.get?_push_of_some _ e,c,n,d⟩
theorem JN {prog:Program} {w:World} {A:Around} {E:Value->Shared->Prop} {s:Shared} {f:Bool} {l:Addr} {items:Array Value} {Q:Value->Shared->Prop} (hl:jL f s.heap l items)
  (hQ:Q (.ref s.heap.objs.size) { s with heap:=s.heap.push { cls:=.type (tY f),data:=.fields #[.ref l,.int 0 0] } }):wpAny (model prog w) A (pyIter (.ref l)) Q E s:=by
 cases f
 ·exact wpAny_pyIter_tuple hl hQ
 ·exact wpAny_pyIter_list hl hQ
theorem GP (f g:Bool) (a c:Addr) (xs ys:Array Value) :
  Meets (Builtin.«zip.__new__» ⟨[.type "zip",.ref a,.ref c],[]⟩) (fun _ R s=>jL f s.heap a xs/\jL g s.heap c ys /\
   R (.ok (.ret (.ref (MN f g s.heap a c).objs.size))) { s with heap:=FV f g s.heap a c }) :=
 .of_wp fun prog w A R s h=>by
  obtain ⟨hp,g',d,tk,os⟩:=s;obtain ⟨h1,h2,h⟩:=h
  have hsub:=sub_zip
  have hL1:jL f (Shared.heap ⟨hp,g',d,tk,os⟩) a xs:=h1
  have hL2:jL g (Shared.heap ⟨hp.push { cls:=.type (tY f),data:=.fields #[.ref a,.int 0 0] },g',d,tk,os⟩) c ys:=h2.push _
  wp_walk using JN hL1,JN hL2
  exact ⟨_,rfl,h⟩
theorem IB {f g:Bool} {prog:Program} {w:World} {A:Around} {E:Value->Shared->Prop} {s:Shared} {a c:Addr} {xs ys:Array Value} {Q:Value->Shared->Prop} (h1:jL f s.heap a xs) (h2:jL g s.heap c ys)
  (h:∀ h',IsZip h' (s.heap.objs.size + 4) (s.heap.objs.size + 2) (s.heap.objs.size + 3) .none->IsPair h' (s.heap.objs.size + 2) (.ref s.heap.objs.size) (.ref (s.heap.objs.size + 1)) ->
   IsPair h' (s.heap.objs.size + 3) .none .none->lI f h' s.heap.objs.size a 0->lI g h' (s.heap.objs.size + 1) c 0 ->
   (∀ b o,s.heap.get? b=some o->h'.get? b=some o)->Q (.ref (s.heap.objs.size + 4)) { s with heap:=h' }) :
  wpAny (model prog w) A (call (.type "zip") [.ref a,.ref c]) Q E s:=by
 refine callType_new PySem.F.called_zip (by decide) (PySem.F.typeCall_zip_2 _ _) (PySem.F.newCall_zip_2 _ _) (fun obj=>PySem.F.args_object_init_3 obj _ _) PySem.F.entry_zip_new
  (GP f g a c xs ys) ⟨h1,h2,?_⟩
 have z1:(Nf f s.heap a).objs.size=s.heap.objs.size + 1:=Heap.size_push ..
 have z2:(MV f g s.heap a c).objs.size=s.heap.objs.size + 2:=by rw [Heap.size_push,z1]
 have z3:(M9 f g s.heap a c).objs.size=s.heap.objs.size + 3:=by rw [Heap.size_push,z2]
 have z4:(MN f g s.heap a c).objs.size=s.heap.objs.size + 4:=by rw [Heap.size_push,z3]
 have g5:(FV f g s.heap a c).get? (MN f g s.heap a c).objs.size=some _:=Heap.get?_push_size _ rfl
 have g4:(FV f g s.heap a c).get? (M9 f g s.heap a c).objs.size=some _:=Heap.get?_push_of_some _ (Heap.get?_push_size _ rfl)
 have g3:(FV f g s.heap a c).get? (MV f g s.heap a c).objs.size=some _:=Heap.get?_push_of_some _ (Heap.get?_push_of_some _ (Heap.get?_push_size _ rfl))
 have g2:(FV f g s.heap a c).get? (Nf f s.heap a).objs.size=some _:=Heap.get?_push_of_some _ (Heap.get?_push_of_some _ (Heap.get?_push_of_some _ (Heap.get?_push_size _ rfl)))
 have g1:(FV f g s.heap a c).get? s.heap.objs.size=some _:=Heap.get?_push_of_some _ (Heap.get?_push_of_some _ (Heap.get?_push_of_some _ (Heap.get?_push_of_some _ (Heap.get?_push_size _ rfl))))
 show _/\_
 rw [z2,z3,z4] at g5
 rw [z1,z2] at g3
 rw [z3] at g4
 rw [z1] at g2
 rw [z4]
 exact ⟨⟨_,g5,rfl⟩,h _ g5 g3 g4 (.of g1 rfl rfl) (.of g2 rfl rfl) fun b o x =>
  Heap.get?_push_of_some _ (Heap.get?_push_of_some _ (Heap.get?_push_of_some _ (Heap.get?_push_of_some _ (Heap.get?_push_of_some _ x))))⟩
noncomputable def Qi (f g:Bool) (K:PySem.W.Frag) (ta:TA):TI:=fun σ H R=>ta σ H fun vs H1=>∃ a c,vs=[.ref a,.ref c]/\(∃ xs,mR f K H1 a xs)/\(∃ ys,mR g K H1 c ys)/\R (PJ f g K a c) H1
theorem Rb {f g:Bool} {X:Cx} {elts:List Expr} {kk:Nat} {tpos:Pos} {a b:Expr} {ta:TA} {p pos:Pos} (hg:Gl X "zip") (hm:X.mg "zip"=none) (ha:PA X [a,b] ta) (hs:starEach [a,b] X.env=[(false,eval a X.env),(false,eval b X.env)]) (hs2:starEach [b] X.env=[(false,eval b X.env)]) :
  PI X (.Tuple elts kk tpos) (.Call (.Name "zip" p) [a,b] [] pos) (Qi f g X.K ta):=by
 intro pins s σ H R I h
 refine Call_ (mW I hg hm boot_zip (PyProof.Rows.callWith_type1 (bJ (ha pos pins s σ H _ I h) fun us s1 ⟨vs,H1,I1,r1,q1⟩=>?_) (by rw [hs,hs2]) (by rw [hs2];rfl)))
 obtain ⟨a,c,e,⟨xs,hq⟩,⟨ys,hq'⟩,q⟩:=q1
 subst e
 cases r1 with
 | cons r rr =>
  cases rr with
  | cons r' rr =>
   cases rr
   cases r
   cases r'
   obtain ⟨its,rv,p,hz⟩:=tX I1 hq
   obtain ⟨its',rv',p',hz'⟩:=tX I1 hq'
   have la:a < s1.heap.objs.size:=by obtain ⟨_,_,e,_⟩:=p.obj;exact Heap.lt_size e
   have lc:c < s1.heap.objs.size:=by obtain ⟨_,_,e,_⟩:=p'.obj;exact Heap.lt_size e
   refine IB p p' fun h' hz hTI hTO h1 h2 hk=>?_
   refine wpAny_pyIter_zip (s:={ s1 with heap:=h' }) hz ?_
   have I2:L2.Inv X pins σ H1 { s1 with heap:=h',toks:=s1.toks }:=I1.kept hk
   refine ⟨_,_,_,_,H1,rfl,I2,L0 f g a c (s1.heap.objs.size + 4) (s1.heap.objs.size + 2) (s1.heap.objs.size + 3) s1.heap.objs.size (s1.heap.objs.size + 1) ⟨Nat.ne_of_lt (Nat.lt_succ_self _),Nat.ne_of_lt (Nat.lt_succ_self _),Nat.ne_of_gt (Nat.lt_of_lt_of_le la (Nat.le_add_right _ _)),Nat.ne_of_gt (Nat.lt_of_lt_of_le lc (Nat.le_add_right _ _))⟩,⟨hz,hTI,⟨_,_,hTO⟩,h1,h2⟩,fun b hb=>?_,q⟩
   have le:s1.heap.objs.size<=b:=by
    have:b=s1.heap.objs.size + 4\/b=s1.heap.objs.size + 2\/b=s1.heap.objs.size + 3\/b=s1.heap.objs.size\/b=s1.heap.objs.size + 1:=by simpa using hb
    rcases this with e | e | e | e | e <;> rw [e]
    ·exact Nat.le_add_right _ _
    ·exact Nat.le_add_right _ _
    ·exact Nat.le_add_right _ _
    ·exact Nat.le_refl _
    ·exact Nat.le_add_right _ _
   exact I1.fpOk le (I1.hok.fresh le)
noncomputable def fH:List U->List U->List U
 | u :: us,w :: ws=>.tup [u,w] :: fH us ws
 | _,_=>[]
theorem yO:∀ us ws:List U,(fH us ws).length=min us.length ws.length
 | [],ws=>by simp [fH]
 | _ :: _,[]=>by simp [fH]
 | u :: us,w :: ws=>by simp only [fH,List.length_cons,yO us ws];omega
theorem tO:∀ {us ws:List U} {i:Nat} {x:U},(fH us ws)[i]?=some x->∃ u w,us[i]?=some u/\ws[i]?=some w/\x=.tup [u,w]
 | [],ws,i,x,h=>by simp [fH] at h
 | _ :: _,[],i,x,h=>by simp [fH] at h
 | u :: us,w :: ws,0,x,h=>by simp [fH] at h;exact ⟨u,w,rfl,rfl,h.symm⟩
 | u :: us,w :: ws,i + 1,x,h=>by
  simp only [fH,List.getElem?_cons_succ] at h ⊢
  exact tO h
theorem LN {f g:Bool} {K:PySem.W.Frag} {a c:Addr} {us ws:List U} {vs xs:List V} {H:Hp} {M:aG} (m:FX f K H M a vs) (m':FX g K H M c xs) (r:aK K H M us vs) (r':aK K H M ws xs):Walk K (PJ f g K a c) ⟨none,fH us ws⟩ H M:=by
 refine ⟨fun H1 M1 s rm _ i u e=>?_,fun H1 M1 s rm _=>⟨vs,xs,m _ _ s,m' _ _ s,by show (fH us ws).length=_;rw [yO,r.length,r'.length]⟩⟩
 obtain ⟨u,w,e1,e1',rfl⟩:=tO e
 obtain ⟨v,e2,ru⟩:=r.get e1
 obtain ⟨x,e2',ru'⟩:=r'.get e1'
 refine ⟨⟨vs,xs,v,x,m _ _ s,m' _ _ s,e2,e2'⟩,fun y H2 y'=>?_⟩
 obtain ⟨p,v',x',y1,y2,hp,rfl,rfl⟩:=y'
 have:=y1 vs (m _ _ s)
 rw [e2] at this;cases this
 have:=y2 xs (m' _ _ s)
 rw [e2'] at this;cases this
 have st:=aZ.laid (o:=.tup [v,x]) rm hp
 have rr:aK K H1 M1 [u,w] [v,x]:=by
  simp only [aK]
  exact ⟨_,_,rfl,ru.stp s,_,_,rfl,ru'.stp s,rfl⟩
 exact ⟨st,rm.laid hp,tP (rm.no hp) dY (rr.stp st)⟩
noncomputable def cG (ta:UA):UI:=fun τ M R=>ta τ M fun us M1=>match us with
 | [.tup us,.tup ws]=>R ⟨none,fH us ws⟩ M1
 | _=>False
theorem NO {K:PySem.W.Frag} {ta:TA} {ta':UA} (h:lK K ta ta'):vC K (Qi false false K ta) (cG ta'):=fun σ τ H M R' rs rm q R c=>h σ τ H M _ rs rm q _ fun us vs M1 H1 s1 rm1 ru h1=>by
 split at h1
 ·obtain ⟨v,vs',rfl,a,b⟩:=ru.inv_cons
  obtain ⟨v2,rfl,a2⟩:=b.one
  simp only [aP] at a a2
  obtain ⟨a,vs,rfl,m,r⟩:=a
  obtain ⟨a',vs',rfl,m',r'⟩:=a2
  exact ⟨a,a',rfl,⟨vs,Ja m _ _ (aZ.refl _ _)⟩,⟨vs',Ja m' _ _ (aZ.refl _ _)⟩,c _ _ M1 H1 s1 rm1 (LN (Ja m) (Ja m') r r') h1⟩
 ·exact h1.elim
theorem RA {D:Dat} {elts:List Expr} {kk:Nat} {tpos:Pos} {a b:Expr} {p pos:Pos} {ta:UA} (hm:D.mg "zip"=none) (ha:lH D [a,b] ta) (hg:D.sc.names.lookup ("zip":Str)=some .globalImplicit:=by rfl) (hs:∀ env,starEach [a,b] env=[(false,eval a env),(false,eval b env)]:=by intro _;rfl) (hs2:∀ env,starEach [b] env=[(false,eval b env)]:=by intro _;rfl):A6 D (.Tuple elts kk tpos) (.Call (.Name "zip" p) [a,b] [] pos) (cG ta):=by
 obtain ⟨_,q,s⟩:=ha
 exact ⟨_,fun X h=>h.K ▸ Rb (by show X.env.scope.names.lookup _=_;rw [h.sc];exact hg) (by rw [h.mg];exact hm) (q X h) (hs _) (hs2 _),NO s⟩
noncomputable def gG (ta:UA):UI:=fun τ M R=>ta τ M fun us M1=>match us with
 | [.tup us,.lst ws]=>R ⟨none,fH us ws⟩ M1
 | _=>False
end U2
namespace U2
open PySem PySem.Spec PyProof.Rows L2
theorem BM (l:Addr) (items:Array Value) (n:Nat) (b:Addr) (items2:Array Value) (n2:Nat) (dd:Option Addr) (sl:Array (Option Value)) (hc0:¬(!items.isEmpty && Builtin.List.listTooLong (items.size + items2.size))=true) (hc1:items.size<=sizeLine) (hs2:items.size + items2.size<=sizeLine + 1) :
  Meets (Builtin.«list.extend» ⟨[.ref l,.ref b],[]⟩) (fun _ R s=>s.heap.get? l=some { cls:=.type "list",dict:=none,data:=.seq items n,slots:=#[] }/\s.heap.get? b=some { cls:=.type "list",dict:=dd,data:=.seq items2 n2,slots:=sl }/\R (.ok (.ret Value.none)) { s with heap:=s.heap.update l (Obj.mapSeq fun x=>x++items2),toks:=s.toks }) :=
 .of_wp fun prog w A R s h=>by
  obtain ⟨hp,g,d,tk,os⟩:=s;obtain ⟨hl,hb,h⟩:=h
  have f1:=PySem.AutoSeq1.idx_int;have f2:=PySem.AutoSeq1.sub_tuple_tuple;have f3:=PySem.AutoSeq1.sub_list_list;have f4:=PySem.AutoSeq1.sub_tuple_list;have f5:=PySem.AutoSeq1.sub_list_tuple
  have hz':(items++items2).size<=sizeLine + 1:=by rw [Array.size_append];exact hs2
  wp_walk using (wpAny_updateSeq hl rfl (hz:=hc1) (_hz':=hz')),wpAny_loadPart' hl,wpAny_loadPart' hb
  exact ⟨_,rfl,h⟩
theorem Ic {X:Cx}:Cp X "list.extend" (Eb X.K):=by
 intro pins s σ H x vs v us Q I rx rv h
 obtain ⟨l,b,xs,zs,rfl,rfl,hH,hB,hz,q⟩:=h
 cases rx
 obtain ⟨u,rfl,ru⟩:=rv.one
 cases ru
 obtain ⟨z,its,n,r,hl,e⟩:=I.lstM hH
 obtain ⟨its2,r2,⟨⟨oc,od,odt,osl⟩,n2,e2,hc,hd,hdt⟩,hl2⟩:=I.list hB
 have hc':oc=.type "list":=hc
 have hdt':odt=.seq its2.toArray n2:=hdt
 subst hc' hdt'
 have l2:=r2.length
 have hsz:its.toArray.size + its2.toArray.size<=sizeLine:=by rw [List.size_toArray,List.size_toArray];omega
 have hlong:¬ (!its.toArray.isEmpty && Builtin.List.listTooLong (its.toArray.size + its2.toArray.size))=true:=by
  rw [CV hsz,Bool.and_false]
  exact Bool.false_ne_true
 refine call_meets PySem.F.slot_list_extend ⟨_,e,rfl⟩ PySem.F.entry_list_extend (PySem.F.args_list_extend_2 _ _)
  (BM l its.toArray n b its2.toArray n2 od osl hlong (by rw [List.size_toArray];omega) (by omega)) ⟨e,e2,?_⟩
 refine ⟨.non,_,I.lset (its':=its++its2) hH e (by simp) (r.append r2) ?_,rfl,q⟩
 rw [List.length_append]
 omega
variable {D:Dat} {o e:Expr} {ta:UE} {tas:UA} {pos:Pos}
theorem AV {apos:Pos} (ho:bA D o ta) (ha:lH D [e] tas) (hbase:∀ env,attributeBase o "extend" env (eval o env)=eval o env:=by intro _;rfl)
  (hfew:∀ env,((backTo pos (starEach [e] env)).all (fun x=>!x.1) && (backToKw pos (keywordEach [] env)).all (fun x=>x.1.isSome) && decide ([e].length + ([]:List Keyword).length + (if ([]:List Keyword).isEmpty then 0 else 1) < 30))=true:=by intro _;rfl)
  (hline:(apos.endLine == pos.line)=true:=by rfl) (hs:∀ env,starEach [e] env=[(false,eval e env)]:=by intro _;rfl):bA D (.Call (.Attribute o "extend" apos) [e] [] pos) (Bc mN ta tas):=by
 obtain ⟨_,p,s⟩:=ho;obtain ⟨_,q,r⟩:=ha
 refine ⟨_,fun X h=>?_,Jr Gj s r⟩
 have:=vY (cpos:=pos) (apos:=apos) PySem.F.plainAttrs_list PySem.F.slot_list_extend PySem.F.type_list_extend Ic (p X h) (q X h) (hbase _) (hfew _) hline (hs _) (by rfl)
 rw [h.K] at this
 exact this
end U2
namespace U2
open PySem PySem.Spec PyProof.Rows L2
noncomputable def intsOf:List U->Option (List Int)
 | []=>some []
 | .int i :: us=>(intsOf us).map (i :: ·)
 | _ :: _=>none
theorem pH {K:PySem.W.Frag} {H:Hp} {M:aG}:∀ {us:List U} {vs:List V} {xs:List Int},aK K H M us vs->intsOf us=some xs->vs=xs.map V.int
 | [],vs,xs,r,e=>by cases e;exact r.inv_nil
 | u :: us,vs,xs,r,e=>by
  obtain ⟨v,vs',rfl,a,b⟩:=r.inv_cons
  cases u with
  | int i =>
   simp only [intsOf] at e
   cases e2:intsOf us with
   | none=>rw [e2] at e;cases e
   | some ys=>rw [e2] at e;cases e;rw [a.int,pH b e2];rfl
  | _=>cases e
noncomputable def wZ:eD:=fun x y M Q=>match x,y with
 | .int i,.int j=>Q (.bl (decide (i < j))) M
 | .tup us,.tup ws=>∃ xs ys,intsOf us=some xs/\intsOf ws=some ys/\Q (.bl (HT.lexLt xs ys)) M
 | _,_=>False
variable {D:Dat}
theorem m5:nJ D .Lt wZ:=⟨⟨_,fun X h=>h.K ▸ Sx.or (Pq h.room.units0),fun x y u w H M Q' rm ru rw h Q c=>by
 unfold wZ at h
 split at h
 ·rename_i i j
  exact .inl (qR (f:=fun i j=>decide (i < j)) x y (.int i) (.int j) H M Q' rm ru rw h Q c)
 ·rename_i us ws
  obtain ⟨xs,ys,e1,e2,q⟩:=h
  obtain ⟨a,vs,rfl,s1,r1⟩:=ru.tup
  obtain ⟨a',vs',rfl,s2,r2⟩:=rw.tup
  cases pH r1 e1
  cases pH r2 e2
  exact .inr ⟨a,a',xs,ys,rfl,rfl,s1,s2,c.here rm dF q⟩
 ·exact h.elim⟩⟩
end U2
namespace U2
open PySem PySem.Spec PyProof.Rows L2
noncomputable def oW:Int->List Int->Int
 | m,[]=>m
 | m,n :: ns=>oW (if n > m then n else m) ns
theorem Fj:∀ (ns:List Int) (m:Int),m<=oW m ns/\∀ n∈ns,n<=oW m ns
 | [],m=>⟨Int.le_refl _,fun n h=>by cases h⟩
 | k :: ns,m=>by
  obtain ⟨h1,h2⟩:=Fj ns (if k > m then k else m)
  have hk:m<=(if k > m then k else m)/\k<=(if k > m then k else m):=by split <;> omega
  simp only [oW]
  refine ⟨by omega,fun n hn=>?_⟩
  rcases List.mem_cons.mp hn with rfl | hn
  ·omega
  ·exact h2 n hn
theorem B9:∀ (ns:List Int) (m:Int),oW m ns=m\/oW m ns∈ns
 | [],m=>.inl rfl
 | k :: ns,m=>by
  simp only [oW]
  rcases B9 ns (if k > m then k else m) with h | h
  ·by_cases hk:k > m
   ·rw [if_pos hk] at h ⊢;exact .inr (by rw [h];exact List.mem_cons_self)
   ·rw [if_neg hk] at h ⊢;exact .inl h
  ·exact .inr (List.mem_cons_of_mem _ h)
theorem ND {m M:Int} {ns:List Int} (h1:M=m\/M∈ns) (h2:m<=M) (h3:∀ n∈ns,n<=M):oW m ns=M:=by
 obtain ⟨g1,g2⟩:=Fj ns m
 rcases B9 ns m with e | e
 ·rcases h1 with rfl | h1
  ·exact e
  ·have:=g2 M h1;omega
 ·have:=h3 _ e
  rcases h1 with rfl | h1
  ·omega
  ·have:=g2 M h1;omega
section
variable {X:Cx}
theorem Kn (hc:X.calm=true):jB X (.builtin "max") (fun xs H Q=>∃ p m ns,xs=[.ref p]/\eH X.K H p ((m :: ns).map V.int)/\Q (.int (oW m ns)) H):=by
 intro pins s σ H xs us Q I r h
 obtain ⟨p,m,ns,rfl,hq,q⟩:=h
 obtain ⟨u,rfl,rx⟩:=vals1 r
 cases rx
 obtain ⟨its,r',pl,hz⟩:=I.list hq
 have hi:IntsAre its (m :: ns):=intsAre_of r'
 obtain ⟨ys,e⟩:=hi.allInts.items
 have hns:(m :: ns)=ys.toList.map (·.1):=by
  rw [<- hi.numsOf,<- nums_intItems,<- e]
 have hsz:0 < ys.size:=by
  have h3:ns.length + 1=ys.size:=by have:=congrArg List.length hns;simpa using this
  omega
 have hl:=pl.isList
 rw [e] at hl
 refine max_intList (I.ok.hd hc) hl hsz fun v h' tk hv hk=>?_
 obtain ⟨t,rfl⟩:=intItems_at hv
 obtain ⟨h1,h2⟩:=argBest_gt (numAt ys) (ys.size - 1)
 have hM:oW m ns=numAt ys (argBest (fun i j=>decide (numAt ys i > numAt ys j)) (ys.size - 1)):=by
  have hin:numAt ys (argBest (fun i j=>decide (numAt ys i > numAt ys j)) (ys.size - 1))∈m :: ns:=by
   rw [hns,numAt_eq];exact getD_mem (by rw [List.length_map,Array.length_toList];omega)
  have hge:∀ a∈m :: ns,a<=numAt ys (argBest (fun i j=>decide (numAt ys i > numAt ys j)) (ys.size - 1)):=fun a ha=>by
   rw [hns] at ha
   obtain ⟨j,hj,rfl⟩:=mem_getD ha
   rw [List.length_map,Array.length_toList] at hj
   rw [<- numAt_eq];exact h2 j (by omega)
  exact ND (List.mem_cons.mp hin) (hge m List.mem_cons_self) fun n hn=>hge n (List.mem_cons_of_mem _ hn)
 exact ⟨.int (oW m ns),H,I.kept hk,⟨t,by rw [hM]⟩,q⟩
noncomputable def C7:List U->aG->UK->Prop:=fun us M Q=>match us with
 | [x]=>match view M x with
  | .lst ws=>∃ ns,intsOf ws=some ns/\PySem.SumFits ns/\Q (.int ns.sum) M
  | _=>False
 | _=>False
noncomputable def w4:List U->aG->UK->Prop:=fun us M Q=>match us with
 | [.int i,.int j]=>Q (.int (if j > i then j else i)) M
 | [x]=>match view M x with
  | .lst ws=>∃ m ns,intsOf ws=some (m :: ns)/\Q (.int (oW m ns)) M
  | _=>False
 | _=>False
theorem IK {D:Dat}:yH D (.builtin "max") w4:=⟨⟨_,fun X h=>by
  have:=(Ju (X:=X) h.calm).or (Kn h.calm);rw [h.K] at this;exact this,fun xs us H M Q' rm rus h Q c=>by
 unfold w4 at h
 split at h
 ·rename_i i j
  obtain ⟨v,z,rfl,a1,a2⟩:=rus.two
  cases a1.int;cases a2.int
  exact .inl ⟨i,j,rfl,c.here rm cK h⟩
 ·rename_i x
  obtain ⟨v,rfl,a1⟩:=rus.one
  split at h
  ·rename_i ws e
   obtain ⟨m,ns,e2,q⟩:=h
   obtain ⟨b,zvs,rfl,s2,r2⟩:=gE rm a1 e
   rw [pH r2 e2] at s2
   exact .inr ⟨b,m,ns,rfl,s2,c.here rm cK q⟩
  ·exact h.elim
 ·exact h.elim⟩⟩
end
end U2
namespace U2
open PySem PySem.Spec PyProof.Rows L2
section
variable {D:Dat} {a b c e o i:Expr} {ta tb tc te to ti:UE} {pos p:Pos} {es:List Expr} {tas:UA} {x:Str}
noncomputable def j9 (te to ti:UE):US:=fun D τ M=>te τ M fun v M1=>to τ M1 fun x M2=>ti τ M2 fun y M3=>match x,y with
 | .ref a,.int k=>match M3 a with
  | some (.lst us)=>∃ j,qW us.length k=some j/\D.nx τ (mup M3 a (.lst (us.set j v)))
  | _=>False
 | _,_=>False
noncomputable def yQ:U->List U->aG->UK->Prop:=fun x ws M Q=>match x,ws with
 | .ref a,[.int i]=>match M a with
  | some (.lst us)=>-(2 ^ 63)<=i/\i < 2 ^ 63/\∃ k y,seqIndex? i us.length=some k/\us[k]?=some y/\Q y (mup M a (.lst (us.eraseIdx k)))
  | _=>False
 | _,_=>False
noncomputable def AA:List U->aG->UK->Prop:=fun us M Q=>match us with
 | [.int i]=>Q (.int i) M
 | [.bl k]=>Q (.int (if k then 1 else 0)) M
 | _=>False
theorem MI:yH D (.type "int") AA:=⟨⟨_,fun X h=>JB,fun xs us H M Q' rm rus h Q c=>by
 unfold AA at h
 split at h
 ·rename_i j
  obtain ⟨v,rfl,a⟩:=rus.one
  cases a.int
  exact .inl ⟨j,rfl,c.here rm cK h⟩
 ·rename_i j
  obtain ⟨v,rfl,a⟩:=rus.one
  cases a.bl
  exact .inr ⟨j,rfl,c.here rm cK h⟩
 ·exact h.elim⟩⟩
noncomputable def pF (i j:Int):Prop:=Mb i j\/(Builtin.Int.intBits i<=60000000/\Builtin.Int.intBits j<=60000000)
theorem pF.ok {i j:Int} (h:pF i j):IntMulOk i j:=by
 rcases h with h | ⟨h1,h2⟩
 ·exact h.ok
 ·exact IntMulOk.of_le h1 h2 (by decide)
theorem OP {X:Cx}:cY X (binaryOp .Mult) (rI pF fun i j=>.int (i * j)):=Nb fun _ _ _ _ _ _ _ hc q=>mul_int q hc.ok
noncomputable def Ap (z:Str) (n:Int):Str:=if n < 1 then Str.empty else if (n == 1 || z.length == 0)=true then z else ⟨(List.replicate n.toNat z.cps).foldl (·++·) #[]⟩
theorem Od {X:Cx}:cY X (binaryOp .Mult) (fun x y H Q=>∃ z n,x=.str z/\y=.int n/\-(2 ^ 63)<=n/\n < 2 ^ 20/\z.length<=2 ^ 20/\z.length * n.toNat<=100000/\Q (.str (Ap z n)) H):=by
 intro pins s σ H x y v u Q I rx ry h
 obtain ⟨z,n,rfl,rfl,h1,h2,h3,h4,q⟩:=h
 obtain ⟨t,rfl⟩:=rx
 obtain ⟨t',rfl⟩:=ry
 have e1:(decide (n < -(2 ^ 63:Int)) || decide (n ≥ 2 ^ 63))=false:=by
  rw [decide_eq_false (by omega),decide_eq_false (by omega)];rfl
 refine PySem.P.mul_str e1 (fun g1 g2=>?_) (fun g1 g2=>?_) ?_
 ·intro hh
  have hn:(1:Int)<=n:=by omega
  have e3:(z.length:Int) * n=((z.length * n.toNat:Nat):Int):=by
   rw [Int.natCast_mul,Int.toNat_of_nonneg (by omega)]
  have:=Int.le_ediv_of_mul_le (show (0:Int) < n by omega) (show (z.length:Int) * n<=2 ^ 63 - 1 by rw [e3];omega)
  omega
 ·unfold Builtin.Str.tooLong sizeLine
  exact decide_eq_false (by omega)
 ·have hq:∀ (t2:Tok) k,EP X pins σ Q (.str (Ap z n) t2) { s with toks:=k }:=fun t2 k=>⟨.str (Ap z n),H,I.tok k,⟨t2,rfl⟩,q⟩
  unfold Ap at hq
  by_cases g1:n < 1
  ·rw [if_pos g1]
   simp only [if_pos g1] at hq
   exact ⟨by decide,hq _ _⟩
  ·rw [if_neg g1]
   simp only [if_neg g1] at hq
   by_cases g2:(n == 1 || z.length == 0)=true
   ·rw [if_pos g2]
    simp only [if_pos g2] at hq
    exact hq t s.toks
   ·rw [if_neg g2]
    simp only [if_neg g2] at hq
    refine ⟨?_,hq _ _⟩
    have hsz:∀ (k:Nat) (acc:Array Nat),((List.replicate k z.cps).foldl (·++·) acc).size=acc.size + k * z.cps.size:=by
     intro k
     induction k with
     | zero=>intro acc;simp
     | succ k ih=>intro acc;rw [List.replicate_succ,List.foldl_cons,ih,Array.size_append,Nat.succ_mul];omega
    show ((List.replicate n.toNat z.cps).foldl (·++·) #[]).size<=sizeLine
    rw [hsz]
    have h5:n.toNat * z.cps.size<=100000:=by rw [Nat.mul_comm];exact h4
    have:(100000:Nat)<=sizeLine:=by decide
    simp only [Array.size_empty,Nat.zero_add]
    omega
noncomputable def xB (o:Bool):eD:=fun x y M Q=>match x,y with
 | .int i,.int j=>pF i j/\Q (.int (i * j)) M
 | .str z,.int n=>-(2 ^ 63)<=n/\n < 2 ^ 20/\z.length<=2 ^ 20/\z.length * n.toNat<=100000/\Q (.str (Ap z n)) M
 | .ref a,.int k=>match M a with
  | some (.lst us)=>-(2 ^ 63)<=k/\k < 2 ^ 63/\us.length * k.toNat<=sizeLine/\mP o (List.replicate k.toNat us).flatten M Q
  | _=>False
 | _,_=>False
theorem aK.rep {K:PySem.W.Frag} {H:Hp} {M:aG} {us:List U} {vs:List V} (r:aK K H M us vs):∀ k:Nat,aK K H M (List.replicate k us).flatten (List.replicate k vs).flatten
 | 0=>by simp only [List.replicate_zero,List.flatten_nil];exact .nil
 | k + 1=>by simp only [List.replicate_succ,List.flatten_cons];exact r.append (aK.rep r k)
theorem N9 {K:PySem.W.Frag} {o:Bool}:eJ K (fun x y H Q=>rI pF (fun i j=>.int (i * j)) x y H Q\/((∃ z n,x=.str z/\y=.int n/\-(2 ^ 63)<=n/\n < 2 ^ 20/\z.length<=2 ^ 20/\z.length * n.toNat<=100000/\Q (.str (Ap z n)) H)\/QN x y H Q)) (xB o):=fun x y u w H M Q' rm ru rw h Q c=>by
 unfold xB at h
 split at h
 ·rename_i i j
  exact .inl (rC (C:=pF) (f:=fun i j=>i * j) x y (.int i) (.int j) H M Q' rm ru rw h Q c)
 ·rename_i z n
  cases ru.str;cases rw.int
  exact .inr (.inl ⟨z,n,rfl,rfl,h.1,h.2.1,h.2.2.1,h.2.2.2.1,c.here rm iF h.2.2.2.2⟩)
 ·rename_i a k
  split at h
  ·rename_i us e
   obtain ⟨vs,hv,r⟩:=rm a _ e
   cases ru.ref;cases rw.int
   exact .inr (.inr ⟨a,k,vs,rfl,rfl,hv,h.1,h.2.1,by rw [<- r.length];exact h.2.2.1,fun p hp=>c.lst rm (r.rep k.toNat) hp h.2.2.2⟩)
  ·exact h.elim
 ·exact h.elim
theorem gR (own:Bool:=false) (ha:bA D a ta) (hb:bA D b tb):bA D (.BinOp a .Mult b pos) (gA (xB own) ta tb):=vW (fun _ _=>OP.or (Od.or Qe)) N9 ha hb
noncomputable def MZ (_ j:Int):Prop:=0 < j/\j < 2 ^ 64
theorem L9 {X:Cx}:cY X (binaryOp .FloorDiv) (rI MZ fun i j=>.int (i / j)):=Nb fun i j _ _ _ _ _ hc q=>by
 have h1:(0:Int) < j:=hc.1
 have h2:j.natAbs.log2 < 9000:=by
  have h3:j.natAbs < 2 ^ 64:=by have:=hc.2;omega
  by_cases h:j.natAbs=0
  ·rw [h];decide
  ·have:=(Nat.log2_lt h).mpr h3
   omega
 exact floordiv_int (by omega) (by rw [Int.fdiv_eq_ediv_of_nonneg i (by omega)];exact q) (.inl (PyProof.noPylong_of_log2 h2))
theorem eM (ha:bA D a ta) (hb:bA D b tb):bA D (.BinOp a .FloorDiv b pos) (gA (uI MZ fun i j=>.int (i / j)) ta tb):=vW (fun _ _=>L9) rC ha hb
end
end U2
namespace HT
open PySem PySem.Spec PyProof.Rows L2
variable {prog:Program} {w:World} {A:Around} {E:Value->Shared->Prop} {s:Shared}
theorem t6 {t sl:Addr} {items:Array Value} {vl vu:Value} {lo hi:Option Int} {Q:Value->Shared->Prop} (ht:IsTup s.heap t items) (hs:s.heap.IsSliceOf sl vl vu .none) (pl:IsPart vl lo) (pu:IsPart vu hi)
  (hw:bV items.size 0 lo=0/\bV items.size items.size hi=items.size)
  (h:Q (.ref t) s):wpAny (model prog w) A (getItem (.ref t) (.ref sl)) Q E s:=by
 obtain ⟨os,hos,hcs,hds⟩:=id hs
 have hTs:s.TypeIs (.ref sl) "slice":=⟨os,hos,hcs⟩
 unfold getItem
 try with_reducible refine wpAny_holding ?_
 first | refine wpAny_bind (wpAny_pure ?_) | skip
 refine wpAny_bind (wpAny_sequenceKey ht.typeIs (by decide) ?_)
 refine wpAny_bind (wpAny_callSpecial?_slot (name:=Str.ofString "__getitem__") ht.typeIs PyProof.Rows.slot_tuple_getitem
  (wpAny_call_entry PyProof.Rows.slot_tuple_getitem ht.typeIs entry_tuple_getitem ?_ (args_tuple_getitem _ _)))
 show wpAny _ _ (Builtin.Tuple.tupleItemsOf (.ref t) >>= _) _ _ s
 refine wpAny_bind (tupleItemsOf_ ht ?_)
 refine wpAny_bind (wpAny_typeOf hTs ?_)
 rw [if_pos (by decide)]
 refine wpAny_bind (pY hs pl pu ?_)
 have hyes:((((bV items.size 0 lo:Nat):Int) == 0 && (1:Int) == 1 && (bV items.size items.size hi - bV items.size 0 lo) == items.size)=true):=by
  rw [hw.1,hw.2];simp
 show wpAny _ _ (if (((bV items.size 0 lo:Nat):Int) == 0 && (1:Int) == 1 && (bV items.size items.size hi - bV items.size 0 lo) == items.size)=true then _ else _) _ _ s
 rw [if_pos hyes]
 unfold Builtin.Tuple.tupleIsExact
 refine wpAny_bind (wpAny_bind (wpAny_typeOf ht.typeIs (wpAny_pure ?_)))
 rw [if_pos (by decide)]
 refine wpAny_bind (wpAny_rule ?_)
 exact wpAny_pure ⟨_,rfl,wpAny_pure h⟩
end HT
namespace U2
open PySem PySem.Spec PyProof.Rows L2
noncomputable def Rf (K:PySem.W.Frag):V->Option Int->Option Int->Hp->VK->Prop:=fun x lo hi H Q=>∃ a xs,x=.ref a/\eQ K H a xs/\(HT.bV xs.length 0 lo=0/\HT.bV xs.length xs.length hi=xs.length)/\Q (.ref a) H
theorem Pg {X:Cx}:wK X (Rf X.K):=by
 intro pins s σ H x v vl vu lo hi sl Q I rx hs pl pu h
 obtain ⟨a,xs,rfl,hx,hw,q⟩:=h
 cases rx
 obtain ⟨its,r,ht,hz⟩:=I.tuple hx
 have hlen:its.toArray.size=xs.length:=by rw [List.size_toArray];exact r.length.symm
 refine ⟨"tuple",_,PyProof.Rows.slot_tuple_getitem.lookup,ht.typeIs,?_⟩
 refine HT.t6 ht hs pl pu (by rw [hlen];exact hw) ⟨.ref a,H,I,rfl,q⟩
noncomputable def wR (o:Bool) (te:UE) (tl th:UO):UE:=fun τ M Q=>te τ M fun x M1=>tl τ M1 fun l M2=>th τ M2 fun h M3=>match view M3 x with
 | .lst us=>mP o (gF us l h) M3 Q
 | .tup us=>Q (.tup (gF us l h)) M3
 | .str z=>z.length<=sizeLine/\Q (.str (Txt.slice z l h)) M3
 | _=>False
theorem O9 {K:PySem.W.Frag} {o:Bool} {te:TE} {te':UE} {tl th:TO} {tl' th':UO} (h0:bS K te te') (h1:C3 K tl tl') (h2:C3 K th th'):bS K (SQ (fun x lo hi H Q=>PX K x lo hi H Q\/Rf K x lo hi H Q) te tl th) (wR o te' tl' th'):=fun σ τ H M Q' rs rm q Q c =>
 h0 σ τ H M _ rs rm q _ fun u v M1 H1 s1 rm1 ru q1=>h1 σ τ H1 M1 _ (rs.stp s1) rm1 q1 _ fun lo M2 H2 s2 rm2 q2=>h2 σ τ H2 M2 _ ((rs.stp s1).stp s2) rm2 q2 _ fun hi M3 H3 s3 rm3 q3=>by
  have c3:=cN.stp c ((s1.trans s2).trans s3)
  have ru3:=ru.stp (s2.trans s3)
  split at q3
  ·rename_i us e
   obtain ⟨a,xs,rfl,r1,r2⟩:=gE rm3 ru3 e
   exact .inl (.inl ⟨a,xs,rfl,r1,fun p hp=>c3.lst rm3 (FO r2 lo hi) hp q3⟩)
  ·rename_i us e
   have e':=sL e
   subst e'
   obtain ⟨a,xs,rfl,r1,r2⟩:=ru3.tup
   by_cases hw:HT.bV xs.length 0 lo=0/\HT.bV xs.length xs.length hi=xs.length
   ·refine .inr ⟨a,xs,rfl,r1,hw,c3 _ _ M3 H3 (aZ.refl _ _) rm3 ?_ q3⟩
    have e4:gF us lo hi=us:=by
     unfold gF
     rw [r2.length,hw.1,hw.2,List.drop_zero,Nat.sub_zero,<- r2.length,List.take_length]
    rw [e4]
    exact ru3
   ·exact .inl (.inr (.inl ⟨a,xs,rfl,r1,hw,fun p hp=>c3.tup rm3 (FO r2 lo hi) hp q3⟩))
  ·rename_i z e
   have e':=xP e
   subst e'
   exact .inl (.inr (.inr ⟨z,ru3.str,q3.1,c3 _ _ M3 H3 (aZ.refl _ _) rm3 iF q3.2⟩))
  ·exact q3.elim
theorem jD {D:Dat} {a:Expr} {ta:UE} {pos:Pos} (own:Bool:=false) {lo hi:Option Expr} {tl th:UO} {p2:Pos} (ha:bA D a ta) (hl:MT D lo tl) (hh:MT D hi th):bA D (.Subscript a (.Slice lo hi none p2) pos) (wR own ta tl th):=by
 obtain ⟨_,p,s⟩:=ha;obtain ⟨_,q,r⟩:=hl;obtain ⟨_,u,v⟩:=hh
 refine ⟨_,fun X h=>?_,O9 s r v⟩
 have:=K7 (pos:=pos) (p2:=p2) (P8.or Pg) (p X h) (q X h) (u X h)
 rw [h.K] at this
 exact this
end U2
namespace Att
open PySem PySem.Spec PyProof.Rows PySem.W Calls
theorem GL (m:Int):(WData.int m).weight=Builtin.Int.intBits m:=by
 unfold WData.weight Builtin.Int.intBits;rfl
theorem En (ns:List Int):∀ m∈ns,Builtin.Int.intBits m<=WData.weightAll (ns.map WData.int):=by
 induction ns with
 | nil=>intro m hm;cases hm
 | cons k r ih =>
  intro m hm
  have e:WData.weightAll ((k :: r).map WData.int)=Builtin.Int.intBits k + 1 + WData.weightAll (r.map WData.int):=by
   rw [List.map_cons]
   conv=>lhs;unfold WData.weightAll
   rw [GL]
  rw [e]
  rcases List.mem_cons.mp hm with rfl | h
  ·omega
  ·have:=ih m h;omega
theorem OG {ns:List Int} (h:WData.layableAll [WData.list (ns.map WData.int)]=true):∀ m∈ns,Builtin.Int.intBits m<=2 ^ 20:=by
 intro m hm
 have h1:(WData.list (ns.map WData.int)).layable=true:=layableW_arg h _ (List.mem_singleton.mpr rfl)
 have h2:(WData.list (ns.map WData.int)).weight<=2 ^ 20:=of_decide_eq_true (Bool.and_eq_true_iff.mp h1).2
 have h3:(WData.list (ns.map WData.int)).weight=WData.weightAll (ns.map WData.int):=by
  conv=>lhs;unfold WData.weight
 rw [h3] at h2
 exact Nat.le_trans (En ns m hm) h2
theorem attach_callB {l:OpenLaw} {n:Nat} {q:Program} {loose:List Str} {XP:(Str->Option Value)->Heap->Prop} {YP:World->Heap->Prop} {d:DefRec}
  (hn:l.most=some n) (hdf:d.params.defaults=[])
  (call:∀ (w:World) (s₀ s₁:Shared) (mg mb:Str->Option Value) (fa:Addr) (o:Obj) (pm cd doc:Value) (a:Addr) (vs:List Value) (ns:List Int),
   Ground q loose [] XP w s₀ mg mb s₁.heap->YP w s₁.heap ->
   s₁.heap.get? fa=some o->o.data=.func (docDef d.name d.params d.body d.scope pm cd doc)->s₁.heap.CodeRec cd d.name->mg d.name=some (.ref fa) ->
   s₁.heap.get? a=some { cls:=.type "list",data:=.seq vs.toArray }->IntsAre vs ns->ns.length<=n->s₁.gens=#[]->(∀ m∈ns,Builtin.Int.intBits m<=2 ^ 20) ->
   codeAny (model l.prog w) callerA (.call (.ref fa) ⟨[.ref a],[]⟩) (fun r s'=>r=.ok (.ret (.bool true))/\OldK s₁.heap s'.heap/\s'.os=s₁.os/\AllBare s'.gens) s₁) :
  WalkO q loose XP YP l.row.toRowW d [] (fun f vs=>PySem.call f vs):=by
 intro w s₀ s₁ mg mb G Y fa o pm cd doc dV kV ho hd hcd hD hmg hg args vals as hpre hlay hrd hwl hlo
 obtain rfl:dV=.none:=Dflts.none hD hdf
 obtain rfl:kV=.none:=Dflts.noKw hD
 obtain ⟨a,vs,ns,rfl,rfl,hobj,hints,hlen⟩:=IY hn hpre hwl
 refine enter_call (codeAny_mono (call w s₀ s₁ mg mb fa o pm cd doc a vs ns G Y ho (fd_plain hd) hcd hmg hobj hints hlen hg (OG hlay)) fun r s' hq=>?_)
 obtain ⟨rfl,h2,h3,h4⟩:=hq
 exact ⟨.inl ⟨.bool true,.bool true,[],rfl,fun _=>rfl,.bool true,Ij l _,fun _=>⟨List.Pairwise.nil,fun _ hm=>(nomatch hm)⟩⟩,h2,h3,h4⟩
end Att
namespace L2
open PySem PySem.Spec PyProof.Rows
end L2
namespace U2
open PySem PySem.Spec PyProof.Rows L2
noncomputable def mD (ta:UA):UI:=fun τ M R=>ta τ M fun us M1=>match us with
 | [.lst us]=>R ⟨none,us.reverse⟩ M1
 | _=>False
end U2
namespace U2
open PySem PySem.Spec PyProof.Rows L2
section
variable {prog:Program} {w:World} {A:Around} {E:Value->Shared->Prop} {s:Shared}
end
noncomputable def dP (o:Bool) (ta:UA):UE:=fun τ M Q=>ta τ M fun us M1=>match us with
 | [x]=>match view M1 x with
  | .lst us=>mP o us.reverse M1 Q
  | _=>False
 | _=>False
end U2
namespace U2
open PySem PySem.Spec PyProof.Rows L2
section
variable {prog:Program} {w:World} {A:Around} {E:Value->Shared->Prop} {s:Shared}
end
end U2
namespace U2
open PySem PySem.Spec PyProof.Rows L2
end U2
namespace U2
open PySem PySem.Spec PyProof.Rows L2
theorem dM.len {K:PySem.W.Frag} {H:Hp}:∀ {ds:List PyData} {vs:List V},dM K H ds vs->ds.length=vs.length
 | [],vs,h=>by simp only [dM] at h;subst h;rfl
 | d :: ds,vs,h=>by
  simp only [dM] at h
  obtain ⟨v,vs',rfl,_,h2⟩:=h
  simp only [List.length_cons,dM.len h2]
theorem dM.at {X:Cx} {pins:List (Addr × Obj)} {σ:L2.St} {H:Hp} {s:Shared} (I:L2.Inv X pins σ H s):∀ {ds:List PyData} {vs:List V} {us:List Value},dM X.K H ds vs->Vals vs us->∀ (j:Nat) (d:PyData) (u:Value),ds[j]?=some d->us[j]?=some u->∃ as,Reads s.heap u d as
 | [],vs,us,h,r,j,d,u,e,_=>by cases e
 | d0 :: ds,vs,us,h,r,j,d,u,e,e'=>by
  simp only [dM] at h
  obtain ⟨v,vs',rfl,h1,h2⟩:=h
  cases r with
  | cons r rr =>
   cases j with
   | zero=>cases e;cases e';exact h1.reads I r
   | succ j=>exact dM.at I h2 rr j d u e e'
noncomputable def KA (K:PySem.W.Frag) (neg:Bool):R2:=fun x y H Q=>∃ a xs ds d,y=.ref a/\(eH K H a xs\/eQ K H a xs)/\dM K H ds xs/\fK K H d x/\PyData.canLayAll0 ds=true/\d.canLay0=true/\d.depth<=60/\Q (.bl (if neg then !ds.any (fun e=>PyData.eqv e d) else ds.any (fun e=>PyData.eqv e d))) H
theorem E7:∀ {ds:List PyData},PyData.canLayAll0 ds=true->∀ d∈ds,d.canLay0=true
 | [],_,d,h=>by cases h
 | a :: ds,hh,d,h=>by
  simp only [PyData.canLayAll0,Bool.and_eq_true] at hh
  rcases List.mem_cons.mp h with rfl | h
  ·exact hh.1
  ·exact E7 hh.2 d h
open Classical in
theorem vJ {X:Cx} {k:Nat} (hr:eI k X.A) {pins:List (Addr × Obj)} {σ:L2.St} {H:Hp} {s:Shared} (I:L2.Inv X pins σ H s) {ds:List PyData} {vs:List V} {its:List Value} (h:dM X.K H ds vs) (r:Vals vs its) {d:PyData} {x:V} {v:Value} (hd:fK X.K H d x) (rx:RelV x v) (c1:PyData.canLayAll0 ds=true) (c2:d.canLay0=true) (hdep:d.depth<=60) :
  ∃ e:Value->Bool,(∀ y∈its,SeqAt.EqAt X.A.in1 s y v (e y))/\its.any e=ds.any fun d'=>PyData.eqv d' d:=by
 have hl:ds.length=its.length:=by rw [h.len,r.length]
 obtain ⟨bs,rb⟩:=hd.reads I rx
 have key:∀ (j:Nat) (d':PyData) (u:Value),ds[j]?=some d'->its[j]?=some u->SeqAt.EqAt X.A.in1 s u v (PyData.eqv d' d):=fun j d' u e1 e2=>by
  obtain ⟨as,ra⟩:=dM.at I h r j d' u e1 e2
  exact SeqAt.eqAt_reads d' d _ _ _ _ _ _ ra rb (E7 c1 d' (List.mem_of_getElem? e1)) c2 (by have:=hr.units;show X.A.units + 1 + _ < _;omega)
 refine ⟨fun u=>decide (∃ (j:Nat) (d':PyData),ds[j]?=some d'/\its[j]?=some u/\PyData.eqv d' d=true),fun y hy=>?_,?_⟩
 ·obtain ⟨j,hj⟩:=List.getElem?_of_mem hy
  have hjl:j < ds.length:=by rw [hl];exact (List.getElem?_eq_some_iff.mp hj).1
  have hdj:ds[j]?=some ds[j]:=List.getElem?_eq_getElem hjl
  dsimp only
  by_cases hh:∃ (j:Nat) (d':PyData),ds[j]?=some d'/\its[j]?=some y/\PyData.eqv d' d=true
  ·rw [decide_eq_true hh]
   obtain ⟨i,d',e1,e2,e3⟩:=hh
   rw [<- e3];exact key i d' y e1 e2
  ·rw [decide_eq_false hh]
   have hf:PyData.eqv ds[j] d=false:=by
    cases hc:PyData.eqv ds[j] d with
    | false=>rfl
    | true=>exact absurd ⟨j,ds[j],hdj,hj,hc⟩ hh
   rw [<- hf];exact key j ds[j] y hdj hj
 ·rw [Bool.eq_iff_iff,List.any_eq_true,List.any_eq_true]
  constructor
  ·rintro ⟨u,hu,he⟩
   obtain ⟨j,d',e1,e2,e3⟩:=of_decide_eq_true he
   exact ⟨d',List.mem_of_getElem? e1,e3⟩
  ·rintro ⟨d',hd',he⟩
   obtain ⟨j,hj⟩:=List.getElem?_of_mem hd'
   have hjl:j < its.length:=by rw [<- hl];exact (List.getElem?_eq_some_iff.mp hj).1
   have hij:its[j]?=some its[j]:=List.getElem?_eq_getElem hjl
   exact ⟨its[j],List.getElem_mem hjl,decide_eq_true ⟨j,d',hj,hij,he⟩⟩
theorem RF {X:Cx} {k:Nat} (hr:eI k X.A):cY X (compareOp .In) (KA X.K false):=by
 intro pins s σ H x y v u Q I rx ry h
 obtain ⟨p,xs,ds,d,rfl,hq,hds,hd,c1,c2,hdep,q⟩:=h
 cases ry
 rcases hq with hq | hq
 ·obtain ⟨its,r,pl,hz⟩:=I.list hq
  obtain ⟨e,he,hany⟩:=vJ hr I hds r hd rx c1 c2 hdep
  refine SeqAt.in_listAt e pl.isList (fun w hw=>he w (by simpa using hw)) ⟨.bl _,H,I,rfl,?_⟩
  rw [show its.toArray.any e=its.any e by simp,hany]
  exact q
 ·obtain ⟨its,r,pl,hz⟩:=I.tuple hq
  obtain ⟨e,he,hany⟩:=vJ hr I hds r hd rx c1 c2 hdep
  refine SeqAt.in_tupleAt e pl (fun w hw=>he w (by simpa using hw)) ⟨.bl _,H,I,rfl,?_⟩
  rw [show its.toArray.any e=its.any e by simp,hany]
  exact q
theorem Jk {X:Cx} {k:Nat} (hr:eI k X.A):cY X (compareOp .NotIn) (KA X.K true):=by
 intro pins s σ H x y v u Q I rx ry h
 obtain ⟨p,xs,ds,d,rfl,hq,hds,hd,c1,c2,hdep,q⟩:=h
 cases ry
 rcases hq with hq | hq
 ·obtain ⟨its,r,pl,hz⟩:=I.list hq
  obtain ⟨e,he,hany⟩:=vJ hr I hds r hd rx c1 c2 hdep
  refine SeqAt.notIn_listAt e pl.isList (fun w hw=>he w (by simpa using hw)) ⟨.bl _,H,I,rfl,?_⟩
  rw [show its.toArray.any e=its.any e by simp,hany]
  exact q
 ·obtain ⟨its,r,pl,hz⟩:=I.tuple hq
  obtain ⟨e,he,hany⟩:=vJ hr I hds r hd rx c1 c2 hdep
  refine SeqAt.notIn_tupleAt e pl (fun w hw=>he w (by simpa using hw)) ⟨.bl _,H,I,rfl,?_⟩
  rw [show its.toArray.any e=its.any e by simp,hany]
  exact q
noncomputable def Gh (neg:Bool):eD:=fun x y M Q=>∃ us ds d,items M y=some us/\dO us=some ds/\pR M x=some d/\PyData.canLayAll0 ds=true/\d.canLay0=true/\d.depth<=60/\Q (.bl (if neg then !ds.any (fun e=>PyData.eqv e d) else ds.any (fun e=>PyData.eqv e d))) M
theorem Fq {K:PySem.W.Frag} {neg:Bool}:eJ K (KA K neg) (Gh neg):=fun x y u w H M Q' rm ru rw h Q c=>by
 obtain ⟨us,ds,d,e1,e2,e3,c1,c2,hdep,q⟩:=h
 obtain ⟨p,xs,rfl,hs,rs⟩:=qV rm rw e1
 exact ⟨p,xs,ds,d,rfl,hs,qB rs e2,xJ rm ru e3,c1,c2,hdep,c.here rm dF q⟩
theorem R0 {D:Dat}:nJ D .In (Gh false):=⟨⟨_,fun X h=>h.K ▸ RF h.room,Fq⟩⟩
theorem Mn {D:Dat}:nJ D .NotIn (Gh true):=⟨⟨_,fun X h=>h.K ▸ Jk h.room,Fq⟩⟩
end U2
namespace U2
open PySem PySem.Spec PyProof.Rows L2
noncomputable def strsOf:List U->Option (List Str)
 | []=>some []
 | .str x :: r=>(strsOf r).map (x :: ·)
 | _=>none
theorem G3:∀ ss:List Str,strsOf (ss.map U.str)=some ss
 | []=>rfl
 | s :: ss=>by simp only [List.map_cons,strsOf,G3 ss];rfl
theorem Hk {K:PySem.W.Frag} {H:Hp} {M:aG}:∀ {us:List U} {vs:List V} {ss:List Str},aK K H M us vs->strsOf us=some ss->vs=ss.map V.str
 | [],vs,ss,r,e=>by cases e;exact r.inv_nil
 | u :: us,vs,ss,r,e=>by
  obtain ⟨v,vs',rfl,a,b⟩:=r.inv_cons
  cases u with
  | str x =>
   simp only [strsOf] at e
   cases e2:strsOf us with
   | none=>rw [e2] at e;cases e
   | some ss' =>
    rw [e2] at e;cases e
    rw [a.str,Hk b e2];rfl
  | _=>cases e
theorem sQ {K:PySem.W.Frag} {H:Hp} {M:aG}:∀ ss:List Str,aK K H M (ss.map U.str) (ss.map V.str)
 | []=>.nil
 | s :: ss=>.cons iF (sQ ss)
end U2
namespace U2
open PySem PySem.Spec PyProof.Rows L2
end U2
namespace U2
open PySem PySem.Spec PyProof.Rows L2
abbrev HS (qual:Str) (scope:Scope) (L f c:Addr) (cl:List (Str × Addr)):Env:=PySem.W.envX qual scope L f (.ref c) cl
noncomputable def BW (P:Program) (w:World) (K:PySem.W.Frag) (mg:Str->Option Value) (base:Heap) (N:List Str) (qual:Str) (scope:Scope) (f c:Addr) (cl:List (Str × Addr)) (A:Around) (outer:List Env) (s:Shared) (H:Hp):Cx where
 prog:=P
 w:=w
 K:=K
 mg:=mg
 base:=base
 A:=A.deeper (HS qual scope s.heap.objs.size f c cl)
 N:=N
 s₀:=s
 H₀:=H
 env:=HS qual scope s.heap.objs.size f c cl
 outer:=outer
 stack:=HS qual scope s.heap.objs.size f c cl :: outer
 ex:=[]
 calm:=true
 fn:=fun _=>false
 pn:=[]
 xe:=fun _ _=>False
structure DX (N ps:List Str) (sc:Scope):Prop where
 kind:sc.kind=.function
 co:sc.isCoroutine=false
 gen:sc.isGenerator=false
 nd:N.Nodup
 pre:N.take ps.length=ps
 par:∀ x∈ps,sc.names.lookup x=some .local
 cells:∀ y∈sc.names,y.2≠.cell
 cap:∀ x∈N.drop ps.length,sc.names.lookup x=some .free
theorem zA:∀ {ps:List Str} {us:List Value} {i:Nat} {x:Str} {u:Value},ps.Nodup->ps[i]?=some x->us[i]?=some u->(ps.zip us).reverse.lookup x=some u
 | [],_,i,_,_,_,h,_=>by simp at h
 | _ :: _,[],i,_,_,_,_,h=>by simp at h
 | p :: ps,v :: us,i,x,u,nd,h1,h2=>by
  rw [List.zip_cons_cons,List.reverse_cons,List.lookup_append]
  cases i with
  | zero =>
   have e1:p=x:=by simpa using h1
   have e2:v=u:=by simpa using h2
   subst e1;subst e2
   have hn:(ps.zip us).reverse.lookup p=none:=by
    rw [List.lookup_eq_none_iff]
    intro q hq
    have hq':=List.mem_reverse.mp hq
    have:=(List.of_mem_zip hq').1
    have hne:p≠q.1:=fun z=>(List.nodup_cons.mp nd).1 (by rw [z];exact this)
    simpa using hne
   rw [hn]
   simp [List.lookup_cons]
  | succ i =>
   have:=zA (i:=i) (x:=x) (u:=u) (List.nodup_cons.mp nd).2 (by simpa using h1) (by simpa using h2)
   rw [this];rfl
theorem PF {P:Program} {w:World} {K:PySem.W.Frag} {mg:Str->Option Value} {base:Heap} {k:Nat} {fl c:Addr} {name qual:Str} {params:Arguments} {body:Expr} {scope:Scope} {cl:List (Str × Addr)} {pm ctv:Value} {N ps:List Str} {caps:List (Option V)} {sp:Sp}
  (ho:base.get? fl=some (PySem.W.kla_obj name qual params body scope cl pm c ctv)) (hc:base.CodeRec (.ref c) qual) (S:DX N ps scope)
  (inj:∀ x y a,cl.lookup x=some a->cl.lookup y=some a->x=y) (has:∀ x,scope.names.lookup x=some .free->∃ a,cl.lookup x=some a) (cel:∀ x a,cl.lookup x=some a->∃ v,base.IsCell a v)
  (cap:∀ (j:Nat) x v,N[ps.length + j]?=some x->caps[j]?=some (some v)->∃ a u,cl.lookup x=some a/\base.IsCell a (some u)/\RelV v u) (hlN:N.length=ps.length + caps.length)
  (len:∀ vs H Q E,sp vs H Q E->vs.length=ps.length)
  (hbody:∀ (A:Around) (outer:List Env) (s:Shared) (H:Hp) (vs:List V) (Q:VK) (E:XK),eI k (A.deeper (HS qual scope s.heap.objs.size fl c cl))->sp vs H Q E ->
   ∃ t,PE (BW P w K mg base N qual scope fl c cl A outer s H) body t/\t (vs.map some++caps) H Q) :
  gI P w K mg base mM (k + 1) fl (PySem.W.kla_fn name qual params body scope cl pm (.ref c) ctv) ps sp:=by
 refine ⟨len,fun A outer s H args us vs Q E hr e0 hb r hsp=>?_⟩
 have hl:=len _ _ _ _ hsp
 have lim:s.heap.NoLimit:=e0.mod.nolimit.keeps fun b o e=>(e0.bs b o e).1
 have hloc:∀ y∈ps.zip us,scope.names.lookup y.1=some .local:=fun ⟨n,v⟩ hy=>S.par n (List.of_mem_zip hy).1
 refine PySem.W.kla_callFunE hr.depth (e0.bs _ _ ho).1 rfl S.co S.gen rfl (hc.keeps fun b o e=>(e0.bs b o e).1) (hb _ _ _ _ ?_)
 refine wpAny_newFunctionEnv S.cells hloc (fun h₁ hns hsb=>⟨lim.fresh _ hsb,PySem.W.kla_codeExpr ?_⟩) S.kind
 have keep:∀ b o,s.heap.get? b=some o->h₁.get? b=some o:=fun b o e=>hsb.extBut b o (Nat.ne_of_lt (Heap.lt_size e)) (Heap.get?_push_of_some _ e)
 obtain ⟨t,ht,hq⟩:=hbody A outer s H vs Q E (hr.deeper _) hsp
 have I:L2.Inv (BW P w K mg base N qual scope fl c cl A outer s H) [] (vs.map some++caps) H { s with heap:=h₁,toks:=s.toks + (ps.zip us).length }:=by
  have noA:∀ b:Addr,b ∉ (BW P w K mg base N qual scope fl c cl A outer s H).ex:=fun b z=>absurd (show b∈([]:List Addr) from z) (by simp)
  refine ⟨⟨e0.mod,S.kind,rfl,rfl,Nat.le_refl _,inj,fun y hy=>?_,fun y a z=>(by cases z),fun _=>hr.hd,Around.frames_deeper e0.frames,.inr ⟨rfl,rfl⟩,fun b z=>absurd z (noA b),e0.bs,e0.bsz,fun b _ _=>noA b,fun b z=>absurd z (noA b),e0.funs,e0.frf⟩,
   rfl,e0.bare,Un.kept keep,⟨_,hns,fun i y v h1 h2 h3=>?_⟩,fun y a h=>?_,e0.hok.fresh (Nat.le_refl _),fun y a h=>?_,fun p hp=>absurd (show p∈([]:List (Addr × Obj)) from hp) (by simp),e0.hok.kept keep,?_⟩
  ·have hy:scope.names.lookup y=some .cell\/scope.names.lookup y=some .free:=hy
   rcases hy with hy | hy
   ·exact absurd rfl (S.cells _ (PySem.mem_of_lookup hy))
   ·exact has y hy
  ·have hlen:(vs.map some).length=ps.length:=by rw [List.length_map,hl]
   by_cases hi:i < ps.length
   ·have ha:vs[i]?=some v:=by
     rw [List.getElem?_append_left (by rw [hlen];exact hi),List.getElem?_map] at h2
     cases e:vs[i]? with
     | none=>rw [e] at h2;cases h2
     | some a=>rw [e] at h2;cases h2;rfl
    obtain ⟨u,hu,rv⟩:=r.get ha
    have hp:ps[i]?=some y:=by rw [<- S.pre,List.getElem?_take_of_lt hi];exact h1
    have ndP:ps.Nodup:=by rw [<- S.pre];exact S.nd.sublist (List.take_sublist _ _)
    exact ⟨u,rv,.inl ⟨S.par y (List.mem_of_getElem? hp),zA ndP hp hu⟩⟩
   ·obtain ⟨j,rfl⟩:∃ j,i=ps.length + j:=⟨i - ps.length,by omega⟩
    rw [List.getElem?_append_right (by rw [hlen];omega),hlen,Nat.add_sub_cancel_left] at h2
    obtain ⟨a,u,e1,e2,e3⟩:=cap j y v h1 h2
    have hk:scope.names.lookup y=some .free:=S.cap y (List.mem_of_getElem? (i:=j) (by rw [List.getElem?_drop];exact h1))
    exact ⟨u,e3,.inr ⟨.inr hk,a,e1,e2.keeps fun b o e=>keep b o (e0.bs b o e).1⟩⟩
  ·obtain ⟨v,hv⟩:=cel y a h
   exact ⟨v,hv.keeps fun b o e=>keep b o (e0.bs b o e).1⟩
  ·obtain ⟨v,o,hv,_⟩:=cel y a h
   exact (e0.bs _ _ hv).2
  ·rw [List.length_append,List.length_map,hl];exact hlN.symm
 refine wpAny_mono (ht [] _ _ H Q I hq) (fun u s' hs=>?_) fun e s' hs=>hs.elim
 obtain ⟨v,H',J,rv,q⟩:=hs
 exact ⟨v,H',J.os,J.bare,J.base,J.hok,rv,q⟩
end U2
namespace U2
open PySem PySem.Spec PyProof.Rows L2
structure IW where
 params:Arguments
 body:Expr
 scope:Scope
noncomputable def HX (X:Cx) (s:Shared) (H:Hp) (M:aG) (q:Str) (l:IW) (fl:Addr):Prop :=
 ∃ cl pm ctv c oc vs t,closureFor l.scope X.env=pure cl/\(s.heap.get? fl=some (PySem.W.kla_obj "<lambda>" q l.params l.body l.scope cl pm c ctv)/\H fl=none/\fl≠X.env.locals/\fl ∉ X.fs)/\H c=some (.frz oc (.own 0))/\M c=none/\oc.data=.fields vs/\vs[1]?=some (.str q t)
abbrev uY:=SU->aG->(List U->List Addr->aG->Prop)->Prop
noncomputable def w6 (D:Dat) (q:Str) (es:List Expr) (ls:List IW) (t:uY):Prop :=
 ∀ X,mU D X->∀ (pos:Pos) (pins:List (Addr × Obj)) (s:Shared) (σ:L2.St) (H:Hp) (τ:SU) (M:aG) (Q:List U->List Addr->aG->Prop),L2.Inv X pins σ H s->dW D.K H M σ τ->RelM D.K H M->t τ M Q ->
  wpAny (model X.prog X.w) X.A (spliced (backTo pos (starEach es X.env))) (fun us s'=>∃ ws vs fs M' H',L2.Inv X pins σ H' s'/\Vals vs us/\aZ H M H' M'/\RelM D.K H' M'/\aK D.K H' M' ws vs/\Paired (HX X s' H' M' q) ls fs/\Q ws fs M') X.xe s
noncomputable def hW:uY:=fun _ M Q=>Q [] [] M
noncomputable def eV (te:UE) (t:uY):uY:=fun τ M Q=>te τ M fun u M1=>t τ M1 fun us fs M2=>Q (u :: us) fs M2
noncomputable def gU (P:Addr) (q:Str) (t:uY):uY:=fun τ M Q=>M P=some (.tbl q)/\∀ fl,t τ M fun us fs M2=>Q (.ref fl :: us) (fl :: fs) M2
theorem QU {D:Dat} {q:Str}:w6 D q [] [] hW:=fun X h pos pins s σ H τ M Q I rs rm ht=>Calls.spliced_nil ⟨[],[],[],M,H,I,.nil,aZ.refl H M,rm,.nil,.nil,ht⟩
theorem Ao {D:Dat} {q:Str} {e:Expr} {es:List Expr} {ls:List IW} {te:UE} {t:uY} (ha:bA D e te) (hr:w6 D q es ls t) (hs:∀ env,starEach (e :: es) env=(false,eval e env) :: starEach es env:=by intro _;rfl):w6 D q (e :: es) ls (eV te t):=by
 obtain ⟨t0,p,sim⟩:=ha
 intro X h pos pins s σ H τ M Q I rs rm ht
 rw [hs]
 show wpAny _ _ (spliced ((false,eval e X.env) :: backTo pos (starEach es X.env))) _ _ s
 refine Calls.spliced_cons (bJ (p X h pins s σ H (fun v H1=>∃ u M1,aZ H M H1 M1/\RelM D.K H1 M1/\aP D.K H1 M1 u v/\t τ M1 fun us fs M2=>Q (u :: us) fs M2) I (sim σ τ H M _ rs rm ht _ fun u v M1 H1 st rm1 ru q=>⟨u,M1,st,rm1,ru,q⟩)) fun uu s1 ⟨v,H1,I1,r1,u,M1,st,rm1,ru,q⟩=>?_)
 exact bJ (hr X h pos pins s1 σ H1 τ M1 _ I1 (rs.stp st) rm1 q) fun us s2 ⟨ws,vs,fs,M2,H2,I2,rv,st2,rm2,rus,pl,q2⟩ =>
  ⟨u :: ws,v :: vs,fs,M2,H2,I2,.cons r1 rv,st.trans st2,rm2,.cons (ru.stp st2) rus,pl,q2⟩
noncomputable def j5 (base:Heap) (mg:Str->Option Value):Prop:=∃ bm o,mg "__builtins__"=some (.ref bm)/\bm≠builtinsNs/\bm≠mainGlobals/\base.get? bm=some o/\o.cls=.type "module"/\o.dict=some builtinsNs/\o.data=.plain
theorem F6 {pos:Pos} {a b:Int} {c v:Value}:∀ (l:List Value),TriplesOk l->codeAmong pos (l++[rawInt a,rawInt b,c])=some v->codeAmong pos l=some v\/v=c:=fun l h=>by
 fun_induction TriplesOk l with
 | case1 =>
  intro e
  simp only [List.nil_append,codeAmong,rawInt] at e
  split at e
  ·cases e;exact .inr rfl
  ·cases e
 | case2 a' t b' u x rest ih =>
  intro e
  simp only [List.cons_append,codeAmong] at e ⊢
  split at e
  ·rename_i hc;rw [if_pos hc];exact .inl e
  ·rename_i hc;rw [if_neg hc];exact ih h e
 | case3 l h1 h2=>exact h.elim
theorem Inv.addPin {X:Cx} {pins:List (Addr × Obj)} {σ:L2.St} {H:Hp} {s:Shared} {a:Addr} {o:Obj} (I:L2.Inv X pins σ H s) (h:s.heap.get? a=some o/\H a=none/\a≠X.env.locals/\a ∉ X.fs/\∀ v,o.data≠.cell v):L2.Inv X ((a,o) :: pins) σ H s :=
 ⟨I.ok,I.os,I.bare,I.base,I.loc,I.cell,I.free,I.freeC,fun p hp=>by
  rcases List.mem_append.mp hp with hp | hp
  ·exact I.pin p (List.mem_append_left _ hp)
  ·rcases List.mem_cons.mp hp with rfl | hp
   ·exact h
   ·exact I.pin p (List.mem_append_right _ hp),I.hok,I.len⟩
theorem Inv.unPin {X:Cx} {pins:List (Addr × Obj)} {σ:L2.St} {H:Hp} {s:Shared} {a:Addr} {o:Obj} (I:L2.Inv X ((a,o) :: pins) σ H s):L2.Inv X pins σ H s :=
 ⟨I.ok,I.os,I.bare,I.base,I.loc,I.cell,I.free,I.freeC,fun p hp=>I.pin p (by
  rcases List.mem_append.mp hp with hp | hp
  ·exact List.mem_append_left _ hp
  ·exact List.mem_append_right _ (List.mem_cons_of_mem _ hp)),I.hok,I.len⟩
theorem PD {D:Dat} {q:Str} {es:List Expr} {ls:List IW} {t:uY} {params:Arguments} {body:Expr} {scope:Scope} {lpos:Pos} {c0 P:Addr} (hK:PySem.W.codeHdIn D.K c0 P=true) (hB:j5 D.base D.mg) (hr:w6 D q es ls t) (hcod:D.cod=.ref c0:=by rfl) (hq:D.qual++"<lambda>"=q:=by rfl)
  (hfree:∀ y∈scope.names,y.2=.free->D.sc.names.lookup y.1=some .cell\/D.sc.names.lookup y.1=some .free:=by first | decide +kernel | (dsimp only;decide +kernel)) (hs:∀ env,starEach (.Lambda params body scope lpos :: es) env=(false,eval (.Lambda params body scope lpos) env) :: starEach es env:=by intro _;rfl) (hdef:∀ env,defaultsOf params env=([],[]):=by intro _;rfl) :
  w6 D q (.Lambda params body scope lpos :: es) (⟨params,body,scope⟩ :: ls) (gU P q t):=by
 intro X h pos pins s σ H τ M Q I rs rm ⟨hMP,ht⟩
 obtain ⟨huniq,ps,hHP,htr,hcodes⟩:=rm P _ hMP
 have hPg:s.heap.get? P=some (PySem.W.tabObj ps):=I.hok P _ hHP
 obtain ⟨e1,e2⟩:=h.cod (by rw [hcod];simp)
 rw [hcod] at e1
 obtain ⟨cl,hclos,hcl,hcl2⟩:=tF (env:=X.env) (scope:=scope) (fun x hx e=>I.ok.has x.1 (by show X.env.scope.names.lookup _=_\/X.env.scope.names.lookup _=_;rw [h.sc];exact hfree x hx e))
 have C:PySem.W.CodeHd s.heap c0 P:=PySem.W.codeHd_of_K I.kIn (by rw [h.K];exact hK)
 have hg:s.heap.Ns mainGlobals X.mg:=I.mod.glob.keeps I.bk
 have noP:∀ b o,X.base.get? b=some o->b≠P:=fun b o e z=>by
  have:=(I.bs b o e).2
  rw [z,hHP] at this;cases this
 have hgP:mainGlobals≠P:=by
  obtain ⟨o,es,ep,e,_⟩:=I.mod.glob
  exact noP _ _ e
 have hb:s.heap.BuiltinsAt X.mg P:=by
  obtain ⟨bm,o,b1,b2,b3,b4,b5⟩:=hB
  rw [<- h.base] at b4
  rw [<- h.mg] at b1
  exact ⟨bm,o,b1,b2,b3,noP _ _ b4,I.bk _ _ b4,b5⟩
 rw [hs]
 show wpAny _ _ (spliced ((false,eval (.Lambda params body scope lpos) X.env) :: backTo pos (starEach es X.env))) _ _ s
 refine Calls.spliced_cons (PySem.W.kla_eval (hdef _) ?_)
 rw [e2,hq]
 have done:∀ (H1:Hp) (s1:Shared) (fl c:Addr) (oc:Obj) (vs:Array Value) (tk:Tok) (pm ctv:Value),L2.Inv X pins σ H1 s1->s1.heap.get? fl=some (PySem.W.kla_obj "<lambda>" q params body scope cl pm c ctv)->H1 fl=none->fl≠X.env.locals->fl ∉ X.fs->aZ H M H1 M->RelM D.K H1 M->H1 c=some (.frz oc (.own 0))->M c=none->oc.data=.fields vs->vs[1]?=some (.str q tk) ->
   wpAny (model X.prog X.w) X.A (spliced (backTo pos (starEach es X.env))) (fun us s'=>∃ ws vs fs M' H',L2.Inv X pins σ H' s'/\Vals vs (.ref fl :: us)/\aZ H M H' M'/\RelM D.K H' M'/\aK D.K H' M' ws vs/\Paired (HX X s' H' M' q) (⟨params,body,scope⟩ :: ls) fs/\Q ws fs M') X.xe s1:=by
  intro H1 s1 fl c oc vs tk pm ctv I1 hfl hH1 hne hnf st rm1 hc hMc hd hv
  have Ip:=Inv.addPin I1 ⟨hfl,hH1,hne,hnf,fun v z=>by cases z⟩
  refine bJ (hr X h pos _ s1 σ H1 τ M _ Ip (rs.stp st) rm1 (ht fl)) fun us s2 ⟨ws,vs',fs,M2,H2,I2,rv,st2,rm2,rus,pl,q2⟩=>?_
  obtain ⟨p1,p2,p3,p4,_⟩:=I2.pin (fl,_) (List.mem_append_right _ List.mem_cons_self)
  exact ⟨.ref fl :: ws,.ref fl :: vs',fl :: fs,M2,H2,Inv.unPin I2,.cons rfl rv,st.trans st2,rm2,.cons sU rus,.cons ⟨cl,pm,ctv,c,oc,vs,tk,hclos,⟨p1,p2,p3,p4⟩,(st2.to hc hMc).1,(st2.to hc hMc).2,hd,hv⟩ pl,q2⟩
 have hLs:X.env.locals < s.heap.objs.size:=I.lt
 cases hf:codeAmong lpos ps.toList with
 | some cv =>
  obtain ⟨c,oc,vs,tk,rfl,hHc,hMc,hd,hv⟩:=hcodes _ _ hf
  refine PySem.W.kla_makeFunctionHit (mg:=X.mg) hclos I.ok.glob hg e1 C hPg htr hf hb fun ctv h' tk' hk hsz=>?_
  have keep:∀ b o,s.heap.get? b=some o->(h'.push (PySem.W.kla_obj "<lambda>" q params body scope cl ((X.mg "__name__").getD .none) c ctv)).get? b=some o:=fun b o e=>Heap.get?_push_of_some _ (hk b o e)
  exact done H _ h'.objs.size c oc vs tk _ ctv (I.kept (t':=tk') keep) (Heap.get?_push_size _ rfl) (I.hok.fresh hsz) (Nat.ne_of_gt (Nat.lt_of_lt_of_le hLs hsz)) (I.nofs hsz) (aZ.refl H M) rm hHc hMc hd hv
 | none =>
  refine PySem.W.kla_makeFunction (mg:=X.mg) hclos I.ok.glob hg e1 C hPg htr hf hgP hb fun c ctv h' tk' hx hge hlt hrec htb=>?_
  obtain ⟨c₂,oc,vs,tk,e2,hoc,hd,hv⟩:=hrec
  cases e2
  have hHc:H c=none:=I.hok.fresh hge
  have hcP:c≠P:=fun z=>by rw [z,hHP] at hHc;cases hHc
  have hsz:s.heap.objs.size<=h'.objs.size:=by omega
  generalize hps:ps++#[rawInt lpos.line,rawInt lpos.col,.ref c]=ps' at htb
  generalize hobj:PySem.W.kla_obj "<lambda>" q params body scope cl ((X.mg "__name__").getD .none) c ctv=obj
  have keep:∀ b o,b≠P->s.heap.get? b=some o->(h'.push obj).get? b=some o:=fun b o n e=>Heap.get?_push_of_some _ (hx b o n e)
  have hH1c:upd (upd H c (.frz oc (.own 0))) P (.tbl ps') c=some (.frz oc (.own 0)):=by rw [bY hcP,dY]
  have hH1:∀ b,b≠P->b≠c->upd (upd H c (.frz oc (.own 0))) P (.tbl ps') b=H b:=fun b n1 n2=>by rw [bY n1,bY n2]
  have hH1P:upd (upd H c (.frz oc (.own 0))) P (.tbl ps') P=some (.tbl ps'):=dY
  generalize hHH:upd (upd H c (.frz oc (.own 0))) P (.tbl ps')=H1 at hH1c hH1 hH1P
  have nc:∀ b o,H b=some o->b≠c:=fun b o e z=>by rw [z,hHc] at e;cases e
  have lt:∀ b o,s.heap.get? b=some o->b≠c:=fun b o e=>Nat.ne_of_lt (Nat.lt_of_lt_of_le (Heap.lt_size e) hge)
  have un:Un X.fs [] H H1 s.heap (h'.push obj):=by
   refine ⟨fun b o e n _ _=>keep b o (fun z=>by rw [z,hHP] at n;cases n) e,fun b o e n _ _=>⟨o.slots,keep b o (fun z=>by rw [z,hHP] at n;cases n) e⟩,fun b o e n _=>?_,fun b o e _=>?_,fun b xs e=>?_,fun b o u e=>?_,fun b qs e=>?_⟩
   ·rw [hH1 b (fun z=>by rw [z,hHP] at n;cases n) (lt b o e)];exact n
   ·by_cases hbP:b=P
    ·subst hbP;exact ⟨_,Heap.get?_push_of_some _ htb⟩
    ·exact ⟨o,keep b o hbP e⟩
   ·rw [hH1 b (fun z=>by rw [z,hHP] at e;cases e) (nc b _ e)];exact e
   ·rw [hH1 b (fun z=>by rw [z,hHP] at e;cases e) (nc b _ e)];exact e
   ·by_cases hbP:b=P
    ·subst hbP
     rw [hHP] at e;cases e
     exact ⟨_,by rw [hH1P,<- hps]⟩
    ·exact ⟨#[],by rw [hH1 b hbP (nc b _ e),e];simp⟩
  have hok:iW X.prog X.w H1 (h'.push obj):=by
   intro b o e
   by_cases hbP:b=P
   ·subst hbP;rw [hH1P] at e;cases e;exact Heap.get?_push_of_some _ htb
   ·by_cases hbc:b=c
    ·subst hbc;rw [hH1c] at e;cases e;exact ⟨Heap.get?_push_of_some _ hoc,_,Heap.get?_push_of_some _ hoc⟩
    ·rw [hH1 b hbP hbc] at e
     refine (I.hok b o e).stay (fun a u ha ea=>keep a u (fun z=>?_) ea) (fun a ea=>?_) (fun a xs ea=>?_)
     ·rcases ha with ha | ha
      ·exact hbP (ha.symm.trans z)
      ·rw [z,hHP] at ha;cases ha
     ·rw [hH1 a (fun z=>by rw [z,hHP] at ea;cases ea) (nc a _ ea)];exact ea
     ·rw [hH1 a (fun z=>by rw [z,hHP] at ea;cases ea) (nc a _ ea)];exact ea
  have hMc:M c=none:=rm.no hHc
  have st:aZ H M H1 M:=.by' fun b o e m=>⟨by rw [hH1 b (fun z=>by rw [z,hMP] at m;cases m) (nc b o e)];exact e,m⟩
  have rm1:RelM D.K H1 M:=fun a mo e=>by
   by_cases haP:a=P
   ·subst haP
    rw [hMP] at e;cases e
    refine ⟨huniq,ps',hH1P,by rw [<- hps];simpa using TriplesOk_snoc _ _ _ _ htr,fun pos' v hv'=>?_⟩
    rw [<- hps] at hv'
    have hv2:codeAmong pos' (ps.toList++[rawInt lpos.line,rawInt lpos.col,.ref c])=some v:=by simpa using hv'
    rcases F6 ps.toList htr hv2 with z | rfl
    ·obtain ⟨c',oc',vs',t',y1,y2,y3,y4⟩:=hcodes _ _ z
     exact ⟨c',oc',vs',t',y1,(st.to y2 y3).1,y3,y4⟩
    ·exact ⟨c,oc,vs,tk,rfl,hH1c,hMc,hd,hv⟩
   ·have hac:a≠c:=fun z=>by subst z;rw [hMc] at e;cases e
    exact (rm a mo e).stp (fun _ _ z=>z) st (hH1 a haP hac)
  have I1:=I.un (t':=tk') un hok
  refine done H1 _ h'.objs.size c oc vs tk _ ctv I1 (by rw [<- hobj];exact Heap.get?_push_size _ rfl) (by rw [hH1 _ (Nat.ne_of_gt (Nat.lt_of_lt_of_le (Heap.lt_size hPg) hsz)) (Nat.ne_of_gt hlt)];exact I.hok.fresh hsz) (Nat.ne_of_gt (Nat.lt_of_lt_of_le hLs hsz)) (I.nofs hsz) st rm1 hH1c hMc hd hv
end U2
namespace U2
open PySem PySem.Spec PyProof.Rows L2
structure n9 (P:Program) (w:World) (K:PySem.W.Frag) (mg:Str->Option Value) (base:Heap) (j:Nat) (f:Addr) (sp:bN):Prop where
 ex:∃ fd ps,gI P w K mg base mM j f fd ps (dQ K sp)/\(PySem.W.keepIn K (.ref f)=true\/∃ o fd',base.get? f=some o/\o.data=.func fd')/\Binds K fd ps []
theorem J9 {X:Cx} {x:Str} {p pos:Pos} {e:Expr} {es:List Expr} {i k:Nat} {f:Addr} {fd:FuncData} {ps:List Str} {sp:Sp} {t:TA} (hN:X.N[i]?=some x) (hv:AF X.env.scope x) (F:gI X.prog X.w X.K X.mg X.base mM k f fd ps sp) (hr:eI k X.A) (hk:PySem.W.keepIn X.K (.ref f)=true\/∃ o fd',X.base.get? f=some o/\o.data=.func fd') (hb:Binds X.K fd ps [])
  (ha:PA X (e :: es) t) (hd:(x == ("__debug__":Str))=false) (hcd:(x == ("__classdict__":Str))=false) (he:starEach (e :: es) X.env=(false,eval e X.env) :: starEach es X.env) (hpl:(backTo pos (starEach es X.env)).any (·.1)=false) :
  PE X (.Call (.Name x p) (e :: es) [] pos) (yK i f sp t):=by
 intro pins s σ H Q I h
 refine wpAny_Call_Name_kw (bJ (Ce (i:=i) hN hv hd hcd pins s σ H _ I h) fun v s1 ⟨x',H1,I1,r1,e1,q1⟩=>?_)
 subst e1
 cases r1
 rcases hk with hk | ⟨o,fd',ho,hof⟩
 ·refine PySem.W.callWith_K (h₀:=X.base) I1.ok.mod.kin hk (bJ (ha pos pins s1 σ H1 _ I1 q1) fun us s2 ⟨vs,H2,I2,r,q⟩=>⟨I2.kIn,?_⟩) he hpl
  exact xU (dvs:=[]) F hr hb .nil BS I2 r (by rw [List.append_nil];exact q)
 ·have ha':=ha pos pins s1 σ H1 _ I1 q1
  rw [he] at ha' ⊢
  refine PySem.W.callWith_of (P:=fun h=>h.get? f=some o) (by show ((false || (backTo pos (starEach es X.env)).any (·.1)) || false)=false;rw [hpl];rfl) (fun h0 hh=>?_) (Calls.evalArgs_plain (bJ ha' fun us s2 ⟨vs,H2,I2,r,q⟩=>⟨I2.bk _ _ ho,?_⟩))
  ·refine ⟨.frame,.inl rfl,(PySem.W.Looks.ld (part:=none) hh).andThen ?_⟩
   obtain ⟨oc,od,odt,osl⟩:=o
   have:odt=.func fd':=hof
   subst this
   exact .now
  ·exact xU (dvs:=[]) F hr hb .nil BS I2 r (by rw [List.append_nil];exact q)
section
variable {D:Dat}
theorem Mv (i:Nat) {x:Str} {p pos:Pos} {e:Expr} {es:List Expr} {j:Nat} {f:Addr} {sp:bN} {tas:UA} (F:n9 D.prog D.w D.K D.mg D.base j f sp) (ha:lH D (e :: es) tas) (hN:D.N[i]?=some x:=by rfl) (hv:AF D.sc x:=by first | exact Or.inl rfl | exact Or.inr (Or.inl rfl) | exact Or.inr (Or.inr rfl))
  (hj:j<=D.k:=by first | exact Nat.le_refl _ | (dsimp only;omega) | omega | (dsimp only [cQ];omega)) (hd:(x == ("__debug__":Str))=false:=by decide) (hcd:(x == ("__classdict__":Str))=false:=by decide)
  (he:∀ env,starEach (e :: es) env=(false,eval e env) :: starEach es env:=by intro _;rfl) (hpl:∀ env,(backTo pos (starEach es env)).any (·.1)=false:=by intro _;rfl):bA D (.Call (.Name x p) (e :: es) [] pos) (qH i f sp tas):=by
 obtain ⟨fd,ps,F,kp,hb⟩:=F.ex
 obtain ⟨t,q,s⟩:=ha
 refine ⟨yK i f (dQ D.K sp) t,fun X h=>?_,fun σ τ H M Q' rs rm h Q c=>?_⟩
 ·have F':gI X.prog X.w X.K X.mg X.base mM j f fd ps (dQ D.K sp):=by rw [h.prog,h.w,h.K,h.mg,h.base];exact F
  exact J9 (by rw [h.N];exact hN) (by rw [h.sc];exact hv) F' (h.room.mono hj) (by rw [h.K,h.base];exact kp) (by rw [h.K];exact hb) (q X h) hd hcd (he _) (hpl _)
 ·refine Ag i σ τ H M _ rs rm h _ fun u v M1 H1 s1 rm1 ru h1=>?_
  obtain ⟨rfl,h1⟩:=h1
  refine ⟨ru.ref,s σ τ H1 M1 _ (rs.stp s1) rm1 h1 _ fun us vs M2 H2 s2 rm2 rus h2=>?_⟩
  exact ⟨us,M2,Q',rm2,rus,h2,cN.stp c (s1.trans s2)⟩
end
noncomputable def D9 (H:Hp) (M:aG) (H1:Hp) (M1:aG):Prop:=∀ b o,H b=some o->M b=none->(∀ oc,o≠.frz oc (.own 0))->(∀ ps,o≠.tbl ps)->H1 b=some o/\M1 b=none
mutual
theorem aP.stq {K:PySem.W.Frag} {H H1:Hp} {M M1:aG} (st:D9 H M H1 M1):∀ {u:U} {v:V},aP K H M u v->aP K H1 M1 u v
 | .non,_,h=>by simpa only [aP] using h
 | .bl _,_,h=>by simpa only [aP] using h
 | .int _,_,h=>by simpa only [aP] using h
 | .str _,_,h=>by simpa only [aP] using h
 | .ty _,_,h=>by simpa only [aP] using h
 | .ref _,_,h=>by simpa only [aP] using h
 | .tup us,_,h=>by
  simp only [aP] at h ⊢
  obtain ⟨a,vs,e,h1,h2⟩:=h
  refine ⟨a,vs,e,?_,aK.stq st h2⟩
  obtain ⟨m,r⟩:=h1
  have q:=st a _ r m (by simp) (by simp)
  exact ⟨q.2,q.1⟩
 | .dic ks tk us,_,h=>by
  simp only [aP] at h ⊢
  obtain ⟨a,vs,e,m,h1,h2⟩:=h
  refine ⟨a,vs,e,?_,?_,aK.stq st h2⟩
  ·cases tk with
   | true=>obtain ⟨ws,e | ⟨o,e⟩,r⟩:=h1 <;> exact (st a _ e m (by intro oc z;cases z) (by simp)).2
   | false=>obtain ⟨ws,e | ⟨o,e⟩,r⟩:=h1 <;> exact (st a _ e m (by intro oc z;cases z) (by simp)).2
  ·cases tk with
   | true=>obtain ⟨ws,e | ⟨o,e⟩,r⟩:=h1;exact ⟨ws,.inl (st a _ e m (by simp) (by simp)).1,r⟩;exact ⟨ws,.inr ⟨o,(st a _ e m (by intro oc z;cases z) (by simp)).1⟩,r⟩
   | false=>obtain ⟨ws,e | ⟨o,e⟩,r⟩:=h1;exact ⟨ws,.inl (st a _ e m (by simp) (by simp)).1,r⟩;exact ⟨ws,.inr ⟨o,(st a _ e m (by intro oc z;cases z) (by simp)).1⟩,r⟩
 | .lst us,_,h=>by
  simp only [aP] at h ⊢
  obtain ⟨a,vs,e,h1,h2⟩:=h
  refine ⟨a,vs,e,?_,aK.stq st h2⟩
  rcases h1 with ⟨m,r⟩ | k
  ·rcases r with r | ⟨o,r⟩
   ·have q:=st a _ r m (by simp) (by simp)
    exact .inl ⟨q.2,.inl q.1⟩
   ·have q:=st a _ r m (by intro oc z;cases z) (by simp)
    exact .inl ⟨q.2,.inr ⟨o,q.1⟩⟩
  ·exact .inr k
theorem aK.stq {K:PySem.W.Frag} {H H1:Hp} {M M1:aG} (st:D9 H M H1 M1):∀ {us:List U} {vs:List V},aK K H M us vs->aK K H1 M1 us vs
 | [],_,h=>by simpa only [aK] using h
 | u :: us,_,h=>by
  simp only [aK] at h ⊢
  obtain ⟨v,vs',e,h1,h2⟩:=h
  exact ⟨v,vs',e,aP.stq st h1,aK.stq st h2⟩
end
theorem nG.stq {κ:Type} {K:PySem.W.Frag} {H H1:Hp} {M M1:aG} (st:D9 H M H1 M1):∀ {us:List (κ × U)} {vs:List (κ × V)},nG K H M us vs->nG K H1 M1 us vs
 | _,_,.nil=>.nil
 | _,_,.cons h t=>.cons ⟨h.1,h.2.stq st⟩ (nG.stq st t)
noncomputable def dU (q:Str) (o:Option HO):Prop:=∃ oc vs t,o=some (.frz oc (.own 0))/\oc.data=.fields vs/\vs[1]?=some (.str q t)
open Classical in
noncomputable def j6 (q:Str) (H:Hp):Hp:=fun b=>if dU q (H b) then none else H b
open Classical in
noncomputable def nX (q:Str) (H H2:Hp):Hp:=fun b=>if dU q (H b) then H b else H2 b
noncomputable def u5 (M:aG) (a:Addr):aG:=fun b=>if b=a then none else M b
theorem S6 {M:aG} {a:Addr}:u5 M a a=none:=by unfold u5;rw [if_pos rfl]
theorem Tw {M:aG} {a b:Addr} (h:b≠a):u5 M a b=M b:=by unfold u5;rw [if_neg h]
theorem q9 {q:Str} {H:Hp} {b:Addr} (h:dU q (H b)):j6 q H b=none:=by unfold j6;exact if_pos h
theorem cV {q:Str} {H:Hp} {b:Addr} (h:¬ dU q (H b)):j6 q H b=H b:=by unfold j6;exact if_neg h
theorem u0 {q:Str} {H H2:Hp} {b:Addr} (h:dU q (H b)):nX q H H2 b=H b:=by unfold nX;exact if_pos h
theorem cU {q:Str} {H H2:Hp} {b:Addr} (h:¬ dU q (H b)):nX q H H2 b=H2 b:=by unfold nX;exact if_neg h
theorem dJ {q:Str} {o:HO} (h:dU q (some o)):∃ oc,o=.frz oc (.own 0):=by
 obtain ⟨oc,_,_,e,_⟩:=h;cases e;exact ⟨oc,rfl⟩
theorem x8 {q:Str}:¬ dU q none:=fun ⟨_,_,_,e,_⟩=>by cases e
theorem Om {q q':Str} {oc:Obj} {vs:Array Value} {t:Tok} (hd:oc.data=.fields vs) (hv:vs[1]?=some (.str q' t)) (h:dU q (some (.frz oc (.own 0)))):q=q':=by
 obtain ⟨oc',vs',t',e,h1,h2⟩:=h
 cases e
 rw [hd] at h1;cases h1
 rw [hv] at h2;cases h2;rfl
theorem Jb {q:Str} {H:Hp} {b:Addr} {o:HO} (h:j6 q H b=some o):H b=some o/\¬ dU q (H b):=by
 by_cases hc:dU q (H b)
 ·rw [q9 hc] at h;cases h
 ·rw [cV hc] at h;exact ⟨h,hc⟩
end U2
namespace U2
open PySem PySem.Spec PyProof.Rows L2
noncomputable def Nc (n:Nat) (te:UE) (caps:SU):bN:=fun us M Q=>us.length=n/\te (us.map some++caps) M Q
structure uP where
 lam:IW
 N:List Str
 ps:List Str
 ix:List Nat
 te:UE
noncomputable def Ly (D:Dat) (base:Heap) (k:Nat) (N:List Str) (sc:Scope):Dat:={ D with base:=base,N:=N,sc:=sc,k:=k,fn:=false,cod:=.none }
structure MY (D:Dat) (k:Nat) (L:uP):Prop where
 sc:DX L.N L.ps L.lam.scope
 len:L.N.length=L.ps.length + L.ix.length
 ix:L.ix.map (fun i=>D.N[i]?)=(L.N.drop L.ps.length).map some
 free:∀ y∈L.lam.scope.names,y.2=.free->D.sc.names.lookup y.1=some .cell\/D.sc.names.lookup y.1=some .free
 cap:∀ x∈L.N.drop L.ps.length,D.sc.names.lookup x=some .cell\/D.sc.names.lookup x=some .free
 body:∀ base,j5 base D.mg->bA (Ly D base k L.N L.lam.scope) L.lam.body L.te
 bind:∀ (q:Str) (cl:List (Str × Addr)) (pm cd ct:Value) (us:List Value),us.length=L.ps.length->bindArgs (PySem.W.kla_fn "<lambda>" q L.lam.params L.lam.body L.lam.scope cl pm cd ct) ⟨us,[]⟩=pure (L.ps.zip us)
noncomputable def F5:U->Prop
 | .tup _=>False
 | .lst _=>False
 | .dic _ _ _=>False
 | _=>True
noncomputable def Cf (L:uP) (τ:SU):SU:=L.ix.map fun i=>(τ[i]?).getD none
noncomputable def Gf (L:uP) (τ:SU):bN:=Nc L.ps.length L.te (Cf L τ)
noncomputable def dX (G:SU->List U->List Addr->aG->UK->Prop) (t:uY):UE:=fun τ M Q=>t τ M fun us fs M1=>G τ us fs M1 Q
theorem L7 {α:Type} {a b:α} (h:(pure a:Sem α)=pure b):a=b:=by
 have h':(Sem.pure a:Sem α)=Sem.pure b:=h
 injection h'
noncomputable def qC (P:Addr) (q:Str) (L:uP) (sp:Addr->bN->bN):SU->List U->List Addr->aG->UK->Prop:=fun τ us fs M1 Q=>match fs with
 | [fl]=>M1 P=some (.tbl q)/\(∀ u,some u∈Cf L τ->F5 u)/\((∀ b,u5 M1 P b≠some (.tbl q))->sp fl (Gf L τ) us (u5 M1 P) fun u M2=>(∀ b,M2 b≠some (.tbl q))/\Q u (mup M2 P (.tbl q)))
 | _=>False
noncomputable def qK (P:Addr) (q:Str) (L L':uP) (sp:Addr->bN->Addr->bN->bN):SU->List U->List Addr->aG->UK->Prop:=fun τ us fs M1 Q=>match fs with
 | [fl,fl']=>M1 P=some (.tbl q)/\(∀ u,some u∈Cf L τ->F5 u)/\(∀ u,some u∈Cf L' τ->F5 u)/\((∀ b,u5 M1 P b≠some (.tbl q))->sp fl (Gf L τ) fl' (Gf L' τ) us (u5 M1 P) fun u M2=>(∀ b,M2 b≠some (.tbl q))/\Q u (mup M2 P (.tbl q)))
 | _=>False
end U2
namespace U2
open PySem PySem.Spec PyProof.Rows L2
section
variable {P:Program} {w:World} {K:PySem.W.Frag} {mg:Str->Option Value} {base:Heap}
theorem HJ {x:Str} {st:Stmt} {f c0:Addr} {fd:FuncData} {N ps:List Str} {k:Nat} {sp:bN} {t:US} (F:cF K x x st f fd) (hfd:fd.code=.ref c0) (hm:mg x=some (.ref f)) (S:aY N ps (aE st))
  (bind:∀ (kV doc pm:Value) (an:Option Addr) (cdv ct:Value) (us:List Value),us.length=ps.length->bindArgs (PySem.W.fnOf x x (aX st) (aS st) (aE st) .none kV doc pm an cdv ct) ⟨us,[]⟩=pure (ps.zip us))
  (len:∀ us M Q,sp us M Q->us.length=ps.length)
  (h:nR ⟨P,w,K,mg,base,N,aE st,k,true,.ref c0,x++".<locals>."⟩ (aS st) t)
  (q:∀ us M Q,sp us M Q->t { nx:=fun _ M'=>i4 Q .non M',rt:=i4 Q } (eU N us) M):Callee P w K mg base (k + 1) x sp []:=by
 obtain ⟨t0,h1,h2⟩:=h
 have hb:=F.binds bind
 have kp:=F.kp
 obtain ⟨oc,od,kV,doc,pm,an,cdv,ct,osl,rfl,lk,hcd⟩:=F.ex
 have hfd':cdv=.ref c0:=hfd
 subst hfd'
 refine ⟨f,_,ps,[],[],MF lk hcd S (fun vs H Q E ⟨us,M,Q',_,r,hs,_⟩=>by rw [<- r.length];exact len us M Q' hs) (fun A outer s H vs Q E hr ⟨us,M,Q',rm,r,hs,c⟩=>?_),hm,kp,hb,.nil,fun H M=>.nil⟩
 refine ⟨t0,pM.nox (h1 _ ⟨rfl,rfl,rfl,rfl,rfl,rfl,rfl,hr,rfl,rfl,fun _ _=>rfl,fun _=>⟨rfl,rfl⟩,fun _=>⟨rfl,rfl,rfl⟩⟩),?_⟩
 refine h2 _ (eU N us) H M _ (uF r) rm (q us M Q' hs) _ ⟨fun σ τ H1 M1 s1 rm1 rs1 q1=>?_,fun u v H1 M1 s1 rm1 ru q1=>i4.ok c s1 rm1 ru q1,fun _ _ _ _ _ _ _ z=>z.elim,fun _ _ _ _ _ _ _ z=>z.elim⟩
 exact i4.ok c s1 rm1 nZ q1
end
noncomputable def GG (ts:List Addr) (H:Hp):Prop:=∀ b,H b=none\/(∃ o xs,H b=some (.frz o (.lst xs)))\/(b∈ts/\H b=some (.tbl #[]))
theorem J7 {P:Program} {w:World} {K:PySem.W.Frag} {mg mb:Str->Option Value} {k:Nat} {fa a:Addr} {fd:FuncData} {x:Str} {sp:Sp} {s₁:Shared} {vs:List Value} {ns:List Int} {ts:List Addr}
  (KX:K.In s₁.heap) (hns:s₁.heap.Ns mainGlobals mg) (hb:s₁.heap.Ns builtinsNs mb) (hbb:∀ x:Str,x≠"__name__"->mb x=bootBuiltins x) (hlim:s₁.heap.NoLimit) (hg:s₁.gens=#[])
  (hB:j5 s₁.heap mg) (hT:∀ p∈ts,s₁.heap.get? p=some (PySem.W.tabObj #[])/\K.lookup p=none/\isCodeTable s₁.heap p)
  (ha:s₁.heap.get? a=some { cls:=.type "list",data:=.seq vs.toArray }) (hi:IntsAre vs ns) (hl:ns.length<=sizeLine) (hr:eI k callerA)
  (F:∀ base:Heap,K.In base->base.Ns mainGlobals mg->j5 base mg->gI P w K mg base mM k fa fd [x] sp) (hbind:∀ (s:Shared) (u:Value),BindsTo s fd ⟨[u],[]⟩ [(x,u)])
  (hsp:∀ H:Hp,GG ts H->eH K H a (ns.map V.int)->(∀ p∈ts,H p=some (.tbl #[]))->sp [.ref a] H (fun v _=>v=.bl true) fun _ _ _=>False) :
  codeAny (model P w) callerA (.call (.ref fa) ⟨[.ref a],[]⟩) (fun r s'=>r=.ok (.ret (.bool true))/\OldK s₁.heap s'.heap/\s'.os=s₁.os/\AllBare s'.gens) s₁:=by
 have rv:=A5 hi
 have lenV:=hi.length
 have haT:a ∉ ts:=fun z=>by
  have:=(hT a z).1
  rw [ha] at this;cases this
 have core:∀ H:Hp,GG ts H->eH K H a (ns.map V.int)->(∀ p∈ts,H p=some (.tbl #[]))->iW P w H s₁.heap->(∀ b,H b≠none->b=a\/b∈ts)->(H a≠none->K.lookup a=none) ->
   codeAny (model P w) callerA (.call (.ref fa) ⟨[.ref a],[]⟩) (fun r s'=>r=.ok (.ret (.bool true))/\OldK s₁.heap s'.heap/\s'.os=s₁.os/\AllBare s'.gens) s₁:=by
  intro H hO hS hTb hok hA hK
  have base_of:∀ {b:Addr} {o:Obj},s₁.heap.get? b=some o->H b=none->(fO s₁.heap H).get? b=some o:=fun e n=>qD e n
  have noD:∀ {b:Addr} {o:Obj},s₁.heap.get? b=some o->(∀ xs n,o.data≠.seq xs n)->(∀ vs,o.data≠.fields vs)->H b=none:=fun {b o} e d1 d2=>by
   cases q:H b with
   | none=>rfl
   | some u =>
    rcases hA b (by rw [q];simp) with e' | e'
    ·subst e'
     rw [ha] at e;cases e
     exact absurd rfl (d1 _ _)
    ·rw [(hT b e').1] at e;cases e
     exact absurd rfl (d2 _)
  have noA:∀ {b:Addr} {o:Obj} {es:Array DictEntry} {ep:Nat},s₁.heap.get? b=some o->o.data=.dict es ep->H b=none:=fun {b o es ep} e d=>noD e (fun xs n z=>by rw [d] at z;cases z) (fun vs z=>by rw [d] at z;cases z)
  have nsK:∀ {b:Addr} {m:Str->Option Value},s₁.heap.Ns b m->(fO s₁.heap H).Ns b m:=fun {b m} ⟨o,es,ep,e,d,r⟩=>⟨o,es,ep,base_of e (noA e d),d,r⟩
  have hKb:K.In (fO s₁.heap H):=fun b o e=>base_of (KX b o e) (by
   cases q:H b with
   | none=>rfl
   | some u =>
    rcases hA b (by rw [q];simp) with e' | e'
    ·subst e'
     rw [hK (by rw [q];simp)] at e;cases e
    ·rw [(hT b e').2.1] at e;cases e)
  have hBb:j5 (fO s₁.heap H) mg:=by
   obtain ⟨bm,o,b1,b2,b3,b4,b5,b6,b7⟩:=hB
   exact ⟨bm,o,b1,b2,b3,base_of b4 (noD b4 (fun xs n z=>by rw [b7] at z;cases z) (fun vs z=>by rw [b7] at z;cases z)),b5,b6,b7⟩
  have hM:Mod K mg (fO s₁.heap H):=⟨hKb,nsK hns,⟨mb,nsK hb,hbb⟩,let ⟨mc,h1,h2⟩:=hlim;⟨mc,nsK h1,h2⟩⟩
  have e0:Du P w K mg (fO s₁.heap H) callerA [] s₁ H:=⟨rfl,hM,fun b o e=>Aj e,Nat.le_of_eq (Be _ _),trivial,fun b hb=>absurd (show b∈([]:List Addr) from hb) (by simp),hok,.of_eq hg⟩
  refine codeAny_mono ((F _ hKb (nsK hns) hBb).run callerA [] s₁ H ⟨[.ref a],[]⟩ [.ref a] [.ref a] _ _ hr e0 (hbind s₁ (.ref a)) (.cons rfl .nil) (hsp H hO hS hTb)) fun r s' h=>?_
  cases r with
  | error e=>exact h.elim
  | ok fl =>
   cases fl with
   | next=>exact False.elim h
   | brk=>exact False.elim h
   | cont=>exact False.elim h
   | ret u =>
    obtain ⟨v,H',os,bare,un,hok',r',q⟩:=h
    have q':v=.bl true:=q
    subst q'
    obtain rfl:u=Value.bool true:=r'
    have kept:∀ b o,s₁.heap.get? b=some o->b ∉ ts->s'.heap.get? b=some o:=fun b o e hbt=>by
     cases q:H b with
     | none=>exact un.keep b o e q (by intro z;exact absurd (show b∈([]:List Addr) from z) (by simp)) (by simp)
     | some u =>
      rcases hO b with z | ⟨ob,xs,z⟩ | ⟨z,_⟩
      ·rw [q] at z;cases z
      ·have z2:=un.frzs b ob _ z
       obtain ⟨e1,_⟩:=hok b _ z
       obtain ⟨e2,_⟩:=hok' b _ z2
       rw [e] at e1;cases e1
       exact e2
      ·exact absurd z hbt
    refine ⟨rfl,⟨fun b o e=>?_,fun b o e=>?_⟩,os,bare⟩
    ·by_cases hbt:b∈ts
     ·obtain ⟨h1,_,h3⟩:=hT b hbt
      rw [h1] at e;cases e
      obtain ⟨more,hm⟩:=un.tbls b _ (hTb b hbt)
      have:=hok' b _ hm
      exact .inr (.inl ⟨h3,rfl,#[],more,rfl,this⟩)
     ·exact .inl (kept b o e hbt)
    ·by_cases hbt:b∈ts
     ·obtain ⟨more,hm⟩:=un.tbls b _ (hTb b hbt)
      exact ⟨_,hok' b _ hm⟩
     ·exact ⟨o,kept b o e hbt⟩
 have tOk:∀ (H:Hp) b,b∈ts->eA P w H s₁.heap b (.tbl #[]):=fun H b hb=>(hT b hb).1
 open Classical in
 cases hk:K.lookup a with
 | some o =>
  have e:=KX a o hk
  rw [ha] at e
  cases e
  refine core (fun b=>if b∈ts then some (.tbl #[]) else none) (fun b=>?_) (.inr ⟨_,vs.toArray,_,hk,rfl,rfl,rfl,by rw [List.size_toArray,lenV];exact hl,by simpa using rv⟩) (fun p hp=>if_pos hp) (fun b u z=>?_) (fun b z=>?_) (fun z=>absurd (if_neg haT) z)
  ·by_cases hb:b∈ts
   ·exact .inr (.inr ⟨hb,if_pos hb⟩)
   ·exact .inl (if_neg hb)
  ·by_cases hb:b∈ts
   ·have z':=(if_pos hb).symm.trans z
    cases z'
    exact tOk _ b hb
   ·have z':=(if_neg hb).symm.trans z
    cases z'
  ·by_cases hb:b∈ts
   ·exact .inr hb
   ·exact absurd (if_neg hb) z
 | none =>
  refine core (fun b=>if b=a then some (.frz { cls:=.type "list",data:=.seq vs.toArray } (.lst (ns.map V.int))) else if b∈ts then some (.tbl #[]) else none) (fun b=>?_) (.inl (.inr ⟨{ cls:=.type "list",data:=.seq vs.toArray },if_pos rfl⟩)) (fun p hp=>?_) (fun b u z=>?_) (fun b z=>?_) fun _=>hk
  ·by_cases hb:b=a
   ·exact .inr (.inl ⟨_,_,if_pos hb⟩)
   ·by_cases hbt:b∈ts
    ·exact .inr (.inr ⟨hbt,(if_neg hb).trans (if_pos hbt)⟩)
    ·exact .inl ((if_neg hb).trans (if_neg hbt))
  ·exact (if_neg (fun z:p=a=>haT (z ▸ hp))).trans (if_pos hp)
  ·by_cases hb:b=a
   ·have z':=(if_pos hb).symm.trans z
    cases z'
    subst hb
    exact ⟨ha,by rw [List.length_map];exact hl,vs,_,rv,ha⟩
   ·by_cases hbt:b∈ts
    ·have z':=((if_neg hb).trans (if_pos hbt)).symm.trans z
     cases z'
     exact tOk _ b hbt
    ·have z':=((if_neg hb).trans (if_neg hbt)).symm.trans z
     cases z'
  ·by_cases hb:b=a
   ·exact .inl hb
   ·by_cases hbt:b∈ts
    ·exact .inr hbt
    ·exact absurd ((if_neg hb).trans (if_neg hbt)) z
end U2
namespace U2
open PySem PySem.Spec PyProof.Rows L2
section
variable {D:Dat} {x:Str} {p pos:Pos} {e:Expr} {es:List Expr} {f P:Addr} {q:Str} {j:Nat}
end
end U2
namespace U2
open PySem PySem.Spec PyProof.Rows L2
noncomputable def uR (P:Addr) (ps:Array Value) (vs:List V) (cs:List U) (L:uP):bN:=fun us M Q=>M P=some (.cap ps vs cs)/\Nc L.ps.length L.te (cs.map some) us M Q
noncomputable def Gx (P:Addr) (q:Str) (L:uP) (sp:Addr->bN->bN):SU->List U->List Addr->aG->UK->Prop:=fun τ us fs M1 Q=>match fs with
 | [fl]=>M1 P=some (.tbl q)/\∃ cs,Cf L τ=cs.map some/\∀ ps vs,(∀ b,mup M1 P (.cap ps vs cs) b≠some (.tbl q))->sp fl (uR P ps vs cs L) us (mup M1 P (.cap ps vs cs)) fun u M2=>(∀ b,M2 b≠some (.tbl q))/\M2 P=some (.cap ps vs cs)/\Q u (mup M2 P (.tbl q))
 | _=>False
theorem Mt {K:PySem.W.Frag} {H:Hp} {M:aG} {P:Addr} {q:Str} {vs:List V} {cs:List U} (rm:RelM K H M) (hP:M P=some (.tbl q)) (rc:aK K H M cs vs):∃ ps,H P=some (.tbl ps)/\D9 H M (j6 q H) (mup M P (.cap ps vs cs))/\RelM K (j6 q H) (mup M P (.cap ps vs cs)):=by
 obtain ⟨un,ps,hHP,htr,hcodes⟩:=rm P _ hP
 have nP:¬ dU q (H P):=fun z=>by rw [hHP] at z;obtain ⟨oc,z⟩:=dJ z;cases z
 have sq:D9 H M (j6 q H) (mup M P (.cap ps vs cs)):=fun b o e m n1 n2=>by
  refine ⟨?_,?_⟩
  ·rw [cV (fun z=>by rw [e] at z;obtain ⟨oc,z⟩:=dJ z;exact n1 oc z)];exact e
  ·have hb:b≠P:=fun z=>by rw [z,hP] at m;cases m
   rw [bH hb];exact m
 refine ⟨ps,hHP,sq,fun a mo e=>?_⟩
 by_cases ha:a=P
 ·subst ha
  rw [bC] at e;cases e
  exact ⟨by rw [cV nP];exact hHP,rc.stq sq⟩
 rw [bH ha] at e
 have h:=rm a mo e
 cases mo with
 | lst us=>obtain ⟨vs,x,y⟩:=h;exact ⟨vs,by rw [cV (fun z=>by rw [x] at z;obtain ⟨oc,z⟩:=dJ z;cases z)];exact x,y.stq sq⟩
 | dK us=>obtain ⟨vs,x,y⟩:=h;exact ⟨vs,by rw [cV (fun z=>by rw [x] at z;obtain ⟨oc,z⟩:=dJ z;cases z)];exact x,y.stq sq⟩
 | dT us=>obtain ⟨vs,x,y⟩:=h;exact ⟨vs,by rw [cV (fun z=>by rw [x] at z;obtain ⟨oc,z⟩:=dJ z;cases z)];exact x,y.stq sq⟩
 | dN us=>obtain ⟨vs,x,y⟩:=h;exact ⟨vs,by rw [cV (fun z=>by rw [x] at z;obtain ⟨oc,z⟩:=dJ z;cases z)];exact x,y.stq sq⟩
 | cap ps vs us=>exact ⟨by rw [cV (fun z=>by rw [h.1] at z;obtain ⟨oc,z⟩:=dJ z;cases z)];exact h.1,h.2.stq sq⟩
 | tbl q' =>
  obtain ⟨un',ps',x,y,z⟩:=h
  have hq:q'≠q:=fun w=>by subst w;exact ha (un' P hP).symm
  refine ⟨fun b hb=>un' b (by by_cases hbP:b=P;rw [hbP,bC] at hb;cases hb;rw [bH hbP] at hb;exact hb),ps',by rw [cV (fun z=>by rw [x] at z;obtain ⟨oc,z⟩:=dJ z;cases z)];exact x,y,fun pos c hc=>?_⟩
  obtain ⟨c',oc,vs,t,h1,h2,h3,h4,h5⟩:=z pos c hc
  refine ⟨c',oc,vs,t,h1,?_,?_,h4,h5⟩
  ·rw [cV (fun z=>by rw [h2] at z;exact hq (Om h4 h5 z).symm)];exact h2
  ·have hb:c'≠P:=fun z=>by rw [z,hHP] at h2;cases h2
   rw [bH hb];exact h3
theorem KG {K:PySem.W.Frag} {H H2:Hp} {M M2:aG} {P:Addr} {q:Str} {ps:Array Value} {vs:List V} {cs:List U} (rm:RelM K H M) (hP:M P=some (.tbl q)) (hHP:H P=some (.tbl ps)) (st:aZ (j6 q H) (mup M P (.cap ps vs cs)) H2 M2) (rm2:RelM K H2 M2) (hM2:M2 P=some (.cap ps vs cs)) (hn:∀ b,dU q (H b)->H2 b=none) (hu:∀ b,M2 b≠some (.tbl q)) :
  aZ H M (nX q H H2) (mup M2 P (.tbl q))/\D9 H2 M2 (nX q H H2) (mup M2 P (.tbl q))/\RelM K (nX q H H2) (mup M2 P (.tbl q)):=by
 obtain ⟨un,ps0,hHP0,htr,hcodes⟩:=rm P _ hP
 rw [hHP] at hHP0;cases hHP0
 have nP:¬ dU q (H P):=fun z=>by rw [hHP] at z;obtain ⟨oc,z⟩:=dJ z;cases z
 have h2P:H2 P=some (.tbl ps):=(rm2 P _ hM2).1
 have S1:aZ H M (nX q H H2) (mup M2 P (.tbl q)):=fun b o e m=>by
  have hb:b≠P:=fun z=>by rw [z,hP] at m;cases m
  by_cases hc:dU q (H b)
  ·exact ⟨.inl (by rw [u0 hc];exact e),by rw [bH hb];exact rm2.no (hn b hc)⟩
  ·obtain ⟨a1,a2⟩:=st b o (by rw [cV hc];exact e) (by rw [bH hb];exact m)
   exact ⟨by rw [cU hc];exact a1,by rw [bH hb];exact a2⟩
 have S2:D9 H2 M2 (nX q H H2) (mup M2 P (.tbl q)):=fun b o e m n1 n2=>by
  have hb:b≠P:=fun z=>by rw [z,hM2] at m;cases m
  have hc:¬ dU q (H b):=fun z=>by rw [hn b z] at e;cases e
  exact ⟨by rw [cU hc];exact e,by rw [bH hb];exact m⟩
 refine ⟨S1,S2,fun a mo e=>?_⟩
 by_cases ha:a=P
 ·subst ha
  rw [bC] at e;cases e
  refine ⟨fun b hb=>?_,ps,by rw [cU nP];exact h2P,htr,fun pos c hc=>?_⟩
  ·by_cases hba:b=a
   ·exact hba
   ·rw [bH hba] at hb;exact (hu b hb).elim
  ·obtain ⟨c',oc,vs,t,h1,h2,h3,h4⟩:=hcodes pos c hc
   obtain ⟨a1,a2⟩:=S1.to h2 h3
   exact ⟨c',oc,vs,t,h1,a1,a2,h4⟩
 ·rw [bH ha] at e
  have h:=rm2 a mo e
  obtain ⟨o,ho⟩:=rm2.ex e
  have hc:¬ dU q (H a):=fun z=>by rw [hn a z] at ho;cases ho
  cases mo with
  | lst us=>obtain ⟨vs,x,y⟩:=h;exact ⟨vs,by rw [cU hc];exact x,y.stq S2⟩
  | dK us=>obtain ⟨vs,x,y⟩:=h;exact ⟨vs,by rw [cU hc];exact x,y.stq S2⟩
  | dT us=>obtain ⟨vs,x,y⟩:=h;exact ⟨vs,by rw [cU hc];exact x,y.stq S2⟩
  | dN us=>obtain ⟨vs,x,y⟩:=h;exact ⟨vs,by rw [cU hc];exact x,y.stq S2⟩
  | cap ps vs us=>exact ⟨by rw [cU hc];exact h.1,h.2.stq S2⟩
  | tbl q' =>
   obtain ⟨un',ps',x,y,z⟩:=h
   have hqq:q'≠q:=fun w=>by subst w;exact hu a e
   refine ⟨fun b hb=>un' b (by by_cases hbP:b=P;subst hbP;rw [bC] at hb;exact absurd (by cases hb;rfl) hqq;rw [bH hbP] at hb;exact hb),ps',by rw [cU hc];exact x,y,fun pos c hcc=>?_⟩
   obtain ⟨c',oc,vs,t,h1,h2,h3,h4⟩:=z pos c hcc
   have hc':¬ dU q (H c'):=fun z=>by rw [hn c' z] at h2;cases h2
   refine ⟨c',oc,vs,t,h1,by rw [cU hc'];exact h2,?_,h4⟩
   by_cases hb:c'=P
   ·rw [hb,h2P] at h2;cases h2
   ·rw [bH hb];exact h3
theorem DR {K:PySem.W.Frag} {H:Hp} {M:aG} {σ:L2.St} {τ:SU} (rs:dW K H M σ τ):∀ (ix:List Nat) (cs:List U),ix.map (fun i=>(τ[i]?).getD none)=cs.map some->∃ vs,aK K H M cs vs/\ix.map (fun i=>(σ[i]?).getD none)=vs.map some
 | [],[],_=>⟨[],.nil,rfl⟩
 | [],c :: cs,h=>by cases h
 | i :: ix,[],h=>by cases h
 | i :: ix,c :: cs,h=>by
  simp only [List.map_cons,List.cons.injEq] at h
  obtain ⟨vs,h1,h2⟩:=DR rs ix cs h.2
  have eτ:τ[i]?=some (some c):=by
   cases hz:τ[i]? with
   | none=>rw [hz] at h;cases h.1
   | some o=>rw [hz] at h;simp only [Option.getD_some] at h;rw [h.1]
  obtain ⟨v,hv,rv⟩:=rs.2 i c eτ
  exact ⟨v :: vs,.cons rv h1,by simp only [List.map_cons,hv,Option.getD_some,h2]⟩
open Classical in
theorem JL {D:Dat} {x:Str} {p pos:Pos} {e:Expr} {es:List Expr} {f P:Addr} {q:Str} {j:Nat} (k:Nat) (L:uP) {sp:Addr->bN->bN} {t:uY} (hm:D.mg x=some (.ref f)) (hk:PySem.W.keepIn D.K (.ref f)=true)
  (F:∀ (base:Heap) (fl:Addr) (s:bN),j5 base D.mg->n9 D.prog D.w D.K D.mg base (k + 1) fl s->Callee D.prog D.w D.K D.mg base j x (sp fl s) []) (hB:j5 D.base D.mg) (hL:MY D k L) (ha:w6 D q (e :: es) [L.lam] t)
  (hj:j<=D.k:=by first | exact Nat.le_refl _ | (dsimp only;omega) | omega) (hfn:D.fn=true:=by rfl) (hg:D.sc.names.lookup x=some .globalImplicit:=by rfl) (hdb:(x == ("__debug__":Str))=false:=by decide)
  (he:∀ env,starEach (e :: es) env=(false,eval e env) :: starEach es env:=by intro _;rfl) (hpl:∀ env,(backTo pos (starEach es env)).any (·.1)=false:=by intro _;rfl):bA D (.Call (.Name x p) (e :: es) [] pos) (dX (Gx P q L sp) t):=by
 refine ⟨fun σ H Q=>∃ τ M Q',dW D.K H M σ τ/\RelM D.K H M/\dX (Gx P q L sp) t τ M Q'/\cN D.K H M Q' Q,fun X h=>?_,fun σ τ H M Q' rs rm ht Q c=>⟨τ,M,Q',rs,rm,ht,c⟩⟩
 intro pins s σ H Q I ⟨τ,M,Q',rs,rm,ht,cont⟩
 refine wpAny_Call_Name_kw (As I (by show X.env.scope.names.lookup x=_;rw [h.sc];exact hg) (by rw [h.mg];exact hm) ?_ hdb)
 refine PySem.W.callWith_K (h₀:=X.base) I.ok.mod.kin (by rw [h.K];exact hk) (bJ (ha X h pos pins s σ H τ M _ I rs rm ht) fun us s1 ⟨ws,vs,fs,M1,H1,I1,rv,st1,rm1,rus,pl,q0⟩=>⟨I1.kIn,?_⟩) (he _) (hpl _)
 obtain ⟨fl0,rfl⟩:∃ fl,fs=[fl]:=by
  cases pl with
  | cons _ h2=>cases h2;exact ⟨_,rfl⟩
 obtain ⟨hMP,cs,hcs,q1⟩:=q0
 obtain ⟨huniq,_⟩:=rm1 P _ hMP
 obtain ⟨cvs0,rc0,hcv⟩:=DR (rs.stp st1) L.ix cs hcs
 obtain ⟨ps0,hHP,sq,rmH⟩:=Mt rm1 hMP rc0
 have hno:∀ b,mup M1 P (.cap ps0 cvs0 cs) b≠some (.tbl q):=fun b z=>by
  by_cases hb:b=P
  ·rw [hb,bC] at z;cases z
  ·rw [bH hb] at z;exact hb (huniq b z)
 let Hh:Hp:=fun b=>if b∈i3 X.stack then some (.own 0) else j6 q H1 b
 have hHh:∀ b,b ∉ i3 X.stack->j6 q H1 b=none->Hh b=none:=fun b h1 h2=>by show (if b∈i3 X.stack then some (.own 0) else j6 q H1 b)=none;rw [if_neg h1];exact h2
 have hHn:∀ b,Hh b=none->b ∉ i3 X.stack/\j6 q H1 b=none:=fun b hb=>by
  have hb':(if b∈i3 X.stack then some (HO.own 0) else j6 q H1 b)=none:=hb
  by_cases hm:b∈i3 X.stack
  ·rw [if_pos hm] at hb';cases hb'
  ·rw [if_neg hm] at hb';exact ⟨hm,hb'⟩
 have nofr:∀ b o,X.base.get? b=some o->b ∉ i3 X.stack:=fun b o e hb=>by
  have:=(I1.stack.mem hb).1
  rw [e] at this;cases this
 have hid0:∀ b,H1 b=none->j6 q H1 b=none:=fun b e=>by rw [cV (by rw [e];exact x8)];exact e
 have up:∀ b o,X.base.get? b=some o->(fO s1.heap Hh).get? b=some o:=fun b o e=>qD (I1.bk b o e) (hHh b (nofr b o e) (hid0 b (I1.bs b o e).2))
 have hBm:j5 (fO s1.heap Hh) D.mg:=by
  obtain ⟨bm,o,b1,b2,b3,b4,b5⟩:=hB
  rw [<- h.base] at b4
  exact ⟨bm,o,b1,b2,b3,up _ _ b4,b5⟩
 have e0:Du X.prog X.w X.K X.mg (fO s1.heap Hh) X.A X.stack s1 (j6 q H1):=by
  have m:=I1.ok.mod
  refine ⟨I1.ok.frames,⟨m.kin.keeps up,m.glob.keeps up,let ⟨mb,a,b⟩:=m.blt;⟨mb,a.keeps up,b⟩,m.nolimit.keeps up⟩,fun b o e=>?_,Nat.le_of_eq (Be _ _),?_,fun b hb=>hid0 b (I1.stkFree b hb),fun b o e=>?_,I1.bare⟩
  ·obtain ⟨a,b2⟩:=Aj e
   exact ⟨a,(hHn b b2).2⟩
  ·have:∀ l:List Env,(∀ b∈i3 l,b∈i3 X.stack)->s1.heap.FunFrames X.base l->s1.heap.FunFrames (fO s1.heap Hh) l:=by
    intro l
    induction l with
    | nil=>intro _ _;trivial
    | cons env rest ih =>
     intro hs ⟨hk,⟨L,o,hf,hn,ho,hd⟩,hr⟩
     refine ⟨hk,⟨L,o,hf,?_,ho,hd⟩,ih (fun b hb=>hs b (by unfold i3 at hb ⊢;rw [List.filterMap_cons,hf];exact List.mem_cons_of_mem _ hb)) hr⟩
     cases hq:(fO s1.heap Hh).get? L with
     | none=>rfl
     | some o'=>exact absurd (hs L (by unfold i3;rw [List.filterMap_cons,hf];exact List.mem_cons_self)) (hHn L (Aj hq).2).1
   exact this X.stack (fun _ hb=>hb) I1.stack
  ·obtain ⟨e1,e2⟩:=Jb e
   refine (I1.hok b o e1).stay (fun _ _ _ z=>z) (fun a ea=>?_) (fun a xs ea=>?_)
   ·rw [cV (fun z=>by rw [ea] at z;obtain ⟨_,z⟩:=dJ z;cases z)];exact ea
   ·rw [cV (fun z=>by rw [ea] at z;obtain ⟨_,z⟩:=dJ z;cases z)];exact ea
 have one:∀ (fl:Addr),MY D k L->HX X s1 H1 M1 q L.lam fl->n9 D.prog D.w D.K D.mg (fO s1.heap Hh) (k + 1) fl (uR P ps0 cvs0 cs L):=by
  intro fl ok la
  obtain ⟨cl,pm,ctv,c,oc,cvs,tk,hclos,⟨ho,hf0,hf1,hf2⟩,hc,hMc,hd,hv⟩:=la
  obtain ⟨cl',hclos',hcl,hcl2⟩:=tF (env:=X.env) (scope:=L.lam.scope) (fun y hy e=>I1.ok.has y.1 (by show X.env.scope.names.lookup _=_\/X.env.scope.names.lookup _=_;rw [h.sc];exact ok.free y hy e))
  have ecl:cl'=cl:=L7 (hclos'.symm.trans hclos)
  subst ecl
  have nst:∀ b,b≠X.env.locals->b ∉ X.fs->b ∉ i3 X.stack:=fun b n1 n2 hb=>by
   rcases List.mem_cons.mp (I1.stkSub b hb) with z | z
   ·exact n1 z
   ·exact n2 z
  have bfl:(fO s1.heap Hh).get? fl=some (PySem.W.kla_obj "<lambda>" q L.lam.params L.lam.body L.lam.scope cl' pm c ctv):=qD ho (hHh fl (nst fl hf1 hf2) (hid0 fl hf0))
  have hoc:s1.heap.get? c=some oc:=(I1.hok c _ hc).1
  have bc:(fO s1.heap Hh).get? c=some oc:=qD hoc (hHh c (fun hb=>by rw [I1.stkFree c hb] at hc;cases hc) (q9 ⟨oc,cvs,tk,hc,hd,hv⟩))
  have hold:∀ y a,cl'.lookup y=some a->∀ o,s1.heap.get? a=some o->(fO s1.heap Hh).get? a=some o:=fun y a e o eo=>by
   have ec:=hcl y a e
   refine qD eo (hHh a (nst a (I1.cne y a ec) (fun hb=>?_)) (hid0 a (I1.freeC y a ec)))
   have h1:=I1.ok.cab y a (h.fn hfn y) ec
   obtain ⟨_,o',ho',_⟩:=I1.ok.funs.mem hb
   exact absurd (Heap.lt_size ho') (Nat.not_lt.mpr h1)
  have cells:∀ y a v,cl'.lookup y=some a->s1.heap.IsCell a v->(fO s1.heap Hh).IsCell a v:=fun y a v e ⟨o,ho,hd⟩=>⟨o,hold y a e o ho,hd⟩
  obtain ⟨m,hns,hloc⟩:=I1.loc
  refine ⟨PySem.W.kla_fn "<lambda>" q L.lam.params L.lam.body L.lam.scope cl' pm (.ref c) ctv,L.ps,?_,.inr ⟨_,_,bfl,rfl⟩,.all fun us hl=>ok.bind q cl' pm _ _ us hl⟩
  have capV:∃ caps:List (Option V),caps=L.ix.map (fun i=>(σ[i]?).getD none):=⟨_,rfl⟩
  obtain ⟨caps,hcaps⟩:=capV
  refine PF (N:=L.N) (caps:=caps) bfl ⟨c,oc,cvs,tk,rfl,bc,hd,hv⟩ ok.sc (fun y z a e1 e2=>I1.ok.inj y z a (hcl y a e1) (hcl z a e2)) (fun y hy=>hcl2 y (PySem.mem_of_lookup hy)) (fun y a e=>?_) (fun jj y v e1 e2=>?_) (by rw [hcaps,List.length_map];exact ok.len) (fun vs H Q E ⟨us,M,Q',_,r,hs,_⟩=>by rw [<- r.length];exact hs.2.1) ?_
  ·obtain ⟨v,hv⟩:=I1.cell y a (hcl y a e)
   exact ⟨v,cells y a v e hv⟩
  ·
   rw [hcaps,List.getElem?_map] at e2
   cases hi:L.ix[jj]? with
   | none=>rw [hi] at e2;cases e2
   | some i =>
    rw [hi] at e2
    simp only [Option.map_some,Option.some.injEq] at e2
    have eN:D.N[i]?=some y:=by
     have h1:(L.ix.map fun i=>D.N[i]?)[jj]?=some (D.N[i]?):=by rw [List.getElem?_map,hi];rfl
     rw [ok.ix,List.getElem?_map,List.getElem?_drop,e1] at h1
     exact (Option.some.inj h1).symm
    have eσ:σ[i]?=some (some v):=by
     cases hz:σ[i]? with
     | none=>rw [hz] at e2;cases e2
     | some o=>rw [hz] at e2;simp only [Option.getD_some] at e2;rw [e2]
    have hmem:y∈L.N.drop L.ps.length:=List.mem_of_getElem? (i:=jj) (by rw [List.getElem?_drop];exact e1)
    have hkind:=ok.cap y hmem
    obtain ⟨u,ru,lk⟩:=hloc i y v (by rw [h.N];exact eN) eσ (by unfold AF;rw [h.sc];rcases hkind with z | z;exact .inr (.inl z);exact .inr (.inr z))
    rcases lk with ⟨k1,_⟩ | ⟨_,a,e3,e4⟩
    ·have k1':X.env.scope.names.lookup y=some .local:=k1
     rw [h.sc] at k1'
     rcases hkind with z | z <;> (rw [z] at k1';cases k1')
    ·obtain ⟨a',ea'⟩:=hcl2 y (PySem.mem_of_lookup (ok.sc.cap y hmem))
     have:a'=a:=by have:=hcl y a' ea';rw [e3] at this;cases this;rfl
     subst this
     exact ⟨a',u,ea',cells y a' _ ea' e4,ru⟩
  ·intro A outer s2 H2 vs2 Q2 E2 hr ⟨us2,M2,Q2',rm2,rus2,⟨hM2,hl2,hte⟩,c2⟩
   obtain ⟨tb,pb,sb⟩:=ok.body (fO s1.heap Hh) hBm
   refine ⟨tb,?_,?_⟩
   ·have hh:=pb (BW X.prog X.w X.K X.mg (fO s1.heap Hh) L.N q L.lam.scope fl c cl' A outer s2 H2) ⟨h.prog,h.w,h.K,h.mg,rfl,rfl,rfl,hr,rfl,rfl,(fun z=>by cases z),(fun z=>absurd rfl z),(fun z=>by cases z)⟩
    rw [h.prog,h.w,h.K,h.mg] at hh
    exact hh
   ·refine sb _ _ H2 M2 _ ?_ rm2 hte _ c2
    have rc2:aK D.K H2 M2 cs cvs0:=(rm2 P _ hM2).2
    rw [hcv] at hcaps
    refine ⟨by rw [List.length_append,List.length_append,List.length_map,List.length_map,rus2.length,hcaps,List.length_map,List.length_map,rc2.length],fun i u ei=>?_⟩
    have hlv:vs2.length=us2.length:=rus2.length.symm
    by_cases hi:i < us2.length
    ·rw [List.getElem?_append_left (by rw [List.length_map];exact hi),List.getElem?_map] at ei
     cases hu:us2[i]? with
     | none=>rw [hu] at ei;cases ei
     | some u' =>
      rw [hu] at ei
      simp only [Option.map_some,Option.some.injEq] at ei
      subst ei
      obtain ⟨v,hv,rv⟩:=rus2.get hu
      exact ⟨v,by rw [List.getElem?_append_left (by rw [List.length_map,hlv];exact hi),List.getElem?_map,hv];rfl,rv⟩
    ·rw [List.getElem?_append_right (by rw [List.length_map];omega),List.length_map] at ei
     rw [List.getElem?_map] at ei
     cases hj:cs[i - us2.length]? with
     | none=>rw [hj] at ei;cases ei
     | some u' =>
      rw [hj] at ei
      simp only [Option.map_some,Option.some.injEq] at ei
      subst ei
      obtain ⟨v,hv,rv⟩:=rc2.get hj
      refine ⟨v,?_,rv⟩
      rw [List.getElem?_append_right (by rw [List.length_map,hlv];omega),List.length_map,hlv,hcaps,List.getElem?_map,hv]
      rfl
 have lam1:n9 D.prog D.w D.K D.mg (fO s1.heap Hh) (k + 1) fl0 (uR P ps0 cvs0 cs L):=by
  cases pl with
  | cons h1 h2=>exact one _ hL h1
 obtain ⟨f',fd,ps,dvs,ds,FF,hm',_,hb',hvd,hrd⟩:=(F _ _ _ hBm lam1).ex
 rw [hm] at hm';cases hm'
 have edv:dvs=[]:=(hrd (fun _=>none) (fun _=>none)).inv_nil
 subst edv
 cases hvd
 have FF':gI X.prog X.w X.K X.mg (fO s1.heap Hh) mM j f fd ps (dQ D.K (sp fl0 (uR P ps0 cvs0 cs L))):=by rw [h.prog,h.w,h.K,h.mg];exact FF
 have hsp:dQ D.K (sp fl0 (uR P ps0 cvs0 cs L)) vs (j6 q H1) (fun v H2=>(∀ b,dU q (H1 b)->H2 b=none)->Q v (nX q H1 H2)) E0:=by
  refine ⟨ws,_,_,rmH,rus.stq sq,q1 ps0 cvs0 hno,fun u v M2 H2 st2 rm2 ru2 ⟨hn2,hP2,q2⟩ hcn=>?_⟩
  obtain ⟨S1,S2,rm3⟩:=KG rm1 hMP hHP st2 rm2 hP2 hcn hn2
  exact cont u v _ _ (st1.trans S1) rm3 (ru2.stq S2) q2
 have hl:us.length=ps.length:=by rw [<- rv.length];exact FF'.len _ _ _ _ hsp
 have hbK:Binds X.K fd ps []:=by rw [h.K];exact hb'
 have hbs:=hbK s1 us I1.kIn (by rw [List.append_nil];exact hl)
 rw [List.append_nil] at hbs
 refine wpAny_call (codeAny_mono (FF'.run X.A X.stack s1 (j6 q H1) ⟨us,[]⟩ us vs _ E0 (h.room.mono hj) e0 hbs rv hsp) fun r s' hq=>?_)
 cases r with
 | error e=>exact hq.elim
 | ok fl =>
  cases fl with
  | next=>exact False.elim hq
  | brk=>exact False.elim hq
  | cont=>exact False.elim hq
  | ret u =>
   obtain ⟨v,H2,os,bare,un,hok2,rvu,q2⟩:=hq
   have cold:∀ b,dU q (H1 b)->∃ o,s1.heap.get? b=some o:=fun b ⟨oc,_,_,e,_⟩=>⟨oc,(I1.hok b _ e).1⟩
   have hcn:∀ b,dU q (H1 b)->H2 b=none:=fun b hb=>by
    obtain ⟨o,ho⟩:=cold b hb
    exact un.free b o ho (q9 hb) (by simp)
   have nc:∀ {b o},H1 b=some o->(∀ oc,o≠.frz oc (.own 0))->¬ dU q (H1 b):=fun {b o} e n z=>by rw [e] at z;obtain ⟨oc,z⟩:=dJ z;exact n oc z
   have un':Un (i3 X.stack) [] H1 (nX q H1 H2) s1.heap s'.heap:=by
    refine ⟨fun b o e n a1 a2=>un.keep b o e (hid0 b n) a1 a2,fun b o e n a1 a2=>un.slot b o e (hid0 b n) a1 a2,fun b o e n a=>?_,fun b o e a=>un.there b o e a,fun b xs e=>?_,fun b o u e=>?_,fun b qs e=>?_⟩
    ·rw [cU (by rw [n];exact x8)];exact un.free b o e (hid0 b n) a
    ·have hc:=nc e (by simp)
     rw [cU hc];exact un.tups b xs (by rw [cV hc];exact e)
    ·by_cases hc:dU q (H1 b)
     ·rw [u0 hc];exact e
     ·rw [cU hc];exact un.frzs b o u (by rw [cV hc];exact e)
    ·have hc:=nc e (by simp)
     rw [cU hc];exact un.tbls b qs (by rw [cV hc];exact e)
   have hok':iW X.prog X.w (nX q H1 H2) s'.heap:=by
    intro b o e
    by_cases hc:dU q (H1 b)
    ·rw [u0 hc] at e
     obtain ⟨oc,vs',t',e',_⟩:=hc
     rw [e] at e';cases e'
     have hb:=(I1.hok b _ e).1
     have hk':=un.keep b oc hb (q9 ⟨oc,vs',t',e,by assumption⟩) (fun hb=>by rw [I1.stkFree b hb] at e;cases e) (by simp)
     exact ⟨hk',_,hk'⟩
    ·rw [cU hc] at e
     refine (hok2 b o e).stay (fun _ _ _ z=>z) (fun a ea=>?_) (fun a xs ea=>?_)
     ·rw [cU (fun z=>by rw [hcn a z] at ea;cases ea)];exact ea
     ·rw [cU (fun z=>by rw [hcn a z] at ea;cases ea)];exact ea
   have I2:L2.Inv X pins σ (nX q H1 H2) s':=Inv.call' (ch:=[]) I1 os un' hok' bare (fun b z=>absurd z (by simp))
   exact ⟨v,_,I2,rvu,q2 hcn⟩
section
variable {D:Dat} {x:Str} {p pos:Pos} {e:Expr} {es:List Expr} {f P:Addr} {q:Str} {j:Nat}
theorem Ld (k:Nat) (N ps:List Str) (ix:List Nat) {params:Arguments} {body:Expr} {scope:Scope} {te:UE} {sp:Addr->bN->bN} {t:uY} (hm:D.mg x=some (.ref f)) (hk:PySem.W.keepIn D.K (.ref f)=true)
  (F:∀ (base:Heap) (fl:Addr) (s:bN),j5 base D.mg->n9 D.prog D.w D.K D.mg base (k + 1) fl s->Callee D.prog D.w D.K D.mg base j x (sp fl s) []) (hB:j5 D.base D.mg) (ha:w6 D q (e :: es) [⟨params,body,scope⟩] t) (hb:∀ base,j5 base D.mg->bA (Ly D base k N scope) body te)
  (s1:scope.kind=.function:=by rfl) (s2:scope.isCoroutine=false:=by rfl) (s3:scope.isGenerator=false:=by rfl) (s4:N.Nodup:=by decide +kernel) (s5:N.take ps.length=ps:=by rfl) (s6:∀ x∈ps,scope.names.lookup x=some .local:=by decide +kernel) (s7:∀ y∈scope.names,y.2≠.cell:=by decide +kernel) (s8:∀ x∈N.drop ps.length,scope.names.lookup x=some .free:=by decide +kernel)
  (s9:N.length=ps.length + ix.length:=by rfl) (s10:ix.map (fun i=>D.N[i]?)=(N.drop ps.length).map some:=by rfl) (s11:∀ y∈scope.names,y.2=.free->D.sc.names.lookup y.1=some .cell\/D.sc.names.lookup y.1=some .free:=by first | decide +kernel | (dsimp only;decide +kernel)) (s12:∀ x∈N.drop ps.length,D.sc.names.lookup x=some .cell\/D.sc.names.lookup x=some .free:=by first | decide +kernel | (dsimp only;decide +kernel))
  (s13:∀ (q:Str) (cl:List (Str × Addr)) (pm cd ct:Value) (us:List Value),us.length=ps.length->bindArgs (PySem.W.kla_fn "<lambda>" q params body scope cl pm cd ct) ⟨us,[]⟩=pure (ps.zip us):=by exact fun _ _ _ _ _ us hl=>(match us,hl with | [_],_=>rfl))
  (hj:j<=D.k:=by first | exact Nat.le_refl _ | (dsimp only;omega) | omega) (hfn:D.fn=true:=by rfl) (hg:D.sc.names.lookup x=some .globalImplicit:=by rfl) (hdb:(x == ("__debug__":Str))=false:=by decide)
  (he:∀ env,starEach (e :: es) env=(false,eval e env) :: starEach es env:=by intro _;rfl) (hpl:∀ env,(backTo pos (starEach es env)).any (·.1)=false:=by intro _;rfl):bA D (.Call (.Name x p) (e :: es) [] pos) (dX (Gx P q ⟨⟨params,body,scope⟩,N,ps,ix,te⟩ sp) t) :=
 JL k ⟨⟨params,body,scope⟩,N,ps,ix,te⟩ hm hk F hB ⟨⟨s1,s2,s3,s4,s5,s6,s7,s8⟩,s9,s10,s11,s12,hb,s13⟩ ha hj hfn hg hdb he hpl
end
end U2
namespace L2
open PySem PySem.Spec PyProof.Rows
section
variable {M:Model} {A:Around} {E:Value->Shared->Prop} {s:Shared} {base:Heap} {env:Env} {outer:List Env} {L e:Addr} {oe:Obj} {vs:Array Value}
noncomputable def TM (fl:Value->Prop) (h:Heap) (e:Addr) (vs:Array Value) (T:Option Addr):Prop:=match T with
 | none=>vs[1]?=some .none
 | some T=>vs[1]?=some (.ref T)/\T≠e/\∃ oT ts v,h.get? T=some oT/\oT.data=.fields ts/\ts[3]?=some v/\fl v
end
end L2
namespace L2
open PySem PySem.Spec
section
variable {prog:Program} {w:World} {A:Around} {E:Value->Shared->Prop} {h:Heap} {g:Array GenState} {d:Drawn} {t:Nat} {os:OsState}
variable {nm q:Str} {C N:Addr} {bs bm:List Value} {hdct:Bool} {sn:List Str} {sub:List Value} {ab:Bool} {col:Option Bool} {dd:Option Addr} {k0 k1 k2 k3 k5:Option Value}
noncomputable def TU:List Value:=[.type "ValueError",.type "Exception",.type "BaseException",.type "object"]
noncomputable def RZ (h:Heap) (C:Addr) (us:List Value):Heap:=(h.push { cls:=.type "tuple",data:=.seq us.toArray }).push { cls:=.ref C,data:=.fields #[.ref h.objs.size,.none,.none,.none,.bool false,.none] }
theorem SF (h:Heap) (C:Addr) (us:List Value):∀ b o,h.get? b=some o->(RZ h C us).get? b=some o:=fun b o e=>Heap.get?_push_of_some _ (Heap.get?_push_of_some _ e)
end
end L2
namespace L2
open PySem PySem.Spec
open Builtin Builtin.ObjectAttr
section
variable {prog:Program} {w:World} {A:Around} {E:Value->Shared->Prop} {h:Heap} {g:Array GenState} {d:Drawn} {t:Nat} {os:OsState}
variable {nm q:Str} {C N R x:Addr} {bs:List Value} {sn:List Str} {sub:List Value} {ab:Bool} {col:Option Bool} {dd:Option Addr} {k0 k1 k2 k3 k5:Option Value} {K:PySem.W.Frag} {name:Str} {v:Value}
abbrev Uu (R:Addr):List Value:=.ref R :: TU
noncomputable def Tu (C t:Addr) (dx:Option Addr):Obj:={ cls:=.ref C,dict:=dx,data:=.fields #[.ref t,.none,.none,.none,.bool false,.none] }
end
end L2
namespace L2
open PySem PySem.Spec PyProof.Rows
noncomputable def T4 (a C:Addr) (dx:Option Addr) (h:Heap):Prop:=∃ t,h.get? a=some (Tu C t dx)
section
variable {P:Program} {w:World} {H:Hp} {h h':Heap} {a d:Addr} {o:HO}
end
section
variable {X:Cx} {e1 e2:Expr} {t1 t2 ta tv:TE} {p pos apos pos':Pos} {r f:Str} {R:Addr}
theorem Tf {H:Hp} {a:Addr} {o:HO} (h:H a=some o):upd H a o=H:=by
 funext b;unfold upd;split
 ·rename_i e;subst e;exact h.symm
 ·rfl
end
end L2
namespace L2
open PySem PySem.Spec PyProof.Rows
structure SN (fl:Value->Prop) (sz:Nat) (nw:Addr->Prop) (h:Heap) (a C d:Addr) (fs:List (Str × V)):Prop where
 sa:sz<=a
 na:nw a
 nd:nw d
 ad:a≠d
 obj:∃ oe vs T,h.get? a=some oe/\oe.cls=.ref C/\oe.dict=some d/\oe.data=.fields vs/\TM fl h a vs T/\∀ T',T=some T'->sz<=T'/\nw T'/\T'≠d
 att:∃ mA,h.Ns1 d mA/\∀ f,F8 (fs.lookup f) (mA f)
noncomputable def TN (X:Cx) (pins:List (Addr × Obj)) (H:Hp) (b:Addr):Prop:=X.s₀.heap.get? b=none/\H b=none/\b≠X.env.locals/\∀ p∈X.pn++pins,p.1≠b
section
variable {X:Cx} {pins:List (Addr × Obj)} {σ:St} {H:Hp} {s:Shared} {a C d:Addr} {fs:List (Str × V)}
noncomputable def Tx (X:Cx) (v:Value):Prop:=v=.none\/v=rawInt X.env.locals
abbrev Tz (X:Cx) (pins:List (Addr × Obj)) (H:Hp) (h:Heap) (a C d:Addr) (fs:List (Str × V)):Prop:=SN (Tx X) X.s₀.heap.objs.size (TN X pins H) h a C d fs
end
end L2
namespace L2
open PySem PySem.Spec PyProof.Rows
noncomputable def TY (P:Program) (w:World):wI:=fun outer H s E e s'=>∃ a C d fs H',e=.ref a/\s'.os=s.os/\AllBare s'.gens/\Un (i3 outer) [] H H' s.heap s'.heap/\iW P w H' s'.heap /\
 SN (fun v=>v=.none) s.heap.objs.size (fun b=>s.heap.get? b=none/\H' b=none) s'.heap a C d fs/\E (.ref C) (some d) (upd H' d (.xd fs))
abbrev XS:=Value->Option Addr->St->Hp->Prop
abbrev TC:=Ends->XS->St->Hp->Prop
abbrev TF:=St->Hp->VK->XS->Prop
section
variable {X:Cx} {e:Expr} {te:TE} {tx:TF} {st:Stmt} {rest a b:List Stmt} {t u:TS} {t' u':TC} {pos:Pos}
abbrev Um (X:Cx):Prop:=X.xe=fun _ _=>False
end
end L2
namespace L2
open PySem PySem.Spec PyProof.Rows
section
variable {X:Cx}
end
end L2
namespace L2
open PySem PySem.Spec PyProof.Rows
section
variable {X:Cx} {pins:List (Addr × Obj)} {σ:St} {H:Hp} {s:Shared}
end
end L2
namespace L2
open PySem PySem.Spec PyProof.Rows
section
variable {X:Cx} {pins pl:List (Addr × Obj)} {σ:St} {H:Hp} {s:Shared} {a C d:Addr} {fs:List (Str × V)}
end
end L2
namespace L2
open PySem PySem.Spec
section
variable {prog:Program} {w:World} {A:Around} {E:Value->Shared->Prop} {h:Heap} {g:Array GenState} {d:Drawn} {t:Nat} {os:OsState} {K:PySem.W.Frag} {a C R fI:Addr} {o:Obj}
end
end L2
namespace U2
open PySem PySem.Spec L2
abbrev S0:=Addr->List (Str × U)->SU->aG->Prop
abbrev SX:=Addr->List (Str × U)->aG->Prop
abbrev TJ:=mZ->S0->SU->aG->Prop
abbrev T1:=SU->aG->UK->S0->Prop
abbrev Qc:=List U->aG->UK->SX->Prop
noncomputable def iJ:U->Option V
 | .non=>some .non
 | .bl b=>some (.bl b)
 | .int i=>some (.int i)
 | .str x=>some (.str x)
 | _=>none
noncomputable def Tp (fs':List (Str × U)) (fs:List (Str × V)):Prop:=Paired (fun (p:Str × U) (q:Str × V)=>p.1=q.1/\iJ p.2=some q.2) fs' fs
noncomputable def SA (K:PySem.W.Frag) (H:Hp) (M:aG) (E':SX) (E:XK):Prop:=∀ C fs' fs H1 M1 d,aZ H M H1 M1->RelM K H1 M1->Tp fs' fs->H1 d=none->E' C fs' M1->E (.ref C) (some d) (upd H1 d (.xd fs))
noncomputable def O4 (K:PySem.W.Frag) (sp:Qc):Sp:=fun vs H Q E=>∃ us M Q' E',RelM K H M/\aK K H M us vs/\sp us M Q' E'/\cN K H M Q' Q/\SA K H M E' E
section
variable {D:Dat} {e:Expr} {te:UE} {tx:T1} {st:Stmt} {rest a b:List Stmt} {t u:US} {t' u':TJ} {pos:Pos}
structure O2 (P:Program) (w:World) (K:PySem.W.Frag) (mg:Str->Option Value) (base:Heap) (j:Nat) (x:Str) (sp:Qc) (dus:List U):Prop where
 ex:∃ f fd ps dvs ds,gI P w K mg base (TY P w) j f fd ps (O4 K sp)/\mg x=some (.ref f)/\PySem.W.keepIn K (.ref f)=true/\Binds K fd ps ds/\Vals dvs ds/\∀ H M,aK K H M dus dvs
abbrev Ue (D:Dat):=O2 D.prog D.w D.K D.mg D.base
end
section
variable {P:Program} {w:World} {K:PySem.W.Frag} {mg:Str->Option Value} {base:Heap}
end
end U2
namespace U2
open PySem PySem.Spec L2
noncomputable def Tc:V->U
 | .non=>.non
 | .bl b=>.bl b
 | .int i=>.int i
 | .str x=>.str x
 | .ref a=>.ref a
 | .ty n=>.ty n
 | _=>.lst []
theorem Sj {u:U} {v:V} (e:iJ u=some v):u=Tc v:=by
 cases u <;> first | (cases e;rfl) | cases e
section
variable {D:Dat} {a0 C:Addr} {F:List (Str × U)} {e:Expr} {te:UE} {es:List Expr} {tas:UA} {pos:Pos} {st:Stmt} {sts:List Stmt} {t u:US}
noncomputable def G7:V->Value
 | .ref a=>.ref a
 | .ty n=>.type n
 | _=>.none
theorem Mz {v:V} {u:Value} (r:RelV v u) (n:G7 v≠.none):u=G7 v:=by
 cases v <;> first | exact r | exact absurd rfl n
theorem JS:∀ {vs:List V} {us:List Value},Vals vs us->(∀ v∈vs,G7 v≠.none)->us=vs.map G7
 | _,_,.nil,_=>rfl
 | _,_,.cons r t,n=>by rw [Mz r (n _ List.mem_cons_self),JS t fun v hv=>n v (List.mem_cons_of_mem _ hv)];rfl
end
end U2
namespace L2
open PySem PySem.Spec
section
variable {X:Cx}
end
end L2
namespace U2
open PySem PySem.Spec L2
section
variable {D:Dat} {pos:Pos}
end
end U2
namespace L2
open PySem PySem.Spec
section
variable {X:Cx} {e:Expr} {te:TE} {p1 p2 p3 p4:Pos} {a b:Str}
theorem len_app (a b:Str):(a++b).length=a.length + b.length:=strLen_append a b
end
end L2
namespace U2
open PySem PySem.Spec L2
section
variable {P:Program} {w:World} {K:PySem.W.Frag} {mg:Str->Option Value} {base:Heap}
end
section
variable {D:Dat} {a0 C:Addr} {F:List (Str × U)} {e:Expr} {te ta tb:UE} {a b:Expr} {pos:Pos}
end
end U2
namespace L2
open PySem PySem.Spec PyProof.Rows
section
variable {κ:Type} [DecidableEq κ]
noncomputable def sS (kvs:List (κ × V)) (k:κ):Option V:=(kvs.find? fun kv=>decide (kv.1=k)).map (·.2)
noncomputable def putK (kvs:List (κ × V)) (k:κ) (v:V):List (κ × V) :=
 if (kvs.any fun kv=>decide (kv.1=k))=true then kvs.map (fun kv=>if kv.1=k then (kv.1,v) else kv) else kvs++[(k,v)]
noncomputable def sT (kvs:List (κ × V)) (k:κ):List (κ × V):=kvs.filter fun kv=>decide (kv.1≠k)
theorem qE {p:κ × V} {r:List (κ × V)} {k:κ} (e:p.1=k):sS (p :: r) k=some p.2:=by simp [sS,List.find?_cons,e]
theorem qG {p:κ × V} {r:List (κ × V)} {k:κ} (e:¬ p.1=k):sS (p :: r) k=sS r k:=by simp [sS,List.find?_cons,e]
theorem Cy (k:κ):∀ kvs:List (κ × V),(kvs.any fun kv=>decide (kv.1=k))=(sS kvs k).isSome
 | []=>rfl
 | p :: r=>by
  rw [List.any_cons]
  by_cases e:p.1=k
  ·simp only [qE e,decide_eq_true e,Bool.true_or,Option.isSome_some]
  ·rw [qG e,decide_eq_false e,Bool.false_or];exact Cy k r
theorem Mf (k j:κ) (y:V):∀ kvs:List (κ × V),sS (kvs.map fun kv=>if kv.1=k then (kv.1,y) else kv) j=(sS kvs j).map fun x=>if j=k then y else x
 | []=>rfl
 | p :: r=>by
  have ih:=Mf k j y r
  rw [List.map_cons]
  by_cases h:p.1=k
  ·rw [if_pos h]
   by_cases e:p.1=j
   ·rw [qE (p:=(p.1,y)) e,qE e,Option.map_some,if_pos (e.symm.trans h)]
   ·rw [qG (p:=(p.1,y)) e,qG e,ih]
  ·rw [if_neg h]
   by_cases e:p.1=j
   ·rw [qE (p:=p) e,qE e,Option.map_some,if_neg (fun z=>h (e.trans z))]
   ·rw [qG (p:=p) e,qG e,ih]
theorem S8 {kvs:List (κ × V)} {k:κ} (v:V) (h:sS kvs k=none):putK kvs k v=kvs++[(k,v)]:=by
 unfold putK
 rw [Cy,h]
 exact if_neg (by decide)
end
theorem QE {a b:Key} (e:kV a=kV b):a=b:=by
 cases a with
 | inl i=>cases b with
  | inl j=>have e':V.int i=V.int j:=e;injection e' with e';rw [e']
  | inr y=>exact nomatch (show V.int i=V.str y from e)
 | inr x=>cases b with
  | inl j=>exact nomatch (show V.str x=V.int j from e)
  | inr y=>have e':V.str x=V.str y:=e;injection e' with e';rw [e']
theorem NI:∀ {a b:List Key},a.map kV=b.map kV->a=b
 | [],[],_=>rfl
 | [],_ :: _,e=>by simp at e
 | _ :: _,[],e=>by simp at e
 | x :: xs,y :: ys,e=>by
  rw [List.map_cons,List.map_cons] at e
  injection e with e1 e2
  rw [QE e1,NI e2]
abbrev Uo (H:Hp):List (List Key × V)->List (List Key × Addr × Value)->Prop:=Paired fun p q=>p.1=q.1/\H q.2.1=some (.tup (p.1.map kV))/\RelV p.2 q.2.2
section
variable {P:Program} {w:World} {H:Hp} {h:Heap} {a:Addr}
end
section
variable {X:Cx} {pins:List (Addr × Obj)} {σ:St} {H:Hp} {s:Shared} {a:Addr} {y v:V} {u r:Value} {o:Option V} {A:Around} {E:Value->Shared->Prop}
end
section
variable {X:Cx} {pins:List (Addr × Obj)} {σ:St} {H:Hp} {s:Shared} {a:Addr} {kvs:List (Key × V)} {k:Key} {u:Value} {A:Around} {E:Value->Shared->Prop}
end
section
variable {X:Cx} {o i e value:Expr} {pos pos' tpos:Pos} {td ty tv:TE}
end
section
variable {X:Cx} {pos:Pos}
end
abbrev VV:List (V × V)->List (Value × Value)->Prop:=Paired fun p q=>RelV p.1 q.1/\RelV p.2 q.2
section
variable {X:Cx} {pins:List (Addr × Obj)} {σ:St} {H:Hp} {s:Shared} {a:Addr} {y d:V} {u r:Value} {o:Option V} {A:Around} {E:Value->Shared->Prop}
end
section
variable {X:Cx} {o e f:Expr} {apos cpos:Pos} {td ty tx:TE}
end
section
variable {X:Cx} {pins:List (Addr × Obj)} {σ:St} {H:Hp} {s:Shared} {a:Addr} {kvs:List (Key × V)} {A:Around} {E:Value->Shared->Prop}
end
section
variable {X:Cx} {pins:List (Addr × Obj)} {σ:St} {H:Hp} {s:Shared} {a:Addr} {y:V} {u:Value} {A:Around} {E:Value->Shared->Prop}
end
section
variable {X:Cx}
end
section
variable {κ:Type} [DecidableEq κ]
theorem SW {p:κ × V} {r:List (κ × V)} {k:κ} (e:p.1=k):sT (p :: r) k=sT r k:=by
 unfold sT
 rw [List.filter_cons,if_neg (by simp [e])]
theorem Iu {p:κ × V} {r:List (κ × V)} {k:κ} (e:¬ p.1=k):sT (p :: r) k=p :: sT r k:=by
 unfold sT
 rw [List.filter_cons,if_pos (by simp [e])]
theorem Lu:∀ {kvs:List (κ × V)} {k:κ},¬ k∈kvs.map (·.1)->sT kvs k=kvs
 | [],_,_=>rfl
 | p :: r,k,h=>by
  have h':¬ k∈r.map (·.1):=fun m=>by
   obtain ⟨q,hq,e⟩:=List.mem_map.mp m
   exact h (List.mem_map.mpr ⟨q,List.mem_cons.mpr (Or.inr hq),e⟩)
  rw [Iu fun e=>h (List.mem_map.mpr ⟨p,List.mem_cons.mpr (Or.inl rfl),e⟩),Lu h']
end
end L2
namespace L2
open PySem PySem.Spec PyProof.Rows PySem.F
section
variable {prog:Program} {w:World} {A:Around} {E:Value->Shared->Prop} {s:Shared} {d it vw:Addr} {es:Array DictEntry} {ep i:Nat} {e:DictEntry}
end
end L2
namespace U2
open PySem PySem.Spec PyProof.Rows L2
end U2
namespace U2
open PySem PySem.Spec PyProof.Rows L2
noncomputable def C4:U->Option Key
 | .int i=>some (.inl i)
 | .str x=>some (.inr x)
 | _=>none
noncomputable def sY:List U->Option (List Key)
 | []=>some []
 | u :: us=>match C4 u,sY us with
  | some k,some ks=>some (k :: ks)
  | _,_=>none
noncomputable def kU:Key->U
 | .inl i=>.int i
 | .inr x=>.str x
theorem N6 (k:Key):C4 (kU k)=some k:=by cases k <;> rfl
theorem My:∀ ks:List Key,sY (ks.map kU)=some ks
 | []=>rfl
 | k :: ks=>by simp only [List.map_cons,sY,N6,My ks]
theorem Mu {K:PySem.W.Frag} {H:Hp} {M:aG} {u:U} {v:V} {k:Key} (r:aP K H M u v) (e:C4 u=some k):v=kV k:=by
 cases u with
 | int i=>cases e;exact r.int
 | str x=>cases e;exact r.str
 | _=>cases e
theorem Jn {K:PySem.W.Frag} {H:Hp} {M:aG}:∀ {us:List U} {vs:List V} {ks:List Key},aK K H M us vs->sY us=some ks->vs=ks.map kV
 | [],_,_,r,e=>by cases e;exact r.inv_nil
 | u :: us,_,ks,r,e=>by
  obtain ⟨v,vs',rfl,a,b⟩:=r.inv_cons
  simp only [sY] at e
  cases e1:C4 u with
  | none=>rw [e1] at e;cases e
  | some k =>
   cases e2:sY us with
   | none=>rw [e1,e2] at e;cases e
   | some ks' =>
    rw [e1,e2] at e;cases e
    rw [Mu a e1,Jn b e2];rfl
section
variable {κ:Type} [DecidableEq κ]
noncomputable def uE (kvs:List (κ × U)) (k:κ):Option U:=(kvs.find? fun kv=>decide (kv.1=k)).map (·.2)
theorem K3 {p:κ × U} {r:List (κ × U)} {k:κ} (e:p.1=k):uE (p :: r) k=some p.2:=by simp [uE,List.find?_cons,e]
theorem LZ {p:κ × U} {r:List (κ × U)} {k:κ} (e:¬ p.1=k):uE (p :: r) k=uE r k:=by simp [uE,List.find?_cons,e]
theorem KH (k:κ):∀ kvs:List (κ × U),(kvs.any fun kv=>decide (kv.1=k))=(uE kvs k).isSome
 | []=>rfl
 | p :: r=>by
  rw [List.any_cons]
  by_cases e:p.1=k
  ·simp only [K3 e,decide_eq_true e,Bool.true_or,Option.isSome_some]
  ·rw [LZ e,decide_eq_false e,Bool.false_or];exact KH k r
variable {K:PySem.W.Frag} {H:Hp} {M:aG}
end
noncomputable def rD:List Key->Key
 | [k]=>k
 | _=>.inl 0
noncomputable def S4 (M:aG):U->Option MO
 | .ref a=>M a
 | .dic ks true us=>some (.dT (ks.zip us))
 | .dic ks false us=>some (.dK ((ks.map rD).zip us))
 | _=>none
section
variable {K:PySem.W.Frag} {H:Hp} {M:aG} {x y:U} {v u:V}
noncomputable def T5 (tk:Bool) (M:aG) (x y:U):Option (Option U):=match tk with
 | false=>match S4 M x,C4 y with
  | some (.dK kvs),some k=>some (uE kvs k)
  | _,_=>none
 | true=>match S4 M x,y with
  | some (.dT kvs),.tup ys=>(sY ys).map (uE kvs)
  | _,_=>none
end
section
variable {D:Dat} {a b c e o i:Expr} {ta tb tc te to ti:UE} {pos p:Pos} {es:List Expr} {tas:UA} {x:Str}
end
end U2
namespace U2
open PySem PySem.Spec PyProof.Rows L2
end U2
namespace L2
open PySem PySem.Spec PyProof.Rows
noncomputable def Ug:HO->Nat
 | .dK kvs=>kvs.length
 | .dT kvs=>kvs.length
 | _=>0
section
variable {X:Cx} {tg:Expr}
end
end L2
namespace U2
open PySem PySem.Spec PyProof.Rows L2
noncomputable def keyOf (tk:Bool) (k:List Key):U:=if tk then .tup (k.map kU) else kU (rD k)
noncomputable def MS (tk:Bool) (ks:List (List Key)):List U:=ks.map (keyOf tk)
noncomputable def TR (tk:Bool) (ks:List (List Key)) (us:List U):List U:=(ks.zip us).map fun p=>.tup [keyOf tk p.1,p.2]
theorem SI (tk:Bool) (ks:List (List Key)):(MS tk ks).length=ks.length:=by simp [MS]
section
variable {K:PySem.W.Frag} {H:Hp} {M:aG}
end
section
variable {D:Dat} {tg e:Expr} {te:UE} {pos p:Pos}
end
end U2
namespace U2
open PySem PySem.Spec PyProof.Rows L2
section
variable {K:PySem.W.Frag} {H:Hp} {M1 M':aG}
noncomputable def Ua (kvs:List (Key × U)):U:=.dic (kvs.map fun e=>[e.1]) false (kvs.map (·.2))
noncomputable def T9 (kvs:List (List Key × U)):U:=.dic (kvs.map (·.1)) true (kvs.map (·.2))
end
end U2
namespace L2
open PySem PySem.Spec PyProof.Rows
section
variable {X:Cx} {o e f:Expr} {apos cpos:Pos} {td ty tx:TE}
end
end L2
namespace U2
open PySem PySem.Spec PyProof.Rows L2
end U2
namespace U2
open PySem L2
noncomputable def Rv:US:=fun _ _ _=>False
theorem iC {D:Dat} {st:Stmt}:sH D st Rv:=⟨fun _ _ _=>False,fun X _=>fun _ _ _ _ _ _ h=>h.elim,fun _ _ _ _ _ _ _ h=>h.elim⟩
end U2
namespace U2
open PySem PySem.Spec PyProof.Rows L2
section
variable {prog:Program} {w:World} {κ:Type} [DecidableEq κ] {knd:KeyKind prog w κ} {A:Around} {E:Value->Shared->Prop} {s:Shared}
end
end U2
namespace U2
open PySem PySem.Spec PyProof.Rows L2
section
variable {prog:Program} {w:World} {A:Around} {E:Value->Shared->Prop} {s:Shared} {r:Addr} {a b:Int} {t u v:Tok}
end
section
variable {X:Cx} {tg a b e:Expr} {ta:TA} {te:TE} {p pos:Pos}
end
section
variable {D:Dat} {tg a b:Expr} {p p2 pos pos2:Pos} {ta:UA}
end
end U2
namespace U2
open PySem PySem.Spec PyProof.Rows L2
section
variable {X:Cx}
end
end U2
namespace L2
open PySem PySem.Spec PyProof.Rows
noncomputable def zS (σ:List Str) (v:Str):List Str:=if σ.any (· == v) then σ else σ++[v]
noncomputable def eR (l:List Str):List Str:=l.foldl zS []
theorem qJ (l:List Str) (v:Str):eR (l++[v])=zS (eR l) v:=by simp [eR,List.foldl_append]
theorem wV (σ:List Str) (v:Str):(zS σ v).length=if σ.any (· == v) then σ.length else σ.length + 1:=by
 unfold zS;split <;> simp
theorem Cq (σ:List Str) (v k:Str):(zS σ v).any (· == k)=(σ.any (· == k) || decide (k=v)):=by
 unfold zS
 by_cases h:σ.any (· == v)=true
 ·rw [if_pos h]
  by_cases e:k=v
  ·subst e;simp [h]
  ·simp [e]
 ·rw [if_neg h,List.any_append]
  by_cases e:k=v
  ·subst e;simp
  ·have:(v == k)=false:=by simpa using fun z:v=k=>e z.symm
   simp [this,e]
theorem snoc_ind {P:List Str->Prop} (h0:P []) (h1:∀ l v,P l->P (l++[v])) (l:List Str):P l:=by
 have:∀ r:List Str,P r.reverse:=by
  intro r
  induction r with
  | nil=>exact h0
  | cons a r ih=>rw [List.reverse_cons];exact h1 _ _ ih
 have:=this l.reverse
 rwa [List.reverse_reverse] at this
theorem NJ (l:List Str) (k:Str):(eR l).any (· == k)=decide (k∈l):=by
 refine snoc_ind (P:=fun l=>(eR l).any (· == k)=decide (k∈l)) (by simp [eR]) (fun l v ih=>?_) l
 rw [qJ,Cq,ih];by_cases h:k∈l <;> by_cases e:k=v <;> simp [h,e]
theorem Kh (l:List Str):(eR l).length<=l.length:=by
 refine snoc_ind (P:=fun l=>(eR l).length<=l.length) (by simp [eR]) (fun l v ih=>?_) l
 rw [qJ,wV,List.length_append,List.length_singleton];split <;> omega
theorem JE (l:List Str):((eR l).length=l.length) ↔ l.Nodup:=by
 refine snoc_ind (P:=fun l=>((eR l).length=l.length) ↔ l.Nodup) (by simp [eR]) (fun l v ih=>?_) l
 rw [qJ,wV,NJ,List.length_append,List.length_singleton]
 have hle:=Kh l
 have hn:(l++[v]).Nodup ↔ l.Nodup/\v ∉ l:=by
  rw [List.nodup_append]
  constructor
  ·rintro ⟨a,_,b⟩;exact ⟨a,fun h=>b v h v (by simp) rfl⟩
  ·rintro ⟨a,b⟩;exact ⟨a,by simp,fun x hx y hy e=>b (by simp at hy;subst hy;subst e;exact hx)⟩
 rw [hn,<- ih]
 by_cases h:v∈l
 ·simp [h];omega
 ·simp [h]
section
variable {prog:Program} {w:World} {A:Around} {I:Addr} {fp wr:List Addr} {G:Array GenState->Array GenState->Prop} {n:Nat} {P:Nat->Value->Prop} {St:Nat->Shared->Prop} {R:Result->Shared->Prop}
theorem A3 (W:WalksS prog w A.in1 I fp wr G n P St) (S:Addr) (hSf:S ∉ fp) (l:List Str) (hl:l.length=n) (hval:∀ i v,P i v->∃ x t,l[i]?=some x/\v=.str x t) (hb:n + 1 < scanBound) :
  ∀ (k i:Nat) (s:Shared),n - i=k->i<=n->St i s->s.heap.SetOf (strKind prog w) S (fun y=>(eR (l.take i)).any (· == y)) (eR (l.take i)).length ->
   (∀ s',Moved (S :: wr) G s s'->s'.heap.SetOf (strKind prog w) S (fun y=>(eR l).any (· == y)) (eR l).length->R (.ok (.ret .none)) s') ->
   codeAny (model prog w) A (.builtin "set.update.loop" ⟨[.ref S,.ref I],[]⟩) R s:=by
 have hSw:S ∉ wr:=fun h=>hSf (W.sub _ h)
 have up:∀ b∈wr,b∈S :: wr:=fun b hb=>List.mem_cons_of_mem _ hb
 have keep:∀ {s s':Shared} {T:Str->Bool} {m:Nat},Moved wr G s s'->s.heap.SetOf (strKind prog w) S T m->s'.heap.SetOf (strKind prog w) S T m:=by
  intro s s' T m hm h
  obtain ⟨o,es,ep,t,ho,rest⟩:=h
  exact ⟨o,es,ep,t,hm.heap S _ hSw ho,rest⟩
 intro k
 induction k with
 | zero =>
  intro i s hk hi hst hS hR
  obtain rfl:i=n:=by omega
  refine codeAny_builtin F.entry_set_update_loop ?_
  rw [Around.under_plainId F.plain_set_update_loop _]
  show wpAny _ A.in1 (pyNext (.ref I) >>= _) _ _ s
  refine wpAny_bind (W.done s _ _ hst fun s' hm=>?_)
  show wpAny _ A.in1 (ret Value.none) _ _ s'
  refine wpAny_pure (hR s' (hm.mono up) (keep hm ?_))
  rw [List.take_of_length_le (by omega)] at hS
  exact hS
 | succ k ih =>
  intro i s hk hi hst hS hR
  have hlt:i < n:=by omega
  refine codeAny_builtin F.entry_set_update_loop ?_
  rw [Around.under_plainId F.plain_set_update_loop _]
  show wpAny _ A.in1 (pyNext (.ref I) >>= _) _ _ s
  refine wpAny_bind (W.item i s _ _ hlt hst fun v s' hP hst' hm=>?_)
  obtain ⟨x,t,hx,rfl⟩:=hval i v hP
  have hS':=keep hm hS
  show wpAny _ A.in1 (holding [Value.str x t] (setAdd S (.str x t)) >>= _) _ _ s'
  refine wpAny_bind (wpAny_holding ?_)
  unfold setAdd
  refine wpAny_holding ?_
  refine wpAny_bind ((strKind prog w).pyHash (k:=x) (strKind_is _ _ _ _) ?_)
  have hroom:(eR (l.take i)).length + 1 < scanBound:=by have:=Kh (l.take i);rw [List.length_take] at this;omega
  refine wpAny_setAddHashed_of (knd:=strKind prog w) (s:={ s' with toks:=s'.toks + 1 }) (strKind_is _ _ _ _) rfl hS' hroom fun h' hsb hS2=>?_
  have e1:l.take (i + 1)=l.take i++[x]:=by rw [List.take_succ,hx];rfl
  have hSi:h'.SetOf (strKind prog w) S (fun y=>(eR (l.take (i + 1))).any (· == y)) (eR (l.take (i + 1))).length :=
   SetOf_congr hS2 (fun y=>by rw [e1,qJ,Cq]) (by rw [e1,qJ,wV])
  refine wpAny_pure ⟨plainId_quiet F.plain_set_update_loop _,ih (i + 1) _ (by omega) hlt (W.frame _ s' _ _ hst' (Nat.le_succ _) fun b hb o e=>?_) hSi fun s2 hm2 hS3=>?_⟩
  ·rw [hsb.2 b (fun h:b=S=>hSf (by rw [<- h];exact hb))];exact e
  ·refine hR s2 (Moved.trans W.gtrans ((hm.mono up).then_heap (Nat.le_succ _) fun b o hb e=>?_) hm2) hS3
   rw [hsb.2 b (fun h:b=S=>hb (by rw [h];exact List.mem_cons_self))];exact e
end
section
variable {prog:Program} {w:World} {A:Around} {E:Value->Shared->Prop} {s:Shared}
noncomputable def hX (led:Bool):Obj:={ cls:=.type "set",dict:=none,data:=.set #[] 0 (.fresh 0 0 led) }
theorem JZ {a:Addr} {items:Array Value} {l:List Str} {Q:Value->Shared->Prop} (hh:A.handled=none) (ha:s.heap.IsList a items) (hs:items.size=l.length) (hi:∀ (i:Nat) v,items[i]?=some v->∃ x t,l[i]?=some x/\v=.str x t) (hb:l.length + 1 < scanBound)
  (h:∀ (h':Heap) (tk:Nat),h'.SetOf (strKind prog w) s.heap.objs.size (fun y=>(eR l).any (· == y)) (eR l).length->(∀ b o,b < s.heap.objs.size->s.heap.get? b=some o->h'.get? b=some o)->Q (.ref s.heap.objs.size) { s with heap:=h',toks:=tk }) :
  wpAny (model prog w) A (call (.type "set") [.ref a]) Q E s:=by
 obtain ⟨c,tl,hmro⟩:=F.called_set.mro
 have hmade:=F.called_set.made
 have hsub:=F.called_set.sub
 refine wpAny_call (codeAny_of_tree ?_)
 show wpAny _ _ (callAny (.type "set") _) _ _ _
 refine wpAny_pure ⟨Code.quiet_builtin _ (by decide +kernel),codeAny_builtin F.entry_type_call ?_⟩
 rw [Around.under_plain (weight_type_call_type "set" [.ref a] []) rfl]
 have h1:=F.called_set.notType
 have h2:=F.called_set.canCreate
 have hct:=F.typeCall_set_1 (.ref a)
 repeat (any_goals (first | assumption | wp_step))
 refine codeAny_mono (code_set_new_1 (.ref a) (E:=E) (Q₁:=fun obj s1=>∃ led:Bool,obj=.ref s.heap.objs.size/\s1={ s with heap:=s.heap.push (hX led) }) fun led=>⟨led,rfl,rfl⟩) fun r s1 hr=>?_
 cases r with
 | error e=>exact hr
 | ok fl =>
  cases fl with
  | ret obj =>
   obtain ⟨led,rfl,rfl⟩:=hr
   have hS:(s.heap.push (hX led)).get? s.heap.objs.size=some (hX led):=Heap.get?_push_size _ rfl
   have hT:Shared.TypeIs { s with heap:=s.heap.push (hX led) } (.ref s.heap.objs.size) "set":=⟨_,hS,rfl⟩
   have hli:=F.called_set.init.lookup
   have hbi:=F.called_set.init.bind (.ref s.heap.objs.size)
   repeat (any_goals (first | assumption | wp_step))
   have hlt:a < s.heap.objs.size:=by obtain ⟨o,ho,_⟩:=ha;exact Heap.lt_size ho
   refine codeAny_mono (codeAny_call_builtin (R:=wants (fun r s2=>r=.none/\∃ h' tk,s2={ s with heap:=h',toks:=tk } /\
     h'.SetOf (strKind prog w) s.heap.objs.size (fun y=>(eR l).any (· == y)) (eR l).length/\(∀ b o,b < s.heap.objs.size->s.heap.get? b=some o->h'.get? b=some o)) E) F.called_set.init.plain F.entry_set_init (check_set_init_1 hT ?_)) fun r2 s2 hr2=>?_
   ·obtain ⟨ol,hol,hcl,nl,hdl⟩:=ha
    obtain ⟨ocls,odict,odata,oslots⟩:=ol
    simp only at hcl hdl
    subst hcl;subst hdl
    have hol':(s.heap.push (hX led)).get? a=some { cls:=.type "list",dict:=odict,data:=.seq items nl,slots:=oslots }:=Heap.get?_push_of_some _ hol
    have g1:=F.sub_list_set
    have g2:=F.sub_list_frozenset
    have hne:(Value.type "list" == Value.type "dict")=false:=by decide
    have hl1:(s.heap.push (hX led)).IsList a items:=⟨_,hol',rfl,nl,rfl⟩
    unfold Builtin.«set.__init__» noKeywords Builtin.Frozenset.updateFrom
    generalize hPI:pyIter=PI
    wp_walk
    subst hPI
    refine wpAny_pyIter_list hl1 ?_
    refine wpAny_bind (wpAny_runValue ?_)
    have hh3:A.in1.in1.in1.handled=none:=by simp [hh]
    have hsz:(s.heap.push (hX led)).objs.size=s.heap.objs.size + 1:=Heap.size_push _ _
    refine A3 ((Walks.list hh3 _ a (by rw [hsz];exact Nat.ne_of_lt (Nat.lt_succ_of_lt hlt)) items).toS) s.heap.objs.size (by rw [hsz];simp only [List.mem_cons,List.not_mem_nil,or_false,not_or];exact ⟨Nat.ne_of_lt (Nat.lt_succ_self _),Nat.ne_of_gt hlt⟩) l hs.symm hi (by omega) (items.size - 0) 0 _ (by omega) (Nat.zero_le _) ⟨⟨_,Heap.get?_push_size _ rfl,rfl,rfl⟩,(hl1.push _)⟩ ?_ ?_
    ·exact SetOf_congr ((setObjOf_fresh (knd:=strKind prog w) led).setOf (Heap.get?_push_of_some _ hS) (by unfold scanBound;omega)) (fun _=>by simp [eR]) (by simp [eR])
    ·intro s' hm hS'
     obtain ⟨h',g',d',tk',os'⟩:=s'
     have eg:g'=s.gens:=hm.gens
     have ed:d'=s.drawn:=hm.drawn
     have eo:os'=s.os:=hm.os
     subst eg;subst ed;subst eo
     show wpAny _ _ _ _ _ _
     refine wpAny_pure ?_
     show wpAny _ _ (ret Value.none) _ _ _
     refine wpAny_pure ⟨rfl,h',tk',rfl,hS',fun b o hb e=>?_⟩
     exact hm.heap b o (by rw [hsz];simp only [List.mem_cons,List.not_mem_nil,or_false,not_or];exact ⟨Nat.ne_of_lt hb,Nat.ne_of_lt (Nat.lt_succ_of_lt hb)⟩) (Heap.get?_push_of_some _ (Heap.get?_push_of_some _ e))
   ·cases r2 with
    | error e=>exact hr2
    | ok fl2 =>
     cases fl2 with
     | ret r =>
      obtain ⟨rfl,h',tk,rfl,hS',hk'⟩:=hr2
      repeat (any_goals (first | assumption | wp_step))
      exact h _ _ hS' hk'
     | _=>exact hr2.elim
  | _=>exact hr.elim
end
end L2
namespace L2
open PySem PySem.Spec PyProof.Rows
theorem FJ {ns:List Str}:∀ {us:List Value},Vals (ns.map V.str) us->us.length=ns.length/\∀ (i:Nat) v,us[i]?=some v->∃ x t,ns[i]?=some x/\v=.str x t:=by
 induction ns with
 | nil=>intro us r;cases r;exact ⟨rfl,fun i v h=>by simp at h⟩
 | cons n ns ih =>
  intro us r
  rw [List.map_cons] at r
  cases r with
  | cons r1 r2 =>
   obtain ⟨t,rfl⟩:=r1
   obtain ⟨h1,h2⟩:=ih r2
   refine ⟨by simp [h1],fun i v h=>?_⟩
   cases i with
   | zero=>simp at h;exact ⟨n,t,rfl,h.symm⟩
   | succ i=>simp at h;exact h2 i v h
theorem boot_set:bootBuiltins "set"=some (.type "set"):=by kernel_rfl
theorem Iw:bootBuiltins "len"=some (.builtin "len"):=by kernel_rfl
section
variable {X:Cx} {a:Expr} {ta:TA} {p p2 pos pos2:Pos}
end
end L2
namespace U2
open PySem PySem.Spec PyProof.Rows L2
theorem wG {K:PySem.W.Frag} {H:Hp} {M:aG}:∀ {ss:List Str} {vs:List V},aK K H M (ss.map U.str) vs->vs=ss.map V.str
 | [],vs,r=>r.inv_nil
 | s :: ss,vs,r=>by
  obtain ⟨v,vs',rfl,a,b⟩:=aK.inv_cons r
  rw [a.str,wG b];rfl
section
variable {D:Dat} {a:Expr} {ta:UA} {pos p p2 pos2:Pos}
end
end U2
namespace U2
open PySem PySem.Spec PyProof.Rows L2
open AutoSeq1 (wpAny_loadPart')
open MeetsSeq MeetsSeq2 MeetsSeq3 SeqRoads2
theorem BJ (l:Addr) (items:Array Value) (n:Nat) (dd:Option Addr) (sl:Array (Option Value)) (x:Value) (e:Value->Bool) (j:Nat) (hj:j < items.size) (hit:e items[j]=true) (hno:∀ m (hm:m < items.size),m < j->e items[m]=false) :
  Meets (Builtin.«tuple.index» ⟨[.ref l,x],[]⟩)
   (fun A R s=>s.heap.get? l=some { cls:=.type "tuple",dict:=dd,data:=.seq items n,slots:=sl }/\(∀ y,y∈items->SeqAt.EqAt A.in1 s y x (e y))/\R (.ok (.ret (.int j s.toks))) { s with toks:=s.toks + 1 }) :=
 .of_wp fun prog w A R s h=>by
  obtain ⟨hp,g,d,tk,os⟩:=s;obtain ⟨hl,he,h⟩:=h
  wp_walk using wpAny_loadPart' hl
  change wpAny (model prog w) A.in1 (forIn [:min items.size items.size] ((none,()):Option Fin × Unit) (fun (i:Nat) (_:Option Fin × Unit)=>(match items[i]? with
   | some y=>(do
     let b <- eqBool y x
     if b=true then (do
      let r <- retInt (i:Int)
      pure (ForInStep.done ((some r,()):Option Fin × Unit)))
     else pure (ForInStep.yield ((none,()):Option Fin × Unit)))
   | _=>pure (ForInStep.yield ((none,()):Option Fin × Unit)):Sem (ForInStep (Option Fin × Unit))))) _ _ _
  rw [Std.Legacy.Range.forIn_eq_forIn_range']
  simp only [Std.Legacy.Range.size,Nat.sub_zero,Nat.add_sub_cancel,Nat.div_one,Nat.min_self]
  refine wpAny_forIn_list _ (fun rest b s'=>b.1=none/\s'=⟨hp,g,d,tk,os⟩/\∃ i,i<=j/\rest=List.range' i (items.size - i)) _ ?_ ?_ _ _ ⟨rfl,rfl,0,Nat.zero_le _,by simp⟩
  ·rintro y rest b s' ⟨hb,rfl,i,hi,hr⟩
   have hlt:i < items.size:=by omega
   obtain ⟨rfl,hrest⟩:y=i/\rest=List.range' (i + 1) (items.size - (i + 1)):=by
    have e:items.size - i=(items.size - (i + 1)) + 1:=by omega
    rw [e,List.range'_succ] at hr
    injection hr with h1 h2
    exact ⟨h1,h2⟩
   rw [Array.getElem?_eq_getElem hlt]
   refine wpAny_bind (he _ (Array.getElem_mem hlt) prog w _ _ ?_)
   by_cases hij:y=j
   ·subst hij
    rw [hit]
    wp_walk
    exact ⟨_,rfl,h⟩
   ·rw [hno y hlt (by omega)]
    wp_walk
    exact ⟨rfl,rfl,y + 1,by omega,hrest⟩
  ·rintro b s' ⟨hb,rfl,i,hi,hr⟩
   have:items.size - i=0:=by
    have:=congrArg List.length hr
    simp at this;omega
   omega
noncomputable def FY (K:PySem.W.Frag):V->List V->Hp->VK->Prop:=fun x vs H Q=>∃ p xs y j,x=.ref p/\vs=[y]/\eQ K H p xs/\L2.iJ y=true/\xs.all L2.iJ=true/\(∃ z,xs[j]?=some z/\qX z y=true)/\(∀ m z,m < j->xs[m]?=some z->qX z y=false)/\Q (.int (j:Nat)) H
theorem JV {X:Cx}:Cp X "tuple.index" (FY X.K):=by
 intro pins s σ H x vs v us Q I rx rv h
 obtain ⟨p,xs,y,j,rfl,rfl,hq,fy,fs,⟨z,hz1,hz2⟩,hno,q⟩:=h
 cases rx
 obtain ⟨u,rfl,ru⟩:=rv.one
 obtain ⟨its,r,pl,hz⟩:=I.tupleP hq
 obtain ⟨⟨cls,dd,data,sl⟩,ho,hc,_,n,hd⟩:=pl
 simp only at hc hd
 subst hc hd
 have hl:=r.length
 have hj:j < xs.length:=(List.getElem?_eq_some_iff.mp hz1).1
 have hji:j < its.toArray.size:=by rw [List.size_toArray];omega
 have at_:∀ (m:Nat) (hm:m < its.toArray.size) z,xs[m]?=some z->uT y its.toArray[m]=qX z y:=fun m hm z e=>by
  obtain ⟨w',h1,h2⟩:=r.get e
  have:its.toArray[m]=w':=by
   have h3:its[m]?=some w':=h1
   have hm':m < its.length:=by simpa using hm
   rw [List.getElem?_eq_getElem hm'] at h3
   simpa using Option.some.inj h3
  rw [this]
  exact Cc h2 (by
   have:=List.all_eq_true.mp fs z (List.mem_of_getElem? e)
   exact this)
 refine call_meets F.slot_tuple_index ⟨_,ho,rfl⟩ F.entry_tuple_index (F.args_tuple_index_2 _ _)
  (BJ p its.toArray n dd sl u (uT y) j hji (by rw [at_ j hji z hz1];exact hz2) (fun m hm hmj=>?_)) ⟨ho,fun w' hw=>tE ru fy r fs w' (by simpa using hw),?_⟩
 ·have hx:xs[m]?=some xs[m]:=by simp [show m < xs.length by omega]
  rw [at_ m hm _ hx]
  exact hno m _ hmj hx
 ·exact ⟨.int j,H,I.tok _,⟨_,rfl⟩,q⟩
noncomputable def Pu (K:PySem.W.Frag) (r:V->List V->Hp->VK->Prop) (to:TE) (t:TA):TE:=fun σ H Q=>to σ H fun x H1=>(∃ a xs,x=.ref a/\eQ K H1 a xs)/\t σ H1 fun xs H2=>r x xs H2 Q
theorem Rr {X:Cx} {o e:Expr} {es:List Expr} {to:TE} {t:TA} {name:Str} {apos cpos:Pos} {id:String} {r:V->List V->Hp->VK->Prop} (pa:PlainAttrs "tuple") (slot:Slot "tuple" name id) (hty:typeOf (.builtin id)=pure (.type "method_descriptor")) (hm:Qk X id r) (ho:PE X o to) (ha:PA X (e :: es) t)
  (hbase:attributeBase o name X.env (eval o X.env)=eval o X.env)
  (hfew:((backTo cpos (starEach (e :: es) X.env)).all (fun x=>!x.1) && (backToKw cpos (keywordEach [] X.env)).all (fun x=>x.1.isSome)
   && decide ((e :: es).length + ([]:List Keyword).length + (if ([]:List Keyword).isEmpty then 0 else 1) < 30))=true)
  (hline:(apos.endLine == cpos.line)=true) (hs:starEach (e :: es) X.env=(false,eval e X.env) :: starEach es X.env) (hplain:(backTo cpos (starEach es X.env)).any (·.1)=false) :
  PE X (.Call (.Attribute o name apos) (e :: es) [] cpos) (Pu X.K r to t):=by
 intro pins s σ H Q I h
 refine wpAny_Call_method_late hbase hfew hline rfl (bJ (ho pins s σ H _ I h) fun v s1 ⟨x,H1,I1,r1,⟨a,xs,e1,sq⟩,q1⟩=>?_)
 subst e1
 cases r1
 obtain ⟨its,_,⟨ob,g1,g2,g3,_⟩,_⟩:=I1.tupleP sq
 refine ⟨"tuple",id,pa,slot,hty,⟨ob,g1,g2⟩,(fun b eb=>by cases eb;exact ⟨ob,g1,g3⟩),?_⟩
 have hA:=ha cpos pins s1 σ H1 _ I1 q1
 rw [hs] at hA ⊢
 refine Calls.callWith_builtin (by show (false || (backTo cpos (starEach es X.env)).any (·.1))=false;rw [hplain] <;> rfl) (Calls.evalArgs_plain ?_)
 exact bJ hA fun us s2 ⟨vs,H2,I2,r2,q2⟩=>hm pins s2 σ H2 (.ref a) vs (.ref a) us Q I2 rfl r2 q2
noncomputable def TH (x:U):Prop:=∃ us,x=.tup us
noncomputable def dB (r:U->List U->aG->UK->Prop) (to:UE) (t:UA):UE:=fun τ M Q=>to τ M fun x M1=>TH x/\t τ M1 fun xs M2=>r x xs M2 Q
theorem OR {K:PySem.W.Frag} {r:V->List V->Hp->VK->Prop} {r':U->List U->aG->UK->Prop} {to:TE} {to':UE} {t:TA} {t':UA} (hr:lW K r r') (ho:bS K to to') (h:lK K t t') :
  bS K (Pu K r to t) (dB r' to' t'):=fun σ τ H M Q' rs rm q Q c =>
 ho σ τ H M _ rs rm q _ fun u v M1 H1 s1 rm1 ru h1=>by
  obtain ⟨⟨us,rfl⟩,h1⟩:=h1
  obtain ⟨a,vs,rfl,sq,_⟩:=ru.tup
  exact ⟨⟨a,vs,rfl,sq⟩,h σ τ H1 M1 _ (rs.stp s1) rm1 h1 _ fun us' vs' M2 H2 s2 rm2 rus h2=>hr _ vs' _ us' H2 M2 Q' rm2 (ru.stp s2) rus h2 Q (cN.stp c (s1.trans s2))⟩
noncomputable def bL:U->List U->aG->UK->Prop:=fun x ws M Q=>match x,ws with
 | .tup us,[.str w]=>∃ (ss:List Str) (j:Nat),pE us=some ss/\ss[j]?=some w/\(∀ m z,m < j->ss[m]?=some z->z≠w)/\Q (.int (j:Nat)) M
 | _,_=>False
theorem HC {K:PySem.W.Frag}:lW K (FY K) bL:=fun x xs u us H M Q' rm ru rus h Q c=>by
 unfold bL at h
 split at h
 ·rename_i ws w
  obtain ⟨ss,j,h1,h2,h3,h4⟩:=h
  obtain ⟨a,vs,rfl,s2,r2⟩:=ru.tup
  rw [u4 r2 h1] at s2
  obtain ⟨v,rfl,a1⟩:=rus.one
  cases a1.str
  refine ⟨a,_,_,j,rfl,rfl,s2,rfl,by simp [L2.iJ],⟨.str w,by rw [List.getElem?_map,h2];rfl,by simp [qX]⟩,fun m z hm hz=>?_,c.here rm cK h4⟩
  rw [List.getElem?_map] at hz
  cases e3:ss[m]? with
  | none=>rw [e3] at hz;cases hz
  | some y =>
   rw [e3] at hz
   cases hz
   have:=h3 m y hm e3
   simp [qX,this]
 ·exact h.elim
theorem JY {D:Dat} {o e:Expr} {ta:UE} {tas:UA} {pos apos:Pos} (ho:bA D o ta) (ha:lH D [e] tas) (hbase:∀ env,attributeBase o "index" env (eval o env)=eval o env:=by intro _;rfl)
  (hfew:∀ env,((backTo pos (starEach [e] env)).all (fun x=>!x.1) && (backToKw pos (keywordEach [] env)).all (fun x=>x.1.isSome) && decide ([e].length + ([]:List Keyword).length + (if ([]:List Keyword).isEmpty then 0 else 1) < 30))=true:=by intro _;rfl)
  (hline:(apos.endLine == pos.line)=true:=by rfl) (hs:∀ env,starEach [e] env=[(false,eval e env)]:=by intro _;rfl):bA D (.Call (.Attribute o "index" apos) [e] [] pos) (dB bL ta tas):=by
 obtain ⟨_,p,s⟩:=ho;obtain ⟨_,q,r⟩:=ha
 refine ⟨_,fun X h=>?_,OR HC s r⟩
 have:=Rr (cpos:=pos) (apos:=apos) PySem.F.plainAttrs_tuple PySem.F.slot_tuple_index PySem.F.type_tuple_index JV (p X h) (q X h) (hbase _) (hfew _) hline (hs _) (by rfl)
 rw [h.K] at this
 exact this
theorem rH:∀ {ys:List Str} {its:List Value},Vals (ys.map V.str) its->StrsAre its ys
 | [],its,r=>by cases r;exact .nil
 | y :: ys,its,r=>by
  cases r with
  | cons r rr =>
   obtain ⟨t,rfl⟩:=r
   exact .cons _ _ (rH rr)
noncomputable def rJoin (K:PySem.W.Frag):V->List V->Hp->VK->Prop:=fun x vs H Q=>∃ z p ys,x=.str z/\vs=[.ref p]/\(eH K H p (ys.map V.str)\/eQ K H p (ys.map V.str))/\(ys.map (·.length)).sum + ys.length * z.length<=16777216/\Q (.str (Txt.join z ys)) H
theorem OH {X:Cx}:Cp X "str.join" (rJoin X.K):=by
 intro pins s σ H x vs v us Q I rx rv h
 obtain ⟨z,p,ys,rfl,rfl,hq,hsz,q⟩:=h
 obtain ⟨t,rfl⟩:=rx
 obtain ⟨u,rfl,ru⟩:=rv.one
 cases ru
 rcases hq with hq | hq
 ·obtain ⟨its,r,pl,hz⟩:=I.list hq
  exact join_list pl.isList (by simpa using rH r) hsz fun t' k=>⟨.str _,H,I.tok k,⟨t',rfl⟩,q⟩
 ·obtain ⟨its,r,pl,hz⟩:=I.tuple hq
  exact join_tuple pl (by simpa using rH r) hsz fun t' k=>⟨.str _,H,I.tok k,⟨t',rfl⟩,q⟩
noncomputable def p9 (x:U):Prop:=∃ z,x=.str z
noncomputable def dA (r:U->List U->aG->UK->Prop) (to:UE) (t:UA):UE:=fun τ M Q=>to τ M fun x M1=>p9 x/\t τ M1 fun xs M2=>r x xs M2 Q
theorem Oz {K:PySem.W.Frag} {r:V->List V->Hp->VK->Prop} {r':U->List U->aG->UK->Prop} {to:TE} {to':UE} {t:TA} {t':UA} (hr:lW K r r') (ho:bS K to to') (h:lK K t t') :
  bS K (Nr K "str" r to t) (dA r' to' t'):=fun σ τ H M Q' rs rm q Q c =>
 ho σ τ H M _ rs rm q _ fun u v M1 H1 s1 rm1 ru h1=>by
  obtain ⟨⟨z,rfl⟩,h1⟩:=h1
  cases ru.str
  exact ⟨rfl,h σ τ H1 M1 _ (rs.stp s1) rm1 h1 _ fun us' vs' M2 H2 s2 rm2 rus h2=>hr _ vs' _ us' H2 M2 Q' rm2 (ru.stp s2) rus h2 Q (cN.stp c (s1.trans s2))⟩
noncomputable def cE:U->List U->aG->UK->Prop:=fun x ws M Q=>match x,ws with
 | .str z,[y]=>match items M y with
  | some us=>∃ ss:List Str,pE us=some ss/\(ss.map (·.length)).sum + ss.length * z.length<=16777216/\Q (.str (Txt.join z ss)) M
  | none=>False
 | _,_=>False
theorem Lo {K:PySem.W.Frag}:lW K (rJoin K) cE:=fun x xs u us H M Q' rm ru rus h Q c=>by
 unfold cE at h
 split at h
 ·rename_i z y
  split at h
  ·rename_i us e
   obtain ⟨ss,h1,h2,q⟩:=h
   cases ru.str
   obtain ⟨v,rfl,a1⟩:=rus.one
   obtain ⟨p,vs,rfl,sq,rs⟩:=qV rm a1 e
   rw [u4 rs h1] at sq
   exact ⟨z,p,ss,rfl,rfl,sq,h2,c.here rm iF q⟩
  ·exact h.elim
 ·exact h.elim
theorem rY {D:Dat} {o e:Expr} {ta:UE} {tas:UA} {pos apos:Pos} (ho:bA D o ta) (ha:lH D [e] tas) (hbase:∀ env,attributeBase o "join" env (eval o env)=eval o env:=by intro _;rfl)
  (hfew:∀ env,((backTo pos (starEach [e] env)).all (fun x=>!x.1) && (backToKw pos (keywordEach [] env)).all (fun x=>x.1.isSome) && decide ([e].length + ([]:List Keyword).length + (if ([]:List Keyword).isEmpty then 0 else 1) < 30))=true:=by intro _;rfl)
  (hline:(apos.endLine == pos.line)=true:=by rfl) (hs:∀ env,starEach [e] env=[(false,eval e env)]:=by intro _;rfl):bA D (.Call (.Attribute o "join" apos) [e] [] pos) (dA cE ta tas):=by
 obtain ⟨_,p,s⟩:=ho;obtain ⟨_,q,r⟩:=ha
 refine ⟨_,fun X h=>?_,Oz Lo s r⟩
 have:=vY (cpos:=pos) (apos:=apos) PySem.F.plainAttrs_str PySem.F.slot_str_join PySem.F.type_str_join OH (p X h) (q X h) (hbase _) (hfew _) hline (hs _) (by rfl)
 rw [h.K] at this
 exact this
end U2
namespace U2
open PySem PySem.Spec PyProof.Rows L2
noncomputable def mT (ts:List (Addr × Str)):aG:=fun b=>(ts.lookup b).map MO.tbl
theorem oI {b:Addr} {q:Str}:∀ {ts:List (Addr × Str)},ts.lookup b=some q->(b,q)∈ts
 | [],h=>by cases h
 | (c,r) :: ts,h=>by
  rw [List.lookup_cons] at h
  by_cases e:b=c
  ·subst e
   rw [beq_self_eq_true] at h
   cases h
   exact List.mem_cons_self
  ·rw [show (b == c)=false from beq_eq_false_iff_ne.mpr e] at h
   exact List.mem_cons_of_mem _ (oI h)
theorem OU {K:PySem.W.Frag} {H:Hp} {ts:List (Addr × Str)} (hu:∀ p∈ts,∀ p'∈ts,p.2=p'.2->p.1=p'.1) (hT:∀ b∈ts.map Prod.fst,H b=some (.tbl #[])):RelM K H (mT ts):=by
 intro b mo h
 unfold mT at h
 cases e:ts.lookup b with
 | none=>rw [e] at h;cases h
 | some q =>
  rw [e] at h
  cases h
  refine ⟨fun b' h'=>?_,#[],hT b (List.mem_map.mpr ⟨_,oI e,rfl⟩),trivial,fun pos c hc=>by cases hc⟩
  unfold mT at h'
  cases e':ts.lookup b' with
  | none=>rw [e'] at h';cases h'
  | some q' =>
   rw [e'] at h'
   cases h'
   exact hu _ (oI e') _ (oI e) rfl
theorem AZ {K:PySem.W.Frag} {H:Hp} {M:aG}:∀ ns:List Int,aK K H M (ns.map U.int) (ns.map V.int)
 | []=>.nil
 | _ :: r=>.cons cK (AZ r)
theorem Es {K:PySem.W.Frag} {H:Hp} {ts:List (Addr × Str)} {a:Addr} {ns:List Int} (hT:∀ b∈ts.map Prod.fst,H b=some (.tbl #[])) (hS:eH K H a (ns.map V.int)):aK K H (mT ts) [.lst (ns.map .int)] [.ref a]:=by
 refine .cons ?_ .nil
 simp only [aP]
 refine ⟨a,_,rfl,?_,AZ ns⟩
 rcases hS with h | h
 ·refine .inl ⟨?_,h⟩
  unfold mT
  cases e:ts.lookup a with
  | none=>rfl
  | some q =>
   have:=hT a (List.mem_map.mpr ⟨_,oI e,rfl⟩)
   rcases h with h | ⟨o,h⟩ <;> rw [this] at h <;> cases h
 ·exact .inr h
theorem PU {K:PySem.W.Frag} {H:Hp} {a:Addr} {ns:List Int} {E:XK} {ts:List (Addr × Str)} {sp:bN} (hS:eH K H a (ns.map V.int)) (hT:∀ b∈ts.map Prod.fst,H b=some (.tbl #[])) (hu:∀ p∈ts,∀ p'∈ts,p.2=p'.2->p.1=p'.1)
  (h:sp [.lst (ns.map .int)] (mT ts) fun u _=>u=.bl true):dQ K sp [.ref a] H (fun v _=>v=.bl true) E :=
 ⟨[.lst (ns.map .int)],mT ts,fun u _=>u=.bl true,OU hu hT,Es hT hS,h,fun u v M1 H1 _ _ ru q=>by subst q;exact ru.bl⟩
end U2
namespace U2
open PySem PySem.Spec PyProof.Rows L2
theorem Ka {l:PySem.W.OpenLaw} {n k:Nat} {q:Program} {loose:List Str} {XP:(Str->Option Value)->Heap->Prop} {YP:World->Heap->Prop} {d:DefRec} {K:Params->PySem.W.Frag} {sp:World->Sp} {x:Str} {ts:List Addr}
  (hn:l.most=some n) (hn2:n<=sizeLine) (hdf:d.params.defaults=[]) (hr:eI k callerA)
  (hY:∀ (w:World) (h:Heap),YP w h->(K w.params).In h/\∀ P∈ts,h.get? P=some (PySem.W.tabObj #[]))
  (hTK:∀ (w:World),∀ P∈ts,(K w.params).lookup P=none/\∃ c,PySem.W.codeHdIn (K w.params) c P=true)
  (F:∀ (w:World) (mg:Str->Option Value) (fa:Addr) (h:Heap),(K w.params).In h->h.Ns mainGlobals mg->mg d.name=some (.ref fa) ->
   ∃ fd:FuncData,(∀ (s:Shared) (u:Value),BindsTo s fd ⟨[u],[]⟩ [(x,u)]) /\
    ∀ base:Heap,(K w.params).In base->base.Ns mainGlobals mg->j5 base mg->gI l.prog w (K w.params) mg base mM k fa fd [x] (sp w))
  (hsp:∀ (w:World) (H:Hp) (a:Addr) (ns:List Int),ns.length<=n->(∀ m∈ns,Builtin.Int.intBits m<=2 ^ 20)->GG ts H->eH (K w.params) H a (ns.map V.int)->(∀ p∈ts,H p=some (.tbl #[]))->sp w [.ref a] H (fun v _=>v=.bl true) fun _ _ _=>False) :
  PySem.W.WalkO q loose XP YP l.row.toRowW d [] (fun f vs=>PySem.call f vs):=by
 refine Att.attach_callB hn hdf fun w s₀ s₁ mg mb fa o pm cd doc a vs ns G Y ho hd hcd hmg hobj hints hlen hg hbits=>?_
 obtain ⟨KX,TX⟩:=hY w _ Y
 obtain ⟨fd,hb,hF⟩:=F w mg fa _ KX G.T.g hmg
 have hB:j5 s₁.heap mg:=by
  obtain ⟨bm,ob,b1,b2,b3,b4,b5,b6⟩:=G.T.bmain
  refine ⟨bm,ob,b1,b2,fun z=>?_,b3,b4,b5,b6⟩
  obtain ⟨o,es,ep,e,hd,_⟩:=G.T.g
  rw [z,e] at b3;cases b3;rw [hd] at b6;cases b6
 exact J7 KX G.T.g G.T.b G.T.builtins G.T.nolimit hg hB (fun p hp=>⟨TX p hp,(hTK w p hp).1,let ⟨c,hc⟩:=(hTK w p hp).2;((PySem.W.codeHd_of_K KX hc).tab (TX p hp)).isCodeTable⟩) hobj hints (Nat.le_trans hlen hn2) hr hF hb (fun H hO hS hT=>hsp w H a ns hlen hbits hO hS hT)
end U2
namespace L2
open PySem PySem.Spec PyProof.Rows
section
variable {prog:Program} {w:World} {A:Around} {E:Value->Shared->Prop} {s:Shared}
theorem JF {a:Addr} {items:Array Value} {l:List Str} {Q:Value->Shared->Prop} (hh:A.handled=none) (ha:s.heap.IsTuple a items) (hs:items.size=l.length) (hi:∀ (i:Nat) v,items[i]?=some v->∃ x t,l[i]?=some x/\v=.str x t) (hb:l.length + 1 < scanBound)
  (h:∀ (h':Heap) (tk:Nat),h'.SetOf (strKind prog w) s.heap.objs.size (fun y=>(eR l).any (· == y)) (eR l).length->(∀ b o,b < s.heap.objs.size->s.heap.get? b=some o->h'.get? b=some o)->Q (.ref s.heap.objs.size) { s with heap:=h',toks:=tk }) :
  wpAny (model prog w) A (call (.type "set") [.ref a]) Q E s:=by
 obtain ⟨c,tl,hmro⟩:=F.called_set.mro
 have hmade:=F.called_set.made
 have hsub:=F.called_set.sub
 refine wpAny_call (codeAny_of_tree ?_)
 show wpAny _ _ (callAny (.type "set") _) _ _ _
 refine wpAny_pure ⟨Code.quiet_builtin _ (by decide +kernel),codeAny_builtin F.entry_type_call ?_⟩
 rw [Around.under_plain (weight_type_call_type "set" [.ref a] []) rfl]
 have h1:=F.called_set.notType
 have h2:=F.called_set.canCreate
 have hct:=F.typeCall_set_1 (.ref a)
 repeat (any_goals (first | assumption | wp_step))
 refine codeAny_mono (code_set_new_1 (.ref a) (E:=E) (Q₁:=fun obj s1=>∃ led:Bool,obj=.ref s.heap.objs.size/\s1={ s with heap:=s.heap.push (hX led) }) fun led=>⟨led,rfl,rfl⟩) fun r s1 hr=>?_
 cases r with
 | error e=>exact hr
 | ok fl =>
  cases fl with
  | ret obj =>
   obtain ⟨led,rfl,rfl⟩:=hr
   have hS:(s.heap.push (hX led)).get? s.heap.objs.size=some (hX led):=Heap.get?_push_size _ rfl
   have hT:Shared.TypeIs { s with heap:=s.heap.push (hX led) } (.ref s.heap.objs.size) "set":=⟨_,hS,rfl⟩
   have hli:=F.called_set.init.lookup
   have hbi:=F.called_set.init.bind (.ref s.heap.objs.size)
   repeat (any_goals (first | assumption | wp_step))
   have hlt:a < s.heap.objs.size:=by obtain ⟨o,ho,_⟩:=ha;exact Heap.lt_size ho
   refine codeAny_mono (codeAny_call_builtin (R:=wants (fun r s2=>r=.none/\∃ h' tk,s2={ s with heap:=h',toks:=tk } /\
     h'.SetOf (strKind prog w) s.heap.objs.size (fun y=>(eR l).any (· == y)) (eR l).length/\(∀ b o,b < s.heap.objs.size->s.heap.get? b=some o->h'.get? b=some o)) E) F.called_set.init.plain F.entry_set_init (check_set_init_1 hT ?_)) fun r2 s2 hr2=>?_
   ·obtain ⟨ol,hol,hcl,nl,hdl⟩:=ha
    obtain ⟨ocls,odict,odata,oslots⟩:=ol
    simp only at hcl hdl
    subst hcl;subst hdl
    have hol':(s.heap.push (hX led)).get? a=some { cls:=.type "tuple",dict:=odict,data:=.seq items nl,slots:=oslots }:=Heap.get?_push_of_some _ hol
    have g1:=F.sub_tuple_set
    have g2:=F.sub_tuple_frozenset
    have hne:(Value.type "tuple" == Value.type "dict")=false:=by decide
    have hl1:(s.heap.push (hX led)).IsTuple a items:=⟨_,hol',rfl,nl,rfl⟩
    unfold Builtin.«set.__init__» noKeywords Builtin.Frozenset.updateFrom
    generalize hPI:pyIter=PI
    wp_walk
    subst hPI
    refine wpAny_pyIter_tuple hl1 ?_
    refine wpAny_bind (wpAny_runValue ?_)
    have hh3:A.in1.in1.in1.handled=none:=by simp [hh]
    have hsz:(s.heap.push (hX led)).objs.size=s.heap.objs.size + 1:=Heap.size_push _ _
    refine A3 ((Walks.tuple hh3 _ a (by rw [hsz];exact Nat.ne_of_lt (Nat.lt_succ_of_lt hlt)) items).toS) s.heap.objs.size (by rw [hsz];simp only [List.mem_cons,List.not_mem_nil,or_false,not_or];exact ⟨Nat.ne_of_lt (Nat.lt_succ_self _),Nat.ne_of_gt hlt⟩) l hs.symm hi (by omega) (items.size - 0) 0 _ (by omega) (Nat.zero_le _) ⟨⟨_,Heap.get?_push_size _ rfl,rfl,rfl⟩,(hl1.push _)⟩ ?_ ?_
    ·exact SetOf_congr ((setObjOf_fresh (knd:=strKind prog w) led).setOf (Heap.get?_push_of_some _ hS) (by unfold scanBound;omega)) (fun _=>by simp [eR]) (by simp [eR])
    ·intro s' hm hS'
     obtain ⟨h',g',d',tk',os'⟩:=s'
     have eg:g'=s.gens:=hm.gens
     have ed:d'=s.drawn:=hm.drawn
     have eo:os'=s.os:=hm.os
     subst eg;subst ed;subst eo
     show wpAny _ _ _ _ _ _
     refine wpAny_pure ?_
     show wpAny _ _ (ret Value.none) _ _ _
     refine wpAny_pure ⟨rfl,h',tk',rfl,hS',fun b o hb e=>?_⟩
     exact hm.heap b o (by rw [hsz];simp only [List.mem_cons,List.not_mem_nil,or_false,not_or];exact ⟨Nat.ne_of_lt hb,Nat.ne_of_lt (Nat.lt_succ_of_lt hb)⟩) (Heap.get?_push_of_some _ (Heap.get?_push_of_some _ e))
   ·cases r2 with
    | error e=>exact hr2
    | ok fl2 =>
     cases fl2 with
     | ret r =>
      obtain ⟨rfl,h',tk,rfl,hS',hk'⟩:=hr2
      repeat (any_goals (first | assumption | wp_step))
      exact h _ _ hS' hk'
     | _=>exact hr2.elim
  | _=>exact hr.elim
end
noncomputable def Cd (K:PySem.W.Frag) (ta:TA):TE:=fun σ H Q=>ta σ H fun vs H1=>∃ a ss,vs=[.ref a]/\(eH K H1 a (ss.map V.str)\/eQ K H1 a (ss.map V.str))/\ss.length < 1000/\Q (.int (eR ss).length) H1
section
variable {X:Cx} {a:Expr} {ta:TA} {p p2 pos pos2:Pos}
theorem Hv (hc:X.calm=true) (hg:Gl X "len") (hm:X.mg "len"=none) (hg2:Gl X "set") (hm2:X.mg "set"=none) (ha:PA X [a] ta) (hs:starEach [a] X.env=[(false,eval a X.env)]) (hs2:starEach [.Call (.Name "set" p2) [a] [] pos2] X.env=[(false,eval (.Call (.Name "set" p2) [a] [] pos2) X.env)]) :
  PE X (.Call (.Name "len" p) [.Call (.Name "set" p2) [a] [] pos2] [] pos) (Cd X.K ta):=by
 intro pins s σ H Q I h
 refine wpAny_Call_Name_kw (mW I hg hm Iw ?_)
 refine PyProof.Rows.callWith_builtin1 ?_ hs2 rfl
 rw [hs2]
 show wpAny _ _ (spliced ((false,eval (.Call (.Name "set" p2) [a] [] pos2) X.env) :: backTo pos [])) _ _ s
 refine Calls.spliced_cons (wpAny_Call_Name_kw (mW I hg2 hm2 boot_set (PyProof.Rows.callWith_type1 (bJ (ha pos2 pins s σ H _ I h) fun us s1 ⟨vs,H1,I1,r1,q1⟩=>?_) hs rfl)))
 obtain ⟨b,ss,rfl,hq,hlt,q⟩:=q1
 obtain ⟨u,rfl,rx⟩:=vals1 r1
 cases rx
 rcases hq with hq | hq
 ·obtain ⟨its,r',pl,hz⟩:=I1.list hq
  obtain ⟨e1,e2⟩:=FJ r'
  refine JZ (I1.ok.hd hc) pl.isList (l:=ss) (by simpa using e1) (fun i v hv=>e2 i v (by simpa using hv)) (by unfold scanBound;omega) fun h' tk hS hk=>?_
  refine Calls.spliced_nil ?_
  obtain ⟨o,es,ep,t,ho,hex,hd,_,_,hb,hf,hn⟩:=hS
  refine call_len_set (s:={ s1 with heap:=h',toks:=tk }) ho hex hd hf (by have:=hb;unfold scanBound at this;omega) ?_
  refine ⟨.int (eR ss).length,H1,?_,⟨_,by rw [hn]⟩,q⟩
  exact I1.kept fun b o e=>hk b o (Heap.lt_size e) e
 ·obtain ⟨its,r',pl,hz⟩:=I1.tuple hq
  obtain ⟨e1,e2⟩:=FJ r'
  refine JF (items:=its.toArray) (I1.ok.hd hc) pl (l:=ss) (by simpa using e1) (fun i v hv=>e2 i v (by simpa using hv)) (by unfold scanBound;omega) fun h' tk hS hk=>?_
  refine Calls.spliced_nil ?_
  obtain ⟨o,es,ep,t,ho,hex,hd,_,_,hb,hf,hn⟩:=hS
  refine call_len_set (s:={ s1 with heap:=h',toks:=tk }) ho hex hd hf (by have:=hb;unfold scanBound at this;omega) ?_
  refine ⟨.int (eR ss).length,H1,?_,⟨_,by rw [hn]⟩,q⟩
  exact I1.kept fun b o e=>hk b o (Heap.lt_size e) e
end
end L2
namespace U2
open PySem PySem.Spec PyProof.Rows L2
noncomputable def B6 (ta:UA):UE:=fun τ M Q=>ta τ M fun us M1=>match us with
 | [x]=>match items M1 x with
  | some ws=>∃ ss:List Str,ws=ss.map U.str/\ss.length < 1000/\Q (.int (eR ss).length) M1
  | _=>False
 | _=>False
section
variable {D:Dat} {a:Expr} {ta:UA} {pos p p2 pos2:Pos}
theorem GA (hm:D.mg "len"=none) (hm2:D.mg "set"=none) (ha:lH D [a] ta) (hg:D.sc.names.lookup ("len":Str)=some .globalImplicit:=by rfl) (hg2:D.sc.names.lookup ("set":Str)=some .globalImplicit:=by rfl) (hs:∀ env,starEach [a] env=[(false,eval a env)]:=by intro _;rfl)
  (hs2:∀ env,starEach [.Call (.Name "set" p2) [a] [] pos2] env=[(false,eval (.Call (.Name "set" p2) [a] [] pos2) env)]:=by intro _;rfl):bA D (.Call (.Name "len" p) [.Call (.Name "set" p2) [a] [] pos2] [] pos) (B6 ta):=by
 obtain ⟨t,q,s⟩:=ha
 refine ⟨Cd D.K t,fun X h=>by have:=Hv (p:=p) (p2:=p2) (pos:=pos) (pos2:=pos2) h.calm (by show X.env.scope.names.lookup _=_;rw [h.sc];exact hg) (by rw [h.mg];exact hm) (by show X.env.scope.names.lookup _=_;rw [h.sc];exact hg2) (by rw [h.mg];exact hm2) (q X h) (hs _) (hs2 _);rw [h.K] at this;exact this,fun σ τ H M Q' rs rm h Q c=>?_⟩
 refine s σ τ H M _ rs rm h _ fun us vs M1 H1 s1 rm1 ru h1=>?_
 split at h1
 ·obtain ⟨v,rfl,a1⟩:=ru.one
  split at h1
  ·rename_i ws e
   obtain ⟨ss,rfl,hl,q⟩:=h1
   obtain ⟨b,zvs,rfl,s2,r2⟩:=qV rm1 a1 e
   rw [wG r2] at s2
   exact ⟨b,ss,rfl,s2,hl,c _ _ M1 H1 s1 rm1 cK q⟩
  ·exact h1.elim
 ·exact h1.elim
end
end U2
namespace U2
open PySem PySem.Spec PyProof.Rows L2
section
variable {prog:Program} {w:World} {A:Around} {E:Value->Shared->Prop} {s:Shared}
end
section
variable {prog:Program} {w:World} {A:Around} {E:Value->Shared->Prop} {s:Shared}
end
theorem Hb {α β:Type} (f:α->Bool) (g:β->Bool):∀ (l:List α) (m:List β),l.length=m.length->(∀ (i:Nat) a b,l[i]?=some a->m[i]?=some b->f a=g b)->l.countP f=m.countP g
 | [],[],_,_=>rfl
 | [],_ :: _,h,_=>by cases h
 | _ :: _,[],h,_=>by cases h
 | a :: l,b :: m,h,k=>by
  rw [List.countP_cons,List.countP_cons,k 0 a b rfl rfl,Hb f g l m (by simpa using h) fun i a b h1 h2=>k (i + 1) a b h1 h2]
noncomputable def vP:List U->Option (List Int)
 | []=>some []
 | .int b :: r=>(vP r).map (b :: ·)
 | _=>none
theorem JD {K:PySem.W.Frag} {H:Hp} {M:aG}:∀ {us:List U} {vs:List V} {bs:List Int},aK K H M us vs->vP us=some bs->vs=bs.map V.int
 | [],_,_,r,h=>by cases h;exact r.inv_nil
 | u :: us,_,bs,r,h=>by
  obtain ⟨v,vs',rfl,a,b⟩:=r.inv_cons
  cases u with
  | int y =>
   simp only [vP] at h
   cases e:vP us with
   | none=>rw [e] at h;cases h
   | some cs =>
    rw [e] at h
    cases h
    rw [JD b e,a.int];rfl
  | _=>cases h
theorem J8:∀ l:List Int,vP (l.map U.int)=some l
 | []=>rfl
 | a :: l=>by simp only [List.map_cons,vP,J8 l,Option.map_some]
end U2
namespace U2
open PySem PySem.Spec PyProof.Rows L2
noncomputable def findF (z y:Str):Int:=match Builtin.Str.occurrences z y 0 z.length 1 with | i :: _=>(i:Int) | []=>-1
noncomputable def Nk:V->List V->Hp->VK->Prop:=fun x vs H Q=>∃ z y,x=.str z/\vs=[.str y]/\Q (.int (findF z y)) H
theorem OW {X:Cx}:Cp X "str.find" Nk:=by
 intro pins s σ H x vs v us Q I rx rv h
 obtain ⟨z,y,rfl,rfl,q⟩:=h
 obtain ⟨t,rfl⟩:=rx
 obtain ⟨u,rfl,ru⟩:=rv.one
 obtain ⟨t2,rfl⟩:=ru
 refine call_gives PySem.F.slot_str_find (typeIs_str _ _ _) PySem.F.entry_str_find (PySem.F.args_str_find_2 _ _) (PySem.gives_str_find z y t t2) ?_
 exact ⟨.int (findF z y),H,I.tok _,⟨_,rfl⟩,q⟩
noncomputable def BZ:U->List U->aG->UK->Prop:=fun x ws M Q=>match x,ws with
 | .str z,[.str y]=>Q (.int (findF z y)) M
 | _,_=>False
theorem LL {K:PySem.W.Frag}:lW K Nk BZ:=fun x xs u us H M Q' rm ru rus h Q c=>by
 unfold BZ at h
 split at h
 ·obtain ⟨v,rfl,a1⟩:=rus.one
  cases a1.str
  cases ru.str
  exact ⟨_,_,rfl,rfl,c.here rm cK h⟩
 ·exact h.elim
noncomputable def Dt (x:U):Prop:=∃ z,x=.str z
noncomputable def uW (r:U->List U->aG->UK->Prop) (to:UE) (t:UA):UE:=fun τ M Q=>to τ M fun x M1=>Dt x/\t τ M1 fun xs M2=>r x xs M2 Q
theorem Al {K:PySem.W.Frag} {r:V->List V->Hp->VK->Prop} {r':U->List U->aG->UK->Prop} {to:TE} {to':UE} {t:TA} {t':UA} (hr:lW K r r') (ho:bS K to to') (h:lK K t t') :
  bS K (Nr K "str" r to t) (uW r' to' t'):=fun σ τ H M Q' rs rm q Q c =>
 ho σ τ H M _ rs rm q _ fun u v M1 H1 s1 rm1 ru h1=>by
  obtain ⟨⟨z,rfl⟩,h1⟩:=h1
  cases ru.str
  exact ⟨rfl,h σ τ H1 M1 _ (rs.stp s1) rm1 h1 _ fun us' vs' M2 H2 s2 rm2 rus h2=>hr _ vs' _ us' H2 M2 Q' rm2 (ru.stp s2) rus h2 Q (cN.stp c (s1.trans s2))⟩
theorem O3 {D:Dat} {o e:Expr} {ta:UE} {tas:UA} {pos apos:Pos} (ho:bA D o ta) (ha:lH D [e] tas) (hbase:∀ env,attributeBase o "find" env (eval o env)=eval o env:=by intro _;rfl)
  (hfew:∀ env,((backTo pos (starEach [e] env)).all (fun x=>!x.1) && (backToKw pos (keywordEach [] env)).all (fun x=>x.1.isSome) && decide ([e].length + ([]:List Keyword).length + (if ([]:List Keyword).isEmpty then 0 else 1) < 30))=true:=by intro _;rfl)
  (hline:(apos.endLine == pos.line)=true:=by rfl) (hs:∀ env,starEach [e] env=[(false,eval e env)]:=by intro _;rfl):bA D (.Call (.Attribute o "find" apos) [e] [] pos) (uW BZ ta tas):=by
 obtain ⟨_,p,s⟩:=ho;obtain ⟨_,q,r⟩:=ha
 refine ⟨_,fun X h=>?_,Al LL s r⟩
 have:=vY (cpos:=pos) (apos:=apos) PySem.F.plainAttrs_str PySem.F.slot_str_find PySem.F.type_str_find OW (p X h) (q X h) (hbase _) (hfew _) hline (hs _) (by rfl)
 rw [h.K] at this
 exact this
end U2
namespace U2
open PySem PySem.Spec PyProof.Rows L2
open Builtin Builtin.Str
theorem HL:∀ (n:Nat) (ss:List Str),Vals (ss.map V.str) (strsFrom n ss)
 | _,[]=>.nil
 | n,s :: ss=>.cons ⟨n,rfl⟩ (HL (n + 1) ss)
noncomputable def Qt (f:Str->Str->List V->Option (List Str)):V->List V->Hp->VK->Prop:=fun x vs H Q=>∃ z y r ps,x=.str z/\vs=.str y :: r/\f z y r=some ps/\(y.length == 0)=false/\z.length<=100000/\∀ q,H q=none->Q (.ref q) (upd H q (.lst (ps.map V.str)))
noncomputable def Lc (z y:Str):List V->Option (List Str)
 | []=>some (Txt.split z y)
 | [.int k]=>if (decide (k < -(2 ^ 63:Int)) || decide (k ≥ 2 ^ 63))=false then some (Txt.splitMax z y k) else none
 | _=>none
theorem Cz {X:Cx}:Cp X "str.split" (Qt Lc):=by
 intro pins s σ H x vs v us Q I rx rv h
 obtain ⟨z,y,r,ps,rfl,rfl,hf,hy,hz,q⟩:=h
 obtain ⟨t,rfl⟩:=rx
 obtain ⟨u,us',rfl,ru,rv2⟩:∃ u us',us=u :: us'/\RelV (.str y) u/\Vals r us':=by
  cases rv with
  | cons a b=>exact ⟨_,_,rfl,a,b⟩
 obtain ⟨t2,rfl⟩:=ru
 have hn:∀ lim,(partsBetween z (occurrences z y 0 z.length lim) y.length).length<=sizeLine:=fun lim=>by
  have e1:=StrLaws.occ_length_le_len z y 0 z.length lim
  rw [length_partsBetween]
  have:(100010:Nat)<=sizeLine:=by decide
  omega
 have hzz:z.length<=sizeLine:=Nat.le_trans hz (by decide)
 have fin:∀ (n:Nat) (its:List Value),Vals (ps.map V.str) its->its.length<=sizeLine->∃ x H',L2.Inv X pins σ H' { s with toks:=n,heap:=s.heap.push { cls:=.type "list",data:=.seq its.toArray } }/\RelV x (.ref s.heap.objs.size)/\Q x H':=fun n its rr hl=>by
  have hD:H s.heap.objs.size=none:=I.hok.fresh (Nat.le_refl _)
  refine ⟨.ref s.heap.objs.size,_,I.laid (h':=s.heap.push { cls:=.type "list",data:=.seq its.toArray }) (t':=n) (o:=.lst (ps.map V.str)) (fun c o e=>Heap.get?_push_of_some _ e) (Nat.le_refl _) ⟨?_,its,0,rr,?_⟩,rfl,q _ hD⟩
  ·rw [rr.length];exact hl
  ·exact Heap.get?_push_size _ rfl
 clear rv
 match r,us',hf,rv2 with
 | [],[],hf,_ =>
  cases hf
  cases h1:(decide (z.length < y.length) || decide (strKind z < strKind y))
  ·cases h2:(occurrences z y 0 z.length (z.length + 1)).isEmpty
   ·have e:Txt.split z y=partsBetween z (occurrences z y 0 z.length (z.length + 1)) y.length:=by unfold Txt.split;rw [h1,h2];rfl
    rw [e] at fin
    exact call_meets PySem.F.slot_str_split (typeIs_str _ _ _) PySem.F.entry_str_split (PySem.F.args_str_split_2 _ _) (meets_str_split_sep z y t t2 h1 hy h2 hzz (hn _)) (fin _ _ (HL _ _) (by rw [strsFrom_length];exact hn _))
   ·have e:Txt.split z y=[z]:=by unfold Txt.split;rw [h1,h2];rfl
    rw [e] at fin
    exact call_meets PySem.F.slot_str_split (typeIs_str _ _ _) PySem.F.entry_str_split (PySem.F.args_str_split_2 _ _) (meets_str_split_not_found z y t t2 h1 hy h2) (fin s.toks [.str z t] (.cons ⟨t,rfl⟩ .nil) (show 1<=sizeLine by decide))
  ·have e:Txt.split z y=[z]:=by unfold Txt.split;rw [h1];rfl
   rw [e] at fin
   exact call_meets PySem.F.slot_str_split (typeIs_str _ _ _) PySem.F.entry_str_split (PySem.F.args_str_split_2 _ _) (meets_str_split_cannot_occur z y t t2 h1) (fin s.toks [.str z t] (.cons ⟨t,rfl⟩ .nil) (show 1<=sizeLine by decide))
 | [.int k],us3,hf,rv =>
  obtain ⟨u3,rfl,⟨t3,rfl⟩⟩:=vals1 rv
  simp only [Lc] at hf
  split at hf
  ·rename_i hk
   cases hf
   cases h1:(decide (z.length < y.length) || decide (strKind z < strKind y))
   ·cases h2:(occurrences z y 0 z.length (limitOf z k)).isEmpty
    ·have e:Txt.splitMax z y k=partsBetween z (occurrences z y 0 z.length (limitOf z k)) y.length:=by unfold Txt.splitMax;rw [h1,h2];rfl
     rw [e] at fin
     exact call_meets PySem.F.slot_str_split (typeIs_str _ _ _) PySem.F.entry_str_split (PySem.F.args_str_split_3 _ _ _) (meets_str_split_sep_max z y k t t2 t3 hk h1 hy h2 hzz (hn _)) (fin _ _ (HL _ _) (by rw [strsFrom_length];exact hn _))
    ·have e:Txt.splitMax z y k=[z]:=by unfold Txt.splitMax;rw [h1,h2];rfl
     rw [e] at fin
     exact call_meets PySem.F.slot_str_split (typeIs_str _ _ _) PySem.F.entry_str_split (PySem.F.args_str_split_3 _ _ _) (meets_str_split_max_not_found z y k t t2 t3 hk h1 hy h2) (fin s.toks [.str z t] (.cons ⟨t,rfl⟩ .nil) (show 1<=sizeLine by decide))
   ·have e:Txt.splitMax z y k=[z]:=by unfold Txt.splitMax;rw [h1];rfl
    rw [e] at fin
    exact call_meets PySem.F.slot_str_split (typeIs_str _ _ _) PySem.F.entry_str_split (PySem.F.args_str_split_3 _ _ _) (meets_str_split_max_cannot_occur z y k t t2 t3 hk h1) (fin s.toks [.str z t] (.cons ⟨t,rfl⟩ .nil) (show 1<=sizeLine by decide))
  ·cases hf
noncomputable def qN (own:Bool):U->List U->aG->UK->Prop:=fun x ws M Q=>match x,ws with
 | .str z,[.str y]=>(y.length == 0)=false/\z.length<=100000/\mP own ((Txt.split z y).map U.str) M Q
 | .str z,[.str y,.int k]=>(y.length == 0)=false/\z.length<=100000/\(decide (k < -(2 ^ 63:Int)) || decide (k ≥ 2 ^ 63))=false/\mP own ((Txt.splitMax z y k).map U.str) M Q
 | _,_=>False
theorem AJ {own:Bool} {K:PySem.W.Frag}:lW K (Qt Lc) (qN own):=fun x xs u us H M Q' rm ru rus h Q c=>by
 unfold qN at h
 split at h
 ·obtain ⟨v,rfl,a1⟩:=rus.one
  cases a1.str
  cases ru.str
  exact ⟨_,_,[],_,rfl,rfl,rfl,h.1,h.2.1,fun q hq=>c.lst rm (sQ _) hq h.2.2⟩
 ·obtain ⟨v,r,rfl,a1,a2⟩:=rus.inv_cons
  obtain ⟨v2,rfl,a3⟩:=a2.one
  cases a1.str
  cases a3.int
  cases ru.str
  exact ⟨_,_,[.int _],_,rfl,rfl,if_pos h.2.2.1,h.1,h.2.1,fun q hq=>c.lst rm (sQ _) hq h.2.2.2⟩
 ·exact h.elim
theorem AX {D:Dat} {own:Bool} {o e:Expr} {ta:UE} {tas:UA} {pos apos:Pos} (ho:bA D o ta) (ha:lH D [e] tas) (hbase:∀ env,attributeBase o "split" env (eval o env)=eval o env:=by intro _;rfl)
  (hfew:∀ env,((backTo pos (starEach [e] env)).all (fun x=>!x.1) && (backToKw pos (keywordEach [] env)).all (fun x=>x.1.isSome) && decide ([e].length + ([]:List Keyword).length + (if ([]:List Keyword).isEmpty then 0 else 1) < 30))=true:=by intro _;rfl)
  (hline:(apos.endLine == pos.line)=true:=by rfl) (hs:∀ env,starEach [e] env=[(false,eval e env)]:=by intro _;rfl):bA D (.Call (.Attribute o "split" apos) [e] [] pos) (uW (qN own) ta tas):=by
 obtain ⟨_,p,s⟩:=ho;obtain ⟨_,q,r⟩:=ha
 refine ⟨_,fun X h=>?_,Al AJ s r⟩
 have:=vY (cpos:=pos) (apos:=apos) PySem.F.plainAttrs_str PySem.F.slot_str_split PySem.F.type_str_split Cz (p X h) (q X h) (hbase _) (hfew _) hline (hs _) (by rfl)
 rw [h.K] at this
 exact this
theorem IG {D:Dat} {own:Bool} {o e e2:Expr} {ta:UE} {tas:UA} {pos apos:Pos} (ho:bA D o ta) (ha:lH D [e,e2] tas) (hbase:∀ env,attributeBase o "split" env (eval o env)=eval o env:=by intro _;rfl)
  (hfew:∀ env,((backTo pos (starEach [e,e2] env)).all (fun x=>!x.1) && (backToKw pos (keywordEach [] env)).all (fun x=>x.1.isSome) && decide ([e,e2].length + ([]:List Keyword).length + (if ([]:List Keyword).isEmpty then 0 else 1) < 30))=true:=by intro _;rfl)
  (hline:(apos.endLine == pos.line)=true:=by rfl) (hs:∀ env,starEach [e,e2] env=[(false,eval e env),(false,eval e2 env)]:=by intro _;rfl) (hs2:∀ env,starEach [e2] env=[(false,eval e2 env)]:=by intro _;rfl):bA D (.Call (.Attribute o "split" apos) [e,e2] [] pos) (uW (qN own) ta tas):=by
 obtain ⟨_,p,s⟩:=ho;obtain ⟨_,q,r⟩:=ha
 refine ⟨_,fun X h=>?_,Al AJ s r⟩
 have:=vY (cpos:=pos) (apos:=apos) PySem.F.plainAttrs_str PySem.F.slot_str_split PySem.F.type_str_split Cz (p X h) (q X h) (hbase _) (hfew _) hline (by rw [hs,hs2]) (by rw [hs2];rfl)
 rw [h.K] at this
 exact this
theorem Lg {c:Nat}:∀ {ps qs:List Str},ps≠[]->qs≠[]->(∀ p∈ps,c ∉ p.cps.toList)->(∀ p∈qs,c ∉ p.cps.toList)->Str.join ⟨#[c]⟩ ps=Str.join ⟨#[c]⟩ qs->ps=qs:=by
 have key:∀ (a b x y:List Nat),c ∉ a->c ∉ b->a++c :: x=b++c :: y->a=b/\x=y:=by
  intro a
  induction a with
  | nil =>
   intro b x y _ hb e
   cases b with
   | nil=>simp at e;exact ⟨rfl,e⟩
   | cons k b=>simp at e;exact (hb (by rw [<- e.1];exact List.mem_cons_self)).elim
  | cons k a ih =>
   intro b x y ha hb e
   cases b with
   | nil=>simp at e;exact (ha (by rw [e.1];exact List.mem_cons_self)).elim
   | cons j b =>
    simp only [List.cons_append,List.cons.injEq] at e
    obtain ⟨r1,r2⟩:=ih b x y (fun h=>ha (List.mem_cons_of_mem _ h)) (fun h=>hb (List.mem_cons_of_mem _ h)) e.2
    exact ⟨by rw [e.1,r1],r2⟩
 have ext:∀ {a b:Str},a.cps.toList=b.cps.toList->a=b:=fun {a b} h=>by cases a;cases b;simp only at h;congr 1;exact Array.toList_inj.mp h
 intro ps
 induction ps with
 | nil=>intro qs h;exact (h rfl).elim
 | cons p ps ih =>
  intro qs _ hq hp hqs e
  cases qs with
  | nil=>exact (hq rfl).elim
  | cons q qs =>
   have e':=congrArg (fun z:Str=>z.cps.toList) e
   have hp1:=hp p List.mem_cons_self
   have hq1:=hqs q List.mem_cons_self
   cases ps with
   | nil =>
    cases qs with
    | nil=>exact congrArg (fun x=>[x]) (show p=q from e)
    | cons q2 qs =>
     have e2:p.cps.toList=q.cps.toList++c :: (Str.join ⟨#[c]⟩ (q2 :: qs)).cps.toList:=by
      have:(Str.join ⟨#[c]⟩ (q :: q2 :: qs))=q++⟨#[c]⟩++Str.join ⟨#[c]⟩ (q2 :: qs):=rfl
      have e3:p.cps.toList=(Str.join ⟨#[c]⟩ (q :: q2 :: qs)).cps.toList:=e'
      rw [this] at e3
      simpa [Str.cps_append] using e3
     exact (hp1 (by rw [e2];simp)).elim
   | cons p2 ps =>
    have a1:(Str.join ⟨#[c]⟩ (p :: p2 :: ps)).cps.toList=p.cps.toList++c :: (Str.join ⟨#[c]⟩ (p2 :: ps)).cps.toList:=by
     have:(Str.join ⟨#[c]⟩ (p :: p2 :: ps))=p++⟨#[c]⟩++Str.join ⟨#[c]⟩ (p2 :: ps):=rfl
     rw [this];simp [Str.cps_append]
    cases qs with
    | nil =>
     have e2:(Str.join ⟨#[c]⟩ (p :: p2 :: ps)).cps.toList=q.cps.toList:=e'
     exact (hq1 (by rw [<- e2,a1];simp)).elim
    | cons q2 qs =>
     have a2:(Str.join ⟨#[c]⟩ (q :: q2 :: qs)).cps.toList=q.cps.toList++c :: (Str.join ⟨#[c]⟩ (q2 :: qs)).cps.toList:=by
      have:(Str.join ⟨#[c]⟩ (q :: q2 :: qs))=q++⟨#[c]⟩++Str.join ⟨#[c]⟩ (q2 :: qs):=rfl
      rw [this];simp [Str.cps_append]
     have e2:(Str.join ⟨#[c]⟩ (p :: p2 :: ps)).cps.toList=(Str.join ⟨#[c]⟩ (q :: q2 :: qs)).cps.toList:=e'
     rw [a1,a2] at e2
     obtain ⟨r1,r2⟩:=key _ _ _ _ hp1 hq1 e2
     rw [ext r1,ih (qs:=q2 :: qs) (by simp) (by simp) (fun x h=>hp x (List.mem_cons_of_mem _ h)) (fun x h=>hqs x (List.mem_cons_of_mem _ h)) (ext r2)]
theorem D4 (x y:Str):Txt.split x y≠[]:=by
 unfold Txt.split
 split
 ·simp
 ·split
  ·simp
  ·rw [StrLaws.partsBetween_eq]
   obtain ⟨p,r,e⟩:=StrLaws.partsFrom_ne x y.length 0 (occurrences x y 0 x.length (x.length + 1))
   rw [e];simp
theorem tG {c:Nat} {ps:List Str} (h:ps≠[]) (hp:∀ p∈ps,c ∉ p.cps.toList):Txt.split (Str.join ⟨#[c]⟩ ps) ⟨#[c]⟩=ps :=
 Lg (D4 _ _) h (StrLaws.split_free _ _) hp (StrLaws.join_split _ _)
theorem sJ (s sub:Str) (hi L N:Nat):∀ (l:List Nat) (a b:Array Nat × Nat),(b.1.size < L->a=b)->a.1.toList=b.1.toList.take L->b.1.size + l.length<=N->(forIn l a (StrLaws.occBody s sub hi L)).run.fst.toList=((forIn l b (StrLaws.occBody s sub hi N)).run.fst.toList).take L
 | [],a,b,h1,h2,_=>h2
 | i :: l,a,b,h1,h2,h3=>by
  rw [List.forIn_cons,List.forIn_cons]
  have hlen:a.1.size=min L b.1.size:=by
   have:=congrArg List.length h2
   simpa using this
  simp only [List.length_cons] at h3
  by_cases hb:b.1.size < L
  ·have e:=h1 hb
   subst e
   unfold StrLaws.occBody
   by_cases hc:(a.2<=i/\i + sub.length<=hi)/\subAt s sub i=true
   ·rw [if_pos ⟨⟨⟨hb,hc.1.1⟩,hc.1.2⟩,hc.2⟩,if_pos ⟨⟨⟨by omega,hc.1.1⟩,hc.1.2⟩,hc.2⟩]
    refine sJ s sub hi L N l _ _ (fun _=>rfl) ?_ (by show (a.1.push i).size + l.length<=N;rw [Array.size_push];omega)
    show (a.1.push i).toList=_
    rw [List.take_of_length_le]
    show (a.1.push i).toList.length<=L
    simp;omega
   ·rw [if_neg (fun z=>hc ⟨⟨z.1.1.2,z.1.2⟩,z.2⟩),if_neg (fun z=>hc ⟨⟨z.1.1.2,z.1.2⟩,z.2⟩)]
    exact sJ s sub hi L N l _ _ (fun _=>rfl) h2 (by show a.1.size + l.length<=N;omega)
  ·have e1:StrLaws.occBody s sub hi L i a=pure (ForInStep.yield (a.1,a.2)):=by
    unfold StrLaws.occBody
    rw [if_neg (fun z=>by have:=z.1.1.1;omega)]
   rw [e1]
   unfold StrLaws.occBody
   split
   ·refine sJ s sub hi L N l _ _ (fun z=>?_) ?_ (by show (b.1.push i).size + l.length<=N;rw [Array.size_push];omega)
    ·have z':(b.1.push i).size < L:=z
     rw [Array.size_push] at z';omega
    ·show a.1.toList=(b.1.push i).toList.take L
     rw [Array.toList_push,List.take_append_of_le_length (by simpa using Nat.le_of_not_lt hb)]
     exact h2
   ·exact sJ s sub hi L N l _ _ (fun z=>absurd z hb) h2 (by show b.1.size + l.length<=N;omega)
theorem LM (x y:Str) (L:Nat):occurrences x y 0 x.length L=(occurrences x y 0 x.length (x.length + 1)).take L:=by
 rw [StrLaws.occ_eq,StrLaws.occ_eq]
 exact sJ x y x.length L (x.length + 1) _ _ _ (fun _=>rfl) (by simp) (by simp)
theorem AU (x:Str) (w:Nat):∀ (cuts:List Nat) (a:Nat),(StrLaws.partsFrom x w a cuts).length=cuts.length + 1
 | [],_=>rfl
 | c :: r,a=>by simp only [StrLaws.partsFrom,List.length_cons,AU x w r]
theorem xS (x y:Str):∀ (k:Nat) (cuts:List Nat) (a f:Nat),StrLaws.ChainTo x y x.length a cuts f->k<=cuts.length->StrLaws.partsFrom x y.length a (cuts.take k)=(StrLaws.partsFrom x y.length a cuts).take k++[Str.join y ((StrLaws.partsFrom x y.length a cuts).drop k)]
 | 0,cuts,a,f,h,_=>by
  rw [List.take_zero,List.take_zero,List.drop_zero,StrLaws.join_partsFrom x y cuts a f h]
  rfl
 | k + 1,[],a,f,h,hk=>by simp at hk
 | k + 1,c :: r,a,f,h,hk=>by
  simp only [List.take_succ_cons,StrLaws.partsFrom,List.drop_succ_cons,List.cons_append]
  rw [xS x y k r (c + y.length) f h.2.2 (by simpa using hk)]
theorem Ep (x y:Str) (k:Nat) (hk:1<=k):Txt.splitMax x y (k:Int)=if (Txt.split x y).length<=k + 1 then Txt.split x y else (Txt.split x y).take k++[Str.join y ((Txt.split x y).drop k)]:=by
 have hl:limitOf x (k:Int)=k:=by unfold limitOf;rw [if_neg (by omega)];simp
 unfold Txt.splitMax
 rw [hl]
 cases h1:(decide (x.length < y.length) || decide (strKind x < strKind y)) with
 | true =>
  have e:Txt.split x y=[x]:=by unfold Txt.split;rw [h1];rfl
  rw [e,if_pos rfl,if_pos (by simp)]
 | false =>
  rw [if_neg (by simp),LM x y k]
  cases h2:occurrences x y 0 x.length (x.length + 1) with
  | nil =>
   have e:Txt.split x y=[x]:=by unfold Txt.split;rw [h1,h2];rfl
   rw [e,if_pos (by simp),if_pos (by simp)]
  | cons a r =>
   have e:Txt.split x y=partsBetween x (a :: r) y.length:=by unfold Txt.split;rw [h1,h2];rfl
   obtain ⟨f,hc⟩:=StrLaws.occ_chain x y (x.length + 1)
   rw [h2] at hc
   rw [e,StrLaws.partsBetween_eq,StrLaws.partsBetween_eq,if_neg (by cases k with
    | zero=>omega
    | succ k=>simp),AU]
   split
   ·rw [List.take_of_length_le (by omega)]
   ·exact xS x y k (a :: r) 0 f hc (by omega)
end U2
namespace U2
open PySem PySem.Spec PyProof.Rows L2
section
variable {prog:Program} {w:World} {A:Around} {E:Value->Shared->Prop} {s:Shared}
theorem L4 (a v:Value):checkTypeCall "enumerate" ⟨[a],[("start",v)]⟩=pure ():=by kernel_rfl
theorem K6 (a v:Value):checkBuiltinCall "enumerate.__new__" ⟨[.type "enumerate",a],[("start",v)]⟩=pure ():=by kernel_rfl
theorem Oo (o a v:Value):argsOk "object.__init__" ⟨[o,a],[("start",v)]⟩:=by
 unfold argsOk
 kernel_rfl
theorem N5 (o a v:Value) (hm:Bind.madeBy (.type "enumerate")=pure (some "enumerate.__new__")) (hl:typeLookup (.type "enumerate") "__init__"=pure (some (.builtin "object.__init__"))):Meets (Builtin.«object.__init__» ⟨[o,a],[("start",v)]⟩) (fun _ R s=>s.TypeIs o "enumerate"/\R (.ok (.ret .none)) s):=by
 refine Meets.of_wp fun prog w A R s hs=>?_
 obtain ⟨hT,hq⟩:=hs
 have hne:(some "enumerate.__new__" != some "object.__new__")=true:=by decide
 repeat (any_goals (first | assumption | wp_step))
 exact ⟨_,rfl,hq⟩
theorem Rn (l:Addr) (items:Array Value) (n:Nat) (t:Tok) (dd:Option Addr) (sl:Array (Option Value)) :
  Meets (Builtin.«enumerate.__new__» ⟨[.type "enumerate",.ref l],[("start",.int 1 t)]⟩) (fun _ R s=>s.heap.get? l=some { cls:=.type "list",dict:=dd,data:=.seq items n,slots:=sl } /\
   R (.ok (.ret (.ref (s.heap.push { cls:=.type "list_iterator",data:=.fields #[.ref l,.int 0 0] }).objs.size)))
    { s with heap:=(s.heap.push { cls:=.type "list_iterator",data:=.fields #[.ref l,.int 0 0] }).push { cls:=.type "enumerate",data:=.fields #[.none,.bool false,.ref s.heap.objs.size,rawInt 1,.none,.none] } }) :=
 .of_wp fun prog w A R s h=>by
  obtain ⟨hp,g,d,tk,os⟩:=s;obtain ⟨hl,h⟩:=h
  have hsub:=PySem.sub_enumerate
  have hL:Heap.IsList (Shared.heap ⟨hp,g,d,tk,os⟩) l items:=⟨_,hl,rfl,n,rfl⟩
  wp_walk using wpAny_loadPart' hl
  refine wpAny_stack_any fun st=>wpAny_pure ?_
  split
  ·rename_i c _ _ _ _ _
   cases (c == Value.type "enumerate")
   ·wp_walk using wpAny_loadPart' hl,wpAny_pyIter_list hL
    exact ⟨_,rfl,h⟩
   ·wp_walk using wpAny_loadPart' hl,wpAny_pyIter_list hL
    exact ⟨_,rfl,h⟩
  ·wp_walk using wpAny_loadPart' hl,wpAny_pyIter_list hL
   exact ⟨_,rfl,h⟩
theorem Mm {T newId:String} {Bn:Builtin} {a v:Value} {S:PySem.Spec} {Q:Value->Shared->Prop} (ft:TypeCalled T newId "object.__init__")
  (hct:checkTypeCall T ⟨[a],[("start",v)]⟩=pure ()) (hcn:checkBuiltinCall newId ⟨[.type T,a],[("start",v)]⟩=pure ())
  (en:entryFor table newId=some Bn) (g:Meets (Bn ⟨[.type T,a],[("start",v)]⟩) S)
  (hok:∀ obj,argsOk "object.__init__" ⟨[obj,a],[("start",v)]⟩)
  (hin:∀ obj,Meets (Builtin.«object.__init__» ⟨[obj,a],[("start",v)]⟩) (fun _ R s=>s.TypeIs obj T/\R (.ok (.ret .none)) s))
  (h:S A.in1 (wants (fun obj s1=>s1.TypeIs obj T/\Q obj s1) E) s) :
  wpAny (model prog w) A (call (.type T) [a] [("start",v)]) Q E s:=by
 obtain ⟨c,tl,hmro⟩:=ft.mro
 have hmade:=ft.made
 have hsub:=ft.sub
 refine wpAny_call (codeAny_of_tree ?_)
 show wpAny _ _ (callAny (.type T) _) _ _ _
 refine wpAny_pure ⟨Code.quiet_builtin _ (by decide +kernel),codeAny_builtin PySem.F.entry_type_call ?_⟩
 rw [Around.under_plain (weight_type_call_type T _ _) (units_type_call_type T _ _)]
 have h1:=ft.notType
 have h2:=ft.canCreate
 repeat (any_goals (first | assumption | wp_step))
 refine codeAny_mono (codeAny_call_builtin ft.plain en (wpAny_of_eq hcn (g prog w A.in1 _ s h))) fun r s1 hr=>?_
 cases r with
 | error e=>exact hr
 | ok fl =>
  cases fl with
  | ret obj =>
   obtain ⟨hT,hq⟩:=hr
   have hli:=ft.init.lookup
   have hbi:=ft.init.bind obj
   repeat (any_goals (first | assumption | wp_step))
   refine codeAny_mono (codeAny_call_builtin ft.init.plain PySem.F.entry_object_init (ft.init.check _ _ _ _ _ _ _ _ hT (hok obj) (hin obj prog w A.in1 (wants (fun r s2=>r=.none/\Q obj s2) E) s1 ⟨hT,rfl,hq⟩))) fun r2 s2 hr2=>?_
   cases r2 with
   | error e=>exact hr2
   | ok fl2 =>
    cases fl2 with
    | ret r =>
     obtain ⟨rfl,hq⟩:=hr2
     repeat (any_goals (first | assumption | wp_step))
    | _=>exact hr2.elim
  | _=>exact hr.elim
end
theorem zR {prog:Program} {w:World} {A:Around} {it:Addr} {fp:List Addr} {n:Nat} {P:Nat->Value->Prop} {St:Nat->Heap->Prop} (D:Draws prog w A it fp n P St) :
  Draws prog w A it fp (n + 1) (fun i v=>∃ j,i=j + 1/\P j v) (fun i h=>∃ j,i=j + 1/\St j h) where
 live:=fun i h ⟨j,_,st⟩=>D.live j h st
 frame:=fun i h h' ⟨j,e,st⟩ k=>⟨j,e,D.frame j h h' st k⟩
 item:=fun i s Q E hi ⟨j,e,st⟩ hQ=>by
  subst e
  exact D.item j s Q E (Nat.lt_of_succ_lt_succ hi) st fun v h' tk pv st' sb=>hQ v h' tk ⟨j,rfl,pv⟩ ⟨j + 1,rfl,st'⟩ sb
 done:=fun s Q E ⟨j,e,st⟩ hE=>by
  have e':n=j:=by omega
  subst e'
  exact D.done s Q E st hE
noncomputable def Lz (f:Bool) (K:PySem.W.Frag) (a:Addr):It :=
 ⟨fun i H=>∃ xs x,mR f K H a xs/\xs[i]?=some x,fun i H x H'=>∃ p v,(∀ xs,mR f K H a xs->xs[i]?=some v)/\H p=none/\x=.ref p/\H'=upd H p (.tup [.int ((i + 1:Nat):Int),v]),fun i H=>∃ xs,mR f K H a xs/\xs.length=i⟩
theorem Hy {P:Program} {w:World} {K:PySem.W.Frag} {elts:List Expr} {kk:Nat} {pos:Pos} (f:Bool) (a it e:Addr):Turn P w K (.Tuple elts kk pos) (Lz f K a) [e,it] e (fun i h=>(∃ old,IsEnum h e it ((i + 1:Nat):Int) old)/\lI f h it a i) where
 mem:=by simp
 obj:=fun i h st b hb=>by
  obtain ⟨⟨old,he⟩,hi⟩:=st
  obtain ⟨o,ho,hc,hd⟩:=hi.obj
  have:b=e\/b=it:=by simpa using hb
  rcases this with rfl | rfl
  ·exact ⟨_,he,fun v z=>by
    have z':Data.fields _=Data.cell v:=z
    cases z'⟩
  ·exact ⟨o,ho,fun v z=>by rw [hd] at z;cases z⟩
 keep:=fun i h h' st k=>let ⟨⟨old,he⟩,hi⟩:=st;⟨⟨old,k e (by simp) _ he⟩,hi.at fun o q=>k it (by simp) o q⟩
 item:=by
  intro X hP hw hK hc i pins s σ H E I hf st hg
  subst hP hw hK
  obtain ⟨⟨old,he⟩,hit⟩:=st
  obtain ⟨xs,x,hq,hx⟩:=hg
  obtain ⟨its,rv,p,hz⟩:=tX I hq
  obtain ⟨u,hu,ru⟩:=rv.get hx
  have p':jL f s.heap a its.toArray:=p
  obtain ⟨oi,hoi,hci,hdi⟩:=hit.obj
  obtain ⟨oa,na,hoa,hca,hda⟩:=p'.obj
  have n1:a≠it:=p'.ne hit
  have n2:e≠it:=gX he hoi rfl hci (by cases f <;> decide)
  have n3:e≠a:=gX he hoa rfl hca (by cases f <;> decide)
  have W:=WalksT.enumerateD (prog:=X.prog) (w:=X.w) (A:=X.A) (zR (jX f (prog:=X.prog) (w:=X.w) (A:=X.A.in1) (show X.A.in1.handled=none from I.ok.hd hc) it a n1 its.toArray)) e n2 (by simp [n2,n3]) (by simp)
  have hlt:i < its.toArray.size:=by
   have:=(List.getElem?_eq_some_iff.mp hu).1
   simpa using this
  have hD:=zR (jX f (prog:=X.prog) (w:=X.w) (A:=X.A.in1) (show X.A.in1.handled=none from I.ok.hd hc) it a n1 its.toArray)
  refine wpAny_pyNext_enum_itemD hD he ⟨i,rfl,hit,p'⟩ (show i + 1 < its.toArray.size + 1 from Nat.succ_lt_succ hlt) n2 (by simp [n2,n3]) fun y h' tk hy ho0 hs0 hT0 hsz0 hk0=>?_
  have helt:e < s.heap.objs.size:=Heap.lt_size he
  have hilt:it < s.heap.objs.size:=Heap.lt_size hoi
  have i9:fZ h' s.heap.objs.size #[Value.int ((i + 1:Nat):Int) tk,y]:=⟨_,hT0,rfl,rfl,_,rfl⟩
  have hk:∀ b o,b ∉ [e,it]->s.heap.get? b=some o->h'.get? b=some o:=fun b o hb z=>hk0 b o (fun e'=>hb (by simp [e'])) (fun e'=>hb (by simp [e'])) z
  have hMid:=(⟨⟨_,ho0⟩,hs0,Nat.ne_of_gt helt,Nat.ne_of_gt hilt⟩:(∃ x,IsEnumOut h' e it (((i + 1:Nat):Int) + 1) x s.heap.objs.size)/\_/\s.heap.objs.size≠e/\s.heap.objs.size≠it)
  obtain ⟨T,hTe⟩:∃ T,T=s.heap.objs.size:=⟨_,rfl⟩
  rw [<- hTe] at i9 hMid ⊢
  have hT:s.heap.objs.size<=T:=Nat.le_of_eq hTe.symm
  refine ⟨.ref T,rfl,W.go elts kk pos (i + 1) T _ _ E hMid fun h'' hSt hk2=>?_⟩
  have hy':y=u:=by
   have h3:its[i]?=some y:=by obtain ⟨j,e1,e2⟩:=hy;cases e1;simpa using e2
   rw [hu] at h3;exact (Option.some.inj h3).symm
  subst hy'
  have hTT:fZ h'' T #[.int ((i + 1:Nat):Int) tk,y]:=let ⟨o,ho,r⟩:=i9;⟨o,hk2 T o (W.apart (i + 1) T _ hMid) ho,r⟩
  refine ⟨.ref T,upd H T (.tup [.int ((i + 1:Nat):Int),x]),oB (s:=s) (h':=h'') (tk:=tk + 1) (ch:=[e,it]) I hf (fun b o hb q=>hk2 b o (by simpa using hb) (hk b o (by simpa using hb) q)) hT ⟨by show 2<=sizeLine;decide,[.int ((i + 1:Nat):Int) tk,y],.cons ⟨tk,rfl⟩ (.cons ru .nil),hTT⟩,rfl,⟨T,x,fun ys hy=>by rw [<- Nm I hq hy];exact hx,I.hok.fresh hT,rfl,rfl⟩,⟨hSt.1,let ⟨j,e1,e2,_⟩:=hSt.2;(Nat.succ.inj e1) ▸ e2⟩,fun b hb=>?_⟩
  have hn:=(hf b hb).1
  rw [bY (Nat.ne_of_lt (Nat.lt_of_lt_of_le ?_ hT))]
  ·exact hn
  ·have:b=e\/b=it:=by simpa using hb
   rcases this with rfl | rfl
   ·exact Heap.lt_size he
   ·exact Heap.lt_size hoi
 done:=by
  intro X hP hw hK hc i pins s σ H E I hf st hg
  subst hP hw hK
  obtain ⟨⟨old,he⟩,hit⟩:=st
  obtain ⟨xs,hq,hx⟩:=hg
  obtain ⟨its,rv,p,hz⟩:=tX I hq
  have p':jL f s.heap a its.toArray:=p
  obtain ⟨oi,hoi,hci,hdi⟩:=hit.obj
  obtain ⟨oa,na,hoa,hca,hda⟩:=p'.obj
  have n1:a≠it:=p'.ne hit
  have n2:e≠it:=gX he hoi rfl hci (by cases f <;> decide)
  have n3:e≠a:=gX he hoa rfl hca (by cases f <;> decide)
  have W:=WalksT.enumerateD (prog:=X.prog) (w:=X.w) (A:=X.A) (zR (jX f (prog:=X.prog) (w:=X.w) (A:=X.A.in1) (show X.A.in1.handled=none from I.ok.hd hc) it a n1 its.toArray)) e n2 (by simp [n2,n3]) (by simp)
  have hi:i=its.toArray.size:=by rw [List.size_toArray,<- rv.length];exact hx.symm
  subst hi
  refine W.done s _ E ⟨⟨old,he⟩,_,rfl,hit,p'⟩ fun h' tk hk=>⟨rfl,?_⟩
  have:=I.call' (ch:=[e,it]) (H':=H) (s':={ s with heap:=h',toks:=tk }) rfl ⟨fun b u q n hb hx=>hk b u (by simpa using hx) q,fun b u q n hb hx=>⟨u.slots,hk b u (by simpa using hx) q⟩,fun b u q n hx=>n,fun b u q hx=>⟨u,hk b u (by simpa using hx) q⟩,fun b xs q=>q,fun b u xs q=>q,fun b ps q=>⟨#[],by rw [q];simp⟩⟩
   (fun a u e'=>?_) I.bare fun b hb=>⟨(hf b hb).2.2.2.1,(hf b hb).2.1,(hf b hb).2.2.2.2.1,(hf b hb).2.2.2.2.2⟩
  ·exact this
  ·refine (I.hok a u e').stay (fun b z hb q=>hk b z (fun hc=>?_) q) (fun _ q=>q) fun _ _ q=>q
   have hnone:=(hf b (by simpa using hc)).1
   rcases hb with rfl | hb
   ·rw [hnone] at e';cases e'
   ·rw [hnone] at hb;cases hb
 self:=fun _ _ _ _ _ st h=>let ⟨⟨old,he⟩,_⟩:=st;wpAny_pyIter_enum he h
theorem Hi {prog:Program} {w:World} {A:Around} {E:Value->Shared->Prop} {s:Shared} {l:Addr} {items:Array Value} {t:Tok} {Q:Value->Shared->Prop}
  (hl:jL true s.heap l items)
  (h:∀ h',IsEnum h' (s.heap.objs.size + 1) s.heap.objs.size 1 .none->lI true h' s.heap.objs.size l 0->h'.objs.size=s.heap.objs.size + 2 ->
   (∀ b o,s.heap.get? b=some o->h'.get? b=some o)->Q (.ref (s.heap.objs.size + 1)) { s with heap:=h' }) :
  wpAny (model prog w) A (call (.type "enumerate") [.ref l] [("start",.int 1 t)]) Q E s:=by
 have hz:(s.heap.push { cls:=.type "list_iterator",data:=.fields #[.ref l,.int 0 0] }).objs.size=s.heap.objs.size + 1:=Heap.size_push ..
 have he:=Heap.get?_push_size (s.heap.push { cls:=.type "list_iterator",data:=.fields #[.ref l,.int 0 0] })
  (o:={ cls:=.type "enumerate",data:=.fields #[.none,.bool false,.ref s.heap.objs.size,rawInt 1,.none,.none] }) rfl
 have he2:=he
 rw [hz] at he2
 have fin:=h _ he2 (lI.of (b:=true) (Heap.get?_push_of_some _ (Heap.get?_push_size _ rfl)) rfl rfl) (by rw [Heap.size_push,hz]) fun b o x=>Heap.get?_push_of_some _ (Heap.get?_push_of_some _ x)
 rw [<- hz] at fin
 obtain ⟨⟨oc,od,odt,osl⟩,n,ho,hc,hd⟩:=hl.obj
 have hc':oc=.type "list":=hc
 have hd':odt=.seq items n:=hd
 subst hc' hd'
 exact Mm PySem.F.called_enumerate (L4 _ _) (K6 _ _) PySem.F.entry_enumerate_new (Rn l items n t od osl) (fun o=>Oo o _ _) (fun o=>N5 o _ _ PySem.F.called_enumerate.made PySem.F.called_enumerate.init.lookup) ⟨ho,⟨_,he,rfl⟩,fin⟩
section
variable {M:Model} {A:Around} {E:Value->Shared->Prop} {s:Shared} {env:Env}
theorem Rh {pos:Pos} {T:String} {args:List (Bool × Sem Value)} {kws:List (Option Str × Sem Value)} {Q:Value->Shared->Prop} (hplain:args.any (·.1)=false) (hkw:kws.any (·.1.isNone)=false)
  (h:wpAny M A (evalArgs (.type T) true args kws) (fun a s1=>wpAny M A (call (.type T) a.pos a.kw) Q E s1) E s) :
  wpAny M A (callWith pos (.type T) [] args kws) Q E s:=by
 unfold callWith
 refine wpAny_bind (wpAny_holding (wpAny_mono h (fun a s1 h1=>wpAny_bind (wpAny_standAt ?_)) fun _ _ x=>x))
 simp only [hplain,hkw,Bool.or_false]
 refine wpAny_bind (wpAny_pure ?_)
 exact wpAny_bind (wpAny_mono h1 (fun r s2 hr=>wpAny_bind (wpAny_holding (wpAny_point (wpAny_pure hr)))) fun _ _ x=>x)
end
noncomputable def Jp (K:PySem.W.Frag) (ta:TA):TI:=fun σ H R=>ta σ H fun vs H1=>∃ a,vs=[.ref a]/\(∃ xs,mR true K H1 a xs)/\R (Lz true K a) H1
theorem LD {X:Cx} {elts:List Expr} {kk kj:Nat} {tpos:Pos} {a:Expr} {ta:TA} {p pos kp cp:Pos} (hg:Gl X "enumerate") (hm:X.mg "enumerate"=none) (ha:PA X [a] ta) (hs:starEach [a] X.env=[(false,eval a X.env)]) :
  PI X (.Tuple elts kk tpos) (.Call (.Name "enumerate" p) [a] [⟨some "start",.Constant (.int 1) kj cp,kp⟩] pos) (Jp X.K ta):=by
 intro pins s σ H R I h
 have hsp:=ha pos pins s σ H _ I h
 have hb:backTo pos (starEach [a] X.env)=[(false,eval a X.env)]:=by rw [hs];rfl
 refine wpAny_Call_Name_kw (mW I hg hm boot_enumerate ?_)
 rw [hb] at hsp ⊢
 refine Rh (by rfl) (by rfl) (evalArgs_kwB (by rfl) (bJ hsp fun us s1 ⟨vs,H1,I1,r1,q1⟩=>?_))
 refine kws_cons (wpAny_Constant_int (kws_nil ?_))
 obtain ⟨a,e,⟨xs,hq⟩,q⟩:=q1
 subst e
 cases r1 with
 | cons r rr =>
  cases rr
  cases r
  have I1':L2.Inv X pins σ H1 { s1 with toks:=s1.toks + 1 }:=I1.tok _
  obtain ⟨its,rv,p,hz⟩:=tX I1' hq
  refine Hi (s:={ s1 with toks:=s1.toks + 1 }) p fun h' he hit hsz hk=>?_
  refine wpAny_pyIter_enum (s:={ s1 with heap:=h',toks:=s1.toks + 1 }) he ?_
  have I2:L2.Inv X pins σ H1 { s1 with heap:=h',toks:=s1.toks + 1 }:=I1'.kept hk
  refine ⟨s1.heap.objs.size + 1,[s1.heap.objs.size + 1,s1.heap.objs.size],_,_,H1,rfl,I2,Hy true a s1.heap.objs.size (s1.heap.objs.size + 1),⟨⟨_,he⟩,hit⟩,fun b hb=>?_,q⟩
  have e:b=s1.heap.objs.size + 1\/b=s1.heap.objs.size:=by simpa using hb
  rcases e with rfl | rfl
  ·exact I1'.fpOk (Nat.le_succ _) (I1'.hok.fresh (Nat.le_succ _))
  ·exact I1'.fpOk (Nat.le_refl _) (I1'.hok.fresh (Nat.le_refl _))
noncomputable def oC (us:List U):List U:=us.zipIdx.map fun p=>.tup [.int ((p.2 + 1:Nat):Int),p.1]
theorem J3 (us:List U):(oC us).length=us.length:=by simp [oC]
theorem Bb {us:List U} {i:Nat} {x:U} (h:(oC us)[i]?=some x):∃ u,us[i]?=some u/\x=.tup [.int ((i + 1:Nat):Int),u]:=by
 simp only [oC,List.getElem?_map,List.getElem?_zipIdx] at h
 cases e:us[i]? with
 | none=>rw [e] at h;simp at h
 | some u=>rw [e] at h;simp at h;exact ⟨u,rfl,h.symm⟩
theorem Gg {f:Bool} {K:PySem.W.Frag} {a:Addr} {us:List U} {vs:List V} {H:Hp} {M:aG} (sq:FX f K H M a vs) (r:aK K H M us vs):Walk K (Lz f K a) ⟨none,oC us⟩ H M:=by
 refine ⟨fun H1 M1 s rm _ i u e=>?_,fun H1 M1 s rm _=>⟨vs,sq H1 M1 s,by show vs.length=(oC us).length;rw [J3,r.length]⟩⟩
 obtain ⟨w,e1,rfl⟩:=Bb e
 obtain ⟨v,e2,ru⟩:=r.get e1
 refine ⟨⟨vs,v,sq H1 M1 s,e2⟩,fun x H2 y=>?_⟩
 obtain ⟨p,v',y,hp,rfl,rfl⟩:=y
 have:=y vs (sq _ M1 s)
 rw [e2] at this;cases this
 have st:=aZ.laid (o:=.tup [.int ((i + 1:Nat):Int),v]) rm hp
 have rr:aK K H1 M1 [.int ((i + 1:Nat):Int),w] [.int ((i + 1:Nat):Int),v]:=.cons cK (.cons (ru.stp s) .nil)
 exact ⟨st,rm.laid hp,tP (rm.no hp) dY (rr.stp st)⟩
noncomputable def Dg (ta:UA):UI:=fun τ M R=>ta τ M fun us M1=>match us with
 | [.lst us]=>R ⟨none,oC us⟩ M1
 | _=>False
theorem JU {K:PySem.W.Frag} {ta:TA} {ta':UA} (h:lK K ta ta'):vC K (Jp K ta) (Dg ta'):=fun σ τ H M R' rs rm q R c=>h σ τ H M _ rs rm q _ fun us vs M1 H1 s1 rm1 ru h1=>by
 split at h1
 ·rename_i xs
  obtain ⟨v,rfl,a⟩:=ru.one
  simp only [aP] at a
  obtain ⟨a,vs,rfl,m,r⟩:=a
  refine ⟨a,rfl,⟨vs,?_⟩,c _ _ M1 H1 s1 rm1 (Gg (TL m) r) h1⟩
  rcases m with ⟨_,m⟩ | k
  ·exact .inl m
  ·exact .inr k
 ·exact h1.elim
theorem Lj {D:Dat} {elts:List Expr} {kk kj:Nat} {tpos:Pos} {a:Expr} {p pos kp cp:Pos} {ta:UA} (hm:D.mg "enumerate"=none) (ha:lH D [a] ta) (hg:D.sc.names.lookup ("enumerate":Str)=some .globalImplicit:=by rfl) (hs:∀ env,starEach [a] env=[(false,eval a env)]:=by intro _;rfl):A6 D (.Tuple elts kk tpos) (.Call (.Name "enumerate" p) [a] [⟨some "start",.Constant (.int 1) kj cp,kp⟩] pos) (Dg ta):=by
 obtain ⟨_,q,s⟩:=ha
 exact ⟨_,fun X h=>h.K ▸ LD (by show X.env.scope.names.lookup _=_;rw [h.sc];exact hg) (by rw [h.mg];exact hm) (q X h) (hs _),JU s⟩
end U2
namespace U2
open PySem PySem.Spec PyProof.Rows L2
theorem N3 {D:Dat} {body:List Stmt} {tb:US} {h₀:ExceptHandler} {hs:List ExceptHandler} {pos:Pos} (hb:nR D body tb):sH D (.Try body (h₀ :: hs) [] [] pos) tb:=by
 obtain ⟨t0,p,s⟩:=hb
 refine ⟨t0,fun X h=>?_,s⟩
 intro pins s σ H D' I hq
 refine wpAny_Try_except (wpAny_mono (p X h pins s σ H D' I hq) (fun f s1 q=>?_) fun e s1 q=>?_)
 ·cases f with
  | next=>exact wpAny_execs_nil q
  | ret v=>exact q
  | brk=>exact q
  | cont=>exact q
 ·have z:X.xe _ _:=q
  rw [h.xe] at z
  exact z.elim
end U2
namespace L2
open PySem
theorem Fz {q:List Value->Prop} (h:q []) (us:List Value) (e:us.length=0):q us:=by rw [List.length_eq_zero_iff.mp e];exact h
theorem lR {n:Nat} {q:List Value->Prop} (h:∀ x us,us.length=n->q (x :: us)) (us:List Value) (e:us.length=n + 1):q us:=by
 cases us with
 | nil=>cases e
 | cons x r=>exact h x r (Nat.succ.inj e)
abbrev Ar:=Value->Value->Value->Option Addr->Value->Value->List Value->Prop
theorem lO {p:Ar} (h:∀ a b c d e g x0,p a b c d e g [x0]) (a b c d e g):∀ us,us.length=1->p a b c d e g us:=lR fun x0=>Fz (h a b c d e g x0)
theorem nM {p:Ar} (h:∀ a b c d e g x0 x1,p a b c d e g [x0,x1]) (a b c d e g):∀ us,us.length=2->p a b c d e g us:=lR fun x0=>lR fun x1=>Fz (h a b c d e g x0 x1)
theorem JC {p:Ar} (h:∀ a b c d e g x0 x1 x2,p a b c d e g [x0,x1,x2]) (a b c d e g):∀ us,us.length=3->p a b c d e g us:=lR fun x0=>lR fun x1=>lR fun x2=>Fz (h a b c d e g x0 x1 x2)
theorem SR {p:Ar} (h:∀ a b c d e g x0 x1 x2 x3,p a b c d e g [x0,x1,x2,x3]) (a b c d e g):∀ us,us.length=4->p a b c d e g us:=lR fun x0=>lR fun x1=>lR fun x2=>lR fun x3=>Fz (h a b c d e g x0 x1 x2 x3)
theorem Ul {p:Ar} (h:∀ a b c d e g x0 x1 x2 x3 x4,p a b c d e g [x0,x1,x2,x3,x4]) (a b c d e g):∀ us,us.length=5->p a b c d e g us:=lR fun x0=>lR fun x1=>lR fun x2=>lR fun x3=>lR fun x4=>Fz (h a b c d e g x0 x1 x2 x3 x4)
theorem Uk {p:Ar} (h:∀ a b c d e g x0 x1 x2 x3 x4 x5,p a b c d e g [x0,x1,x2,x3,x4,x5]) (a b c d e g):∀ us,us.length=6->p a b c d e g us:=lR fun x0=>lR fun x1=>lR fun x2=>lR fun x3=>lR fun x4=>lR fun x5=>Fz (h a b c d e g x0 x1 x2 x3 x4 x5)
end L2
namespace U2
open PySem PySem.Spec PyProof.Rows L2
theorem dC {N P:List Str} {sc:Scope} (a:sc.kind=.function:=by rfl) (b:sc.isCoroutine=false:=by rfl) (c:sc.isGenerator=false:=by rfl) (d:N.Nodup:=by decide +kernel) (e:N.take P.length=P:=by rfl) (f:∀ x∈P,sc.names.lookup x=some .local\/sc.names.lookup x=some .cell:=by decide +kernel) (g:∀ y∈sc.names,y.2≠.free:=by decide +kernel):aY N P sc:=⟨a,b,c,d,e,f,g⟩
theorem nk {xs:List U} {I:Nat->SU->aG->Prop}:∀ i τ M,I i τ M->(Src.mk none xs).ok M:=fun _ _ _ _ _ e=>nomatch e
theorem bD {P:Program} {w:World} {K:PySem.W.Frag} {mg:Str->Option Value} {base:Heap} {x:Str} {st:Stmt} {f:Addr} {fd:FuncData} {N ps:List Str} {k:Nat} {sp:bN} {t:US} (F:cF K x x st f fd) (hm:mg x=some (.ref f)) (S:aY N ps (aE st))
  (bind:∀ (kV doc pm:Value) (an:Option Addr) (cdv ct:Value) (us:List Value),us.length=ps.length->bindArgs (PySem.W.fnOf x x (aX st) (aS st) (aE st) .none kV doc pm an cdv ct) ⟨us,[]⟩=pure (ps.zip us))
  (h:nR ⟨P,w,K,mg,base,N,aE st,k,true,.none,""⟩ (aS st) t)
  (q:∀ us M Q,sp us M Q->us.length=ps.length/\t { nx:=fun _ M'=>i4 Q .non M',rt:=i4 Q } (eU N us) M):Callee P w K mg base (k + 1) x sp [] :=
 Jy F hm S bind (fun us M Q hs=>(q us M Q hs).1) h (fun us M Q hs=>(q us M Q hs).2)
end U2
namespace K13
open PySem L2 U2
noncomputable def top (i:Nat):Stmt:=PySem.Challenge.pw_rowsmith_k13_tables_read_again.main.body.getD i (.Pass ⟨0,0,0,0⟩)
abbrev lD:Stmt:=top 12
theorem EK:aY ["thing"] ["thing"] (aE lD):=dC
abbrev j3:Stmt:=top 13
theorem CJ:aY ["thing"] ["thing"] (aE j3):=dC
abbrev mS:Stmt:=top 14
theorem Hl:aY ["thing"] ["thing"] (aE mS):=dC
abbrev kX:Stmt:=top 15
theorem iA:aY ["thing","is_leaf","most_pieces","most_within","count","waiting","entry","piece","depth"] ["thing","is_leaf","most_pieces","most_within"] (aE kX):=dC
abbrev kT:Stmt:=top 16
theorem EZ:aY ["shape"] ["shape"] (aE kT):=dC
abbrev iG:Stmt:=top 17
theorem m7:aY ["shape","found","number","part"] ["shape"] (aE iG):=dC
abbrev lB:Stmt:=top 18
theorem oE:aY ["shape","place","here","number"] ["shape","place"] (aE lB):=dC
abbrev mK:Stmt:=top 19
theorem Hn:aY ["tile"] ["tile"] (aE mK):=dC
abbrev gC:Stmt:=top 20
theorem tW:aY ["shape","show_leaf","texts"] ["shape","show_leaf"] (aE gC):=dC
abbrev gJ:Stmt:=top 21
theorem nT:aY ["text","at","end"] ["text","at"] (aE gJ):=dC
abbrev gO:Stmt:=top 22
theorem fR:aY ["text","at","number","end","longer"] ["text","at"] (aE gO):=dC
abbrev dE:Stmt:=top 23
theorem m4:aY ["text","found"] ["text"] (aE dE):=dC
abbrev iU:Stmt:=top 24
theorem dI:aY ["text","read_leaf","brackets","shape","at","found"] ["text","read_leaf"] (aE iU):=dC
abbrev fB:Stmt:=top 25
theorem jA:aY ["text","at","brackets","here"] ["text","at","brackets"] (aE fB):=dC
abbrev gS:Stmt:=top 26
theorem fS:aY ["text","shape","at","brackets","whole","here","bracket"] ["text","shape","at","brackets"] (aE gS):=dC
abbrev gN:Stmt:=top 27
theorem rX:aY ["text","at","sign"] ["text","at"] (aE gN):=dC
abbrev j1:Stmt:=top 28
theorem DH:aY ["text","at","sign"] ["text","at","sign"] (aE j1):=dC
abbrev mQ:Stmt:=top 30
theorem GH:aY ["thing"] ["thing"] (aE mQ):=dC
abbrev iM:Stmt:=top 38
theorem Bl:aY ["names"] ["names"] (aE iM):=dC
abbrev gM:Stmt:=top 39
theorem Au:aY ["thing"] ["thing"] (aE gM):=dC
abbrev eF:Stmt:=top 40
theorem uL:aY ["thing","classes"] ["thing","classes"] (aE eF):=dC
abbrev eB:Stmt:=top 41
theorem Bo:aY ["thing","classes"] ["thing","classes"] (aE eB):=dC
abbrev mJ:Stmt:=top 42
theorem Gw:aY ["thing","classes"] ["thing","classes"] (aE mJ):=dC
abbrev j4:Stmt:=top 43
theorem C0:aY ["thing","classes"] ["thing","classes"] (aE j4):=dC
abbrev kW:Stmt:=top 44
theorem E1:aY ["thing"] ["thing"] (aE kW):=dC
abbrev pK:Stmt:=top 45
theorem Dp:aY ["pattern","found"] ["pattern"] (aE pK):=dC
abbrev jW:Stmt:=top 47
theorem C8:aY ["leaf"] ["leaf"] (aE jW):=dC
abbrev gL:Stmt:=top 48
theorem fP:aY ["table","rows","name","cls","pattern","price"] ["table"] (aE gL):=dC
abbrev fX:Stmt:=top 49
theorem nH:aY ["text","at","low","high"] ["text","at"] (aE fX):=dC
abbrev jV:Stmt:=top 50
theorem pX:aY ["text","at","sign","end"] ["text","at"] (aE jV):=dC
abbrev jT:Stmt:=top 51
theorem mV:aY ["text","row","fields","price","pattern"] ["text","row"] (aE jT):=dC
abbrev iN:Stmt:=top 52
theorem fE:aY ["text","rows","classes","tiles","row","line"] ["text"] (aE iN):=dC
abbrev j2:Stmt:=top 54
theorem Dr:aY ["found"] ["found"] (aE j2):=dC
abbrev iB:Stmt:=top 55
theorem pW:aY ["found","due","one","other"] ["found","due"] (aE iB):=dC
abbrev gK:Stmt:=top 56
theorem iR:aY ["number","name"] ["number"] (aE gK):=dC
abbrev lE:Stmt:=top 57
theorem jY:aY ["cell","here","wide","prime"] ["cell"] (aE lE):=dC
abbrev jU:Stmt:=top 58
theorem nI:aY ["number","seen","sizes"] ["number","seen"] (aE jU):=dC
abbrev kR:Stmt:=top 59
theorem dG:aY ["number","code","classes","cls","way","low","high","left"] ["number","code","classes"] (aE kR):=dC
abbrev lF:Stmt:=top 60
theorem EB:aY ["one","other"] ["one","other"] (aE lF):=dC
abbrev iL:Stmt:=top 61
theorem oZ:aY ["one","other","k","text","whole"] ["one","other","k"] (aE iL):=dC
abbrev gQ:Stmt:=top 62
theorem bT:aY ["number","classes","some","many","code","here","other","one","leaf","text"] ["number","classes"] (aE gQ):=dC
abbrev gT:Stmt:=top 63
theorem dR:aY ["cell","number","many","some","k","name"] ["cell"] (aE gT):=dC
abbrev lA:Stmt:=top 64
theorem cX:aY ["cell","classes","seen","number","name","cls","cost","item","other","text"] ["cell","classes","seen"] (aE lA):=dC
abbrev jS:Stmt:=top 65
theorem eZ:aY ["cells","classes","tiles","seen","rows","cell","tile","row"] ["cells"] (aE jS):=dC
abbrev pA:Stmt:=top 66
theorem qI:aY ["script","classes","tiles","rows","text","found","again"] ["script"] (aE pA):=dC
section
variable {P:Program} {w:World} {K:PySem.W.Frag} {mg:Str->Option Value} {base:Heap} {f d d2 fl:Addr} {fd:FuncData}
noncomputable def cL:List (Str × Fl):=[("turn",.int 1),("sum",.int 2),("less",.int 2),("by",.int 2)]
theorem vU {neg:Bool} {i j:Int} {M:aG} {Q:UK}:kE neg (.int i) (.int j) M Q=Q (.bl (if neg then !decide (i=j) else decide (i=j))) M:=rfl
theorem v5 {neg:Bool} {i j:Str} {M:aG} {Q:UK}:kE neg (.str i) (.str j) M Q=Q (.bl (if neg then !decide (i=j) else decide (i=j))) M:=rfl
theorem small {n:Nat} (h:n<=100000):n<=sizeLine:=Nat.le_trans h (by decide)
theorem big {k:Nat} (h:k < 100000):k < sizeLine:=Nat.lt_of_lt_of_le h (by decide)
theorem M7 {n:Nat} (h:n<=100000):(n<=sizeLine)=True:=eq_true (small h)
theorem aN {u v:US} {D:mZ} {τ:SU} {M:aG} (h:∀ V:SU->aG->Prop,V=v D->u { D with nx:=V } τ M):fD u v D τ M:=h _ rfl
theorem bX {c:UT} {t u:US} {D:mZ} {τ:SU} {M:aG} (h:∀ A B:aG->Prop,A=t D τ->B=u D τ->c τ M fun b M1=>if b=true then A M1 else B M1):lL c t u D τ M:=h _ _ rfl rfl
noncomputable def t9:Str:="abcdefghijklmnopqrstuvwxyz"
noncomputable def isLetter (c:Nat):Bool:=!(Builtin.Str.occurrences t9 ⟨#[c]⟩ 0 t9.length 1).isEmpty
noncomputable def isName:U->Bool
 | .str z=>decide (1<=z.length) && decide (z.length<=8) && z.cps.toList.all isLetter
 | _=>false
noncomputable def S3:U->Prop
 | .str z=>z.length<=sizeLine
 | .ref _=>False
 | .ty _=>False
 | _=>True
noncomputable def Cs:bN:=fun us M Q=>∃ x,us=[x]/\S3 x/\Q (.bl (isName x)) M
theorem JM {z:Str} {x:U} (h:x∈chars z):∃ c,x=.str ⟨#[c]⟩:=by
 obtain ⟨c,_,e⟩:=List.mem_map.mp h
 exact ⟨c,e.symm⟩
theorem Jv (z:Str):(chars z).length=z.length:=by simp [chars,Str.length]
noncomputable def GJ:U->Option U
 | .str y=>some (.bl (!(Builtin.Str.occurrences t9 y 0 t9.length 1).isEmpty))
 | _=>none
theorem RP:∀ l:List Nat,oV ((l.map fun c=>U.str ⟨#[c]⟩).filterMap GJ)=some (l.map isLetter)
 | []=>rfl
 | c :: r=>by
  have:=RP r
  simp only [List.map_cons,List.filterMap_cons,GJ] at this ⊢
  simp only [oV,this,Option.map_some]
  rfl
def zzS (s : String) : Lean.MacroM (Array (Lean.TSyntax `Lean.Parser.Tactic.simpLemma)) := (s.splitOn " ").toArray.mapM fun n => `(Lean.Parser.Tactic.simpLemma| $(Lean.mkIdent n.toName):ident)
local macro_rules | `(tactic| simp_all! only [$xs,*]) => do `(tactic| simp only [$xs,*, $(← zzS "Bool.false_eq_true Bool.not_false Bool.not_true List.append_nil List.cons_append List.getElem?_cons_succ List.getElem?_cons_zero List.length_cons List.length_nil List.map_cons List.map_nil List.nil_append List.replicate List.set_cons_succ List.set_cons_zero Nat.add_sub_cancel Nat.reduceAdd Nat.reduceSub Nat.sub_self Option.some.injEq and_true DG Iy at2 Js xF oD yR q8 rR y9 w4 C7 oJ FH FN FL JG eW decide_false decide_true exists_eq_left' if_false if_true zW aU fG fJ gD fF gB eX jF jQ kH jC kD iV jP jI kG jH kL iQ kI kO lQ kM lT jK jE jN kQ jM kP iX kK kC lN kN lP jO iY iK jG iS jJ hG items aV mO uS mN uB mP reduceCtorEq eU true_and xO oU rE wY nE Bc xM uC tV tS qH oN nK b9 Cm uI r9 DI bP uN sX tU xN wZ Cg pU n6 xK yN tM gA De w5 sV tT yZ wR pB xE wQ CA mB cG"),*])
theorem GQ {t1 t2:Tok} (F:cF K "is_name" "is_name" mQ f fd) (hm:mg "is_name"=some (.ref f)) (aW:mg "len"=none) (aM:mg "isinstance"=none) (cP:mg "str"=none) (pD:mg "all"=none)
  (mH:mg "LETTERS"=some (.str t9 t1)) (fW:mg "LONGEST_NAME"=some (.int 8 t2)):Callee P w K mg base 1 "is_name" Cs []:=by
 refine bD F hm GH (lO fun _ _ _ _ _ _ _=>rfl) (aD (bK (gW.pt (iH (dD (cM (b8 h9 aM (aA (uv 0) (aA (hJ (n:="str") cP) aB))))) (gZ (dD (zD mC mC aH (b8 cO aW (aA (uv 0) aB)) (lS fW))))))
 (aF (aQ nO))
 bB)
 (aF (aQ (b8 F7 pD (aA (n8 false ["sign"] 1 [] (iT (uv 0)) (bQ (k:=1) 0 (by dsimp only [cQ];decide +kernel)) mG (j7 Hw (uv 0) (zH mH))) aB))))) ?_
 rintro us M Q ⟨x,rfl,ok,q⟩
 refine ⟨rfl,?_⟩
 cases x with
 | str z =>
  simp_all! only [i9,kZ,nW,kE,xC,fD,lL,bW,bM,qU,bU,hName,gH,view,wL,fC,lM,rB]
  refine ⟨ok,?_⟩
  simp only [isName] at q
  by_cases h1:1<=(z.length:Int)
  ·rw [if_pos (by simpa using h1)]
   by_cases h8:(z.length:Int)<=8
   ·rw [if_neg (by simp [h8])]
    refine xV (S:=⟨none,chars z⟩) (M1:=M) (hw:=fun R r=>r) GJ (by rw [show (Src.mk none (chars z)).xs.length=z.length from Jv z];exact ok) (fun a e=>by cases e) (fun x hx M' _ R r=>?_) ?_
    ·obtain ⟨c,rfl⟩:=JM hx
     exact r
    ·show (match oV ((chars z).filterMap GJ) with | some bs=>i4 Q (U.bl (bs.all fun b=>b)) M | none=>False)
     unfold chars
     rw [RP]
     refine aI ?_
     have e:((z.cps.toList.map isLetter).all fun b=>b)=(decide (1<=z.length) && decide (z.length<=8) && z.cps.toList.all isLetter):=by
      rw [decide_eq_true (show 1<=z.length by omega),decide_eq_true (show z.length<=8 by omega),List.all_map]
      rfl
     rw [e];exact q
   ·rw [if_pos (by simp [h8])]
    rw [decide_eq_false (show ¬ z.length<=8 by omega)] at q
    simp at q
    exact aI q
  ·rw [if_neg (by simpa using h1)]
   rw [decide_eq_false (show ¬ 1<=z.length by omega)] at q
   simp at q
   exact aI q
 | ref a=>exact ok.elim
 | ty a=>exact ok.elim
 | _=>simp_all! only [i9,kZ,nW,kE,xC,fD,lL,bW,bM,qU,bU,hName,gH,view,wL,fC,lM,rB];exact aI q
mutual
noncomputable def pl:U->Prop
 | .non=>True
 | .bl _=>True
 | .int _=>True
 | .str z=>PyData.strOk z=true/\z.length<=1000
 | .tup us=>us.length<=1000/\Ck us
 | .lst us=>us.length<=1000/\Ck us
 | .ty _=>False
 | .ref _=>False
 | .dic _ _ _=>False
noncomputable def Ck:List U->Prop
 | []=>True
 | u :: us=>pl u/\Ck us
end
theorem Fc:∀ {us:List U} {u:U},Ck us->u∈us->pl u
 | [],_,_,h=>by cases h
 | a :: us,u,h,m=>by
  simp only [Ck] at h
  rcases List.mem_cons.mp m with rfl | m
  ·exact h.1
  ·exact Fc h.2 m
noncomputable def lay (u:U) (n:Nat):Prop:=∃ d,toD u=some d/\d.canLay0=true/\d.depth<=n
noncomputable def Lk (us:List U) (n:Nat):Prop:=∃ ds,dO us=some ds/\PyData.canLayAll0 ds=true/\PyData.depthAll ds<=n
theorem Dn:∀ {us:List U} {u:U} {n:Nat},Lk us n->u∈us->lay u n
 | [],_,_,_,h=>by cases h
 | a :: us,u,n,⟨ds,h1,h2,h3⟩,m=>by
  simp only [dO] at h1
  cases ha:toD a with
  | none=>rw [ha] at h1;cases h1
  | some d =>
   cases hs:dO us with
   | none=>rw [ha,hs] at h1;cases h1
   | some es =>
    rw [ha,hs] at h1
    cases h1
    simp only [PyData.canLayAll0,Bool.and_eq_true,PyData.depthAll] at h2 h3
    rcases List.mem_cons.mp m with rfl | m
    ·exact ⟨d,ha,h2.1,by omega⟩
    ·exact Dn ⟨es,hs,h2.2,by omega⟩ m
theorem Ph {us:List U} {n:Nat} (h:lay (.tup us) n):Lk us n:=by
 obtain ⟨d,h1,h2,h3⟩:=h
 simp only [toD,Option.map_eq_some_iff] at h1
 obtain ⟨ds,e,rfl⟩:=h1
 simp only [PyData.canLay0,PyData.depth] at h2 h3
 exact ⟨ds,e,h2,by omega⟩
noncomputable def plain (u:U):Prop:=pl u/\lay u 60
theorem iZ {us:List U} {u:U} (h:plain (.tup us)) (m:u∈us):plain u:=by
 have h1:=h.1
 simp only [pl] at h1
 exact ⟨Fc h1.2 m,Dn (Ph h.2) m⟩
theorem plain_len {us:List U} (h:plain (.tup us)):us.length<=1000:=by
 have h1:=h.1
 simp only [pl] at h1
 exact h1.1
theorem N1 (a b:Str):(a == b)=decide (a=b):=by
 by_cases h:a=b
 ·subst h;simp
 ·rw [decide_eq_false h];exact beq_eq_false_iff_ne.mpr h
noncomputable def p9 (z:Str):U->Bool
 | .str y=>decide (y=z)
 | _=>false
theorem eq_str {u:U} {z:Str} {M:aG} {Q:UK} (h:plain u) (hz:PyData.strOk z=true) (q:Q (.bl (p9 z u)) M):kE false u (.str z) M Q:=by
 obtain ⟨h1,d,e,h2,h3⟩:=h
 have hs:(PyData.str z).canLay0=true:=by simp only [PyData.canLay0];exact hz
 cases u with
 | tup us =>
  simp only [toD,Option.map_eq_some_iff] at e
  obtain ⟨ds,e,rfl⟩:=e
  exact ⟨_,_,by simp only [pR,toD,e,Option.map_some],rfl,h2,hs,by simp only [PyData.depth];omega,q⟩
 | lst us =>
  simp only [toD,Option.map_eq_some_iff] at e
  obtain ⟨ds,e,rfl⟩:=e
  exact ⟨_,_,by simp only [pR,toD,e,Option.map_some],rfl,h2,hs,by simp only [PyData.depth];omega,q⟩
 | ty _=>exact h1.elim
 | ref _=>exact h1.elim
 | dic _ _ _=>exact h1.elim
 | _=>exact q
noncomputable def wF (cs:List Str):U->Bool
 | .str y=>cs.contains y
 | _=>false
theorem Fp {neg:Bool} {u:U} {cs:List Str} {M:aG} {Q:UK} (h:plain u) (hc:∀ c∈cs,PyData.strOk c=true) (q:Q (.bl (if neg then !wF cs u else wF cs u)) M):Gh neg u (.tup (cs.map U.str)) M Q:=by
 obtain ⟨h1,d,e,h2,h3⟩:=h
 have e1:∀ cs:List Str,dO (cs.map U.str)=some (cs.map PyData.str):=fun cs=>by
  induction cs with
  | nil=>rfl
  | cons c cs ih=>simp only [List.map_cons,dO,toD,ih]
 have e2:PyData.canLayAll0 (cs.map PyData.str)=true:=by
  clear q
  induction cs with
  | nil=>rfl
  | cons c cs ih =>
   simp only [List.map_cons,PyData.canLayAll0,PyData.canLay0,Bool.and_eq_true]
   exact ⟨hc c List.mem_cons_self,ih fun x hx=>hc x (List.mem_cons_of_mem _ hx)⟩
 have e3:pR M u=some d:=by
  cases u <;> first | exact e | exact h1.elim
 have e4:((cs.map PyData.str).any fun x=>PyData.eqv x d)=wF cs u:=by
  clear q hc e2
  induction cs with
  | nil=>cases u <;> rfl
  | cons c cs ih =>
   simp only [List.map_cons,List.any_cons,ih]
   cases u with
   | str y =>
    cases e
    simp only [wF,List.contains_cons]
    congr 1
    simp only [PyData.eqv]
    exact BEq.comm
   | tup us =>
    simp only [toD,Option.map_eq_some_iff] at e
    obtain ⟨ds,e,rfl⟩:=e
    rfl
   | lst us =>
    simp only [toD,Option.map_eq_some_iff] at e
    obtain ⟨ds,e,rfl⟩:=e
    rfl
   | ty _=>exact h1.elim
   | ref _=>exact h1.elim
   | dic _ _ _=>exact h1.elim
   | _=>cases e;rfl
 exact ⟨_,_,d,rfl,e1 cs,e3,e2,h2,h3,by rw [e4];exact q⟩
noncomputable def CQ:U->Bool
 | .int _=>true
 | _=>false
noncomputable def sP:U->Bool
 | .int i=>decide (0<=i) && decide (i<=1000000000000000000)
 | _=>false
noncomputable def tQ:bN:=fun us M Q=>∃ u,us=[u]/\plain u/\Q (.bl (CQ u)) M
local macro_rules | `(tactic| simp! only [$xs,*] $[$l]?) => do `(tactic| simp only [$xs,*, $(← zzS "Bool.false_eq_true Bool.not_false Bool.not_true List.append_nil List.cons_append List.getElem?_cons_succ List.getElem?_cons_zero List.length_cons List.length_nil List.map_cons List.map_nil List.nil_append List.replicate List.set_cons_succ List.set_cons_zero Nat.add_sub_cancel Nat.reduceAdd Nat.reduceLeDiff Nat.reduceSub Nat.sub_self Option.getD_some Option.some.injEq and_true DG Iy at2 Js xF AA oD yR q8 rR y9 w4 C7 oJ FH FN FL JG eW decide_false decide_true vU v5 exists_eq_left' if_false if_true zW fC fG fJ gD fF gB eX jF jQ kH jC kD iV jP jI kG jH kL iQ kI kO lQ kM lT jK jE jN kQ jM kP iX kK kC lN kN lP jO iY iK jG iS jJ hG mO uS mN uB yQ mP iO bC reduceCtorEq eU M7 true_and xO oU rE wY nE Bc xM uC tV tS qH oN nK Cm uI r9 DI uN sX tU xN wZ xB Cg pU n6 xK yN tM gA De w5 sV tT yZ wR pB xE wQ CA mB yS zN yU yC u9 y8 zJ"),*] $[$l]?)
local macro_rules | `(tactic| simp? only [$xs,*] $[$l]?) => `(tactic| simp! only [$xs,*, items, b9, bR, cG] $[$l]?)
theorem EU (F:cF K "is_whole" "is_whole" lD f fd) (hm:mg "is_whole"=some (.ref f)) (aM:mg "isinstance"=none) (lY:mg "int"=none) (sI:mg "bool"=none):Callee P w K mg base 1 "is_whole" tQ []:=by
 refine bD F hm EK (lO fun _ _ _ _ _ _ _=>rfl) (aF (aQ (gY (b8 h9 aM (aA (uv 0) (aA (hJ (n:="int") lY) aB))) (iP (DB (b8 h9 aM (aA (uv 0) (aA (hJ (n:="bool") sI) aB)))))))) ?_
 rintro us M Q ⟨u,rfl,ho,q⟩
 refine ⟨rfl,?_⟩
 cases u with
 | ref a=>exact ho.1.elim
 | ty a=>exact ho.1.elim
 | dic a b c=>exact ho.1.elim
 | _=>simp? only [bM];exact aI q
noncomputable def xI:bN:=fun us M Q=>∃ u,us=[u]/\plain u/\Q (.bl (sP u)) M
theorem Cv {t1:Tok} (F:cF K "is_number" "is_number" j3 f fd) (hm:mg "is_number"=some (.ref f)) (kY:mg "GREATEST"=some (.int 1000000000000000000 t1)) (sZ:Callee P w K mg base 1 "is_whole" tQ []):Callee P w K mg base 2 "is_number" xI []:=by
 refine bD F hm CJ (lO fun _ _ _ _ _ _ _=>rfl) (aF (aQ (gY (aR sZ (aA (uv 0) aB)) (iP (Si mC mC aH (uv 0) (lS kY)))))) ?_
 rintro us M Q ⟨u,rfl,ho,q⟩
 refine ⟨rfl,?_⟩
 simp? only [bM]
 refine ⟨u,rfl,ho,?_⟩
 cases u with
 | ref a=>exact ho.1.elim
 | ty a=>exact ho.1.elim
 | dic a b c=>exact ho.1.elim
 | int i =>
  simp? only [CQ]
  simp only [sP] at q
  by_cases h:0<=i
  ·simp only [h,decide_true,Bool.true_and,if_true] at q ⊢
   exact aI q
  ·simp only [h,decide_false,Bool.false_and,Bool.false_eq_true,if_false] at q ⊢
   exact aI q
 | _=>simp? only [CQ];exact aI q
noncomputable def xY:U->Bool
 | .tup (.str z :: r)=>match cB cL z with
  | some (.int k)=>decide ((r.length:Int)=k)
  | _=>false
 | _=>false
noncomputable def LF (u:U) (_:Bool):Prop:=plain u/\xY u=false
noncomputable def Dj:bN:=fun us M Q=>∃ u,us=[u]/\((∃ b,LF u b/\Q (.bl false) M)\/(∃ (z:Str) (r:List U),u=.tup (.str z :: r)/\cB cL z=some (.int (r.length:Nat))/\Q (.bl true) M))
theorem Jw (z:Str):cB cL z=none\/∃ k:Nat,cB cL z=some (.int k):=by
 simp only [cL,cB]
 split
 ·exact .inr ⟨1,rfl⟩
 split
 ·exact .inr ⟨2,rfl⟩
 split
 ·exact .inr ⟨2,rfl⟩
 split
 ·exact .inr ⟨2,rfl⟩
 exact .inl rfl
local macro_rules | `(tactic| simp_all! only [$xs,*]) => do `(tactic| simp only [$xs,*, $(← zzS "Bool.false_eq_true Bool.not_false Bool.not_true List.append_nil List.cons_append List.getElem?_cons_succ List.getElem?_cons_zero List.length_cons List.length_nil List.map_cons List.map_nil List.nil_append List.replicate List.set_cons_succ List.set_cons_zero Nat.add_sub_cancel Nat.reduceAdd Nat.reduceSub Nat.sub_self Option.some.injEq and_true DG Iy at2 Js xF oD yR q8 rR y9 w4 C7 oJ FH FN FL JG eW decide_false decide_true exists_eq_left' if_false if_true zW aU fG fJ gD fF gB eX jF jQ kH jC kD iV jP jI kG jH kL iQ kI kO lQ kM lT jK jE jN kQ jM kP iX kK kC lN kN lP jO iY iK jG iS jJ hG items aV mO uS mN uB mP reduceCtorEq eU true_and xO oU rE wY nE Bc xM uC tV tS qH oN nK b9 Cm uI r9 DI bP uN sX tU xN wZ Cg pU n6 xK yN tM gA De w5 sV tT yZ wR pB xE wQ CA mB cG"),*])
theorem Hc (F:cF K "is_sign" "is_sign" mS f fd) (hm:mg "is_sign"=some (.ref f)) (aM:mg "isinstance"=none) (bI:mg "tuple"=none) (aW:mg "len"=none) (cP:mg "str"=none) (fQ:i6 P w K d cL) (fY:mg "SIGNS"=some (.ref d)):Callee P w K mg base 1 "is_sign" Dj []:=by
 refine bD F hm Hl (lO fun _ _ _ _ _ _ _=>rfl) (aD (bK (gW.pt (iH (dD (cM (b8 h9 aM (aA (uv 0) (aA (hJ (n:="tuple") bI) aB))))) (iH (bO cI (b8 cO aW (aA (uv 0) aB)) aH) (gZ (dD (cM (b8 h9 aM (aA (aL (uv 0) aH) (aA (hJ (n:="str") cP) aB)))))))))
 (aF (aQ nO))
 bB)
 (aF (aQ (gY (j7 (Fs fQ) (aL (uv 0) aH) (nA fY)) (iP (j7 cI (b8 cO aW (aA (uv 0) aB)) (aO (own:=false) aH (B4 fQ (nA fY) (aL (uv 0) aH))))))))) ?_
 rintro us M Q ⟨u,rfl,h⟩
 refine ⟨rfl,?_⟩
 have hne:∀ n:Nat,decide (((n + 1:Nat):Int)=0)=false:=fun n=>decide_eq_false (by omega)
 have no:∀ (z:Str) (r:List U),cB cL z=none->Q (.bl false) M->nE (gA (aU d cL false) (gA tU (mB 0) (uC (U.int 0))) (uC (U.ref d))) (gA (kE false) (tV rR (nK (mB 0) pU)) (gA (oU false) (uC (U.int 1)) (gA (aV d cL) (uC (U.ref d)) (gA tU (mB 0) (uC (U.int 0)))))) [some (.tup (.str z :: r))] M (i4 Q):=fun z r h q=>by
  simp_all! only [h,Option.isSome_none,i9,kZ,nW,kE,xC,fD,lL,bW,bM,qU,bU,hName,gH,view,wL,fC,lM,rB]
  exact aI q
 have yes:∀ (z:Str) (r:List U) (k:Nat),cB cL z=some (.int k)->Q (.bl (decide (r.length=k))) M->nE (gA (aU d cL false) (gA tU (mB 0) (uC (U.int 0))) (uC (U.ref d))) (gA (kE false) (tV rR (nK (mB 0) pU)) (gA (oU false) (uC (U.int 1)) (gA (aV d cL) (uC (U.ref d)) (gA tU (mB 0) (uC (U.int 0)))))) [some (.tup (.str z :: r))] M (i4 Q):=fun z r k h q=>by
  simp_all! only [h,Option.isSome_some,Fl.u,wL,i9,kZ,nW,kE,xC,fD,lL,bW,bM,qU,bU,hName,gH,view,wL,fC,lM,rB]
  refine aI ?_
  have e:decide (((r.length + 1:Nat):Int)=1 + (k:Int))=decide (r.length=k):=by
   by_cases e:r.length=k
   ·rw [decide_eq_true e];exact decide_eq_true (by omega)
   ·rw [decide_eq_false e];exact decide_eq_false (by omega)
  rw [e]
  exact q
 refine aN fun V1 hV1=>?_
 refine bX fun A B hA hB=>?_
 rcases h with ⟨b,⟨hp,hs⟩,q⟩ | ⟨z,r,rfl,hz,q⟩
 ·have fls:A M:=by
   subst hA
   simp? only [bM]
   exact aI q
  cases u with
  | tup us =>
   cases us with
   | nil=>simp? only [show decide (((0:Nat):Int)=0)=true from rfl];exact fls
   | cons x r =>
    have hx:=iZ hp List.mem_cons_self
    cases x with
    | str z =>
     simp? only [hne]
     subst hB
     simp only [bW]
     subst hV1
     simp only [bM,eU,List.length_nil,List.length_cons,List.map_cons,List.map_nil,Nat.sub_self,List.replicate,List.append_nil,Nat.reduceAdd]
     simp only [xY] at hs
     rcases Jw z with h | ⟨k,h⟩
     ·exact no z r h q
     ·rw [h] at hs
      simp only [decide_eq_false_iff_not,Int.natCast_inj] at hs
      exact yes z r k h (by rw [decide_eq_false hs];exact q)
    | ref a=>exact hx.1.elim
    | ty a=>exact hx.1.elim
    | dic a b c=>exact hx.1.elim
    | _=>simp? only [hne];exact fls
  | ref a=>exact hp.1.elim
  | ty a=>exact hp.1.elim
  | dic a b c=>exact hp.1.elim
  | _=>simp? only [true_and];exact fls
 ·simp? only [hne]
  subst hB
  simp only [bW]
  subst hV1
  simp only [bM,eU,List.length_nil,List.length_cons,List.map_cons,List.map_nil,Nat.sub_self,List.replicate,List.append_nil,Nat.reduceAdd]
  exact yes z r r.length hz (by rw [decide_eq_true rfl];exact q)
noncomputable def lG (cs:List Str):U->Bool
 | .tup (.str z :: r)=>if z=Str.ofString "at" then (match r with | [x]=>wF cs x | _=>false) else if z=Str.ofString "from" then (match r with | [a,b]=>sP a && (sP b && (match a,b with | .int i,.int j=>decide (i<=j) | _,_=>false)) | _=>false) else decide (z=Str.ofString "any") && r.isEmpty
 | _=>false
noncomputable def Ax:bN:=fun us M Q=>∃ (u:U) (cs:List Str),us=[u,.tup (cs.map U.str)]/\plain u/\(∀ c∈cs,PyData.strOk c=true)/\Q (.bl (lG cs u)) M
theorem RO {x:U} {r:List U} {M:aG} {Q:UK} (h:plain (.tup (x :: r))) (q:Q (.bl (p9 (Str.ofString "any") x && r.isEmpty)) M):kE false (.tup (x :: r)) (.tup [.str (Str.ofString "any")]) M Q:=by
 obtain ⟨h1,d,e,h2,h3⟩:=h
 have e':=e
 simp only [toD,Option.map_eq_some_iff] at e'
 obtain ⟨ds,e1,rfl⟩:=e'
 refine ⟨_,_,e,rfl,h2,by decide +kernel,by simp only [PyData.depth,PyData.depthAll];omega,?_⟩
 simp only [dO] at e1
 cases hx:toD x with
 | none=>rw [hx] at e1;cases e1
 | some dx =>
  cases hr:dO r with
  | none=>rw [hx,hr] at e1;cases e1
  | some dr =>
   rw [hx,hr] at e1
   cases e1
   have a1:PyData.eqv (.tuple (dx :: dr)) (.tuple [.str (Str.ofString "any")])=(p9 (Str.ofString "any") x && r.isEmpty):=by
    have b1:PyData.eqv dx (.str (Str.ofString "any"))=p9 (Str.ofString "any") x:=by
     simp only [pl,Ck] at h1
     cases x with
     | str y=>cases hx;simp only [p9,PyData.eqv];exact N1 _ _
     | tup us=>simp only [toD,Option.map_eq_some_iff] at hx;obtain ⟨ds,e,rfl⟩:=hx;rfl
     | lst us=>simp only [toD,Option.map_eq_some_iff] at hx;obtain ⟨ds,e,rfl⟩:=hx;rfl
     | ty _=>exact h1.2.1.elim
     | ref _=>exact h1.2.1.elim
     | dic _ _ _=>exact h1.2.1.elim
     | _=>cases hx;rfl
    have b2:PyData.eqvAll dr []=r.isEmpty:=by
     cases r with
     | nil=>cases hr;rfl
     | cons y r =>
      simp only [dO] at hr
      cases hy:toD y with
      | none=>rw [hy] at hr;cases hr
      | some dy =>
       cases hz:dO r with
       | none=>rw [hy,hz] at hr;cases hr
       | some dz=>rw [hy,hz] at hr;cases hr;rfl
    simp only [PyData.eqv,PyData.eqvAll] at b1 b2 ⊢
    rw [b1,b2]
   simp only [Bool.false_eq_true,if_false]
   rw [a1];exact q
theorem KD (F:cF K "is_pattern_leaf" "is_pattern_leaf" eF f fd) (hm:mg "is_pattern_leaf"=some (.ref f)) (aM:mg "isinstance"=none) (bI:mg "tuple"=none) (aW:mg "len"=none) (wO:Callee P w K mg base 2 "is_number" xI []):Callee P w K mg base 3 "is_pattern_leaf" Ax []:=by
 refine bD F hm uL (nM fun _ _ _ _ _ _ _ _=>rfl) (aD (bK (gW.pt (iH (dD (cM (b8 h9 aM (aA (uv 0) (aA (hJ (n:="tuple") bI) aB))))) (gZ (bO cI (b8 cO aW (aA (uv 0) aB)) aH))))
 (aF (aQ nO))
 bB)
 (aD (bK (bO cI (aL (uv 0) aH) bZ)
 (aF (aQ (gY (j7 cI (b8 cO aW (aA (uv 0) aB)) aH) (iP (j7 R0 (aL (uv 0) aH) (uv 1))))))
 bB)
 (aD (bK (bO cI (aL (uv 0) aH) bZ)
 (aF (aQ (gY (j7 cI (b8 cO aW (aA (uv 0) aB)) aH) (gY (aR wO (aA (aL (uv 0) aH) aB)) (gY (aR wO (aA (aL (uv 0) aH) aB)) (iP (j7 mC (aL (uv 0) aH) (aL (uv 0) aH))))))))
 bB)
 (aF (aQ (j7 cI (uv 0) (bG (aA bZ aB)))))))) ?_
 rintro us M Q ⟨u,cs,rfl,hp,hc,q⟩
 refine ⟨rfl,?_⟩
 have hne:∀ n:Nat,decide (((n + 1:Nat):Int)=0)=false:=fun n=>decide_eq_false (by omega)
 have sat:PyData.strOk (Str.ofString "at")=true:=by decide +kernel
 have sfr:PyData.strOk (Str.ofString "from")=true:=by decide +kernel
 refine aN fun V1 hV1=>?_
 refine bX fun A B hA hB=>?_
 cases u with
 | tup us =>
  cases us with
  | nil =>
   simp? only [show decide (((0:Nat):Int)=0)=true from rfl]
   subst hA
   simp? only [bM]
   exact aI q
  | cons x r =>
   have hx:=iZ hp List.mem_cons_self
   have hl:=plain_len hp
   simp? only [hne]
   subst hB
   simp only [bW]
   subst hV1
   refine aN fun V2 hV2=>?_
   refine bX fun A B hA hB=>?_
   simp? only [true_and]
   refine eq_str hx sat ?_
   have n2:∀ n:Nat,decide (((n + 1 + 1 + 1 + 1:Nat):Int)=2)=false:=fun n=>decide_eq_false (by omega)
   have n3:∀ n:Nat,decide (((n + 1 + 1 + 1 + 1:Nat):Int)=3)=false:=fun n=>decide_eq_false (by omega)
   have d1:decide (((0 + 1:Nat):Int)=2)=false:=rfl
   have d2:decide (((0 + 1 + 1:Nat):Int)=2)=true:=rfl
   have d3:decide (((0 + 1 + 1 + 1:Nat):Int)=2)=false:=rfl
   have c1:decide (((0 + 1:Nat):Int)=3)=false:=rfl
   have c2:decide (((0 + 1 + 1:Nat):Int)=3)=false:=rfl
   have c3:decide (((0 + 1 + 1 + 1:Nat):Int)=3)=true:=rfl
   have hra:∀ y∈r,plain y:=fun y hy=>iZ hp (List.mem_cons_of_mem _ hy)
   have three:p9 (Str.ofString "at") x=false->p9 (Str.ofString "from") x=false->Q (.bl (p9 (Str.ofString "any") x && r.isEmpty)) M->B M:=fun h1 h2 q=>by
    subst hB
    simp only [bW]
    subst hV2
    refine aN fun V3 hV3=>?_
    refine bX fun A B hA hB=>?_
    simp? only [true_and]
    refine eq_str hx sfr ?_
    simp? only [h2]
    subst hB
    simp only [bW]
    subst hV3
    simp? only [bM]
    exact RO hp (aI q)
   cases x with
   | str z =>
    by_cases hz:z=Str.ofString "at"
    ·subst hz
     simp only [p9,lG,decide_true,if_true] at q ⊢
     subst hA
     rcases r with _ | ⟨a,_ | ⟨b,_ | ⟨c,r⟩⟩⟩
     ·simp? only [bM,d1];exact aI q
     ·simp? only [bM,d2]
      exact Fp (neg:=false) (hra a (by simp)) hc (aI q)
     ·simp? only [bM,d3];exact aI q
     ·simp? only [bM,n2];exact aI q
    ·by_cases hz2:z=Str.ofString "from"
     ·subst hz2
      simp only [p9,lG,hz,decide_true,decide_false,if_true,if_false,Bool.false_eq_true] at q ⊢
      subst hB
      simp only [bW]
      subst hV2
      refine aN fun V3 hV3=>?_
      refine bX fun A B hA hB=>?_
      simp? only [true_and]
      subst hA
      rcases r with _ | ⟨a,_ | ⟨b,_ | ⟨c,r⟩⟩⟩
      ·simp? only [bM,c1];exact aI q
      ·simp? only [bM,c2];exact aI q
      ·simp? only [bM,c3]
       dsimp only at q
       refine ⟨a,rfl,hra a (by simp),?_⟩
       cases ha:sP a with
       | false =>
        rw [ha] at q
        simp? only [true_and]
        exact aI q
       | true =>
        rw [ha] at q
        simp? only [true_and]
        refine ⟨b,rfl,hra b (by simp),?_⟩
        cases hb:sP b with
        | false =>
         rw [hb] at q
         simp? only [true_and]
         exact aI q
        | true =>
         rw [hb] at q
         cases a <;> first | cases ha | skip
         cases b <;> first | cases hb | skip
         simp? only [true_and]
         exact aI q
      ·simp? only [bM,n3];exact aI q
     ·simp only [p9,lG,hz,hz2,decide_false,if_false,Bool.false_eq_true] at q ⊢
      exact three (by simp [p9,hz]) (by simp [p9,hz2]) q
   | ref a=>exact hx.1.elim
   | ty a=>exact hx.1.elim
   | dic a b c=>exact hx.1.elim
   | _=>exact three rfl rfl q
 | ref a=>exact hp.1.elim
 | ty a=>exact hp.1.elim
 | dic a b c=>exact hp.1.elim
 | _ =>
  simp? only [true_and]
  subst hA
  simp? only [bM]
  exact aI q
inductive Op where
 | sum | less | by_
noncomputable def Op.word:Op->Str
 | .sum=>"sum" | .less=>"less" | .by_=>"by"
inductive Tr where
 | num (n:Int) | name (x:Str) | turn (a:Tr) | two (o:Op) (a b:Tr)
noncomputable def Tr.toU:Tr->U
 | .num n=>.tup [.str "num",.int n]
 | .name x=>.tup [.str "name",.str x]
 | .turn a=>.tup [.str "turn",a.toU]
 | .two o a b=>.tup [.str o.word,a.toU,b.toU]
noncomputable def Tr.ok:Tr->Prop
 | .num _=>True
 | .name x=>PyData.strOk x=true/\x.length<=100
 | .turn a=>a.ok
 | .two _ a b=>a.ok/\b.ok
noncomputable def Tr.dep:Tr->Nat
 | .num _=>1
 | .name _=>1
 | .turn a=>a.dep + 1
 | .two _ a b=>max a.dep b.dep + 1
inductive Pt where
 | hole (c:Str) | any | fr (l h:Int) | turn (a:Pt) | two (o:Op) (a b:Pt)
noncomputable def Pt.toU:Pt->U
 | .hole c=>.tup [.str "at",.str c]
 | .any=>.tup [.str "any"]
 | .fr l h=>.tup [.str "from",.int l,.int h]
 | .turn a=>.tup [.str "turn",a.toU]
 | .two o a b=>.tup [.str o.word,a.toU,b.toU]
noncomputable def Pt.ok:Pt->Prop
 | .hole c=>PyData.strOk c=true
 | .any=>True
 | .fr l h=>0<=l/\l<=h
 | .turn a=>a.ok
 | .two _ a b=>a.ok/\b.ok
noncomputable def Pt.dep:Pt->Nat
 | .hole _=>1
 | .any=>1
 | .fr _ _=>1
 | .turn a=>a.dep + 1
 | .two _ a b=>max a.dep b.dep + 1
noncomputable def Pt.holes:Pt->Nat
 | .hole _=>1
 | .any=>0
 | .fr _ _=>0
 | .turn a=>a.holes
 | .two _ a b=>a.holes + b.holes
noncomputable def Pt.leafy:Pt->Bool
 | .turn _=>false
 | .two _ _ _=>false
 | _=>true
noncomputable def Pt.ends:Pt->List Pt
 | .turn a=>a.ends
 | .two _ a b=>a.ends++b.ends
 | p=>[p]
instance:DecidableEq Op:=fun a b=>by cases a <;> cases b <;> first | exact isTrue rfl | exact isFalse (fun h=>nomatch h)
noncomputable def Ln:Pt->Tr->Bool
 | .hole _,_=>true
 | .any,.name _=>true
 | .any,_=>false
 | .fr l h,.num n=>decide (l<=n) && decide (n<=h)
 | .fr _ _,_=>false
 | .turn p,.turn a=>Ln p a
 | .turn _,_=>false
 | .two o p q,.two o' a b=>decide (o=o') && (Ln p a && Ln q b)
 | .two _ _ _,_=>false
theorem Hg (x y:Str):(x++y).cps.toList=x.cps.toList++y.cps.toList:=by
 show (x.cps++y.cps).toList=_
 simp
theorem rS {α:Type} {l:List α} {i:Int} {c:α} (h:eP l i=some c):c∈l:=by
 unfold eP at h
 cases e:qW l.length i with
 | none=>rw [e] at h;cases h
 | some j=>rw [e] at h;exact List.mem_of_getElem? h
theorem Kx:(Str.ofString "at"=Str.ofString "any")=False:=eq_false (by decide +kernel)
theorem JW:(Str.ofString "at"=Str.ofString "from")=False:=eq_false (by decide +kernel)
theorem IX:(Str.ofString "at"=Str.ofString "turn")=False:=eq_false (by decide +kernel)
theorem Lr:(Str.ofString "at"=Str.ofString "num")=False:=eq_false (by decide +kernel)
theorem JA:(Str.ofString "at"=Str.ofString "name")=False:=eq_false (by decide +kernel)
theorem Cn:(Str.ofString "any"=Str.ofString "at")=False:=eq_false (by decide +kernel)
theorem Gk:(Str.ofString "any"=Str.ofString "from")=False:=eq_false (by decide +kernel)
theorem G9:(Str.ofString "any"=Str.ofString "turn")=False:=eq_false (by decide +kernel)
theorem Jt:(Str.ofString "any"=Str.ofString "num")=False:=eq_false (by decide +kernel)
theorem GC:(Str.ofString "any"=Str.ofString "name")=False:=eq_false (by decide +kernel)
theorem A8:(Str.ofString "from"=Str.ofString "at")=False:=eq_false (by decide +kernel)
theorem Ht:(Str.ofString "from"=Str.ofString "any")=False:=eq_false (by decide +kernel)
theorem Ei:(Str.ofString "from"=Str.ofString "turn")=False:=eq_false (by decide +kernel)
theorem G4:(Str.ofString "from"=Str.ofString "num")=False:=eq_false (by decide +kernel)
theorem Er:(Str.ofString "from"=Str.ofString "name")=False:=eq_false (by decide +kernel)
theorem A2:(Str.ofString "turn"=Str.ofString "at")=False:=eq_false (by decide +kernel)
theorem HB:(Str.ofString "turn"=Str.ofString "any")=False:=eq_false (by decide +kernel)
theorem Em:(Str.ofString "turn"=Str.ofString "from")=False:=eq_false (by decide +kernel)
theorem Gm:(Str.ofString "turn"=Str.ofString "num")=False:=eq_false (by decide +kernel)
theorem Ed:(Str.ofString "turn"=Str.ofString "name")=False:=eq_false (by decide +kernel)
theorem La:(Str.ofString "num"=Str.ofString "at")=False:=eq_false (by decide +kernel)
theorem I0:(Str.ofString "num"=Str.ofString "any")=False:=eq_false (by decide +kernel)
theorem HY:(Str.ofString "num"=Str.ofString "from")=False:=eq_false (by decide +kernel)
theorem GD:(Str.ofString "num"=Str.ofString "turn")=False:=eq_false (by decide +kernel)
theorem HR:(Str.ofString "num"=Str.ofString "name")=False:=eq_false (by decide +kernel)
theorem Kj:(Str.ofString "name"=Str.ofString "at")=False:=eq_false (by decide +kernel)
theorem GF:(Str.ofString "name"=Str.ofString "any")=False:=eq_false (by decide +kernel)
theorem EG:(Str.ofString "name"=Str.ofString "from")=False:=eq_false (by decide +kernel)
theorem EN:(Str.ofString "name"=Str.ofString "turn")=False:=eq_false (by decide +kernel)
theorem F4:(Str.ofString "name"=Str.ofString "num")=False:=eq_false (by decide +kernel)
theorem JJ (o:Op):(o.word=Str.ofString "at")=False:=eq_false (by cases o <;> decide +kernel)
theorem NU (o:Op):(o.word=Str.ofString "any")=False:=eq_false (by cases o <;> decide +kernel)
theorem Kv (o:Op):(o.word=Str.ofString "from")=False:=eq_false (by cases o <;> decide +kernel)
theorem Mp (o:Op):(o.word=Str.ofString "turn")=False:=eq_false (by cases o <;> decide +kernel)
theorem NF (o:Op):(o.word=Str.ofString "num")=False:=eq_false (by cases o <;> decide +kernel)
theorem KW (o:Op):(o.word=Str.ofString "name")=False:=eq_false (by cases o <;> decide +kernel)
theorem QR (o:Op):(Str.ofString "at"=o.word)=False:=eq_false (by cases o <;> decide +kernel)
theorem O7 (o:Op):(Str.ofString "any"=o.word)=False:=eq_false (by cases o <;> decide +kernel)
theorem Lm (o:Op):(Str.ofString "from"=o.word)=False:=eq_false (by cases o <;> decide +kernel)
theorem KY (o:Op):(Str.ofString "turn"=o.word)=False:=eq_false (by cases o <;> decide +kernel)
theorem O0 (o:Op):(Str.ofString "num"=o.word)=False:=eq_false (by cases o <;> decide +kernel)
theorem K2 (o:Op):(Str.ofString "name"=o.word)=False:=eq_false (by cases o <;> decide +kernel)
theorem nD:(Str.ofString "at"=Str.ofString "any")=False/\(Str.ofString "at"=Str.ofString "from")=False/\(Str.ofString "at"=Str.ofString "turn")=False/\(Str.ofString "at"=Str.ofString "num")=False/\(Str.ofString "at"=Str.ofString "name")=False/\(Str.ofString "any"=Str.ofString "at")=False:=⟨Kx,JW,IX,Lr,JA,Cn⟩
theorem m8:(Str.ofString "any"=Str.ofString "from")=False/\(Str.ofString "any"=Str.ofString "turn")=False/\(Str.ofString "any"=Str.ofString "num")=False/\(Str.ofString "any"=Str.ofString "name")=False/\(Str.ofString "from"=Str.ofString "at")=False/\(Str.ofString "from"=Str.ofString "any")=False:=⟨Gk,G9,Jt,GC,A8,Ht⟩
theorem m9:(Str.ofString "from"=Str.ofString "turn")=False/\(Str.ofString "from"=Str.ofString "num")=False/\(Str.ofString "from"=Str.ofString "name")=False/\(Str.ofString "turn"=Str.ofString "at")=False/\(Str.ofString "turn"=Str.ofString "any")=False/\(Str.ofString "turn"=Str.ofString "from")=False:=⟨Ei,G4,Er,A2,HB,Em⟩
theorem nN:(Str.ofString "turn"=Str.ofString "num")=False/\(Str.ofString "turn"=Str.ofString "name")=False/\(Str.ofString "num"=Str.ofString "at")=False/\(Str.ofString "num"=Str.ofString "any")=False/\(Str.ofString "num"=Str.ofString "from")=False/\(Str.ofString "num"=Str.ofString "turn")=False:=⟨Gm,Ed,La,I0,HY,GD⟩
theorem m6:(Str.ofString "num"=Str.ofString "name")=False/\(Str.ofString "name"=Str.ofString "at")=False/\(Str.ofString "name"=Str.ofString "any")=False/\(Str.ofString "name"=Str.ofString "from")=False/\(Str.ofString "name"=Str.ofString "turn")=False/\(Str.ofString "name"=Str.ofString "num")=False:=⟨HR,Kj,GF,EG,EN,F4⟩
theorem nF:(∀ o:Op,(o.word=Str.ofString "at")=False)/\(∀ o:Op,(o.word=Str.ofString "any")=False)/\(∀ o:Op,(o.word=Str.ofString "from")=False)/\(∀ o:Op,(o.word=Str.ofString "turn")=False)/\(∀ o:Op,(o.word=Str.ofString "num")=False)/\(∀ o:Op,(o.word=Str.ofString "name")=False):=⟨JJ,NU,Kv,Mp,NF,KW⟩
theorem mY:(∀ o:Op,(Str.ofString "at"=o.word)=False)/\(∀ o:Op,(Str.ofString "any"=o.word)=False)/\(∀ o:Op,(Str.ofString "from"=o.word)=False)/\(∀ o:Op,(Str.ofString "turn"=o.word)=False)/\(∀ o:Op,(Str.ofString "num"=o.word)=False)/\(∀ o:Op,(Str.ofString "name"=o.word)=False):=⟨QR,O7,Lm,KY,O0,K2⟩
noncomputable def MD:Str:=Str.ofString "abcdefghijklmnopqrstuvwxyz"
theorem len_app (x y:Str):(x++y).length=x.length + y.length:=by
 show (x.cps++y.cps).size=x.cps.size + y.cps.size
 simp
noncomputable def n5:bN:=fun us M Q=>∃ (z:Str) (r:List U) (b:Bool),us=[.tup (.str z :: r)]/\(cB cL z).isSome=b/\r.length<=1000/\Q (.tup (if b then r else [])) M
local macro_rules | `(tactic| dsimp! only [$xs,*] $[$l]?) => do `(tactic| simp only [$xs,*, $(← zzS "Bool.false_eq_true Bool.not_false Bool.not_true List.append_nil List.cons_append List.getElem?_cons_succ List.getElem?_cons_zero List.length_cons List.length_nil List.map_cons List.map_nil List.nil_append List.replicate List.set_cons_succ List.set_cons_zero Nat.add_sub_cancel Nat.reduceAdd Nat.reduceLeDiff Nat.reduceSub Nat.sub_self Option.getD_some Option.some.injEq and_true DG Iy at2 Js xF AA oD yR q8 rR y9 w4 C7 oJ FH FN FL JG eW decide_false decide_true vU v5 exists_eq_left' kZ hName nW i9 if_false if_true zW aU fC fG fJ gD fF gB eX jF jQ kH jC kD iV jP jI kG jH kL iQ kI kO lQ kM lT jK jE jN kQ jM kP iX kK kC lN kN lP jO iY iK jG iS jJ hG items aV mO uS mN uB yQ mP iO bC reduceCtorEq eU M7 true_and xO oU rE wY nE bU Bc xM lM uC tV tS qH oN nK rB gH Cm uI r9 DI lL bP uN sX tU xN wZ xB Cg bW pU n6 xK yN tM gA De w5 sV bM qU tT yZ fD j9 wR pB xE wQ CA mB yS zN yU yC u9 y8 zJ"),*] $[$l]?)
theorem ES (F:cF K "parts_of" "parts_of" kT f fd) (hm:mg "parts_of"=some (.ref f)) (fQ:i6 P w K d cL) (fY:mg "SIGNS"=some (.ref d)):Callee P w K mg base 1 "parts_of" n5 []:=by
 refine bD F hm EZ (lO fun _ _ _ _ _ _ _=>rfl) (aF (aQ (SE (bO (Fs fQ) (aL (uv 0) aH) (nA fY)) (jD (own:=false) (uv 0) (cR aH) vO) (bG aB)))) ?_
 rintro us M Q ⟨z,r,b,rfl,hb,hl,q⟩
 refine ⟨rfl,?_⟩
 dsimp! only [hb]
 cases b with
 | true =>
  dsimp! only [Kw]
  exact aI q
 | false =>
  dsimp! only [true_and]
  exact aI q
theorem sA:(cB cL (Str.ofString "turn")).isSome=true:=by decide +kernel
theorem rW (o:Op):(cB cL o.word).isSome=true:=by cases o <;> decide +kernel
theorem Ds:∀ p:Pt,1<=p.dep
 | .hole _=>Nat.le_refl _
 | .any=>Nat.le_refl _
 | .fr _ _=>Nat.le_refl _
 | .turn a=>by simp only [Pt.dep];omega
 | .two o a b=>by simp only [Pt.dep];omega
theorem mulL {i j:Int} (h1:-(2 ^ 64) < i) (h2:i < 2 ^ 64):pF i j:=.inl (.inl ⟨h1,h2⟩)
theorem mulR {i j:Int} (h1:-(2 ^ 64) < j) (h2:j < 2 ^ 64):pF i j:=.inl (.inr ⟨h1,h2⟩)
noncomputable def eK (l:List Str):U:=.tup (l.map .str)
noncomputable def i7:Pt->PyData
 | .hole c=>.tuple [.str "at",.str c]
 | .any=>.tuple [.str "any"]
 | .fr l h=>.tuple [.str "from",.int l,.int h]
 | .turn a=>.tuple [.str "turn",i7 a]
 | .two o a b=>.tuple [.str o.word,i7 a,i7 b]
theorem yJ:∀ p:Pt,toD p.toU=some (i7 p)
 | .hole c=>by simp [Pt.toU,toD,dO,i7]
 | .any=>by simp [Pt.toU,toD,dO,i7]
 | .fr l h=>by simp [Pt.toU,toD,dO,i7]
 | .turn a=>by simp [Pt.toU,toD,dO,i7,yJ a]
 | .two o a b=>by simp [Pt.toU,toD,dO,i7,yJ a,yJ b]
theorem AD:∀ p:Pt,p.ok->(i7 p).canLay0=true
 | .hole c,h=>by
  have h':PyData.strOk c=true:=h
  simp only [i7,PyData.canLay0,PyData.canLayAll0,h'];decide +kernel
 | .any,_=>by decide +kernel
 | .fr l h,_=>by simp only [i7,PyData.canLay0,PyData.canLayAll0];decide +kernel
 | .turn a,h=>by simp only [i7,PyData.canLay0,PyData.canLayAll0,AD a h];decide +kernel
 | .two o a b,h=>by
  have:PyData.strOk o.word=true:=by cases o <;> decide +kernel
  simp only [i7,PyData.canLay0,PyData.canLayAll0,AD a h.1,AD b h.2,this];decide +kernel
noncomputable def nV:Tr->PyData
 | .num n=>.tuple [.str "num",.int n]
 | .name x=>.tuple [.str "name",.str x]
 | .turn a=>.tuple [.str "turn",nV a]
 | .two o a b=>.tuple [.str o.word,nV a,nV b]
theorem Hf:∀ p:Tr,toD p.toU=some (nV p)
 | .num c=>by simp [Tr.toU,toD,dO,nV]
 | .name c=>by simp [Tr.toU,toD,dO,nV]
 | .turn a=>by simp [Tr.toU,toD,dO,nV,Hf a]
 | .two o a b=>by simp [Tr.toU,toD,dO,nV,Hf a,Hf b]
theorem Lp:∀ p:Tr,p.ok->(nV p).canLay0=true
 | .num c,h=>by simp only [nV,PyData.canLay0,PyData.canLayAll0];decide +kernel
 | .name c,h=>by
  have h':PyData.strOk c=true:=h.1
  simp only [nV,PyData.canLay0,PyData.canLayAll0,h'];decide +kernel
 | .turn a,h=>by simp only [nV,PyData.canLay0,PyData.canLayAll0,Lp a h];decide +kernel
 | .two o a b,h=>by
  have:PyData.strOk o.word=true:=by cases o <;> decide +kernel
  simp only [nV,PyData.canLay0,PyData.canLayAll0,Lp a h.1,Lp b h.2,this];decide +kernel
noncomputable def Ud (p:Pt):U:=.tup [p.toU,.int (p.dep:Nat)]
noncomputable def zP:List Pt->Nat
 | []=>0
 | p :: r=>p.holes + zP r
theorem Mo:∀ l r:List Pt,zP (l++r)=zP l + zP r
 | [],_=>by simp [zP]
 | t :: l,r=>by simp [zP,Mo l r];omega
theorem Np {α:Type} (m:List α):m=[]\/(∃ t,m=[t])\/∃ r s t,m=r++[s,t]:=by
 have key:∀ l:List α,l.reverse=[]\/(∃ t,l.reverse=[t])\/∃ r s t,l.reverse=r++[s,t]:=by
  intro l
  cases l with
  | nil=>exact .inl rfl
  | cons a l=>cases l with
   | nil=>exact .inr (.inl ⟨a,rfl⟩)
   | cons b l=>exact .inr (.inr ⟨l.reverse,b,a,by simp⟩)
 have:=key m.reverse
 rw [List.reverse_reverse] at this
 exact this
noncomputable def Up (n:Int):Op:=if n % 3=0 then .sum else if n % 3=1 then .less else .by_
noncomputable def fA (p:List Nat):U:=.tup (p.map fun (n:Nat)=>.int (n:Int))
noncomputable def fN (x:List Nat × Pt):U:=.tup [fA x.1,x.2.toU]
noncomputable def sR:Pt->List Nat->List (List Nat × Pt)
 | .turn a,pl=>sR a (pl++[0])
 | .two _ a b,pl=>sR a (pl++[0])++sR b (pl++[1])
 | p,pl=>[(pl,p)]
theorem tJ:∀ (p:Pt) (pl:List Nat),(sR p pl).map (·.2)=p.ends
 | .turn a,pl=>by simp only [sR,Pt.ends,tJ a]
 | .two _ a b,pl=>by simp only [sR,Pt.ends,List.map_append,tJ a,tJ b]
 | .hole _,pl=>rfl
 | .any,pl=>rfl
 | .fr _ _,pl=>rfl
noncomputable def Hq:Pt->Tr->List U
 | .any,.name x=>[.str x]
 | .fr _ _,.num n=>[.int n]
 | .turn p,.turn a=>Hq p a
 | .two _ p q,.two _ a b=>Hq p a++Hq q b
 | _,_=>[]
noncomputable def aT:eD:=fun x y M Q=>match x,y with
 | .bl i,.bl j=>Q (.bl (decide (i=j))) M
 | _,_=>False
noncomputable def Pt.parts:Pt->List Pt
 | .turn a=>[a]
 | .two _ a b=>[a,b]
 | _=>[]
noncomputable def cS:Pt->List Nat->List (List Nat × Pt)
 | .turn a,pl=>(pl,.turn a) :: cS a (pl++[0])
 | .two o a b,pl=>(pl,.two o a b) :: (cS a (pl++[0])++cS b (pl++[1]))
 | p,pl=>[(pl,p)]
noncomputable def Pt.places:Pt->List (List Nat)
 | .turn a=>[] :: a.places.map (0 :: ·)
 | .two _ a b=>[] :: (a.places.map (0 :: ·)++b.places.map (1 :: ·))
 | _=>[[]]
theorem lU:∀ (p:Pt) (pl:List Nat),(cS p pl).map (·.1)=p.places.map (pl++·)
 | .turn a,pl=>by simp [cS,Pt.places,lU a]
 | .two o a b,pl=>by
  simp only [cS,Pt.places,List.map_cons,List.map_append,lU a,lU b,List.map_map,List.append_nil]
  simp [Function.comp_def]
 | .hole _,pl=>by simp [cS,Pt.places]
 | .any,pl=>by simp [cS,Pt.places]
 | .fr _ _,pl=>by simp [cS,Pt.places]
theorem uJ:∀ (p:Pt) (pl:List Nat),(cS p pl).filter (fun e=>e.2.leafy)=sR p pl
 | .turn a,pl=>by rw [cS,List.filter_cons_of_neg (by simp [Pt.leafy]),uJ a];rfl
 | .two o a b,pl=>by rw [cS,List.filter_cons_of_neg (by simp [Pt.leafy]),List.filter_append,uJ a,uJ b];rfl
 | .hole _,pl=>rfl
 | .any,pl=>rfl
 | .fr _ _,pl=>rfl
theorem places_len:∀ p:Pt,p.places.length < 2 ^ p.dep
 | .turn a=>by have:=places_len a;simp only [Pt.places,Pt.dep,List.length_cons,List.length_map,Nat.pow_succ];omega
 | .two _ a b=>by
  have h1:=places_len a
  have h2:=places_len b
  have h3:2 ^ a.dep<=2 ^ max a.dep b.dep:=Nat.pow_le_pow_right (by decide) (Nat.le_max_left _ _)
  have h4:2 ^ b.dep<=2 ^ max a.dep b.dep:=Nat.pow_le_pow_right (by decide) (Nat.le_max_right _ _)
  simp only [Pt.places,Pt.dep,Nat.pow_succ,List.length_cons,List.length_append,List.length_map];omega
 | .hole _=>by simp [Pt.places,Pt.dep]
 | .any=>by simp [Pt.places,Pt.dep]
 | .fr _ _=>by simp [Pt.places,Pt.dep]
theorem oF:∀ (p:Pt) (pl:List Nat),pl∈p.places->pl.length < p.dep
 | .turn a,pl,h=>by
  simp only [Pt.places,List.mem_cons,List.mem_map] at h
  rcases h with rfl | ⟨q,hq,rfl⟩
  ·simp [Pt.dep]
  ·have:=oF a q hq;simp only [Pt.dep,List.length_cons];omega
 | .two o a b,pl,h=>by
  simp only [Pt.places,List.mem_cons,List.mem_append,List.mem_map] at h
  rcases h with rfl | ⟨q,hq,rfl⟩ | ⟨q,hq,rfl⟩
  ·simp [Pt.dep]
  ·have:=oF a q hq;simp only [Pt.dep,List.length_cons];omega
  ·have:=oF b q hq;simp only [Pt.dep,List.length_cons];omega
 | .hole _,pl,h=>by simp [Pt.places] at h;subst h;simp [Pt.dep]
 | .any,pl,h=>by simp [Pt.places] at h;subst h;simp [Pt.dep]
 | .fr _ _,pl,h=>by simp [Pt.places] at h;subst h;simp [Pt.dep]
noncomputable def p7 (n:Nat):bN:=fun us M Q=>∃ p:Pt,us=[p.toU]/\p.dep<=n/\n<=10/\Q (.lst (p.places.map fA)) M
theorem Qv:(cB cL (Str.ofString "at")).isSome=false:=by decide +kernel
theorem G8:(cB cL (Str.ofString "any")).isSome=false:=by decide +kernel
theorem DM:(cB cL (Str.ofString "from")).isSome=false:=by decide +kernel
theorem Bf (p:Pt):∃ z r,p.toU=.tup (.str z :: r)/\(cB cL z).isSome=!p.leafy/\(p.leafy=false->r=p.parts.map Pt.toU)/\r.length<=3:=by
 cases p with
 | hole c=>exact ⟨_,_,rfl,Qv,(fun h=>by cases h),by simp⟩
 | any=>exact ⟨_,_,rfl,G8,(fun h=>by cases h),by simp⟩
 | fr l h=>exact ⟨_,_,rfl,DM,(fun h=>by cases h),by simp⟩
 | turn a=>exact ⟨_,_,rfl,sA,fun _=>rfl,by simp⟩
 | two o a b=>exact ⟨_,_,rfl,rW o,fun _=>rfl,by simp⟩
theorem Gr {p:Pt} (h:p.leafy=true):p.parts=[]:=by cases p <;> first | rfl | cases h
noncomputable def eY:Nat->List Pt->List (List Nat)
 | _,[]=>[]
 | k,a :: r=>a.places.map (k :: ·)++eY (k + 1) r
theorem places_eq (p:Pt):p.places=[] :: eY 0 p.parts:=by cases p <;> simp [Pt.places,Pt.parts,eY]
theorem HQ (l:List Pt) (a:Pt):∀ k,eY k (l++[a])=eY k l++a.places.map ((k + l.length) :: ·):=by
 induction l with
 | nil=>intro k;simp [eY]
 | cons b l ih=>intro k;simp only [List.cons_append,eY,ih,List.length_cons,List.append_assoc];rw [show k + 1 + l.length=k + (l.length + 1) by omega]
theorem LK (p:Pt) (i:Nat):(eY 0 (p.parts.take i)).length + 1<=p.places.length:=by
 have:∀ (l:List Pt) (k j:Nat),(eY k (l.take j)).length<=(eY k l).length:=by
  intro l
  induction l with
  | nil=>intro k j;simp [eY]
  | cons a l ih =>
   intro k j
   cases j with
   | zero=>simp [eY]
   | succ j=>simp only [List.take_succ_cons,eY,List.length_append];have:=ih (k + 1) j;omega
 have h1:=this p.parts 0 i
 rw [places_eq p,List.length_cons]
 omega
theorem Mk {p a:Pt} {i:Nat} (h:p.parts[i]?=some a):a.dep < p.dep:=by
 have hm:=List.mem_of_getElem? h
 cases p with
 | turn b =>
  have:a=b:=by simpa [Pt.parts] using hm
  subst this;simp only [Pt.dep];omega
 | two o b c =>
  have:a=b\/a=c:=by simpa [Pt.parts] using hm
  simp only [Pt.dep]
  rcases this with rfl | rfl <;> omega
 | _=>cases hm
noncomputable def i5:U->Nat->Option U
 | .tup (.str z :: r),k=>if (cB cL z).isSome then (if r.length<=1000 then r[k]? else none) else none
 | _,_=>none
noncomputable def o9:U->List Nat->Option U
 | u,[]=>some u
 | u,k :: pl=>(i5 u k).bind fun v=>o9 v pl
theorem Ll {h w:U} {k:Nat} (e:i5 h k=some w):∃ z r,h=.tup (.str z :: r)/\(cB cL z).isSome=true/\r.length<=1000/\r[k]?=some w:=by
 match h,e with
 | .tup (.str z :: r),e =>
  simp only [i5] at e
  split at e
  ·rename_i h1
   split at e
   ·rename_i h2
    exact ⟨z,r,rfl,h1,h2,e⟩
   ·cases e
  ·cases e
 | .tup [],e=>cases e
 | .tup (.non :: _),e=>cases e
 | .tup (.bl _ :: _),e=>cases e
 | .tup (.int _ :: _),e=>cases e
 | .tup (.ty _ :: _),e=>cases e
 | .tup (.ref _ :: _),e=>cases e
 | .tup (.tup _ :: _),e=>cases e
 | .tup (.lst _ :: _),e=>cases e
 | .non,e=>cases e
 | .bl _,e=>cases e
 | .int _,e=>cases e
 | .str _,e=>cases e
 | .ty _,e=>cases e
 | .ref _,e=>cases e
 | .lst _,e=>cases e
theorem CM:∀ (l:List Nat) (u:U) (k:Nat),o9 u (l++[k])=(o9 u l).bind fun v=>i5 v k
 | [],u,k=>by simp only [List.nil_append,o9,Option.bind_some];cases i5 u k <;> rfl
 | j :: l,u,k=>by
  simp only [List.cons_append,o9]
  cases i5 u j with
  | none=>rfl
  | some v=>exact CM l v k
theorem DD:∀ (l r:List Nat) (u:U),o9 u l=none->o9 u (l++r)=none
 | [],r,u,z=>by cases z
 | j :: l,r,u,z=>by
  simp only [List.cons_append,o9] at z ⊢
  cases hj:i5 u j with
  | none=>rfl
  | some v=>rw [hj] at z;exact DD l r v z
noncomputable def M8:bN:=fun us M Q=>∃ (u v:U) (pl:List Nat),us=[u,fA pl]/\o9 u pl=some v/\Q v M
theorem OM (a:U):i5 (.tup [.str (Str.ofString "turn"),a]) 0=some a:=by
 simp only [i5];rw [if_pos sA,if_pos (by simp)];rfl
theorem OK (o:Op) (a b:U):i5 (.tup [.str o.word,a,b]) 0=some a:=by
 simp only [i5];rw [if_pos (rW o),if_pos (by simp)];rfl
theorem Oj (o:Op) (a b:U):i5 (.tup [.str o.word,a,b]) 1=some b:=by
 simp only [i5];rw [if_pos (rW o),if_pos (by simp)];rfl
theorem vX:∀ (p:Pt) (pre:List Nat) (e:List Nat × Pt),e∈cS p pre->∃ s,e.1=pre++s/\o9 p.toU s=some e.2.toU
 | .turn a,pre,e,h=>by
  simp only [cS] at h
  rcases List.mem_cons.mp h with rfl | h
  ·exact ⟨[],by simp,rfl⟩
  ·obtain ⟨s,h1,h2⟩:=vX a _ e h
   refine ⟨0 :: s,by rw [h1];simp,?_⟩
   simp only [o9,Pt.toU,OM,Option.bind_some,h2]
 | .two o a b,pre,e,h=>by
  simp only [cS] at h
  rcases List.mem_cons.mp h with rfl | h
  ·exact ⟨[],by simp,rfl⟩
  ·rcases List.mem_append.mp h with h | h
   ·obtain ⟨s,h1,h2⟩:=vX a _ e h
    refine ⟨0 :: s,by rw [h1];simp,?_⟩
    simp only [o9,Pt.toU,OK,Option.bind_some,h2]
   ·obtain ⟨s,h1,h2⟩:=vX b _ e h
    refine ⟨1 :: s,by rw [h1];simp,?_⟩
    simp only [o9,Pt.toU,Oj,Option.bind_some,h2]
 | .hole _,pre,e,h=>by cases List.mem_singleton.mp h;exact ⟨[],by simp,rfl⟩
 | .any,pre,e,h=>by cases List.mem_singleton.mp h;exact ⟨[],by simp,rfl⟩
 | .fr _ _,pre,e,h=>by cases List.mem_singleton.mp h;exact ⟨[],by simp,rfl⟩
noncomputable def zC (e:List Nat × Pt):Bool:=decide (e.2.holes=0)
noncomputable def fU:U->Option U
 | .tup [a,.tup (.str z :: r)]=>if (!decide (z=Str.ofString "at")) && !(cB cL z).isSome then some (.tup [a,.tup (.str z :: r)]) else none
 | _=>none
theorem TB (e:List Nat × Pt):fU (fN e)=if e.2.leafy && zC e then some (fN e) else none:=by
 obtain ⟨pl,q⟩:=e
 have e1:decide (Str.ofString "at"=Str.ofString "at")=true:=by simp
 cases q with
 | hole c=>simp only [fN,Pt.toU,fU,e1,Pt.leafy,zC,Pt.holes];rfl
 | any=>simp only [fN,Pt.toU,fU,nD,m8,m9,nN,m6,nF,mY,G8,Pt.leafy,zC,Pt.holes];rfl
 | fr l h=>simp only [fN,Pt.toU,fU,nD,m8,m9,nN,m6,nF,mY,DM,Pt.leafy,zC,Pt.holes];rfl
 | turn a=>simp only [fN,Pt.toU,fU,nD,m8,m9,nN,m6,nF,mY,sA,Pt.leafy];rfl
 | two o a b=>simp only [fN,Pt.toU,fU,nD,m8,m9,nN,m6,nF,mY,rW,Pt.leafy];rfl
noncomputable def pO (l:List Nat):Str:=⟨l.toArray⟩
theorem v7 (a b:List Nat):pO a++pO b=pO (a++b):=by
 show (⟨a.toArray++b.toArray⟩:Str)=⟨(a++b).toArray⟩
 simp
theorem vF (c:Nat):(⟨#[c]⟩:Str)=pO [c]:=rfl
theorem rV (l:List Nat):(pO l).length=l.length:=by show l.toArray.size=_;simp
theorem Fh {a b:List Nat} (h:pO a=pO b):a=b:=by
 have h1:a.toArray=b.toArray:=congrArg Str.cps h
 simpa using h1
theorem AO:Str.ofString ""=pO []:=by decide +kernel
theorem Qn (a:List Nat):decide (pO a=Str.ofString "")=a.isEmpty:=by
 rw [AO]
 cases a with
 | nil=>simp
 | cons c r=>exact decide_eq_false fun h=>by cases Fh h
noncomputable def j8 (m:Int):Nat:=97 + (m % 26).toNat
theorem FA (m:Int):eP MD.cps.toList (m % 26)=some (j8 m):=by
 have e:MD.cps.toList=(List.range 26).map (97 + ·):=by decide +kernel
 have h0:=Int.emod_nonneg m (show (26:Int)≠0 by decide)
 have h1:=Int.emod_lt_of_pos m (show (0:Int) < 26 by decide)
 have q:=mL (xs:=MD.cps.toList) (j:=(m % 26).toNat) (v:=j8 m) (by
  rw [e,List.getElem?_map,List.getElem?_range (by omega)];rfl)
 rw [Int.toNat_of_nonneg h0] at q
 exact q
noncomputable def iI:Nat->Int->List Nat
 | 0,_=>[]
 | k + 1,n=>if 0 < n then j8 (n - 1) :: iI k ((n - 1) / 26) else []
noncomputable def vN (n:Int):List Nat:=j8 n :: iI 7 (n / 26)
noncomputable def hC (n:Int):Str:=pO (vN n)
theorem Bd:∀ (k:Nat) (n:Int),(iI k n).length<=k
 | 0,_=>by simp [iI]
 | k + 1,n=>by
  have:=Bd k ((n - 1) / 26)
  simp only [iI]
  split
  ·simp only [List.length_cons];omega
  ·simp
theorem FI (m:Int):97<=j8 m/\j8 m<=122:=by
 have h0:=Int.emod_nonneg m (show (26:Int)≠0 by decide)
 have h1:=Int.emod_lt_of_pos m (show (0:Int) < 26 by decide)
 unfold j8;omega
theorem AL:∀ (k:Nat) (n:Int),∀ c∈iI k n,97<=c/\c<=122
 | 0,_,c,h=>by cases h
 | k + 1,n,c,h=>by
  simp only [iI] at h
  split at h
  ·rcases List.mem_cons.mp h with rfl | h
   ·exact FI _
   ·exact AL k _ c h
  ·cases h
theorem A0 (n:Int):∀ c∈vN n,97<=c/\c<=122:=fun c h=>by
 rcases List.mem_cons.mp h with rfl | h
 ·exact FI _
 ·exact AL _ _ c h
theorem uO (n:Int):1<=(hC n).length/\(hC n).length<=8:=by
 have:=Bd 7 (n / 26)
 rw [hC,rV,vN,List.length_cons];omega
theorem D7 (n:Int):PyData.strOk (hC n)=true:=by
 unfold PyData.strOk hC pO
 rw [<- Array.all_toList,List.all_eq_true]
 intro c hc
 have:=A0 n c (by simpa using hc)
 simp;omega
theorem DJ {a b:Int} (h:j8 a=j8 b):a % 26=b % 26:=by
 have h0:=Int.emod_nonneg a (show (26:Int)≠0 by decide)
 have h1:=Int.emod_nonneg b (show (26:Int)≠0 by decide)
 unfold j8 at h;omega
theorem Ge {a b:Int} (h0:0<=a) (h1:a < b) (h2:b < a + 600):hC a≠hC b:=fun h=>by
 have h3:=Fh h
 simp only [vN,List.cons.injEq] at h3
 obtain ⟨h4,h5⟩:=h3
 have h6:=DJ h4
 have h7:0 < b / 26:=by omega
 have e1:iI 7 (b / 26)=j8 (b / 26 - 1) :: iI 6 ((b / 26 - 1) / 26):=by
  show (if 0 < b / 26 then _ else _)=_
  rw [if_pos h7]
 rw [e1] at h5
 by_cases h8:0 < a / 26
 ·have e2:iI 7 (a / 26)=j8 (a / 26 - 1) :: iI 6 ((a / 26 - 1) / 26):=by
   show (if 0 < a / 26 then _ else _)=_
   rw [if_pos h8]
  rw [e2] at h5
  simp only [List.cons.injEq] at h5
  have:=DJ h5.1
  omega
 ·have e2:iI 7 (a / 26)=[]:=by
   show (if 0 < a / 26 then _ else _)=_
   rw [if_neg h8]
  rw [e2] at h5
  cases h5
theorem SY (f:Nat->Str):∀ (j:Nat) (s:List Str),(∀ i k,i < k->k < j->f i≠f k)->(∀ i,i < j->f i∈s)->j<=s.length
 | 0,s,_,_=>Nat.zero_le _
 | j + 1,s,hi,hm=>by
  have h1:=hm j (by omega)
  have h2:=SY f j (s.erase (f j)) (fun i k a b=>hi i k a (by omega)) (fun i hij=>(List.mem_erase_of_ne (hi i j hij (by omega))).mpr (hm i (by omega)))
  rw [List.length_erase_of_mem h1] at h2
  have:=List.length_pos_of_mem h1
  omega
noncomputable def C1:bN:=fun us M Q=>∃ n:Int,us=[.int n]/\Q (.str (hC n)) M
theorem GY (F:cF K "_law_name_of" "_law_name_of" gK f fd) (hm:mg "_law_name_of"=some (.ref f)) (aW:mg "len"=none):Callee P w K mg base 1 "_law_name_of" C1 []:=by
 refine bD F hm iR (lO fun _ _ _ _ _ _ _=>rfl) (aD (aJ 1 iR.nd bZ)
 (aD (iD (gW.pt (kJ (bO m5 (b8 cO aW (aA (uv 1) aB)) aH) (nQ (gW.pt (iH (bO cI (uv 1) bZ) (gZ (bO qO (uv 0) aH)))))))
 (aD (bK (bO rA (uv 1) bZ)
 (aF (aJ 0 iR.nd (yY (uv 0) aH)))
 bB)
 (aD (aJ 1 iR.nd (aO (own:=false) (uv 1) (aL bZ (eE (uv 0) aH))))
 (aF (aJ 0 iR.nd (eM (uv 0) aH))))))
 (aF (aQ (uv 1))))) ?_
 rintro us M Q ⟨n,rfl,q⟩
 refine ⟨rfl,?_⟩
 have hL2:MD.length<=sizeLine:=by decide +kernel
 have sm:∀ A:List Nat,A.length < 8->(pO A).length + (⟨#[0]⟩:Str).length<=sizeLine:=fun A h=>small (by rw [rV];show A.length + 1<=_;omega)
 dsimp! only [aT]
 refine i8 (fun τ Mi=>∃ (A:List Nat) (m:Int),τ=[some (.int m),some (.str (pO A))]/\Mi=M/\A.length<=8/\(A=[]->m=n)/\(A≠[]->A++iI (8 - A.length) m=vN n))
  (fun τ _=>match τ with | [_,some (.str z)]=>8 - z.length | _=>0) ⟨[],n,by rw [AO],rfl,by decide,fun _=>rfl,fun z=>absurd rfl z⟩ ?_
 rintro τ Mi ⟨A,m,rfl,rfl,hA,h1,h2⟩
 have fin:A≠[]->(A.length=8\/¬ 0 < m)->i4 Q (.str (pO A)) Mi:=fun hne hh=>by
  have:=h2 hne
  have e:iI (8 - A.length) m=[]:=by
   rcases hh with hh | hh
   ·rw [hh];rfl
   ·cases hk:8 - A.length with
    | zero=>rfl
    | succ k=>show (if 0 < m then _ else _)=_;rw [if_neg hh]
  rw [e,List.append_nil] at this
  rw [this]
  exact aI q
 dsimp! only [rV,Qn,aT]
 cases A with
 | nil =>
  have hm':=h1 rfl
  subst hm'
  dsimp! only [List.isEmpty_nil,aT]
  refine ⟨by decide,hL2,_,FA m,sm [] (by decide),⟨by decide,by decide⟩,⟨[j8 m],m / 26,by rw [vF,v7];rfl,by simp,(fun z=>by cases z),fun _=>rfl⟩,?_⟩
  simp [rV,vF,v7]
 | cons c r =>
  dsimp! only [List.isEmpty_cons,aT]
  have e1:=h2 (by simp)
  refine ⟨small (by simp only [List.length_cons] at hA;omega),?_⟩
  refine fM (fun g1=>fM (fun g2=>?_) (fun g2=>?_)) (fun g1=>?_)
  ·have g1':=of_decide_eq_true g1
   have g2':=of_decide_eq_true g2
   have hlt:(c :: r).length < 8:=by simp only [List.length_cons];omega
   refine ⟨by decide,hL2,_,FA (m - 1),sm (c :: r) hlt,⟨by decide,by decide⟩,⟨c :: r++[j8 (m - 1)],(m - 1) / 26,by rw [vF,v7],by simp only [List.length_append,List.length_cons,List.length_nil] at hlt ⊢;omega,(fun z=>by simp at z),fun _=>?_⟩,?_⟩
   ·rw [<- e1]
    have e2:8 - (c :: r).length=(8 - (c :: r++[j8 (m - 1)]).length) + 1:=by simp only [List.length_append,List.length_cons,List.length_nil] at hlt ⊢;omega
    rw [e2]
    have e3:iI (8 - (c :: r++[j8 (m - 1)]).length + 1) m=j8 (m - 1) :: iI (8 - (c :: r++[j8 (m - 1)]).length) ((m - 1) / 26):=by
     show (if 0 < m then _ else _)=_
     rw [if_pos (by omega)]
    rw [e3]
    simp
   ·rw [vF,v7]
    simp only [rV,List.length_append,List.length_cons,List.length_nil] at hlt ⊢;omega
  ·exact fin (by simp) (.inr fun z=>g2 (decide_eq_true (by omega)))
  ·refine fin (by simp) (.inl ?_)
   have:¬ (((c :: r).length:Nat):Int) < 8:=fun z=>g1 (decide_eq_true (by simpa using z))
   omega
noncomputable def Df:bN:=fun us M Q=>∃ c:Int,us=[.int c]/\Builtin.Int.intBits c<=2 ^ 20/\∀ n:Int,0<=n->Q (.int n) M
theorem OS (F:cF K "_law_wide" "_law_wide" lE f fd) (hm:mg "_law_wide"=some (.ref f)):Callee P w K mg base 1 "_law_wide" Df []:=by
 refine bD F hm jY (lO fun _ _ _ _ _ _ _=>rfl) (aD (bK (bO Tj (uv 0) (lV aH aH))
 (aF (aQ (uv 0)))
 bB)
 (aD (aJ 1 jY.nd (eE (aO (own:=false) (aO (own:=false) (gR (own:=false) (uv 0) (uv 0)) (gR (own:=false) aH (uv 0))) aH) aH))
 (aD (aJ 2 jY.nd aH)
 (aD (oR (iT (dH (own:=false) (aA aH (aA aH (aA aH (aA aH (aA aH (aA aH (aA aH aB))))))))) (bQ (k:=1000) 3 jY.nd)
 (aD (aJ 1 jY.nd (eE (aO (own:=false) (aO (own:=false) (gR (own:=false) (uv 1) (uv 1)) (gR (own:=false) aH (uv 1))) aH) (uv 3)))
 (aF (aJ 2 jY.nd (aO (own:=false) (gR (own:=false) (uv 2) (lV aH aH)) (eM (uv 1) aH))))))
 (aF (aQ (uv 2))))))) ?_
 rintro us M Q ⟨c,rfl,hb,q⟩
 refine ⟨rfl,?_⟩
 have pw:xH 10 18:=⟨by decide,by decide,by decide⟩
 have pw9:xH 10 9:=⟨by decide,by decide,by decide⟩
 dsimp! only [aT]
 refine ⟨pw,fM (fun h=>?_) (fun h=>?_)⟩
 ·have h':(10:Int) ^ 18<=c:=of_decide_eq_true h
  exact aI (q c (by omega))
 ·have hb':Builtin.Int.intBits c<=60000000:=Nat.le_trans hb (by decide)
  refine ⟨.inr ⟨hb',hb'⟩,mulL (by decide) (by decide),by decide,?_⟩
  generalize hh:(c * c + 48271 * c + 12347) % 998244353=h0
  have a1:0<=h0:=by rw [<- hh];exact Int.emod_nonneg _ (by decide)
  have a2:h0 < 998244353:=by rw [<- hh];exact Int.emod_lt_of_pos _ (by decide)
  refine pQ (S:=⟨none,[.int 998244353,.int 1000000007,.int 2147483647,.int 1000000009,.int 469762049,.int 754974721,.int 167772161]⟩) (M1:=M) (fun R r=>⟨by decide,r⟩)
   (fun i τ Mi=>∃ (x y:Int) (a:Option U),τ=[some (.int c),some (.int x),some (.int y),a]/\Mi=M/\0<=x/\x < 2147483647/\0<=y) ⟨h0,0,none,rfl,rfl,a1,by omega,by decide⟩ nk ?_ ?_
  ·rintro i x τ Mi e ⟨x0,y0,a,rfl,rfl,b1,b2,b3⟩
   obtain ⟨n,rfl,n1,n2⟩:∃ n:Int,x=.int n/\0 < n/\n<=2147483647:=by
    have:=List.mem_of_getElem? e
    simp only [List.mem_cons,List.not_mem_nil,or_false] at this
    rcases this with rfl | rfl | rfl | rfl | rfl | rfl | rfl <;> exact ⟨_,rfl,by decide,by decide⟩
   dsimp! only [aT]
   generalize hz:(x0 * x0 + 69621 * x0 + 40692) % n=z0
   have c1:0<=z0:=by rw [<- hz];exact Int.emod_nonneg _ (by omega)
   have c2:z0 < n:=by rw [<- hz];exact Int.emod_lt_of_pos _ n1
   refine ⟨mulL (by omega) (by omega),mulL (by decide) (by decide),n1,pw9,mulR (by decide) (by decide),⟨by decide,by decide⟩,z0,_,_,rfl,c1,by omega,?_⟩
   have d1:0<=z0 / 8:=Int.ediv_nonneg c1 (by decide)
   have d2:0<=y0 * 10 ^ 9:=Int.mul_nonneg b3 (by decide)
   exact Int.add_nonneg d2 d1
  ·rintro τ Mi ⟨x0,y0,a,rfl,rfl,b1,b2,b3⟩
   dsimp! only [aT]
   exact aI (q y0 b3)
theorem NS (ss:List Str) (z:Str):((ss.map U.str).any fun u=>E8 u (.str z))=decide (z∈ss):=by
 induction ss with
 | nil=>rfl
 | cons a r ih =>
  rw [List.map_cons,List.any_cons,ih]
  have:E8 (.str a) (.str z)=decide (z=a):=by
   show (a == z)=_
   by_cases h:z=a
   ·subst h;simp
   ·have k:¬ a=z:=fun k=>h k.symm
    simp [h,k]
  rw [this]
  by_cases h:z=a
  ·subst h;simp
  ·simp [h]
theorem Kd (ss:List Str):(ss.map U.str).all oG=true:=by
 induction ss with
 | nil=>rfl
 | cons a r ih=>rw [List.map_cons,List.all_cons,ih];rfl
noncomputable def Aw:bN:=fun us M Q=>∃ (n:Int) (p:U) (ss:List Str),us=[.int n,p]/\0<=n/\items M p=some (ss.map .str)/\ss.length<=100/\∀ m:Int,0<=m->hC m ∉ ss->Q (.str (hC m)) M
theorem LO (F:cF K "_law_fresh" "_law_fresh" jU f fd) (hm:mg "_law_fresh"=some (.ref f)) (tZ:Callee P w K mg base 1 "_law_name_of" C1 []):Callee P w K mg base 2 "_law_fresh" Aw []:=by
 refine bD F hm nI (nM fun _ _ _ _ _ _ _ _=>rfl) (aD (aJ 2 nI.nd (dH (own:=false) (aA aH (aA aH (aA aH (aA aH (aA aH (aA aH (aA aH (aA aH aB))))))))))
 (aD (aJ 0 nI.nd (eE (eM (uv 0) aH) (aL (uv 2) (eE (uv 0) aH))))
 (aD (iD (bO Ta (aR tZ (aA (uv 0) aB)) (uv 1))
 (aF (aJ 0 nI.nd (aO (own:=false) (uv 0) aH))))
 (aF (aQ (aR tZ (aA (uv 0) aB))))))) ?_
 rintro us M Q ⟨n,p,ss,rfl,hn,hM,hl,q⟩
 refine ⟨rfl,?_⟩
 obtain ⟨s,hs,s1⟩:∃ s:Int,eP [U.int 26,U.int 702,U.int 18278,U.int 475254,U.int 12356630,U.int 321272406,U.int 8353082582,U.int 217180147158] (n % 8)=some (.int s)/\0 < s:=by
  have e:n % 8=0\/n % 8=1\/n % 8=2\/n % 8=3\/n % 8=4\/n % 8=5\/n % 8=6\/n % 8=7:=by omega
  rcases e with e | e | e | e | e | e | e | e <;> rw [e] <;> exact ⟨_,rfl,by decide⟩
 simp! only [hs,i9,kZ,nW,bP,aU,aV,fD,lL,bW,bM,qU,bU,hName,gH,lM,rB,j9,aT]
 generalize hm0:n / 8 % s=m0
 have g0:0<=m0:=by rw [<- hm0];exact Int.emod_nonneg _ (by omega)
 refine ⟨⟨by decide,by decide⟩,by decide,s1,?_⟩
 refine i8 (fun τ Mi=>∃ (j:Nat) (z:Option U),τ=[some (.int (m0 + j)),some p,z]/\Mi=M/\j<=100/\∀ i:Nat,i < j->hC (m0 + i)∈ss)
  (fun τ _=>match τ with | some (.int m) :: _=>(m0 + 200 - m).toNat | _=>0) ⟨0,_,by rw [show (m0 + ((0:Nat):Int))=m0 by omega],rfl,by decide,fun i h=>by omega⟩ ?_
 rintro τ Mi ⟨j,z,rfl,rfl,hj,hin⟩
 have fl:∀ z:Str,oG (.str z)=true:=fun _=>rfl
 simp! only [i9,kZ,nW,bP,aU,aV,fD,lL,bW,bM,qU,bU,hName,gH,lM,rB,j9,aT]
 refine ⟨_,rfl,?_⟩
 simp! only [hM,fl,Kd,NS,i9,kZ,nW,bP,aU,aV,fD,lL,bW,bM,qU,bU,hName,gH,lM,rB,j9,aT]
 refine fM (fun h=>?_) (fun h=>?_)
 ·have hi:=of_decide_eq_true h
  have hall:∀ i:Nat,i < j + 1->hC (m0 + i)∈ss:=fun i hij=>by
   by_cases e:i=j
   ·subst e;exact hi
   ·exact hin i (by omega)
  have hp:=SY (fun i=>hC (m0 + i)) (j + 1) ss (fun i k a b=>Ge (by omega) (by omega) (by omega)) hall
  refine ⟨⟨j + 1,z,by rw [Int.natCast_add,Int.add_assoc];rfl,by omega,hall⟩,?_⟩
  show (m0 + 200 - (m0 + (j:Int) + 1)).toNat < (m0 + 200 - (m0 + (j:Int))).toNat
  omega
 ·exact ⟨_,rfl,aI (q _ (by omega) fun z=>h (decide_eq_true z))⟩
noncomputable def qZ (cs:List Str):Prop:=cs≠[]/\cs.length<=6/\(∀ c∈cs,PyData.strOk c=true/\c.length<=8)
theorem Hz {c:Nat} (h1:97<=c) (h2:c<=122):isLetter c=true:=by
 have:∀ k:Fin 26,isLetter (97 + k.val)=true:=by decide +kernel
 have:=this ⟨c - 97,by omega⟩
 rwa [show 97 + (c - 97)=c by omega] at this
theorem D0 (n:Int):isName (.str (hC n))=true:=by
 have h:=uO n
 simp only [isName,Bool.and_eq_true,decide_eq_true_eq]
 refine ⟨⟨h.1,h.2⟩,List.all_eq_true.mpr fun c hc=>?_⟩
 have hc':c∈vN n:=by simpa [hC,pO] using hc
 obtain ⟨a,b⟩:=A0 n c hc'
 exact Hz a b
structure lJ (cs:List Str):Prop where
 ok:qZ cs
 nd:cs.Nodup
 nm:∀ c∈cs,isName (.str c)=true
noncomputable def AI:bN:=fun us M Q=>∃ c:Int,us=[.int c]/\Builtin.Int.intBits c<=2 ^ 20/\∀ cs:List Str,lJ cs->Q (eK cs) M
theorem HK (F:cF K "_law_classes" "_law_classes" gT f fd) (hm:mg "_law_classes"=some (.ref f)) (zQ:mg "range"=none) (bI:mg "tuple"=none) (tN:Callee P w K mg base 1 "_law_wide" Df []) (rK:Callee P w K mg base 2 "_law_fresh" Aw []):Callee P w K mg base 3 "_law_classes" AI []:=by
 refine bD F hm dR (lO fun _ _ _ _ _ _ _=>rfl) (aD (aJ 1 dR.nd (aR tN (aA (uv 0) aB)))
 (aD (aJ 2 dR.nd (aO (own:=false) aH (eE (uv 1) aH)))
 (aD (aJ 1 dR.nd (eM (uv 1) aH))
 (aD (aJ 3 dR.nd (dH (own:=true) aB))
 (aD (oR (NZ zQ (aA (uv 2) aB)) (bQ (k:=1000) 4 dR.nd)
 (aD (aJ 5 dR.nd (aR rK (aA (eE (uv 1) (gR (own:=false) aH (lV aH aH))) (aA (uv 3) aB))))
 (aD (cZ (eG (uv 3) (aA (uv 5) aB)))
 (aF (aJ 1 dR.nd (eM (uv 1) (gR (own:=false) aH (lV aH aH))))))))
 (aF (aQ (oX vH bI (aA (uv 3) aB))))))))) ?_
 rintro us M Q ⟨c,rfl,hb,q⟩
 refine ⟨rfl,?_⟩
 have pw:xH 10 12:=⟨by decide,by decide,by decide⟩
 dsimp! only [aT]
 refine ⟨c,rfl,hb,fun n hn=>?_⟩
 dsimp! only [aT]
 obtain ⟨k,hk⟩:∃ k:Nat,n % 6=(k:Int):=⟨_,(Int.toNat_of_nonneg (Int.emod_nonneg _ (by decide))).symm⟩
 have hk6:=Int.emod_lt_of_pos n (show (0:Int) < 6 by decide)
 refine ⟨by decide,⟨by decide,by decide⟩,fun p hp=>?_⟩
 refine pQ (S:=⟨none,hZ 0 (k + 1)⟩) (M1:=mup M p (.lst [])) (fun R r=>?_)
  (fun i τ Mi=>∃ (cs:List Str) (m:Int) (a b:Option U),τ=[some (.int c),some (.int m),some (.int (1 + n % 6)),some (.ref p),a,b]/\Mi=mup M p (.lst (cs.map .str))/\cs.length=i/\0<=m/\(∀ c∈cs,PyData.strOk c=true/\c.length<=8)/\cs.Nodup/\∀ c∈cs,isName (.str c)=true) ⟨[],n / 6,none,none,rfl,rfl,rfl,Int.ediv_nonneg hn (by decide),(fun c h=>by cases h),List.nodup_nil,fun c h=>by cases h⟩ nk ?_ ?_
 ·dsimp! only [aT]
  refine ⟨by omega,by omega,?_⟩
  rw [show (1 + n % 6:Int).toNat=k + 1 by omega]
  exact r
 ·rintro i x τ Mi e ⟨cs,m,a,b,rfl,rfl,hl,h0,hcs,hnd,hnm⟩
  obtain ⟨rfl,hi⟩:=Gu e
  dsimp! only [aT]
  refine ⟨pw,mulL (by decide) (by decide),by decide,_,.ref p,cs,rfl,Int.emod_nonneg _ (by decide),(by simp only [items,bC]),by omega,fun m' hm' hnot=>?_⟩
  dsimp! only [aT]
  refine ⟨cD,big (by simp;omega),pw,mulL (by decide) (by decide),⟨by decide,by decide⟩,cs++[hC m'],_,_,_,rfl,by simp,by simp;omega,Int.ediv_nonneg h0 (by decide),fun c hc=>?_,List.nodup_append.mpr ⟨hnd,by simp,fun x hx y hy e=>?_⟩,fun c hc=>?_⟩
  ·rcases List.mem_append.mp hc with hc | hc
   ·exact hcs c hc
   ·cases List.mem_singleton.mp hc
    exact ⟨D7 m',(uO m').2⟩
  ·cases List.mem_singleton.mp hy;subst e;exact hnot hx
  ·rcases List.mem_append.mp hc with hc | hc
   ·exact hnm c hc
   ·cases List.mem_singleton.mp hc
    exact D0 m'
 ·rintro τ Mi ⟨cs,m,a,b,rfl,rfl,hl,h0,hcs,hnd,hnm⟩
  have hl2:(Src.mk none (hZ 0 (k + 1))).xs.length=k + 1:=Hr _ _
  rw [hl2] at hl
  dsimp! only [aT]
  exact ⟨_,M,(Sub.refl M).mup hp,.inl rfl,q cs ⟨⟨(fun z=>by rw [z] at hl;cases hl),by omega,hcs⟩,hnd,hnm⟩⟩
noncomputable def Pt.size:Pt->Nat
 | .turn a=>a.size + 1
 | .two _ a b=>a.size + b.size + 1
 | _=>1
noncomputable def Op.mid:Op->Str
 | .sum=>" + " | .less=>" - " | .by_=>" * "
noncomputable def Pt.text:Pt->Str
 | .hole c=>Str.ofString "@"++c
 | .any=>"?"
 | .fr l h=>Str.ofString (toString l)++Str.ofString ".."++Str.ofString (toString h)
 | .turn a=>Str.ofString "(- "++a.text++Str.ofString ")"
 | .two o a b=>Str.ofString "("++a.text++o.mid++b.text++Str.ofString ")"
noncomputable def Pt.sm (cs:List Str):Pt->Prop
 | .hole c=>c.length<=8/\c∈cs
 | .any=>True
 | .fr _ h=>h<=10 ^ 18
 | .turn a=>a.sm cs
 | .two _ a b=>a.sm cs/\b.sm cs
theorem jZ {n:Int} (h0:0<=n) (h1:n<=10 ^ 18):(Str.ofString (toString n)).length<=20:=by
 have h2:n.natAbs < 10 ^ 19:=by
  have:(10:Nat) ^ 19=10000000000000000000:=by decide
  rw [this];omega
 have h:=PySem.int_text_length_le10 (a:=n) (k:=19) (by decide) h2
 rw [PySem.ofString_length];exact h
theorem oO {n:Int} (h0:0<=n) (h1:n<=10 ^ 18):n.natAbs.log2 < 1920:=by
 have h2:n.natAbs < 2 ^ 64:=by
  have:(2:Nat) ^ 64=18446744073709551616:=by decide
  rw [this];omega
 by_cases h:n.natAbs=0
 ·rw [h];decide
 ·have:=(Nat.log2_lt h).mpr h2
  omega
theorem C6:(Str.ofString "@").length=1:=by decide +kernel
theorem SM:(Str.ofString "?").length=1:=by decide +kernel
theorem vB:(Str.ofString "..").length=2:=by decide +kernel
theorem qQ:(Str.ofString "(- ").length=3:=by decide +kernel
theorem kA:(Str.ofString "(").length=1:=by decide +kernel
theorem sW:(Str.ofString ")").length=1:=by decide +kernel
theorem MQ (o:Op):o.mid.length=3:=by cases o <;> decide +kernel
theorem text_len {cs:List Str}:∀ {p:Pt},p.ok->p.sm cs->p.text.length<=50 * p.size
 | .hole c,h,k=>by
  have k':c.length<=8:=k.1
  simp only [Pt.text,Pt.size,len_app,C6];omega
 | .any,h,k=>by simp only [Pt.text,Pt.size];rw [SM];omega
 | .fr l u,h,k=>by
  have h1:0<=l:=h.1
  have h2:l<=u:=h.2
  have h3:u<=10 ^ 18:=k
  have:=jZ h1 (by omega)
  have:=jZ (show 0<=u by omega) h3
  simp only [Pt.text,Pt.size,len_app,vB];omega
 | .turn a,h,k=>by
  have:=text_len (p:=a) h k
  simp only [Pt.text,Pt.size,len_app,qQ,sW];omega
 | .two o a b,h,k=>by
  have h1:=text_len h.1 k.1
  have h2:=text_len h.2 k.2
  simp only [Pt.text,Pt.size,len_app,kA,sW,MQ];omega
noncomputable def eO (p:Pt):U:=.tup [p.toU,.int (p.size:Nat),.int (p.dep:Nat),.int (p.holes:Nat),.str p.text]
theorem Ct {ss:List Str} {i:Int} {s:Str} (hat:eP ss i=some s):eP (ss.map U.str) i=some (.str s):=by
 unfold eP at hat ⊢
 rw [List.length_map]
 cases e:qW ss.length i with
 | none=>rw [e] at hat;cases hat
 | some j =>
  rw [e] at hat
  have hat':ss[j]?=some s:=hat
  show (ss.map U.str)[j]?=_
  rw [List.getElem?_map,hat'];rfl
noncomputable def Ft:bN:=fun us M Q=>∃ (n code:Int) (cs:List Str),us=[.int n,.int code,eK cs]/\0<=n/\qZ cs/\∀ (p:Pt) (n':Int),p.ok->p.sm cs->p.leafy=true->0<=n'->Q (.tup [p.toU,.str p.text,.int n']) M
theorem LV (F:cF K "_law_leaf" "_law_leaf" kR f fd) (hm:mg "_law_leaf"=some (.ref f)) (aW:mg "len"=none) (cP:mg "str"=none):Callee P w K mg base 1 "_law_leaf" Ft []:=by
 refine bD F hm dG (JC fun _ _ _ _ _ _ _ _ _=>rfl) (aD (bK (bO cI (uv 1) aH)
 (aF (aQ (bG (aA (bG (aA bZ aB)) (aA bZ (aA (uv 0) aB))))))
 bB)
 (aD (bK (bO rA (uv 1) aH)
 (aD (aJ 3 dG.nd (aL (uv 2) (eE (uv 0) (b8 cO aW (aA (uv 2) aB)))))
 (aF (aQ (bG (aA (bG (aA bZ (aA (uv 3) aB))) (aA (aO (own:=false) bZ (uv 3)) (aA (eM (uv 0) (b8 cO aW (aA (uv 2) aB))) aB)))))))
 bB)
 (aD (aJ 4 dG.nd (eE (uv 0) aH))
 (aD (aJ 0 dG.nd (eM (uv 0) aH))
 (aD (aJ 5 dG.nd (eE (uv 0) aH))
 (aD (aJ 6 dG.nd (aO (own:=false) (uv 5) (gR (own:=false) (eE (eM (uv 0) aH) aH) (uv 4))))
 (aD (aJ 7 dG.nd (eM (uv 0) aH))
 (aD (bK (bO cI (uv 4) aH)
 (aD (aJ 5 dG.nd (eE (uv 0) (aO (own:=false) (lV aH aH) aH)))
 (aD (aJ 0 dG.nd (eM (uv 0) (aO (own:=false) (lV aH aH) aH)))
 (aD (aJ 6 dG.nd (aO (own:=false) (uv 5) (eE (uv 0) (yY (aO (own:=false) (lV aH aH) aH) (uv 5)))))
 (aF (aJ 7 dG.nd (eM (uv 0) (yY (aO (own:=false) (lV aH aH) aH) (uv 5))))))))
 bB)
 (aF (aQ (bG (aA (bG (aA bZ (aA (uv 5) (aA (uv 6) aB)))) (aA (aO (own:=false) (aO (own:=false) (oX vI cP (aA (uv 5) aB)) bZ) (oX vI cP (aA (uv 6) aB))) (aA (uv 7) aB)))))))))))))) ?_
 rintro us M Q ⟨n,code,cs,rfl,hn,⟨hne,hle,hcs⟩,q⟩
 refine ⟨rfl,?_⟩
 have pw:xH 10 18:=⟨by decide,by decide,by decide⟩
 have hl:0 < (cs.length:Int):=by have:=List.length_pos_iff.mpr hne;omega
 have fr:∀ l h x:Int,0<=l->l<=h->h<=10 ^ 18->0<=x->oD (fun i=>i.natAbs.log2 < 1920) (fun i=>.str (toString i)) [.int l] M fun x1 M1=>oU false x1 (.str (Str.ofString "..")) M1 fun x2 M2=>oD (fun i=>i.natAbs.log2 < 1920) (fun i=>.str (toString i)) [.int h] M2 fun x3 M3=>oU false x2 x3 M3 fun x4 M4=>[U.tup [.str (Str.ofString "from"),.int l,.int h],x4,.int x].length<=sizeLine/\i4 Q (.tup [.tup [.str (Str.ofString "from"),.int l,.int h],x4,.int x]) M4:=fun l h x g1 g2 g3 g4=>by
  have e1:=jZ g1 (by omega)
  have e2:=jZ (show 0<=h by omega) g3
  dsimp! only [aT]
  refine ⟨oO g1 (by omega),small (by rw [vB];omega),oO (by omega) g3,small (by rw [len_app,vB];omega),aI (q (.fr l h) x ⟨g1,g2⟩ g3 rfl g4)⟩
 have t18:Int.toNat 18=18:=rfl
 dsimp! only [eK,List.length_map,t18,aT] at fr ⊢
 refine fM (fun _=>?_) (fun _=>fM (fun _=>?_) (fun _=>?_))
 ·exact aI (q .any n trivial trivial rfl hn)
 ·obtain ⟨s,hat⟩:=DL cs (n % (cs.length:Int)) (Int.emod_nonneg _ (by omega)) (Int.emod_lt_of_pos _ hl)
  have hs:=hcs s (rS hat)
  refine ⟨hl,_,Ct hat,small (by rw [C6];omega),⟨hl,by omega⟩,aI (q (.hole s) _ hs.1 ⟨hs.2,rS hat⟩ rfl (Int.ediv_nonneg hn (by omega)))⟩
 ·have n1:0<=n / 5:=Int.ediv_nonneg hn (by decide)
  generalize n / 5=m at n1
  have w1:=Int.emod_nonneg n (show (5:Int)≠0 by decide)
  have w2:=Int.emod_lt_of_pos n (show (0:Int) < 5 by decide)
  generalize n % 5=way at w1 w2
  have x1:=Int.emod_nonneg m (show (12:Int)≠0 by decide)
  have x2:=Int.emod_lt_of_pos m (show (0:Int) < 12 by decide)
  have y1:=Int.emod_nonneg (m / 12) (show (40:Int)≠0 by decide)
  have y2:=Int.emod_lt_of_pos (m / 12) (show (0:Int) < 40 by decide)
  have z1:0<=m / 12 % 40 * way:=Int.mul_nonneg y1 w1
  have z2:m / 12 % 40 * way<=40 * 5:=Int.mul_le_mul (by omega) (by omega) w1 (by decide)
  refine ⟨by decide,⟨by decide,by decide⟩,by decide,⟨by decide,by decide⟩,by decide,mulL (by omega) (by omega),⟨by decide,by decide⟩,fM (fun _=>?_) (fun _=>?_)⟩
  ·have u1:=Int.emod_nonneg m (show (10 ^ 18 + 1:Int)≠0 by decide)
   have u2:=Int.emod_lt_of_pos m (show (0:Int) < 10 ^ 18 + 1 by decide)
   have v0:0<=m / (10 ^ 18 + 1):=Int.ediv_nonneg n1 (by decide)
   generalize m % (10 ^ 18 + 1)=lo at u1 u2
   generalize m / (10 ^ 18 + 1)=r at v0
   have d0:(0:Int) < 10 ^ 18 + 1 - lo:=by omega
   have v1:=Int.emod_nonneg r (show (10 ^ 18 + 1 - lo:Int)≠0 by omega)
   have v2:=Int.emod_lt_of_pos r d0
   have v3:0<=r / (10 ^ 18 + 1 - lo):=Int.ediv_nonneg v0 (by omega)
   refine ⟨pw,by decide,pw,⟨by decide,by decide⟩,pw,d0,pw,⟨d0,?_⟩,?_⟩
   ·show (10 ^ 18 + 1 - lo:Int) < 2 ^ 64;omega
   ·exact fr lo (lo + r % (10 ^ 18 + 1 - lo)) _ u1 (by omega) (by omega) v3
  ·exact fr (m % 12) (m % 12 + m / 12 % 40 * way) (m / 480) x1 (by omega) (by omega) (Int.ediv_nonneg n1 (by decide))
noncomputable def Ku:bN:=fun us M Q=>∃ p q:Pt,us=[eO p,eO q]/\∀ b:Bool,(b=true->p.size + q.size<=8/\max p.dep q.dep<=4/\p.holes + q.holes<=4)->Q (.bl b) M
theorem A7 {α:Type} {a b c d e:α} {r:List α}:eP (a :: b :: c :: d :: e :: r) 4=some e:=mL (j:=4) rfl
theorem NP (F:cF K "_law_fits" "_law_fits" lF f fd) (hm:mg "_law_fits"=some (.ref f)) (vZ:mg "max"=none):Callee P w K mg base 1 "_law_fits" Ku []:=by
 refine bD F hm EB (nM fun _ _ _ _ _ _ _ _=>rfl) (aD (bK (gW.pt (iH (bO qO (aO (own:=false) (aL (uv 0) aH) (aL (uv 1) aH)) aH) (gZ (bO qO (b8 IK vZ (aA (aL (uv 0) aH) (aA (aL (uv 1) aH) aB))) aH))))
 (aF (aQ nO))
 bB)
 (aF (aQ (j7 mC (aO (own:=false) (aL (uv 0) aH) (aL (uv 1) aH)) aH)))) ?_
 rintro us M Q ⟨p,q',rfl,q⟩
 refine ⟨rfl,?_⟩
 dsimp! only [eO,aT]
 refine fM (fun _=>?_) (fun h1=>fM (fun _=>?_) (fun h2=>?_))
 ·exact aI (q false (fun z=>by cases z))
 ·exact aI (q false (fun z=>by cases z))
 ·refine aI (q _ (fun z=>?_))
  have e1:¬ ((p.size:Int) + (q'.size:Int) > 8):=fun k=>h1 (decide_eq_true k)
  have e2:¬ ((if (q'.dep:Int) > (p.dep:Int) then (q'.dep:Int) else (p.dep:Int)) > 4):=fun k=>h2 (decide_eq_true k)
  have e3:=of_decide_eq_true z
  split at e2 <;> omega
noncomputable def C9:bN:=fun us M Q=>∃ (p q:Pt) (k:Int),us=[eO p,eO q,.int k]/\0<=k/\k<=2/\p.text.length<=1000/\q.text.length<=1000/\∀ o:Op,Q (eO (.two o p q)) M
theorem w9 (a b:Nat):(if (b:Int) > (a:Int) then (b:Int) else (a:Int)) + 1=((max a b + 1:Nat):Int):=by split <;> omega
theorem JI (F:cF K "_law_paired" "_law_paired" iL f fd) (hm:mg "_law_paired"=some (.ref f)) (vZ:mg "max"=none):Callee P w K mg base 1 "_law_paired" C9 []:=by
 refine bD F hm oZ (JC fun _ _ _ _ _ _ _ _ _=>rfl) (aD (aJ 3 oZ.nd (aO (own:=false) (aO (own:=false) (aO (own:=false) (aO (own:=false) bZ (aL (uv 0) aH)) (aL (dH (own:=false) (aA bZ (aA bZ (aA bZ aB)))) (uv 2))) (aL (uv 1) aH)) bZ))
 (aD (aJ 4 oZ.nd (bG (aA (aL (dH (own:=false) (aA bZ (aA bZ (aA bZ aB)))) (uv 2)) (aA (aL (uv 0) aH) (aA (aL (uv 1) aH) aB)))))
 (aF (aQ (bG (aA (uv 4) (aA (aO (own:=false) (aO (own:=false) (aL (uv 0) aH) (aL (uv 1) aH)) aH) (aA (aO (own:=false) (b8 IK vZ (aA (aL (uv 0) aH) (aA (aL (uv 1) aH) aB))) aH) (aA (aO (own:=false) (aL (uv 0) aH) (aL (uv 1) aH)) (aA (uv 3) aB)))))))))) ?_
 rintro us M Q ⟨p,q',k,rfl,k0,k2,lp,lq,q⟩
 refine ⟨rfl,?_⟩
 have e:k=0\/k=1\/k=2:=by omega
 have m1:(Str.ofString " + ").length=3:=by decide +kernel
 have m2:(Str.ofString " - ").length=3:=by decide +kernel
 have m3:(Str.ofString " * ").length=3:=by decide +kernel
 have hsz:(p.size:Int) + (q'.size:Int) + 1=((p.size + q'.size + 1:Nat):Int):=by omega
 have hho:(p.holes:Int) + (q'.holes:Int)=((p.holes + q'.holes:Nat):Int):=by omega
 rcases e with rfl | rfl | rfl
 ·have:=q .sum
  dsimp! only [eO,A7,w9,hsz,hho,aT]
  exact ⟨small (by rw [kA];omega),small (by rw [len_app,kA,m1];omega),small (by simp only [len_app,kA,m1];omega),small (by simp only [len_app,kA,sW,m1];omega),aI this⟩
 ·have:=q .less
  dsimp! only [eO,A7,w9,hsz,hho,aT]
  exact ⟨small (by rw [kA];omega),small (by rw [len_app,kA,m2];omega),small (by simp only [len_app,kA,m2];omega),small (by simp only [len_app,kA,sW,m2];omega),aI this⟩
 ·have:=q .by_
  dsimp! only [eO,A7,w9,hsz,hho,aT]
  exact ⟨small (by rw [kA];omega),small (by rw [len_app,kA,m3];omega),small (by simp only [len_app,kA,m3];omega),small (by simp only [len_app,kA,sW,m3];omega),aI this⟩
structure oM (cs:List Str) (p:Pt):Prop where
 ok:p.ok
 sm:p.sm cs
 dep:p.dep<=5
 hol:p.holes<=4
 siz:p.size<=9
theorem oM.len {cs:List Str} {p:Pt} (h:oM cs p):p.text.length<=450:=by have:=text_len h.ok h.sm;have:=h.siz;omega
theorem mE {cs:List Str} {p:Pt} (h1:p.ok) (h2:p.sm cs) (h3:p.leafy=true):oM cs p:=by
 cases p with
 | turn a=>cases h3
 | two o a b=>cases h3
 | hole c=>exact ⟨h1,h2,by simp [Pt.dep],by simp [Pt.holes],by simp [Pt.size]⟩
 | any=>exact ⟨h1,h2,by decide,by simp [Pt.holes],by simp [Pt.size]⟩
 | fr l h=>exact ⟨h1,h2,by simp [Pt.dep],by simp [Pt.holes],by simp [Pt.size]⟩
theorem FE {cs:List Str} {p q:Pt} (o:Op) (h1:oM cs p) (h2:oM cs q) (h:p.size + q.size<=8/\max p.dep q.dep<=4/\p.holes + q.holes<=4):oM cs (.two o p q) :=
 ⟨⟨h1.ok,h2.ok⟩,⟨h1.sm,h2.sm⟩,by simp only [Pt.dep];omega,by simp only [Pt.holes];omega,by simp only [Pt.size];omega⟩
theorem CG {cs:List Str} {p:Pt} (h1:oM cs p) (h2:p.size < 9) (h3:p.dep < 5):oM cs (.turn p) :=
 ⟨h1.ok,h1.sm,by simp only [Pt.dep];omega,h1.hol,by simp only [Pt.size];omega⟩
theorem sM {p:Pt} (h:p.leafy=true):∃ z r,p.toU=.tup (.str z :: r)/\eO p=.tup [p.toU,.int 1,.int 1,.int (if decide (z=Str.ofString "at")=true then 1 else 0),.str p.text]:=by
 cases p with
 | hole c=>exact ⟨_,_,rfl,by simp [eO,Pt.size,Pt.dep,Pt.holes]⟩
 | any=>exact ⟨_,_,rfl,by simp [eO,Pt.size,Pt.dep,Pt.holes,nD,m8,m9,nN,m6,nF,mY]⟩
 | fr l h=>exact ⟨_,_,rfl,by simp [eO,Pt.size,Pt.dep,Pt.holes,nD,m8,m9,nN,m6,nF,mY]⟩
 | turn a=>cases h
 | two o a b=>cases h
noncomputable def Ni:bN:=fun us M Q=>∃ (n:Int) (cs:List Str),us=[.int n,eK cs]/\0<=n/\qZ cs/\∀ p:Pt,oM cs p->Q (eO p) M
theorem wH {c:UT} {tb:US} {D:mZ} {τ:SU} {M:aG} (P:SU->aG->Prop) (μ:SU->aG->Nat) (h0:P τ M) (fin:∀ τ M,P τ M->D.nx τ M)
  (turn:(∀ τ M,P τ M->D.nx τ M)->∀ τ M,P τ M->c τ M fun b M1=>if b=true then tb { D with nx:=fun τ' M'=>P τ' M'/\μ τ' M' < μ τ M,ct:=fun τ' M'=>P τ' M'/\μ τ' M' < μ τ M,bk:=D.nx } τ M1 else D.nx τ M1):y6 c tb D τ M:=i8 P μ h0 (turn fin)
theorem jR {M:aG} {p:Pt}:view M (eO p)=.tup [p.toU,.int (p.size:Nat),.int (p.dep:Nat),.int (p.holes:Nat),.str p.text]:=rfl
noncomputable def Hs (p:Addr) (M:aG):Nat:=match M p with
 | some (.lst us)=>us.length
 | _=>0
theorem AW {p:Addr} {M:aG} {us:List U}:Hs p (mup M p (.lst us))=us.length:=by simp only [Hs,bC]
theorem Qd (F:cF K "_law_pattern" "_law_pattern" gQ f fd) (hm:mg "_law_pattern"=some (.ref f)) (aW:mg "len"=none) (lY:mg "int"=none) (yG:Callee P w K mg base 1 "_law_fits" Ku []) (uU:Callee P w K mg base 1 "_law_paired" C9 []) (Gq:Callee P w K mg base 1 "_law_leaf" Ft []):Callee P w K mg base 2 "_law_pattern" Ni []:=by
  refine bD F hm bT (nM fun _ _ _ _ _ _ _ _=>rfl) (aD (aJ 2 bT.nd (dH (own:=true) aB))
  (aD (aJ 3 bT.nd aH)
  (aD (iD (gW.pt (kJ (bO qO (uv 0) aH) (nQ (bO m5 (uv 3) aH))))
  (aD (aJ 4 bT.nd (eE (uv 0) aH))
  (aD (aJ 0 bT.nd (eM (uv 0) aH))
  (aD (aJ 3 bT.nd (aO (own:=false) (uv 3) aH))
  (aF (bK (gW.pt (kJ (bO cI (uv 4) aH) (kJ (bO qO (b8 cO aW (aA (uv 2) aB)) aH) (kJ (bO m5 (aL (aL (uv 2) (uA aH)) aH) aH) (nQ (bO m5 (aL (aL (uv 2) (uA aH)) aH) aH))))))
  (aD (aJ 5 bT.nd (oK (uv 2)))
  (aF (cZ (eG (uv 2) (aA (bG (aA (bG (aA bZ (aA (aL (uv 5) aH) aB))) (aA (aO (own:=false) (aL (uv 5) aH) aH) (aA (aO (own:=false) (aL (uv 5) aH) aH) (aA (aL (uv 5) aH) (aA (aO (own:=false) (aO (own:=false) bZ (aL (uv 5) aH)) bZ) aB)))))) aB)))))
  (aF (bK (gW.pt (kJ (zD mC mC aH (uv 4) aH) (kJ (bO qO (b8 cO aW (aA (uv 2) aB)) aH) (nQ (cM (aR yG (aA (aL (uv 2) (uA aH)) (aA (aL (uv 2) (uA aH)) aB))))))))
  (aD (aJ 6 bT.nd (oK (uv 2)))
  (aD (aJ 7 bT.nd (oK (uv 2)))
  (aF (cZ (eG (uv 2) (aA (aR uU (aA (uv 7) (aA (uv 6) (aA (yY (uv 4) aH) aB)))) aB))))))
  (aD (DC (aR Gq (aA (uv 0) (aA (uv 4) (aA (uv 1) aB)))) (oS (n:=3) (cH (bQ (k:=1000) 8 bT.nd) (cH (bQ (k:=1000) 9 bT.nd) (cH (bQ (k:=1000) 0 bT.nd) mI)))))
  (aF (cZ (eG (uv 2) (aA (bG (aA (uv 8) (aA aH (aA aH (aA (oX MI lY (aA (j7 cI (aL (uv 8) aH) bZ) aB)) (aA (uv 9) aB)))))) aB)))))))))))))
  (aD (iD (bO qO (b8 cO aW (aA (uv 2) aB)) aH)
  (aD (aJ 6 bT.nd (oK (uv 2)))
  (aD (bK (cM (aR yG (aA (aL (uv 2) (uA aH)) (aA (uv 6) aB))))
  (aD (aJ 7 bT.nd (oK (uv 2)))
  (aF (aJ 6 bT.nd (aR uU (aA (uv 7) (aA (uv 6) (aA (eE (aL (uv 7) aH) aH) aB)))))))
  (aF (cZ (oK (uv 2)))))
  (aF (cZ (eG (uv 2) (aA (uv 6) aB)))))))
  (aF (aQ (aL (aO (own:=false) (uv 2) (dH (own:=false) (aA (bG (aA (bG (aA bZ aB)) (aA aH (aA aH (aA aH (aA bZ aB)))))) aB))) aH))))))) ?_
  rintro us M Q ⟨n,cs,rfl,hn,hcs,q⟩
  refine ⟨rfl,?_⟩
  dsimp! only [aT]
  intro p hp
  refine wH (fun τ Mi=>∃ (st:List Pt) (m:Int) (many:Nat) (a b c d e g:Option U),τ=[some (.int m),some (eK cs),some (.ref p),some (.int (many:Int)),a,b,c,d,e,g]/\Mi=mup M p (.lst (st.map eO))/\0<=m/\(∀ q∈st,oM cs q)/\st.length<=many/\many<=9)
    (fun τ _=>match τ with | [_,_,_,some (.int m),_,_,_,_,_,_]=>(9 - m).toNat | _=>0) ⟨[],n,0,none,none,none,none,none,none,rfl,rfl,hn,(fun q h=>by cases h),by simp,by decide⟩ ?_ ?_
  · rintro τ Mi ⟨st,m,many,a,b,c,d,e,g,rfl,rfl,hm0,hok,hlen,hmany⟩
    refine wH (fun τ Mi=>∃ (st:List Pt) (v0 v3:U) (a b c d e g:Option U),τ=[some v0,some (eK cs),some (.ref p),some v3,a,b,c,d,e,g]/\Mi=mup M p (.lst (st.map eO))/\(∀ q∈st,oM cs q)/\st.length<=9)
      (fun _ M=>Hs p M) ⟨st,_,_,a,b,c,d,e,g,rfl,rfl,hok,by omega⟩ ?_ ?_
    · rintro τ Mi ⟨st,v0,v3,a,b,c,d,e,g,rfl,rfl,hok,hl9⟩
      have hany:oM cs .any:=mE trivial trivial rfl
      cases st with
      | nil =>
        dsimp! only [aT]
        exact ⟨_,M,(Sub.refl M).mup hp,.inl rfl,q .any hany⟩
      | cons t r =>
        dsimp! only [aT]
        refine ⟨small (by simp at hl9 ⊢;omega),?_⟩
        exact ⟨_,M,(Sub.refl M).mup hp,.inl rfl,q t (hok t List.mem_cons_self)⟩
    · rintro fx τ Mi ⟨st,v0,v3,a,b,c,d,e,g,rfl,rfl,hok,hl9⟩
      rcases Np st with rfl | ⟨t,rfl⟩ | ⟨r,s,t,rfl⟩
      · have:=fx _ _ ⟨_,v0,v3,a,b,c,d,e,g,rfl,rfl,hok,hl9⟩
        have hz:decide ((1:Int) < ((0:Nat):Int))=false:=by decide
        dsimp! only [hz,aT] at this ⊢
        exact this
      · have:=fx _ _ ⟨_,v0,v3,a,b,c,d,e,g,rfl,rfl,hok,hl9⟩
        have hz:decide ((1:Int) < ((1:Nat):Int))=false:=by decide
        dsimp! only [hz,aT] at this ⊢
        exact this
      · have gt:=hok t (by simp)
        have gs:=hok s (by simp)
        have gr:∀ q∈r,oM cs q:=fun q hq=>hok q (by simp [hq])
        have hr2:r.length + 2<=9:=by simpa using hl9
        have lt:=gt.len
        have ls:=gs.len
        have hgt:decide ((1:Int) < ((r.map eO++[eO s,eO t]).length:Int))=true:=decide_eq_true (by simp;omega)
        dsimp! only [List.map_append,hgt,aT]
        dsimp! only [IH,J2,KC,Mr,Dw,Dc,QG,aT]
        refine ⟨cD,s,t,rfl,fun bb hbb=>?_⟩
        cases bb with
        | false =>
          dsimp! only [Dw,Dc,aT]
          refine ⟨cD,cD,big (by simp;omega),⟨r++[t],v0,v3,a,b,_,d,e,g,rfl,by simp,?_,by simp;omega⟩,by simp [AW]⟩
          intro q hq
          rcases List.mem_append.mp hq with hq | hq
          · exact gr q hq
          · cases List.mem_singleton.mp hq;exact gt
        | true =>
          have hb:=hbb rfl
          dsimp! only [Dw,Dc,jR,aT]
          refine ⟨cD,by decide,s,t,_,rfl,by omega,by omega,by omega,by omega,fun o=>?_⟩
          dsimp! only [aT]
          refine ⟨cD,big (by simp;omega),⟨r++[.two o s t],v0,v3,a,b,_,_,e,g,rfl,by simp,?_,by simp;omega⟩,by simp [AW]⟩
          intro q hq
          rcases List.mem_append.mp hq with hq | hq
          · exact gr q hq
          · cases List.mem_singleton.mp hq;exact FE o gs gt hb
  · rintro fx τ Mi ⟨st,m,many,a,b,c,d,e,g,rfl,rfl,hm0,hok,hlen,hmany⟩
    have fin:=fx _ _ ⟨st,m,many,a,b,c,d,e,g,rfl,rfl,hm0,hok,hlen,hmany⟩
    simp! only [bP,items,aU,aV,j9,aT]
    refine fM (fun g1=>fM (fun g2=>?_) (fun g2=>fin)) (fun g1=>fin)
    have hmany':many < 9:=by have:=of_decide_eq_true g2;omega
    simp! only [fD,bU,hName,bP,items,aU,aV,j9,aT]
    refine ⟨by decide,⟨by decide,by decide⟩,?_⟩
    have c0:=Int.emod_nonneg m (show (8:Int)≠0 by decide)
    have c1:=Int.emod_lt_of_pos m (show (0:Int) < 8 by decide)
    have m0:0<=m / 8:=Int.ediv_nonneg hm0 (by decide)
    generalize m % 8=code at c0 c1
    generalize m / 8=m' at m0
    rcases Np st with rfl | ⟨t,rfl⟩ | ⟨r,s,t,rfl⟩
    · have z0:decide ((0:Int) < ((0:Nat):Int))=false:=by decide
      have z1:decide ((1:Int) < ((0:Nat):Int))=false:=by decide
      simp! only [lL,z0,z1,bP,items,aU,aV,j9,aT]
      repeat' (refine fM (fun _=>?_) (fun _=>?_))
      all_goals
        dsimp! only [aT]
        refine ⟨m',code,cs,rfl,m0,hcs,fun pt n' k1 k2 k3 k4=>?_⟩
        obtain ⟨z,rr,e1,e2⟩:=sM k3
        dsimp! only [e1,aT]
        refine ⟨cD,big (by simp;try omega),⟨([]:List Pt)++[pt],n',many + 1,_,_,_,_,_,_,rfl,by simp [e2,e1],k4,?_,by simp;try omega,by omega⟩,by omega⟩
        intro q hq
        rcases List.mem_append.mp hq with hq | hq
        · exact hok q hq
        · cases List.mem_singleton.mp hq;exact mE k1 k2 k3
    · have gt:=hok t List.mem_cons_self
      have lt:=gt.len
      have z0:decide ((0:Int) < ((1:Nat):Int))=true:=by decide
      have z1:decide ((1:Int) < ((1:Nat):Int))=false:=by decide
      simp! only [lL,z0,z1,Pr,jR,bP,items,aU,aV,j9,aT]
      repeat' (refine fM (fun _=>?_) (fun _=>?_))
      all_goals first
        | (have h1:t.size < 9:=by have:=of_decide_eq_true ‹decide ((t.size:Int) < 9)=true›;omega
           have h2:t.dep < 5:=by have:=of_decide_eq_true ‹decide ((t.dep:Int) < 5)=true›;omega
           dsimp! only [Te,Tv,jR,A7,aT]
           refine ⟨cD,cD,small (by rw [qQ];omega),small (by rw [len_app,qQ,sW];omega),by decide,⟨[.turn t],m',many + 1,_,_,_,_,_,_,rfl,rfl,m0,?_,by simp,by omega⟩,by omega⟩
           intro q hq
           cases List.mem_singleton.mp hq
           exact CG gt h1 h2)
        | (dsimp! only [aT]
           refine ⟨m',code,cs,rfl,m0,hcs,fun pt n' k1 k2 k3 k4=>?_⟩
           obtain ⟨z,rr,e1,e2⟩:=sM k3
           dsimp! only [e1,aT]
           refine ⟨cD,big (by simp;try omega),⟨[t]++[pt],n',many + 1,_,_,_,_,_,_,rfl,by simp [e2,e1],k4,?_,by simp;try omega,by omega⟩,by omega⟩
           intro q hq
           rcases List.mem_append.mp hq with hq | hq
           · exact hok q hq
           · cases List.mem_singleton.mp hq;exact mE k1 k2 k3)
    · have gt:=hok t (by simp)
      have gs:=hok s (by simp)
      have gr:∀ q∈r,oM cs q:=fun q hq=>hok q (by simp [hq])
      have hr2:r.length + 2<=many:=by simpa using hlen
      have lt:=gt.len
      have ls:=gs.len
      have z0:decide ((0:Int) < ((r.map eO++[eO s,eO t]).length:Int))=true:=decide_eq_true (by simp;omega)
      have z1:decide ((1:Int) < ((r.map eO++[eO s,eO t]).length:Int))=true:=decide_eq_true (by simp;omega)
      simp! only [lL,List.map_append,z0,z1,IH,J2,jR,bP,items,aU,aV,j9,aT]
      repeat' (refine fM (fun _=>?_) (fun _=>?_))
      all_goals first
        | (have h1:t.size < 9:=by have:=of_decide_eq_true ‹decide ((t.size:Int) < 9)=true›;omega
           have h2:t.dep < 5:=by have:=of_decide_eq_true ‹decide ((t.dep:Int) < 5)=true›;omega
           dsimp! only [KC,Mr,jR,A7,aT]
           refine ⟨cD,cD,small (by rw [qQ];omega),small (by rw [len_app,qQ,sW];omega),big (by simp;omega),⟨r++[s,.turn t],m',many + 1,_,_,_,_,_,_,rfl,by simp [eO,Pt.toU,Pt.size,Pt.dep,Pt.holes,Pt.text],m0,?_,by simp;omega,by omega⟩,by omega⟩
           intro q hq
           rcases List.mem_append.mp hq with hq | hq
           · exact gr q hq
           · simp only [List.mem_cons,List.not_mem_nil,or_false] at hq
             rcases hq with rfl | rfl
             · exact gs
             · exact CG gt h1 h2)
        | (refine ⟨s,t,rfl,fun bb hbb=>?_⟩
           cases bb with
           | false =>
             simp only [yS,Bool.false_eq_true,if_false]
             dsimp! only [aT]
             refine ⟨m',code,cs,rfl,m0,hcs,fun pt n' k1 k2 k3 k4=>?_⟩
             obtain ⟨z,rr,e1,e2⟩:=sM k3
             dsimp! only [e1,aT]
             refine ⟨cD,big (by simp;try omega),⟨(r++[s,t])++[pt],n',many + 1,_,_,_,_,_,_,rfl,by simp [e2,e1],k4,?_,by simp;try omega,by omega⟩,by omega⟩
             intro q hq
             rcases List.mem_append.mp hq with hq | hq
             · exact hok q hq
             · cases List.mem_singleton.mp hq;exact mE k1 k2 k3
           | true =>
             have hb:=hbb rfl
             have h4:=of_decide_eq_true ‹decide (4<=code)=true›
             have h6:=of_decide_eq_true ‹decide (code<=6)=true›
             dsimp! only [KC,Mr,Dw,Dc,aT]
             refine ⟨cD,cD,cD,s,t,_,rfl,by omega,by omega,by omega,by omega,fun o=>?_⟩
             simp only [bC,iO]
             refine ⟨big (by simp;omega),⟨r++[.two o s t],m',many + 1,_,_,_,_,_,_,rfl,by simp,m0,?_,by simp;omega,by omega⟩,by omega⟩
             intro q hq
             rcases List.mem_append.mp hq with hq | hq
             · exact gr q hq
             · cases List.mem_singleton.mp hq;exact FE o gs gt hb)
        | (dsimp! only [aT]
           refine ⟨m',code,cs,rfl,m0,hcs,fun pt n' k1 k2 k3 k4=>?_⟩
           obtain ⟨z,rr,e1,e2⟩:=sM k3
           dsimp! only [e1,aT]
           refine ⟨cD,big (by simp;try omega),⟨(r++[s,t])++[pt],n',many + 1,_,_,_,_,_,_,rfl,by simp [e2,e1],k4,?_,by simp;try omega,by omega⟩,by omega⟩
           intro q hq
           rcases List.mem_append.mp hq with hq | hq
           · exact hok q hq
           · cases List.mem_singleton.mp hq;exact mE k1 k2 k3)
theorem Ks (a b c:Str):a++b++c=a++(b++c):=by
 show (⟨(a.cps++b.cps)++c.cps⟩:Str)=⟨a.cps++(b.cps++c.cps)⟩
 rw [Array.append_assoc]
theorem join_eq (z:Str) (l:List Str):Txt.join z l=Str.join z l:=StrLaws.glued_eq_join z l
theorem Sr (z a b c d:Str):Txt.join z [a,b,c,d]=a++z++b++z++c++z++d:=by
 rw [join_eq]
 simp only [Str.join,Ks]
theorem J6 (B:Nat):∀ l:List Str,(∀ s∈l,s.length<=B)->(l.map (·.length)).sum<=B * l.length
 | [],_=>by simp
 | a :: r,h=>by
  have h1:=h a List.mem_cons_self
  have h2:=J6 B r fun s hs=>h s (List.mem_cons_of_mem _ hs)
  simp only [List.map_cons,List.sum_cons,List.length_cons,Nat.mul_succ];omega
theorem tB {B n:Nat} {z:Str} {l:List Str} (hz:z.length<=1) (h:∀ s∈l,s.length<=B) (hl:l.length<=n) (hB:B * n + n<=100000):(l.map (·.length)).sum + l.length * z.length<=16777216/\(Txt.join z l).length<=B * n + n:=by
 have h1:=J6 B l h
 have h2:B * l.length<=B * n:=Nat.mul_le_mul_left _ hl
 have h3:l.length * z.length<=l.length * 1:=Nat.mul_le_mul_left _ hz
 have h4:=StrLaws.join_length_le z l
 rw [join_eq]
 omega
theorem oQ (l:List Str):pE (l.map U.str)=some l:=by
 induction l with
 | nil=>rfl
 | cons a r ih=>simp only [List.map_cons,pE,ih];rfl
noncomputable def Ad:List (Str × Fl):=[("sum",.str " + "),("less",.str " - "),("by",.str " * ")]
theorem QV (z:Str):(Fl.str z).u=.str z:=rfl
theorem Rx (o:Op):cB Ad o.word=some (.str o.mid):=by cases o <;> rfl
structure Tl where
 name:Str
 cls:Str
 pt:Pt
 cost:Int
noncomputable def Tl.toU (t:Tl):U:=.tup [.str t.name,.str t.cls,t.pt.toU,.int t.cost]
noncomputable def Tl.row (t:Tl):Str:=t.name++Str.ofString " "++t.cls++Str.ofString " "++Str.ofString (toString t.cost)++Str.ofString " "++t.pt.text
structure Tl.ok (cs:List Str) (t:Tl):Prop where
 nm:t.name.length<=8
 cl:t.cls.length<=8
 pt:oM cs t.pt
 c0:0<=t.cost
 c1:t.cost<=1000
 nn:isName (.str t.name)=true
 ci:t.cls∈cs
 np:t.pt≠.hole t.cls
 no:PyData.strOk t.name=true
theorem iE:(Str.ofString " ").length=1:=by decide +kernel
theorem Ai {cs:List Str} {t:Tl} (h:t.ok cs):t.row.length<=600:=by
 have h1:=h.nm;have h2:=h.cl;have h3:=h.pt.len
 have h4:=jZ h.c0 (by have:=h.c1;omega)
 simp only [Tl.row,len_app,iE];omega
theorem DZ (t:Tl):Txt.join (Str.ofString " ") [t.name,t.cls,Str.ofString (toString t.cost),t.pt.text]=t.row:=Sr _ _ _ _ _
theorem Dx (w:Str):∀ l:List Str,w∈l->∃ j:Nat,l[j]?=some w/\∀ m z,m < j->l[m]?=some z->z≠w
 | [],h=>by cases h
 | a :: r,h=>by
  by_cases e:a=w
  ·subst e;exact ⟨0,rfl,fun m z hm=>by omega⟩
  ·have h':w∈r:=by
    rcases List.mem_cons.mp h with h | h
    ·exact absurd h.symm e
    ·exact h
   obtain ⟨j,h1,h2⟩:=Dx w r h'
   refine ⟨j + 1,by simpa using h1,fun m z hm hz=>?_⟩
   cases m with
   | zero=>cases hz;exact e
   | succ m=>exact h2 m z (by omega) (by simpa using hz)
theorem Lf {pt:Pt} {s:Str} {M:aG} {Q:UK} (h:pt.ok) (hd:pt.dep<=60) (hs:PyData.strOk s=true) (q:∀ b,(b=false->pt≠.hole s)->Q (.bl b) M):kE false pt.toU (.tup [.str (Str.ofString "at"),.str s]) M Q:=by
 obtain ⟨z,r,e,_⟩:=Bf pt
 have e1:toD pt.toU=some (i7 pt):=yJ pt
 have h1:pR M pt.toU=some (i7 pt):=by rw [<- e1,e];rfl
 have h2:pR M (.tup [.str (Str.ofString "at"),.str s])=some (i7 (.hole s)):=by rw [<- yJ (.hole s)];rfl
 have h3:(i7 (.hole s)).depth<=2:=by simp [i7,PyData.depth,PyData.depthAll]
 have h4:xC false pt.toU (.tup [.str (Str.ofString "at"),.str s]) M Q:=⟨_,_,h1,h2,AD pt h,AD (.hole s) hs,by omega,q _ fun hf z=>by subst z;rw [if_neg (by simp),SeqAt.eqv_refl _ (AD (.hole s) hs)] at hf;cases hf⟩
 rw [e] at h4 ⊢
 exact h4
noncomputable def IS:bN:=fun us M Q=>∃ (c:Int) (cs:List Str) (p:Addr) (ss:List Str),us=[.int c,eK cs,.ref p]/\Builtin.Int.intBits c<=2 ^ 20/\qZ cs/\M p=some (.lst (ss.map .str))/\ss.length<=100/\∀ t:Tl,t.ok cs->t.name ∉ ss->Q (.tup [t.toU,.str t.row]) M
theorem Pk (F:cF K "_law_tile" "_law_tile" lA f fd) (hm:mg "_law_tile"=some (.ref f)) (aW:mg "len"=none) (cP:mg "str"=none) (tN:Callee P w K mg base 1 "_law_wide" Df []) (rK:Callee P w K mg base 2 "_law_fresh" Aw []) (Bp:Callee P w K mg base 2 "_law_pattern" Ni []):Callee P w K mg base 3 "_law_tile" IS []:=by
 refine bD F hm cX (JC fun _ _ _ _ _ _ _ _ _=>rfl) (aD (aJ 3 cX.nd (aR tN (aA (uv 0) aB)))
 (aD (aJ 4 cX.nd (aR rK (aA (eE (uv 3) (gR (own:=false) aH (lV aH aH))) (aA (uv 2) aB))))
 (aD (aJ 3 cX.nd (eM (uv 3) (gR (own:=false) aH (lV aH aH))))
 (aD (aJ 5 cX.nd (aL (uv 1) (eE (uv 3) (b8 cO aW (aA (uv 1) aB)))))
 (aD (aJ 3 cX.nd (eM (uv 3) (b8 cO aW (aA (uv 1) aB))))
 (aD (aJ 6 cX.nd (eE (uv 3) aH))
 (aD (aJ 7 cX.nd (aR Bp (aA (eM (uv 3) aH) (aA (uv 1) aB))))
 (aD (bK (bO cI (aL (uv 7) aH) (bG (aA bZ (aA (uv 5) aB))))
 (aD (aJ 8 cX.nd (aL (uv 1) (eE (aO (own:=false) (JY (uv 1) (aA (uv 5) aB)) aH) (b8 cO aW (aA (uv 1) aB)))))
 (aD (aJ 7 cX.nd (bG (aA (bG (aA bZ (aA (uv 8) aB))) (aA aH (aA aH (aA aH (aA (aO (own:=false) bZ (uv 8)) aB)))))))
 (aF (bK (bO cI (uv 8) (uv 5))
 (aF (aJ 7 cX.nd (bG (aA (bG (aA bZ aB)) (aA aH (aA aH (aA aH (aA bZ aB))))))))
 bB))))
 bB)
 (aD (aJ 9 cX.nd (aO (own:=false) (aO (own:=false) (aO (own:=false) (aO (own:=false) (aO (own:=false) (aO (own:=false) (uv 4) bZ) (uv 5)) bZ) (oX vI cP (aA (uv 6) aB))) bZ) (aL (uv 7) aH)))
 (aF (aQ (bG (aA (bG (aA (uv 4) (aA (uv 5) (aA (aL (uv 7) aH) (aA (uv 6) aB))))) (aA (uv 9) aB)))))))))))))) ?_
 rintro us M Q ⟨c,cs,p,ss,rfl,hb,hcs,hM,hl,q⟩
 refine ⟨rfl,?_⟩
 obtain ⟨hne,hle,hcc⟩:=hcs
 have pw:xH 10 12:=⟨by decide,by decide,by decide⟩
 have hln:0 < (cs.length:Int):=by have:=List.length_pos_iff.mpr hne;omega
 have slen:((eK cs)=.tup (cs.map .str)):=rfl
 simp! only [fD,bU,hName,bP,items,aU,aV,j9,aT,dB,dA,bL,cE]
 refine ⟨c,rfl,hb,fun n hn=>?_⟩
 simp! only [fD,bU,hName,bP,items,aU,aV,j9,aT,dB,dA,bL,cE]
 refine ⟨pw,mulL (by decide) (by decide),by decide,_,.ref p,ss,rfl,Int.emod_nonneg _ (by decide),(by simp only [items,hM]),hl,fun m hm0 hnot=>?_⟩
 have nl:=uO m
 have nis:=D0 m
 have nok:=D7 m
 generalize hC m=nm at nl nis nok hnot
 simp! only [fD,bU,hName,eK,List.length_map,bP,items,aU,aV,j9,aT,dB,dA,bL,cE]
 have n1:0<=n / (8 * 10 ^ Int.toNat 12):=Int.ediv_nonneg hn (by decide)
 generalize n / (8 * 10 ^ Int.toNat 12)=m1 at n1
 obtain ⟨s,hat⟩:=DL cs (m1 % (cs.length:Int)) (Int.emod_nonneg _ (by omega)) (Int.emod_lt_of_pos _ hln)
 have hsm:=rS hat
 have hs:=hcc s hsm
 have m2:0<=m1 / (cs.length:Int):=Int.ediv_nonneg n1 (by omega)
 have c0:=Int.emod_nonneg (m1 / (cs.length:Int)) (show (1001:Int)≠0 by decide)
 have c1:=Int.emod_lt_of_pos (m1 / (cs.length:Int)) (show (0:Int) < 1001 by decide)
 refine ⟨pw,mulL (by decide) (by decide),⟨by decide,by decide⟩,hln,_,Ct hat,⟨hln,by omega⟩,by decide,⟨by decide,by decide⟩,_,cs,rfl,Int.ediv_nonneg m2 (by decide),⟨hne,hle,hcc⟩,fun pt hpt=>?_⟩
 generalize m1 / (cs.length:Int) % 1001=cost at c0 c1
 generalize m1 / (cs.length:Int)=m3 at m2
 simp! only [lL,jR,bP,items,aU,aV,j9,aT,dB,dA,bL,cE]
 refine Lf hpt.ok (by have:=hpt.dep;omega) hs.1 fun b hbf=>?_
 have e4:=jZ c0 (by omega)
 cases b with
 | false =>
  dsimp! only [jR,A7,aT,dB,dA,bL,cE]
  have e5:=hpt.len
  refine ⟨small (by rw [iE];omega),small (by rw [len_app,iE];omega),small (by simp only [len_app,iE];omega),oO c0 (by omega),small (by simp only [len_app,iE];omega),small (by simp only [len_app,iE];omega),small (by simp only [len_app,iE];omega),aI (q ⟨nm,s,pt,cost⟩ ⟨nl.2,hs.2,hpt,c0,(by show cost<=1000;omega),nis,hsm,hbf rfl,nok⟩ hnot)⟩
 | true =>
  obtain ⟨j,hj1,hj2⟩:=Dx s cs hsm
  obtain ⟨s2,hat2⟩:=DL cs (((j:Nat) + 1:Int) % (cs.length:Int)) (Int.emod_nonneg _ (by omega)) (Int.emod_lt_of_pos _ hln)
  have hs2:=hcc s2 (rS hat2)
  have f2:oM cs (.hole s2):=mE hs2.1 ⟨hs2.2,rS hat2⟩ rfl
  have f3:oM cs .any:=mE trivial trivial rfl
  simp! only [fD,bU,lL,hName,jR,List.length_map,bP,items,aU,aV,j9,aT,dB,dA,bL,cE]
  refine ⟨⟨_,rfl⟩,cs,j,oQ cs,hj1,hj2,hln,_,Ct hat2,small (by rw [C6];omega),fM (fun _=>?_) (fun hne2=>?_)⟩
  ·dsimp! only [jR,A7,aT,dB,dA,bL,cE]
   have e5:=f3.len
   refine ⟨small (by rw [iE];omega),small (by rw [len_app,iE];omega),small (by simp only [len_app,iE];omega),oO c0 (by omega),small (by simp only [len_app,iE];omega),small (by simp only [len_app,iE];omega),small (by simp only [len_app,iE,SM];omega),aI (q ⟨nm,s,.any,cost⟩ ⟨nl.2,hs.2,f3,c0,(by show cost<=1000;omega),nis,hsm,(fun z=>nomatch z),nok⟩ hnot)⟩
  ·dsimp! only [jR,A7,aT,dB,dA,bL,cE]
   refine ⟨small (by rw [iE];omega),small (by rw [len_app,iE];omega),small (by simp only [len_app,iE];omega),oO c0 (by omega),small (by simp only [len_app,iE];omega),small (by simp only [len_app,iE];omega),small (by simp only [len_app,iE,C6];omega),aI (q ⟨nm,s,.hole s2,cost⟩ ⟨nl.2,hs.2,f2,c0,(by show cost<=1000;omega),nis,hsm,(fun z=>hne2 (decide_eq_true (by injection z))),nok⟩ hnot)⟩
theorem Ox {wi:UI} {g:UG} {tb:US} {D:mZ} {τ:SU} {M:aG} {S:Src} (G:aG->Prop) (hw:∀ R:Src->aG->Prop,(∀ M1,G M1->R S M1)->wi τ M R) (P:Nat->SU->aG->Prop) (h0:∀ M1,G M1->P 0 τ M1) (hok:∀ i τ M,P i τ M->S.ok M)
  (turn:∀ i x τ M,S.xs[i]?=some x->P i τ M->g x τ M fun τ2 M2=>tb { D with nx:=P (i + 1),ct:=P (i + 1),bk:=D.nx } τ2 M2) (fin:∀ τ M,P S.xs.length τ M->D.nx τ M):HE wi g tb D τ M:=hw _ fun M1 g1=>⟨P,h0 M1 g1,hok,turn,fin⟩
theorem QC:(Str.ofString "\n").length=1:=by decide +kernel
noncomputable def linesOf (cs:List Str) (tl:List Tl):List Str:=Txt.join (Str.ofString " ") cs :: tl.map Tl.row
theorem vQ {cs:List Str} (h:qZ cs):(cs.map (·.length)).sum + cs.length * (Str.ofString " ").length<=16777216/\(Txt.join (Str.ofString " ") cs).length<=600:=by
 have:=tB (B:=8) (n:=6) (z:=Str.ofString " ") (l:=cs) (by rw [iE];omega) (fun s hs=>(h.2.2 s hs).2) h.2.1 (by decide)
 omega
theorem AQ {cs:List Str} {tl:List Tl} (h:qZ cs) (ht:∀ t∈tl,t.ok cs):∀ s∈linesOf cs tl,s.length<=600:=fun s hs=>by
 rcases List.mem_cons.mp hs with rfl | hs
 ·exact (vQ h).2
 ·obtain ⟨t,h1,rfl⟩:=List.mem_map.mp hs
  exact Ai (ht t h1)
theorem yP {cs:List Str} {tl:List Tl} (h:qZ cs) (ht:∀ t∈tl,t.ok cs) (hl:tl.length<=70):((linesOf cs tl).map (·.length)).sum + (linesOf cs tl).length * (Str.ofString "\n").length<=16777216:=by
 have:=tB (B:=600) (n:=71) (z:=Str.ofString "\n") (l:=linesOf cs tl) (by rw [QC];omega) (AQ h ht) (by simp only [linesOf,List.length_cons,List.length_map];omega) (by decide)
 exact this.1
theorem Ak {α:Type} (l:List α) (a b:Option Int):(gF l a b).length<=l.length:=by
 unfold gF
 rw [List.length_take,List.length_drop];omega
theorem LS {α:Type} (l:List α):(gF l (some 1) (some 41)).length=min 41 l.length - 1:=by
 unfold gF
 simp only [HT.bV]
 rw [List.length_take,List.length_drop]
 rw [if_neg (by decide),if_neg (by decide)]
 have e1:(1:Int).toNat=1:=rfl
 have e2:(41:Int).toNat=41:=rfl
 rw [e1,e2]
 omega
theorem Jx (b:Bool):(List.replicate (if b=true then 1 else 0:Int).toNat [U.int 7]).flatten.length<=1:=by cases b <;> decide
theorem O1 {M:aG} {t:Tl}:view M t.toU=.tup [.str t.name,.str t.cls,t.pt.toU,.int t.cost]:=rfl
noncomputable def E5:bN:=fun us M Q=>∃ ns:List Int,us=[.lst (ns.map .int)]/\ns.length<=63/\(∀ m∈ns,Builtin.Int.intBits m<=2 ^ 20)/\∀ (cs:List Str) (tl:List Tl) (q:Addr),lJ cs->1<=tl.length->tl.length<=40->(∀ t∈tl,t.ok cs)->(tl.map Tl.name).Nodup->M q=none->Q (.tup [eK cs,.tup (tl.map Tl.toU),.ref q]) (mup M q (.lst ((linesOf cs tl).map .str)))
theorem MB (F:cF K "_law_table" "_law_table" jS f fd) (hm:mg "_law_table"=some (.ref f)) (aW:mg "len"=none) (lY:mg "int"=none) (bI:mg "tuple"=none) (BB:Callee P w K mg base 3 "_law_classes" AI []) (GV:Callee P w K mg base 3 "_law_tile" IS []):Callee P w K mg base 4 "_law_table" E5 []:=by
 refine bD F hm eZ (lO fun _ _ _ _ _ _ _=>rfl) (aD (aJ 1 eZ.nd (aR BB (aA (aL (aO (own:=false) (uv 0) (dH (own:=false) (aA aH aB))) aH) aB)))
 (aD (aJ 2 eZ.nd (dH (own:=true) aB))
 (aD (aJ 3 eZ.nd (dH (own:=true) aB))
 (aD (aJ 4 eZ.nd (dH (own:=true) (aA (rY bZ (aA (uv 1) aB)) aB)))
 (aD (oR (iT (aO (own:=false) (jD (own:=false) (uv 0) (cR aH) (cR aH)) (gR (own:=false) (dH (own:=true) (aA aH aB)) (oX MI lY (aA (j7 m5 (b8 cO aW (aA (uv 0) aB)) aH) aB))))) (bQ (k:=1000) 5 eZ.nd)
 (aD (DC (aR GV (aA (uv 5) (aA (uv 1) (aA (uv 3) aB)))) (oS (n:=2) (cH (bQ (k:=1000) 6 eZ.nd) (cH (bQ (k:=1000) 7 eZ.nd) mI))))
 (aD (cZ (eG (uv 2) (aA (uv 6) aB)))
 (aD (cZ (eG (uv 3) (aA (aL (uv 6) aH) aB)))
 (aF (cZ (eG (uv 4) (aA (uv 7) aB))))))))
 (aF (aQ (bG (aA (uv 1) (aA (oX vH bI (aA (uv 2) aB)) (aA (uv 4) aB))))))))))) ?_
 rintro us M Q ⟨ns,rfl,hl,hb,q⟩
 refine ⟨rfl,?_⟩
 obtain ⟨c0,hc0,hc0b⟩:∃ c0:Int,eP (ns.map U.int++[U.int 0]) 0=some (.int c0)/\Builtin.Int.intBits c0<=2 ^ 20:=by
  cases ns with
  | nil=>exact ⟨0,DG,by decide +kernel⟩
  | cons a r=>exact ⟨a,DG,hb a List.mem_cons_self⟩
 dsimp! only [hc0,aT,dB,dA,bL,cE]
 refine ⟨small (by simp;omega),c0,rfl,hc0b,fun cs hcn=>?_⟩
 have hcs:=hcn.ok
 dsimp! only [eK,aT,dB,dA,bL,cE]
 refine fun p2 h2 p3 h3=>⟨⟨_,rfl⟩,cs,oQ cs,(vQ hcs).1,fun p4 h4=>?_⟩
 have n32:p3≠p2:=fun z=>by subst z;rw [bC] at h3;cases h3
 have h3':M p3=none:=by rw [bH n32] at h3;exact h3
 have n43:p4≠p3:=fun z=>by subst z;rw [bC] at h4;cases h4
 rw [bH n43] at h4
 have n42:p4≠p2:=fun z=>by subst z;rw [bC] at h4;cases h4
 have h4':M p4=none:=by rw [bH n42] at h4;exact h4
 obtain ⟨k7,hk7,hk7l⟩:∃ k:List Int,(∀ m∈k,m=7)/\k.length<=1:=⟨[],(fun m h=>by cases h),by simp⟩
 refine Ox (S:=⟨none,gF (ns.map U.int) (some 1) (some 41)++(List.replicate (if decide (((ns.length:Nat):Int) < 2)=true then 1 else 0:Int).toNat [U.int 7]).flatten⟩)
  (fun M1=>M1 p2=some (.lst [])/\M1 p3=some (.lst [])/\M1 p4=some (.lst [.str (Txt.join (Str.ofString " ") cs)])/\Sub M M1) (fun R r=>?_)
  (fun i τ Mi=>∃ (tl:List Tl) (a b c:Option U),τ=[some (.lst (ns.map .int)),some (eK cs),some (.ref p2),some (.ref p3),some (.ref p4),a,b,c]/\Mi p2=some (.lst (tl.map Tl.toU))/\Mi p3=some (.lst ((tl.map Tl.name).map .str))/\Mi p4=some (.lst ((linesOf cs tl).map .str))/\Sub M Mi/\tl.length=i/\(∀ t∈tl,t.ok cs)/\(tl.map Tl.name).Nodup)
  (fun M1 g1=>⟨[],none,none,none,rfl,g1.1,g1.2.1,g1.2.2.1,g1.2.2.2,rfl,(fun t h=>by cases h),List.nodup_nil⟩) nk ?_ ?_
 ·dsimp! only [List.length_map,aT,dB,dA,bL,cE]
  refine fun p5 h5=>?_
  have n54:p5≠p4:=fun z=>by subst z;rw [bC] at h5;cases h5
  rw [bH n54] at h5
  have n53:p5≠p3:=fun z=>by subst z;rw [bC] at h5;cases h5
  rw [bH n53] at h5
  have n52:p5≠p2:=fun z=>by subst z;rw [bC] at h5;cases h5
  rw [bH n52] at h5
  have key:=r (mup (mup (mup (mup M p2 (.lst [])) p3 (.lst [])) p4 (.lst [.str (Txt.join (Str.ofString " ") cs)])) p5 (.lst [.int 7]))
   ⟨by rw [bH n52.symm,bH n42.symm,bH n32.symm,bC],by rw [bH n53.symm,bH n43.symm,bC],by rw [bH n54.symm,bC],((((Sub.refl M).mup h2).mup h3').mup h4').mup h5⟩
  have hcl:=Ak (ns.map U.int) (some 1) (some 41)
  rw [List.length_map] at hcl
  cases hdd:decide (((ns.length:Nat):Int) < 2) with
  | true =>
   rw [hdd] at key
   simp only [if_true] at key ⊢
   exact ⟨by decide,by decide,by decide,small (by simp;omega),key⟩
  | false =>
   rw [hdd] at key
   simp only [Bool.false_eq_true,if_false] at key ⊢
   exact ⟨by decide,by decide,by decide,small (by simp;omega),key⟩
 ·rintro i x τ Mi e ⟨tl,a,b,c,rfl,g2,g3,g4,hS,hti,htl,hnd⟩
  have hi:i<=65:=by
   have h:=(List.getElem?_eq_some_iff.mp e).1
   have hcl:=Ak (ns.map U.int) (some 1) (some 41)
   rw [List.length_map] at hcl
   have h7:=Jx (decide (((ns.length:Nat):Int) < 2))
   have h':i < (gF (ns.map U.int) (some 1) (some 41)++(List.replicate (if decide (((ns.length:Nat):Int) < 2)=true then 1 else 0:Int).toNat [U.int 7]).flatten).length:=h
   rw [List.length_append] at h'
   omega
  obtain ⟨m,rfl,hmb⟩:∃ m:Int,x=.int m/\Builtin.Int.intBits m<=2 ^ 20:=by
   rcases List.mem_append.mp (List.mem_of_getElem? e) with hx | hx
   ·obtain ⟨m,hm,rfl⟩:=List.mem_map.mp (List.mem_of_mem_drop (List.mem_of_mem_take hx))
    exact ⟨m,rfl,hb m hm⟩
   ·obtain ⟨l,h1,h2⟩:=List.mem_flatten.mp hx
    have:=List.eq_of_mem_replicate h1
    subst this
    cases List.mem_singleton.mp h2
    exact ⟨7,rfl,by decide +kernel⟩
  dsimp! only [eK,aT,dB,dA,bL,cE]
  refine ⟨m,cs,p3,tl.map Tl.name,rfl,hmb,hcs,g3,by simp;omega,fun t ht hnn=>?_⟩
  have f3:∀ X,mup Mi p2 X p3=some (.lst ((tl.map Tl.name).map .str)):=fun X=>by rw [bH n32];exact g3
  have f4:∀ X Y,mup (mup Mi p2 X) p3 Y p4=some (.lst ((linesOf cs tl).map .str)):=fun X Y=>by rw [bH n43,bH n42];exact g4
  dsimp! only [g2,f3,f4,O1,aT,dB,dA,bL,cE]
  refine ⟨⟨_,qP g2⟩,big (by simp;omega),⟨_,qP (f3 _)⟩,big (by simp;omega),⟨_,qP (f4 _ _)⟩,big (by simp [linesOf];omega),tl++[t],_,_,_,rfl,?_,?_,?_,?_,by simp;omega,?_,?_⟩
  ·rw [bH n42.symm,bH n32.symm,bC];simp
  ·rw [bH n43.symm,bC];simp
  ·simp [linesOf]
  ·intro b' o hb'
   have b2:b'≠p2:=fun z=>by subst z;rw [h2] at hb';cases hb'
   have b3:b'≠p3:=fun z=>by subst z;rw [h3'] at hb';cases hb'
   have b4:b'≠p4:=fun z=>by subst z;rw [h4'] at hb';cases hb'
   rw [bH b4,bH b3,bH b2];exact hS b' o hb'
  ·intro t' ht'
   rcases List.mem_append.mp ht' with ht' | ht'
   ·exact htl t' ht'
   ·cases List.mem_singleton.mp ht';exact ht
  ·rw [List.map_append]
   refine List.nodup_append.mpr ⟨hnd,by simp,fun x hx y hy e=>?_⟩
   cases List.mem_singleton.mp hy
   subst e
   exact hnn hx
 ·rintro τ Mi ⟨tl,a,b,c,rfl,g2,g3,g4,hS,hti,htl,hnd⟩
  have hlen:1<=tl.length/\tl.length<=40:=by
   have hcl:=LS (ns.map U.int)
   rw [List.length_map] at hcl
   have h':tl.length=(gF (ns.map U.int) (some 1) (some 41)++(List.replicate (if decide (((ns.length:Nat):Int) < 2)=true then 1 else 0:Int).toNat [U.int 7]).flatten).length:=hti
   rw [List.length_append,hcl] at h'
   by_cases h2:((ns.length:Nat):Int) < 2
   ·rw [decide_eq_true h2] at h'
    have e:(List.replicate (if true=true then 1 else 0:Int).toNat [U.int 7]).flatten.length=1:=rfl
    rw [e] at h'
    omega
   ·rw [decide_eq_false h2] at h'
    have e:(List.replicate (if false=true then 1 else 0:Int).toNat [U.int 7]).flatten.length=0:=rfl
    rw [e] at h'
    omega
  dsimp! only [qP g2,aT,dB,dA,bL,cE]
  refine ⟨_,mup M p4 (.lst ((linesOf cs tl).map .str)),?_,.inl rfl,q cs tl p4 hcn hlen.1 hlen.2 htl hnd h4'⟩
  intro b' o hb'
  by_cases hbp:b'=p4
  ·subst hbp;rw [bC] at hb';rw [g4];exact hb'
  ·rw [bH hbp] at hb';exact hS b' o hb'
theorem NB {α β:Type} (g:α->β) (l:List α) (a b:Option Int):gF (l.map g) a b=(gF l a b).map g:=by
 unfold gF
 rw [List.length_map,List.map_take,List.map_drop]
theorem CN {n:Nat} (F:cF K "places_of" "places_of" iG f fd) (hm:mg "places_of"=some (.ref f)) (eS:mg "enumerate"=none)
  (eC:Callee P w K mg base 1 "parts_of" n5 []) (rF:Callee P w K mg base (n + 1) "places_of" (p7 n) []):Callee P w K mg base (n + 2) "places_of" (p7 (n + 1)) []:=by
 refine bD F hm m7 (lO fun _ _ _ _ _ _ _=>rfl) (aD (aJ 1 m7.nd (dH (own:=true) (aA (bG aB) aB)))
 (aD (oR (CD eS (aA (aR eC (aA (uv 0) aB)) aB)) (oS (n:=2) (cH (bQ (k:=1000) 2 m7.nd) (cH (bQ (k:=1000) 3 m7.nd) mI)))
 (aF (cZ (AV (uv 1) (aA (n8 false ["place","number"] 1 [2] (iT (aR rF (aA (uv 3) aB))) (bQ (k:=1) 0 (by dsimp only [cQ];decide +kernel)) mG (aO (own:=false) (bG (aA (uv 1) aB)) (uv 0))) aB)))))
 (aF (aQ (uv 1))))) ?_
 rintro us M Q ⟨t,rfl,hd,hz,q⟩
 refine ⟨rfl,?_⟩
 have hbig:∀ a:Pt,a.dep<=10->a.places.length<=1024:=fun a ha=>by
  have h1:=places_len a
  have h2:2 ^ a.dep<=2 ^ 10:=Nat.pow_le_pow_right (by decide) ha
  omega
 dsimp! only [b9,cG,bR,gG,aT]
 refine fun p hp=>?_
 refine pQ (S:=⟨none,numbered (t.parts.map Pt.toU)⟩) (M1:=mup M p (.lst [.tup []])) (fun R r=>?_)
  (fun i τ Mi=>∃ b c,τ=[some t.toU,some (.ref p),b,c]/\Mi=mup M p (.lst (([] :: eY 0 (t.parts.take i)).map fA))) ⟨none,none,rfl,rfl⟩ nk ?_ ?_
 ·obtain ⟨z,rr,e,e1,e2,e3⟩:=Bf t
  refine ⟨z,rr,!t.leafy,by rw [<- e];rfl,e1,by omega,?_⟩
  cases hl:t.leafy with
  | true=>simp only [hl,Bool.not_true,Bool.false_eq_true,if_false];rw [Gr hl] at r;exact r
  | false=>simp only [hl,Bool.not_false,if_true];rw [e2 hl];exact r
 ·rintro i x τ Mi e ⟨b,c,rfl,rfl⟩
  obtain ⟨u,hu,rfl⟩:=uK e
  rw [List.getElem?_map] at hu
  cases hp':t.parts[i]? with
  | none=>rw [hp'] at hu;cases hu
  | some a =>
   rw [hp'] at hu
   cases hu
   have ha:=Mk hp'
   have hin:eY 0 (t.parts.take (i + 1))=eY 0 (t.parts.take i)++a.places.map (i :: ·):=by
    have hlt:=(List.getElem?_eq_some_iff.mp hp').1
    rw [List.take_add_one,hp']
    have:=HQ (t.parts.take i) a 0
    rw [List.length_take,Nat.min_eq_left (Nat.le_of_lt hlt),Nat.zero_add] at this
    exact this
   have hb1:=hbig a (by omega)
   dsimp! only [b9,cG,bR,gG,aT]
   refine ⟨cD,fL (S:=⟨none,a.places.map fA⟩) (M1:=mup M p (MO.lst (fA [] :: List.map fA (eY 0 (List.take i t.parts))))) (a.places.map fun pl=>fA (i :: pl)) (fun R r'=>⟨a,rfl,by omega,by omega,r'⟩) (by simp) ?_ (fun a e=>by cases e) ?_ ?_⟩
   ·show (a.places.map fA).length<=sizeLine
    rw [List.length_map]
    exact small (by omega)
   ·intro j x y hx hy M' _ R r'
    have hx':(a.places.map fA)[j]?=some x:=hx
    rw [List.getElem?_map] at hx' hy
    cases hpl:a.places[j]? with
    | none=>rw [hpl] at hx';cases hx'
    | some pl =>
     rw [hpl] at hx' hy
     cases hx'
     cases hy
     have h1:=oF a pl (List.mem_of_getElem? hpl)
     dsimp! only [fA,b9,cG,bR,gG,aT]
     refine ⟨small ?_,?_⟩
     ·simp only [List.length_cons,List.length_nil,List.length_map];omega
     ·simpa [fA] using r'
   ·have h1:=LK t i
    have h2:=hbig t (by omega)
    dsimp! only [b9,cG,bR,gG,aT]
    refine ⟨small ?_,_,_,rfl,?_⟩
    ·simp only [List.length_map];omega
    ·rw [hin,List.map_append,List.map_map];rfl
 ·rintro τ Mi ⟨b,c,rfl,rfl⟩
  rw [uH,List.length_map,List.take_length,<- places_eq]
  dsimp! only [b9,cG,bR,gG,aT]
  exact ⟨_,M,(Sub.refl M).mup hp,.inr ⟨p,_,rfl,bC,hp,rfl⟩,q⟩
theorem y7 (F:cF K "places_of" "places_of" iG f fd) (hm:mg "places_of"=some (.ref f)) (eS:mg "enumerate"=none) (eC:Callee P w K mg base 1 "parts_of" n5 []):∀ n,Callee P w K mg base (n + 1) "places_of" (p7 n) []
 | 0=>by
  have no:∀ us M Q,¬ p7 0 us M Q:=fun us M Q h=>by
   obtain ⟨p,_,h,_⟩:=h
   have:=Ds p
   omega
  refine ⟨f,fd,["shape"],[],[],⟨fun vs H Q E h=>?_,fun A outer s H args us vs Q E _ _ _ _ h=>?_⟩,hm,F.kp,F.binds (lO fun _ _ _ _ _ _ _=>rfl),.nil,fun H M=>.nil⟩
  ·obtain ⟨us,M,Q',_,_,h,_⟩:=h;exact absurd h (no us M Q')
  ·obtain ⟨us,M,Q',_,_,h,_⟩:=h;exact absurd h (no us M Q')
 | n + 1=>CN F hm eS eC (y7 F hm eS eC n)
theorem EA (F:cF K "shape_at" "shape_at" lB f fd) (hm:mg "shape_at"=some (.ref f)) (eC:Callee P w K mg base 1 "parts_of" n5 []):Callee P w K mg base 2 "shape_at" M8 []:=by
 refine bD F hm oE (nM fun _ _ _ _ _ _ _ _=>rfl) (aD (aJ 2 oE.nd (uv 0))
 (aD (oR (iT (uv 1)) (bQ (k:=1000) 3 oE.nd)
 (aF (aJ 2 oE.nd (aL (aR eC (aA (uv 2) aB)) (uv 3)))))
 (aF (aQ (uv 2))))) ?_
 rintro us M Q ⟨u,v,pl,rfl,hpl,q⟩
 refine ⟨rfl,?_⟩
 dsimp! only [b9,cG,bR,gG,aT]
 refine pQ (S:=⟨none,pl.map fun (n:Nat)=>U.int (n:Int)⟩) (M1:=M) (fun R r=>r)
  (fun i τ Mi=>∃ (h:U) (c:Option U),τ=[some u,some (fA pl),some h,c]/\Mi=M/\o9 u (pl.take i)=some h) ⟨u,none,rfl,rfl,rfl⟩ nk ?_ ?_
 ·rintro i x τ Mi e ⟨h,c,rfl,rfl,hh⟩
  have e':(pl.map fun (n:Nat)=>U.int (n:Int))[i]?=some x:=e
  rw [List.getElem?_map] at e'
  cases hk:pl[i]? with
  | none=>rw [hk] at e';cases e'
  | some k =>
   rw [hk] at e'
   cases e'
   have hnx:o9 u (pl.take (i + 1))=i5 h k:=by
    rw [List.take_add_one,hk]
    show o9 u (pl.take i++[k])=_
    rw [CM,hh];rfl
   cases hs:i5 h k with
   | none =>
    rw [hs] at hnx
    have:=DD (pl.take (i + 1)) (pl.drop (i + 1)) u hnx
    rw [List.take_append_drop,hpl] at this
    cases this
   | some w' =>
    rw [hs] at hnx
    obtain ⟨z,r,rfl,hz,hr,hs'⟩:=Ll hs
    dsimp! only [b9,cG,bR,gG,aT]
    refine ⟨z,r,true,rfl,hz,hr,?_⟩
    dsimp! only [b9,cG,bR,gG,aT]
    exact ⟨w',mL hs',w',_,rfl,hnx⟩
 ·rintro τ Mi ⟨h,c,rfl,rfl,hh⟩
  simp only [List.length_map,List.take_length] at hh
  rw [hpl] at hh
  cases hh
  dsimp! only [b9,cG,bR,gG,aT]
  exact aI q
noncomputable def hF (e:List Nat × Pt):Option (List Nat × Str):=match e.2 with
 | .hole c=>some (e.1,c)
 | _=>none
noncomputable def rM (e:List Nat × Str):U:=.tup [fA e.1,.str e.2]
noncomputable def QT (p:Pt):List (List Nat × Str):=(cS p []).filterMap hF
noncomputable def hU:U->Option U
 | .tup [a,.tup (.str z :: r)]=>if decide (z=Str.ofString "at") then (r.head?).map fun c=>.tup [a,c] else none
 | _=>none
theorem J1 (e:List Nat × Pt):hU (fN e)=(hF e).map rM:=by
 obtain ⟨pl,q⟩:=e
 have e1:decide (Str.ofString "at"=Str.ofString "at")=true:=by simp
 cases q with
 | hole c=>simp only [fN,Pt.toU,hU,e1,hF,rM];rfl
 | any=>simp only [fN,Pt.toU,hU,nD,m8,m9,nN,m6,nF,mY,hF];rfl
 | fr l h=>simp only [fN,Pt.toU,hU,nD,m8,m9,nN,m6,nF,mY,hF];rfl
 | turn a=>simp only [fN,Pt.toU,hU,nD,m8,m9,nN,m6,nF,mY,hF];rfl
 | two o a b=>simp only [fN,Pt.toU,hU,nD,m8,m9,nN,m6,nF,mY,hF];rfl
theorem PK (l:List (List Nat × Pt)):(l.map fN).filterMap hU=(l.filterMap hF).map rM:=by
 induction l with
 | nil=>rfl
 | cons e l ih =>
  rw [List.map_cons,List.filterMap_cons,List.filterMap_cons,J1,ih]
  cases hF e <;> rfl
noncomputable def E9:bN:=fun us M Q=>∃ p:Pt,us=[p.toU]/\p.dep<=6/\Q (.lst ((QT p).map rM)) M
theorem Lh (F:cF K "holes" "holes" pK f fd) (hm:mg "holes"=some (.ref f)) (rF:Callee P w K mg base 7 "places_of" (p7 6) []) (Gb:Callee P w K mg base 2 "shape_at" M8 []):Callee P w K mg base 8 "holes" E9 []:=by
 refine bD F hm Dp (lO fun _ _ _ _ _ _ _=>rfl) (aD (Fd 1 Dp.nd false ["place","pattern"] 1 [0] (iT (aR rF (aA (uv 0) aB))) (bQ (k:=1) 0 (by dsimp only [cQ];decide +kernel)) mG (bG (aA (uv 0) (aA (aR Gb (aA (uv 1) (aA (uv 0) aB))) aB))))
 (aF (aQ (n8 false ["place","piece"] 2 [] (iT (uv 1)) (oS (n:=2) (cH (bQ (k:=2) 0 (by dsimp only [cQ];decide +kernel)) (cH (bQ (k:=2) 1 (by dsimp only [cQ];decide +kernel)) mI))) (Nz (bO cI (aL (uv 1) aH) bZ)) (bG (aA (uv 0) (aA (aL (uv 1) aH) aB))))))) ?_
 rintro us M Q ⟨p,rfl,hd,q⟩
 refine ⟨rfl,?_⟩
 have hsp:(cS p []).map (·.1)=p.places:=by rw [lU];simp
 have hpl:p.places.length<=64:=by
  have h1:=places_len p
  have h2:2 ^ p.dep<=2 ^ 6:=Nat.pow_le_pow_right (by decide) hd
  omega
 have hsl:(cS p []).length=p.places.length:=by rw [<- hsp,List.length_map]
 dsimp! only [b9,cG,bR,gG,aT]
 refine fL (S:=⟨none,p.places.map fA⟩) (M1:=M) ((cS p []).map fN) (fun R r=>⟨p,rfl,hd,by decide,r⟩) (by simp [hsl]) (small (by show (p.places.map fA).length<=_;rw [List.length_map];omega)) (fun a e=>by cases e) ?_ ?_
 ·intro j x y hx hy M' _ R r'
  have hx':(p.places.map fA)[j]?=some x:=hx
  rw [<- hsp,List.map_map,List.getElem?_map] at hx'
  rw [List.getElem?_map] at hy
  cases hj:(cS p [])[j]? with
  | none=>rw [hj] at hy;cases hy
  | some e =>
   rw [hj] at hx' hy
   cases hx'
   cases hy
   obtain ⟨s,h1,h2⟩:=vX p [] e (List.mem_of_getElem? hj)
   rw [List.nil_append] at h1
   dsimp! only [b9,cG,bR,gG,aT]
   refine ⟨p.toU,e.2.toU,e.1,rfl,by rw [h1];exact h2,?_⟩
   dsimp! only [b9,cG,bR,gG,aT]
   exact r'
 ·dsimp! only [b9,cG,bR,gG,aT]
  refine xV (S:=⟨none,(cS p []).map fN⟩) (M1:=M) hU (fun R r=>r) (small (by show ((cS p []).map fN).length<=_;rw [List.length_map];omega)) (fun a e=>by cases e) ?_ ?_
  ·intro x hx M' _ R r
   obtain ⟨e,he,rfl⟩:=List.mem_map.mp hx
   rw [J1] at r
   obtain ⟨pl,pt⟩:=e
   cases pt with
   | hole c=>dsimp! only [fN,hF,rM,Pt.toU,nD,m8,m9,nN,m6,nF,mY,Option.map_some,b9,cG,bR,gG,aT] at r ⊢;exact r
   | any=>dsimp! only [fN,hF,rM,Pt.toU,nD,m8,m9,nN,m6,nF,mY,Option.map_none,b9,cG,bR,gG,aT] at r ⊢;exact r
   | fr l h=>dsimp! only [fN,hF,rM,Pt.toU,nD,m8,m9,nN,m6,nF,mY,Option.map_none,b9,cG,bR,gG,aT] at r ⊢;exact r
   | turn a=>dsimp! only [fN,hF,rM,Pt.toU,nD,m8,m9,nN,m6,nF,mY,Option.map_none,b9,cG,bR,gG,aT] at r ⊢;exact r
   | two o a b=>dsimp! only [fN,hF,rM,Pt.toU,nD,m8,m9,nN,m6,nF,mY,Option.map_none,b9,cG,bR,gG,aT] at r ⊢;exact r
  ·rw [show (Src.mk none ((cS p []).map fN)).xs=(cS p []).map fN from rfl,PK]
   simp only [mP]
   exact aI q
noncomputable def xQ (p:List Nat):List Int:=p.map fun (n:Nat)=>(n:Int)
theorem Ti (k:Nat) (p q:List Nat):HT.lexLt (xQ (k :: p)) (xQ (k :: q))=HT.lexLt (xQ p) (xQ q):=by
 simp only [xQ,List.map_cons,HT.yM,if_true]
noncomputable def Lx (a b:List Nat):Prop:=HT.lexLt (xQ a) (xQ b)=true
theorem Sw (p:Pt):(cS p []).map (·.1)=p.places:=by rw [lU];simp
theorem Me:cB cL (Str.ofString "turn")=some (.int 1):=by kernel_rfl
theorem OE (o:Op):cB cL o.word=some (.int 2):=by cases o <;> kernel_rfl
inductive G where
 | leaf (u:U) (b:Bool) | turn (a:G) | two (o:Op) (a b:G)
namespace G
noncomputable def toU:G->U
 | leaf u _=>u
 | turn a=>.tup [.str "turn",a.toU]
 | two o a b=>.tup [.str o.word,a.toU,b.toU]
noncomputable def size:G->Nat
 | leaf _ _=>1
 | turn a=>a.size + 1
 | two _ a b=>a.size + b.size + 1
noncomputable def dep:G->Nat
 | leaf _ _=>1
 | turn a=>a.dep + 1
 | two _ a b=>max a.dep b.dep + 1
noncomputable def fit:G->Bool
 | leaf _ b=>b
 | turn a=>a.fit
 | two _ a b=>a.fit && b.fit
noncomputable def wf (L:U->Bool->Prop):G->Prop
 | leaf u b=>L u b
 | turn a=>a.wf L
 | two _ a b=>a.wf L/\b.wf L
end G
noncomputable def ent (x:G × Nat):U:=.tup [x.1.toU,.int (x.2:Nat)]
noncomputable def rT:List (G × Nat)->Nat
 | []=>0
 | x :: r=>x.1.size + rT r
theorem sG:∀ l r:List (G × Nat),rT (l++r)=rT l + rT r
 | [],_=>by simp [rT]
 | t :: l,r=>by simp [rT,sG l r];omega
noncomputable def VV (c:Nat) (st:List (G × Nat)):Prop:=c + rT st<=9/\(∀ x∈st,x.2 + x.1.dep<=6)/\∀ x∈st,x.1.fit=true
noncomputable def qM (g:G):Bool:=decide (g.size<=9) && (decide (g.dep<=5) && g.fit)
theorem B7 (g:G):qM g=true ↔ VV 0 [(g,1)]:=by
 unfold qM VV
 simp only [Bool.and_eq_true,decide_eq_true_eq,rT,List.mem_cons,List.not_mem_nil,or_false,forall_eq]
 constructor
 ·rintro ⟨a,b,c⟩;exact ⟨by omega,by omega,c⟩
 ·rintro ⟨a,b,c⟩;exact ⟨by omega,by omega,c⟩
theorem OD {c d:Nat} {st:List (G × Nat)} {a:G}:VV (c + 1) (st++[(a,d + 1)]) ↔ VV c (st++[(G.turn a,d)]):=by
 unfold VV
 simp only [sG,rT,List.mem_append,List.mem_cons,List.not_mem_nil,or_false,G.size]
 constructor
 ·rintro ⟨h1,h2,h3⟩
  refine ⟨by omega,fun x hx=>?_,fun x hx=>?_⟩
  ·rcases hx with hx | rfl
   ·exact h2 x (.inl hx)
   ·have:=h2 (a,d + 1) (.inr rfl);simp only [G.dep] at this ⊢;omega
  ·rcases hx with hx | rfl
   ·exact h3 x (.inl hx)
   ·exact h3 (a,d + 1) (.inr rfl)
 ·rintro ⟨h1,h2,h3⟩
  refine ⟨by omega,fun x hx=>?_,fun x hx=>?_⟩
  ·rcases hx with hx | rfl
   ·exact h2 x (.inl hx)
   ·have:=h2 (G.turn a,d) (.inr rfl);simp only [G.dep] at this ⊢;omega
  ·rcases hx with hx | rfl
   ·exact h3 x (.inl hx)
   ·exact h3 (G.turn a,d) (.inr rfl)
theorem RL {c d:Nat} {st:List (G × Nat)} {a b:G} {o:Op}:VV (c + 1) (st++[(a,d + 1),(b,d + 1)]) ↔ VV c (st++[(G.two o a b,d)]):=by
 unfold VV
 simp only [sG,rT,List.mem_append,List.mem_cons,List.not_mem_nil,or_false,G.size]
 constructor
 ·rintro ⟨h1,h2,h3⟩
  refine ⟨by omega,fun x hx=>?_,fun x hx=>?_⟩
  ·rcases hx with hx | rfl
   ·exact h2 x (.inl hx)
   ·have e1:=h2 (a,d + 1) (.inr (.inl rfl));have e2:=h2 (b,d + 1) (.inr (.inr rfl));simp only [G.dep] at e1 e2 ⊢;omega
  ·rcases hx with hx | rfl
   ·exact h3 x (.inl hx)
   ·have e1:=h3 (a,d + 1) (.inr (.inl rfl));have e2:=h3 (b,d + 1) (.inr (.inr rfl));simp only [G.fit] at e1 e2 ⊢;rw [e1,e2];rfl
 ·rintro ⟨h1,h2,h3⟩
  have e1:=h2 (G.two o a b,d) (.inr rfl)
  have e2:=h3 (G.two o a b,d) (.inr rfl)
  simp only [G.dep,G.fit,Bool.and_eq_true] at e1 e2
  refine ⟨by omega,fun x hx=>?_,fun x hx=>?_⟩
  ·rcases hx with hx | rfl | rfl
   ·exact h2 x (.inl hx)
   ·simp only;omega
   ·simp only;omega
  ·rcases hx with hx | rfl | rfl
   ·exact h3 x (.inl hx)
   ·exact e2.1
   ·exact e2.2
theorem Ob {c d:Nat} {st:List (G × Nat)} {u:U} (hd:d<=5):VV (c + 1) st ↔ VV c (st++[(G.leaf u true,d)]):=by
 unfold VV
 simp only [sG,rT,List.mem_append,List.mem_cons,List.not_mem_nil,or_false,G.size]
 constructor
 ·rintro ⟨h1,h2,h3⟩
  refine ⟨by omega,fun x hx=>?_,fun x hx=>?_⟩
  ·rcases hx with hx | rfl
   ·exact h2 x hx
   ·simp only [G.dep];omega
  ·rcases hx with hx | rfl
   ·exact h3 x hx
   ·rfl
 ·rintro ⟨h1,h2,h3⟩
  exact ⟨by omega,fun x hx=>h2 x (.inl hx),fun x hx=>h3 x (.inl hx)⟩
theorem OI {α:Type} (l:List α):l=[]\/∃ r x,l=r++[x]:=by
 rcases List.eq_nil_or_concat l with h | ⟨r,x,h⟩
 ·exact .inl h
 ·exact .inr ⟨r,x,by simpa using h⟩
noncomputable def Fn (fl:Addr) (s:bN):bN:=fun us M Q=>∃ (g:G) (L:U->Bool->Prop),us=[g.toU,.ref fl,.int 9,.int 5]/\g.wf L/\(∀ u b,L u b->∃ b',LF u b')/\(∀ u b M' Q',Sub M M'->L u b->Q' (.bl b) M'->s [u] M' Q')/\Q (.bl (qM g)) M
theorem EF (F:cF K "is_shape" "is_shape" kX f fd) (hm:mg "is_shape"=some (.ref f)) (J4:Callee P w K mg base 1 "is_sign" Dj []) {s:bN} {ka:Nat} (A_is_leaf:n9 P w K mg base (ka + 1) fl s):Callee P w K mg base (ka + 2) "is_shape" (Fn fl s) []:=by
 refine bD F hm iA (SR fun _ _ _ _ _ _ _ _ _ _=>rfl) (aD (aJ 4 iA.nd aH)
 (aD (aJ 5 iA.nd (dH (own:=true) (aA (bG (aA (uv 0) (aA aH aB))) aB)))
 (aD (iD (cM (uv 5))
 (aD (aJ 6 iA.nd (oK (uv 5)))
 (aD (aJ 7 iA.nd (aL (uv 6) aH))
 (aD (aJ 8 iA.nd (aL (uv 6) aH))
 (aD (aJ 4 iA.nd (aO (own:=false) (uv 4) aH))
 (aD (bK (gW.pt (iH (bO qO (uv 4) (uv 2)) (gZ (bO qO (uv 8) (uv 3)))))
 (aF (aQ nO))
 bB)
 (aF (bK (cM (aR J4 (aA (uv 7) aB)))
 (aF (cZ (AV (uv 5) (aA (n8 false ["part","depth"] 1 [8] (iT (jD (own:=false) (uv 7) (cR aH) vO)) (bQ (k:=1) 0 (by dsimp only [cQ];decide +kernel)) mG (bG (aA (uv 0) (aA (aO (own:=false) (uv 1) aH) aB)))) aB))))
 (aF (bK (dD (cM (Mv 1 A_is_leaf (aA (uv 7) aB))))
 (aF (aQ nO))
 bB))))))))))
 (aF (aQ nO))))) ?_
 rintro us M Q ⟨g,L,rfl,hwf,hLF,hs,q⟩
 refine ⟨rfl,?_⟩
 dsimp! only [b9,cG,bR,dP,mD,dX,qC,qK,eV,gU,hW]
 refine fun p hp=>?_
 refine i8 (fun τ M'=>∃ (c:Nat) (st:List (G × Nat)) (e1 e2 e3:Option U),τ=[some g.toU,some (.ref fl),some (.int 9),some (.int 5),some (.int (c:Nat)),some (.ref p),e1,e2,e3]/\M'=mup M p (.lst (st.map ent))/\(∀ x∈st,x.1.wf L)/\c<=9/\st.length<=c + 1/\(VV c st ↔ VV 0 [(g,1)]))
  (fun τ _=>match τ with | [_,_,_,_,some (.int c),_,_,_,_]=>10 - c.toNat | _=>0) ⟨0,[(g,1)],none,none,none,rfl,rfl,(fun x hx=>by cases List.mem_singleton.mp hx;exact hwf),by omega,by simp,Iff.rfl⟩ ?_
 rintro τ M' ⟨c,st,e1,e2,e3,rfl,rfl,hst,hc,hlen,hV⟩
 have no:¬ VV c st->Q (.bl false) M:=fun h=>by
  have:qM g=false:=by
   cases hv:qM g with
   | false=>rfl
   | true=>exact absurd (hV.mpr ((B7 g).mp hv)) h
  rw [this] at q
  exact q
 have fin:∀ us,i4 Q (.bl false) (mup M p (.lst us)) ↔ i4 Q (.bl false) (mup M p (.lst us)):=fun _=>Iff.rfl
 have out:∀ us,Q (.bl false) M->i4 Q (.bl false) (mup M p (.lst us)):=fun us h=>⟨_,M,(Sub.refl M).mup hp,.inl rfl,h⟩
 rcases OI st with rfl | ⟨st,⟨x,dd⟩,rfl⟩
 ·dsimp! only [List.isEmpty_nil,b9,cG,bR,dP,mD,dX,qC,qK,eV,gU,hW]
  have:qM g=true:=by
   rw [B7,<- hV]
   exact ⟨by simp only [rT];omega,(fun x hx=>by cases hx),(fun x hx=>by cases hx)⟩
  rw [this] at q
  exact ⟨_,M,(Sub.refl M).mup hp,.inl rfl,q⟩
 ·have hlen':st.length<=c:=by simpa using hlen
  have hxw:x.wf L:=hst (x,dd) (by simp)
  have hse:(st.map ent++[U.tup [x.toU,U.int (dd:Nat)]]).isEmpty=false:=by simp
  dsimp! only [List.map_append,hse,Dw,Dc,ent,b9,cG,bR,dP,mD,dX,qC,qK,eV,gU,hW]
  refine ⟨cD,fM (fun h=>?_) (fun h=>fM (fun h2=>?_) (fun h2=>?_))⟩
  ·refine out _ (no fun hv=>?_)
   have:=of_decide_eq_true h
   have h3:=hv.1
   rw [sG] at h3
   have h4:1<=x.size:=by cases x <;> simp only [G.size] <;> omega
   simp only [rT] at h3
   omega
  ·refine out _ (no fun hv=>?_)
   have:=of_decide_eq_true h2
   have h3:=hv.2.1 (x,dd) (by simp)
   have h4:1<=x.dep:=by cases x <;> simp only [G.dep] <;> omega
   simp only at h3
   omega
  ·have hc1:c + 1<=9:=by
    have:¬ (9:Int) < (c:Int) + 1:=fun z=>h (decide_eq_true z)
    omega
   have hdd:dd<=5:=by
    have:¬ (5:Int) < (dd:Int):=fun z=>h2 (decide_eq_true z)
    omega
   have hst':∀ y∈st,y.1.wf L:=fun y hy=>hst y (by simp [hy])
   cases x with
   | leaf u b =>
    obtain ⟨b',hb'⟩:=hLF u b hxw
    refine ⟨_,rfl,.inl ⟨b',hb',?_⟩⟩
    dsimp! only [b9,cG,bR,dP,mD,dX,qC,qK,eV,gU,hW]
    refine hs u b _ _ ((Sub.refl M).mup hp) hxw ?_
    cases b with
    | false =>
     dsimp! only [b9,cG,bR,dP,mD,dX,qC,qK,eV,gU,hW]
     refine out _ (no fun hv=>?_)
     have:=hv.2.2 (G.leaf u false,dd) (by simp)
     cases this
    | true =>
     dsimp! only [b9,cG,bR,dP,mD,dX,qC,qK,eV,gU,hW]
     refine ⟨⟨c + 1,st,_,_,_,rfl,rfl,hst',hc1,by omega,?_⟩,by omega⟩
     rw [<- hV]
     exact Ob hdd
   | turn a =>
    refine ⟨_,rfl,.inr ⟨_,_,rfl,Me,?_⟩⟩
    dsimp! only [G.toU,b9,cG,bR,dP,mD,dX,qC,qK,eV,gU,hW]
    refine ⟨cD,fL (S:=⟨none,[a.toU]⟩) (M1:=mup M p (.lst (st.map ent))) [ent (a,dd + 1)] (fun R r=>?_) rfl (show 1<=sizeLine by decide) (fun a e=>by cases e) ?_ ?_⟩
    ·dsimp! only [Kw,b9,cG,bR,dP,mD,dX,qC,qK,eV,gU,hW]
     exact r
    ·intro j x y hx hy M' _ R r'
     match j,hx,hy with
     | 0,hx,hy =>
      cases hx;cases hy
      dsimp! only [b9,cG,bR,dP,mD,dX,qC,qK,eV,gU,hW]
      first | refine ⟨by decide,?_⟩ | skip
      have e:U.tup [a.toU,U.int ((dd:Int) + 1)]=ent (a,dd + 1):=rfl
      rw [e];exact r'
     | j + 1,hx,hy=>cases hx
    ·dsimp! only [b9,cG,bR,dP,mD,dX,qC,qK,eV,gU,hW]
     refine ⟨small (by simp;omega),⟨c + 1,st++[(a,dd + 1)],_,_,_,rfl,by rw [List.map_append];rfl,?_,hc1,by simp;omega,?_⟩,by omega⟩
     ·intro y hy
      rcases List.mem_append.mp hy with hy | hy
      ·exact hst' y hy
      ·cases List.mem_singleton.mp hy;exact hxw
     ·rw [<- hV];exact OD
   | two o a b =>
    refine ⟨_,rfl,.inr ⟨_,_,rfl,OE o,?_⟩⟩
    dsimp! only [G.toU,b9,cG,bR,dP,mD,dX,qC,qK,eV,gU,hW]
    refine ⟨cD,fL (S:=⟨none,[a.toU,b.toU]⟩) (M1:=mup M p (.lst (st.map ent))) [ent (a,dd + 1),ent (b,dd + 1)] (fun R r=>?_) rfl (show 2<=sizeLine by decide) (fun a e=>by cases e) ?_ ?_⟩
    ·dsimp! only [Kw,b9,cG,bR,dP,mD,dX,qC,qK,eV,gU,hW]
     exact r
    ·intro j x y hx hy M' _ R r'
     match j,hx,hy with
     | 0,hx,hy =>
      cases hx;cases hy
      dsimp! only [b9,cG,bR,dP,mD,dX,qC,qK,eV,gU,hW]
      first | refine ⟨by decide,?_⟩ | skip
      have e:U.tup [a.toU,U.int ((dd:Int) + 1)]=ent (a,dd + 1):=rfl
      rw [e];exact r'
     | 1,hx,hy =>
      cases hx;cases hy
      dsimp! only [b9,cG,bR,dP,mD,dX,qC,qK,eV,gU,hW]
      first | refine ⟨by decide,?_⟩ | skip
      have e:U.tup [b.toU,U.int ((dd:Int) + 1)]=ent (b,dd + 1):=rfl
      rw [e];exact r'
     | j + 2,hx,hy=>cases hx
    ·dsimp! only [b9,cG,bR,dP,mD,dX,qC,qK,eV,gU,hW]
     refine ⟨small (by simp;omega),⟨c + 1,st++[(a,dd + 1),(b,dd + 1)],_,_,_,rfl,by rw [List.map_append];rfl,?_,hc1,by simp;omega,?_⟩,by omega⟩
     ·intro y hy
      rcases List.mem_append.mp hy with hy | hy
      ·exact hst' y hy
      ·simp only [List.mem_cons,List.not_mem_nil,or_false] at hy
       rcases hy with rfl | rfl
       ·exact hxw.1
       ·exact hxw.2
     ·rw [<- hV];exact RL
noncomputable def LP (cs:List Str) (u:U) (b:Bool):Prop:=plain u/\xY u=false/\b=lG cs u
noncomputable def QP:Str:=Str.ofString "is_pattern"++Str.ofString ".<locals>."++Str.ofString "<lambda>"
noncomputable def isAt:U->Bool
 | .tup (.str z :: _)=>decide (z=Str.ofString "at")
 | _=>false
namespace G
noncomputable def holes:G->Nat
 | leaf u _=>if isAt u then 1 else 0
 | turn a=>a.holes
 | two _ a b=>a.holes + b.holes
end G
noncomputable def rJ (g:G):Bool:=qM g && decide (g.holes<=4)
theorem OL {cs:List Str} {u:U} (hp:plain u) (h:lG cs u=true):∃ p:Pt,p.toU=u/\p.dep=1/\p.holes=(if isAt u then 1 else 0):=by
 cases u with
 | tup us =>
  cases us with
  | nil=>cases h
  | cons x r =>
   cases x with
   | str z =>
    simp only [lG] at h
    by_cases h1:z=Str.ofString "at"
    ·subst h1
     rw [if_pos rfl] at h
     rcases r with _ | ⟨a,_ | ⟨b,r⟩⟩
     ·cases h
     ·cases a with
      | str y=>exact ⟨.hole y,rfl,rfl,by simp [isAt,Pt.holes]⟩
      | _=>cases h
     ·cases h
    ·rw [if_neg h1] at h
     by_cases h2:z=Str.ofString "from"
     ·subst h2
      rw [if_pos rfl] at h
      rcases r with _ | ⟨a,_ | ⟨b,_ | ⟨c,r⟩⟩⟩
      ·cases h
      ·cases h
      ·dsimp only at h
       cases a with
       | int i =>
        cases b with
        | int j=>exact ⟨.fr i j,rfl,rfl,by simp [isAt,Pt.holes,h1]⟩
        | _=>simp [sP] at h
       | _=>simp [sP] at h
      ·cases h
     ·rw [if_neg h2,Bool.and_eq_true] at h
      obtain ⟨h3,h4⟩:=h
      have:=of_decide_eq_true h3
      subst this
      cases r with
      | nil=>exact ⟨.any,rfl,rfl,by simp [isAt,Pt.holes,h1]⟩
      | cons a r=>cases h4
   | _=>cases h
 | _=>cases h
theorem uX {cs:List Str}:∀ (g:G),g.wf (LP cs)->g.fit=true->∃ p:Pt,p.toU=g.toU/\p.dep=g.dep/\p.holes=g.holes
 | .leaf u b,⟨hp,_,hb⟩,h=>by
  simp only [G.fit] at h
  rw [h] at hb
  obtain ⟨p,h1,h2,h3⟩:=OL hp hb.symm
  exact ⟨p,h1,h2,h3⟩
 | .turn a,h1,h=>by
  obtain ⟨p,e1,e2,e3⟩:=uX a h1 h
  exact ⟨.turn p,by simp only [Pt.toU,G.toU,e1],by simp only [Pt.dep,G.dep,e2],e3⟩
 | .two o a b,h1,h=>by
  simp only [G.fit,Bool.and_eq_true] at h
  obtain ⟨p,e1,e2,e3⟩:=uX a h1.1 h.1
  obtain ⟨p',f1,f2,f3⟩:=uX b h1.2 h.2
  exact ⟨.two o p p',by simp only [Pt.toU,G.toU,e1,f1],by simp only [Pt.dep,G.dep,e2,f2],by simp only [Pt.holes,G.holes,e3,f3]⟩
theorem Ot:∀ (p:Pt) (pl:List Nat),((cS p pl).filterMap hF).length=p.holes:=by
 intro p
 induction p with
 | hole c=>intro pl;rfl
 | any=>intro pl;rfl
 | fr l h=>intro pl;rfl
 | turn a ih=>intro pl;simp only [cS,Pt.holes,List.filterMap_cons,hF];exact ih _
 | two o a b iha ihb=>intro pl;simp only [cS,Pt.holes,List.filterMap_cons,List.filterMap_append,List.length_append,hF,iha,ihb]
noncomputable def F0 (Pt:Addr):bN:=fun us M Q=>∃ (g:G) (cs:List Str),us=[g.toU,.tup (cs.map U.str)]/\g.wf (LP cs)/\(∀ c∈cs,PyData.strOk c=true)/\M Pt=some (.tbl QP)/\Q (.bl (rJ g)) M
theorem Bu {c0 Pt fsh:Addr} {t1 t2 t3:Tok} (F:cF K "is_pattern" "is_pattern" eB f fd) (hfd:fd.code=.ref c0) (hm:mg "is_pattern"=some (.ref f)) (hK:PySem.W.codeHdIn K c0 Pt=true) (hB:j5 base mg) (pG:mg "is_shape"=some (.ref fsh)) (k_is_shape:PySem.W.keepIn K (.ref fsh)=true) (aW:mg "len"=none)
  (oY:mg "MOST_PIECES"=some (.int 9 t1)) (o8:mg "MOST_WITHIN"=some (.int 5 t2)) (p8:mg "MOST_HOLES"=some (.int 4 t3))
  (Ga:∀ (base:Heap) (fl:Addr) (s:bN),j5 base mg->n9 P w K mg base 4 fl s->Callee P w K mg base 5 "is_shape" (Fn fl s) []) (CL_is_pattern_leaf:∀ base,j5 base mg->Callee P w K mg base 3 "is_pattern_leaf" Ax []) (NY:Callee P w K mg base 8 "holes" E9 []):Callee P w K mg base 9 "is_pattern" (F0 Pt) []:=by
 refine HJ F hfd hm Bo (nM fun _ _ _ _ _ _ _ _=>rfl) (fun us M Q h=>by obtain ⟨_,_,rfl,_⟩:=h;rfl) (aD (bK (dD (cM (Ld (P:=Pt) (q:=QP) 3 ["leaf","classes"] ["leaf"] [1] pG k_is_shape Ga hB (Ao (uv 0) (PD (P:=Pt) (q:=QP) hK hB (Ao (lS oY) (Ao (lS o8) QU)))) (fun base hBm=>(aR (CL_is_pattern_leaf base hBm) (aA (uv 0) (aA (uv 1) aB)) (hj:=by dsimp only [Ly];omega))))))
 (aF (aQ nO))
 bB)
 (aF (aQ (j7 mC (b8 cO aW (aA (aR NY (aA (uv 0) aB)) aB)) (lS p8))))) ?_
 rintro us M Q ⟨g,cs,rfl,hw,hc,hP,q⟩
 refine aN fun V1 hV1=>?_
 refine bX fun A B hA hB'=>?_
 simp? only [dX,Gx,eV,gU,hW]
 have back:∀ ps vs,mup (mup M Pt (.cap ps vs [.tup (cs.map U.str)])) Pt (.tbl QP)=M:=fun ps vs=>by
  rw [iO]
  funext b
  by_cases hb:b=Pt
  ·subst hb;rw [bC,hP]
  ·rw [bH hb]
 refine ⟨hP,fun fl=>⟨hP,[.tup (cs.map U.str)],rfl,fun ps vs hno=>⟨g,LP cs,rfl,hw,fun u b h=>⟨b,h.1,h.2.1⟩,fun u b M' Q' hS h hq=>?_,hno,bC,?_⟩⟩⟩
 ·refine ⟨hS Pt _ bC,rfl,?_⟩
  simp? only [true_and]
  exact ⟨u,cs,rfl,h.1,hc,by rw [<- h.2.2];exact hq⟩
 ·rw [back]
  cases hv:qM g with
  | false =>
   simp? only [true_and]
   subst hA
   simp? only [bM]
   have e:rJ g=false:=by unfold rJ;rw [hv];rfl
   rw [e] at q
   exact aI q
  | true =>
   simp? only [true_and]
   subst hB'
   simp only [bW]
   subst hV1
   have hv':=hv
   unfold qM at hv'
   simp only [Bool.and_eq_true,decide_eq_true_eq] at hv'
   obtain ⟨h1,h2,h3⟩:=hv'
   obtain ⟨p,e1,e2,e3⟩:=uX g hw h3
   simp? only [bM]
   refine ⟨p,by rw [e1],by omega,?_⟩
   simp? only [true_and]
   have e:rJ g=decide ((((QT p).map rM).length:Int)<=4):=by
    unfold rJ QT
    rw [hv,Bool.true_and,List.length_map,Ot,e3]
    by_cases hh:g.holes<=4
    ·rw [decide_eq_true hh];exact (decide_eq_true (by omega)).symm
    ·rw [decide_eq_false hh];exact (decide_eq_false (by omega)).symm
   rw [e] at q
   exact aI q
noncomputable def Tg (u:U):Prop:=∃ a k p d,u=.tup [a,k,p,d]
noncomputable def yF:U->Bool
 | .int i=>decide (0<=i) && decide (i<=1000)
 | _=>false
noncomputable def mX:U->U->Bool
 | .tup [.str z,.str c],.str y=>!(decide (z=Str.ofString "at") && decide (c=y))
 | _,_=>true
noncomputable def vV (cs:List Str) (u:U) (b:Bool):Prop:=plain u/\((¬ Tg u/\b=false)\/∃ (a k:U) (g:G) (d:U),u=.tup [a,k,g.toU,d]/\g.wf (LP cs)/\b=(isName a && (wF cs k && (rJ g && (yF d && mX g.toU k)))))
theorem DS {u:U} (h:plain u):S3 u:=by
 cases u with
 | str z=>exact small (Nat.le_trans h.1.2 (by decide))
 | ref a=>exact h.1.elim
 | ty a=>exact h.1.elim
 | _=>trivial
theorem Ez (z:Pt) (k:U):mX (.tup [.str (Str.ofString "turn"),z.toU]) k=true:=by
 cases z <;> cases k <;> rfl
theorem GU (z a b:U) (k:U):mX (.tup [z,a,b]) k=true:=by
 unfold mX
 split
 ·rename_i h;cases h
 ·rfl
noncomputable def JP:bN:=fun us M Q=>∃ (a k d:U) (p:Pt),us=[.tup [a,k,p.toU,d]]/\Q (.bl (isAt p.toU)) M
theorem HV (F:cF K "is_pass" "is_pass" mK f fd) (hm:mg "is_pass"=some (.ref f)):Callee P w K mg base 1 "is_pass" JP []:=by
 refine bD F hm Hn (lO fun _ _ _ _ _ _ _=>rfl) (aF (aQ (j7 cI (aL (aL (uv 0) aH) aH) bZ))) ?_
 rintro us M Q ⟨a,k,d,p,rfl,q⟩
 refine ⟨rfl,?_⟩
 cases p <;> (simp? only [bM,Pt.toU];exact aI q)
noncomputable def C5 (Pt:Addr):bN:=fun us M Q=>∃ (u:U) (cs:List Str) (b:Bool),us=[u,.tup (cs.map U.str)]/\vV cs u b/\(∀ c∈cs,PyData.strOk c=true)/\M Pt=some (.tbl QP)/\Q (.bl b) M
theorem Hd {Pl:Addr} {t1:Tok} (F:cF K "is_tile" "is_tile" mJ f fd) (hm:mg "is_tile"=some (.ref f)) (aM:mg "isinstance"=none) (bI:mg "tuple"=none) (aW:mg "len"=none) (lZ:mg "GREATEST_PRICE"=some (.int 1000 t1))
  (uZ:Callee P w K mg base 1 "is_name" Cs []) (B8:Callee P w K mg base 9 "is_pattern" (F0 Pl) []) (sZ:Callee P w K mg base 1 "is_whole" tQ []) (IZ:Callee P w K mg base 1 "is_pass" JP []):Callee P w K mg base 10 "is_tile" (C5 Pl) []:=by
 refine bD F hm Gw (nM fun _ _ _ _ _ _ _ _=>rfl) (aD (bK (gW.pt (iH (dD (cM (b8 h9 aM (aA (uv 0) (aA (hJ (n:="tuple") bI) aB))))) (gZ (bO rA (b8 cO aW (aA (uv 0) aB)) aH))))
 (aF (aQ nO))
 bB)
 (aD (bK (gW.pt (iH (dD (cM (aR uZ (aA (aL (uv 0) aH) aB)))) (iH (bO Mn (aL (uv 0) aH) (uv 1)) (gZ (dD (cM (aR B8 (aA (aL (uv 0) aH) (aA (uv 1) aB)))))))))
 (aF (aQ nO))
 bB)
 (aD (bK (gW.pt (iH (dD (cM (aR sZ (aA (aL (uv 0) aH) aB)))) (gZ (dD (zD mC mC aH (aL (uv 0) aH) (lS lZ))))))
 (aF (aQ nO))
 bB)
 (aF (aQ (R9 (DB (aR IZ (aA (uv 0) aB))) (iP (j7 rA (aL (aL (uv 0) aH) aH) (aL (uv 0) aH))))))))) ?_
 rintro us M Q ⟨u,cs,b,rfl,⟨hp,h⟩,hc,hP,q⟩
 refine ⟨rfl,?_⟩
 have neX:∀ (i j:Int) (M:aG) (Q:UK),kE true (.int i) (.int j) M Q=Q (.bl (!decide (i=j))) M:=fun i j M Q=>rfl
 refine aN fun V1 hV1=>?_
 refine bX fun A B hA hB=>?_
 rcases h with ⟨n4,rfl⟩ | ⟨a,k,g,d,rfl,hw,rfl⟩
 ·have fls:A M:=by
   subst hA
   simp? only [bM]
   exact aI q
  cases u with
  | tup us =>
   have hl:decide ((us.length:Int)=4)=false:=decide_eq_false fun z=>n4 (by
    have z:us.length=4:=by omega
    match us,z with
    | [a,k,p,d],_=>exact ⟨a,k,p,d,rfl⟩)
   simp? only [neX,hl]
   exact fls
  | ref a=>exact hp.1.elim
  | ty a=>exact hp.1.elim
  | dic a b c=>exact hp.1.elim
  | _=>simp? only [true_and];exact fls
 ·have d4:decide (((0 + 1 + 1 + 1 + 1:Nat):Int)=4)=true:=rfl
  simp? only [neX,d4]
  subst hB
  simp only [bW]
  subst hV1
  refine aN fun V2 hV2=>?_
  refine bX fun A B hA hB=>?_
  have pa:plain a:=iZ hp (by simp)
  have pk:plain k:=iZ hp (by simp)
  have pd:plain d:=iZ hp (by simp)
  have fls:Q (.bl false) M->A M:=fun q=>by
   subst hA
   simp? only [bM]
   exact aI q
  simp? only [true_and]
  refine ⟨a,rfl,DS pa,?_⟩
  cases ha:isName a with
  | false =>
   rw [ha] at q
   simp? only [true_and]
   exact fls q
  | true =>
   rw [ha] at q
   simp? only [true_and]
   refine Fp (neg:=true) pk hc ?_
   cases hk:wF cs k with
   | false =>
    rw [hk] at q
    simp? only [true_and]
    exact fls q
   | true =>
    rw [hk] at q
    simp? only [true_and]
    refine ⟨g,cs,rfl,hw,hc,hP,?_⟩
    cases hg:rJ g with
    | false =>
     rw [hg] at q
     simp? only [true_and]
     exact fls q
    | true =>
     rw [hg] at q
     simp? only [true_and]
     clear fls hA
     subst hB
     simp only [bW]
     subst hV2
     refine aN fun V3 hV3=>?_
     refine bX fun A B hA hB=>?_
     have fls:Q (.bl false) M->A M:=fun q=>by
      subst hA
      simp? only [bM]
      exact aI q
     simp? only [true_and]
     refine ⟨d,rfl,pd,?_⟩
     cases d with
     | int i =>
      simp? only [CQ]
      simp only [yF,Bool.true_and] at q
      by_cases h0:0<=i
      ·simp? only [h0,Bool.true_and] at q ⊢
       by_cases h1:i<=1000
       ·simp? only [h1,Bool.true_and] at q ⊢
        clear fls hA
        subst hB
        simp only [bW]
        subst hV3
        unfold rJ qM at hg
        simp only [Bool.and_eq_true,decide_eq_true_eq] at hg
        obtain ⟨⟨_,_,hf⟩,_⟩:=hg
        obtain ⟨p,e1,_,_⟩:=uX g hw hf
        rw [<- e1] at q ⊢
        obtain ⟨y,rfl⟩:∃ y,k=.str y:=by
         cases k with
         | str y=>exact ⟨y,rfl⟩
         | _=>cases hk
        simp? only [bM]
        refine ⟨a,_,_,p,rfl,?_⟩
        cases p with
        | hole c =>
         simp? only [Pt.toU,isAt,mX,Bool.true_and] at q ⊢
         exact aI q
        | any=>simp? only [Pt.toU,isAt,mX,Cn] at q ⊢;exact aI q
        | fr l h=>simp? only [Pt.toU,isAt,mX,A8] at q ⊢;exact aI q
        | turn z=>simp? only [Pt.toU,isAt,Ez,A2] at q ⊢;exact aI q
        | two o y z=>simp? only [Pt.toU,isAt,GU,JJ] at q ⊢;exact aI q
       ·simp? only [h1] at q ⊢
        exact fls q
      ·simp? only [h0,Bool.false_and] at q ⊢
       exact fls q
     | ref a=>exact pd.1.elim
     | ty a=>exact pd.1.elim
     | dic a b c=>exact pd.1.elim
     | _=>simp? only [CQ];exact fls q
noncomputable def strOf:U->Str
 | .str z=>z
 | _=>Str.ofString ""
theorem yD:∀ {us:List U},us.all isName=true->us=(us.map strOf).map U.str
 | [],_=>rfl
 | u :: us,h=>by
  rw [List.all_cons,Bool.and_eq_true] at h
  cases u with
  | str z=>simp only [List.map_cons,strOf];rw [<- yD h.2]
  | _=>cases h.1
noncomputable def FZ (ss:List Str):Bool:=decide ((eR ss).length=ss.length)
noncomputable def wX:bN:=fun us M Q=>∃ (u:U) (ss:List Str),us=[u]/\(u=.tup (ss.map U.str)\/u=.lst (ss.map U.str))/\ss.length < 1000/\Q (.bl (FZ ss)) M
theorem Ir (F:cF K "are_unlike" "are_unlike" iM f fd) (hm:mg "are_unlike"=some (.ref f)) (aW:mg "len"=none) (GO:mg "set"=none):Callee P w K mg base 1 "are_unlike" wX []:=by
 refine bD F hm Bl (lO fun _ _ _ _ _ _ _=>rfl) (aF (aQ (j7 cI (GA aW GO (aA (uv 0) aB)) (b8 cO aW (aA (uv 0) aB))))) ?_
 rintro us M Q ⟨u,ss,rfl,hu,hl,q⟩
 refine ⟨rfl,?_⟩
 have e:∀ n m:Nat,decide ((n:Int)=(m:Int))=decide (n=m):=fun n m=>by
  by_cases h:n=m
  ·subst h;simp
  ·rw [decide_eq_false h];exact decide_eq_false (by omega)
 rcases hu with rfl | rfl <;>
 ·simp? only [bM,B6,List.length_map]
  refine ⟨ss,rfl,hl,?_⟩
  simp? only [e]
  exact aI q
theorem FT (f:U->Bool):∀ us:List U,oV (us.map fun u=>U.bl (f u))=some (us.map f)
 | []=>rfl
 | u :: us=>by simp only [List.map_cons,oV,FT f us,Option.map_some]
theorem J5:∀ bs:List Bool,oV (bs.map U.bl)=some bs
 | []=>rfl
 | b :: bs=>by simp only [List.map_cons,oV,J5 bs,Option.map_some]
noncomputable def rZ:U->Bool
 | .tup us=>decide (1<=us.length) && (decide (us.length<=6) && (us.all isName && FZ (us.map strOf)))
 | _=>false
noncomputable def sO:bN:=fun us M Q=>∃ u:U,us=[u]/\plain u/\Q (.bl (rZ u)) M
theorem zU {t1:Tok} (F:cF K "are_classes" "are_classes" gM f fd) (hm:mg "are_classes"=some (.ref f)) (aM:mg "isinstance"=none) (bI:mg "tuple"=none) (aW:mg "len"=none) (pD:mg "all"=none) (n0:mg "MOST_CLASSES"=some (.int 6 t1)) (uZ:Callee P w K mg base 1 "is_name" Cs []) (qA:Callee P w K mg base 1 "are_unlike" wX []):Callee P w K mg base 2 "are_classes" sO []:=by
 refine bD F hm Au (lO fun _ _ _ _ _ _ _=>rfl) (aD (bK (gW.pt (iH (dD (cM (b8 h9 aM (aA (uv 0) (aA (hJ (n:="tuple") bI) aB))))) (gZ (dD (zD mC mC aH (b8 cO aW (aA (uv 0) aB)) (lS n0))))))
 (aF (aQ nO))
 bB)
 (aF (aQ (gY (b8 F7 pD (aA (n8 false ["name"] 1 [] (iT (uv 0)) (bQ (k:=1) 0 (by dsimp only [cQ];decide +kernel)) mG (aR uZ (aA (uv 0) aB))) aB)) (iP (aR qA (aA (uv 0) aB))))))) ?_
 rintro us M Q ⟨u,rfl,hp,q⟩
 refine ⟨rfl,?_⟩
 refine aN fun V1 hV1=>?_
 refine bX fun A B hA hB=>?_
 have fls:Q (.bl false) M->A M:=fun q=>by
  subst hA
  simp? only [bM]
  exact aI q
 cases u with
 | tup us =>
  have hl:=plain_len hp
  simp only [rZ] at q
  simp? only [true_and]
  by_cases h1:1<=us.length
  ·have h1':(1:Int)<=(us.length:Int):=by omega
   simp? only [h1,h1',Bool.true_and] at q ⊢
   by_cases h2:us.length<=6
   ·have h2':(us.length:Int)<=6:=by omega
    simp? only [h2,h2',Bool.true_and] at q ⊢
    subst hB
    simp only [bW]
    subst hV1
    simp only [bM,nE,tV,nK,pU]
    refine fL (S:=⟨none,us⟩) (M1:=M) (us.map fun x=>U.bl (isName x)) (fun R r=>?_) (by simp) (small (by show us.length<=_;omega)) (fun a e=>by cases e) (fun i x y hx hy M' _ R r=>?_) ?_
    ·simp? only [true_and];exact r
    ·rw [List.getElem?_map,hx] at hy
     cases hy
     simp? only [hName]
     exact ⟨x,rfl,DS (iZ hp (List.mem_of_getElem? hx)),r⟩
    ·simp? only [FT]
     cases ha:us.all isName with
     | false =>
      rw [ha] at q
      have e:((us.map isName).all fun b=>b)=false:=by rw [List.all_map];exact ha
      simp? only [e]
      exact aI q
     | true =>
      rw [ha] at q
      have e:((us.map isName).all fun b=>b)=true:=by rw [List.all_map];exact ha
      simp? only [e]
      exact ⟨_,us.map strOf,rfl,.inl (by rw [<- yD ha]),by rw [List.length_map];omega,aI q⟩
   ·have h2':¬ (us.length:Int)<=6:=by omega
    simp? only [h2,h2',Bool.false_and] at q ⊢
    exact fls q
  ·have h1':¬ (1:Int)<=(us.length:Int):=by omega
   simp? only [h1,h1',Bool.false_and] at q ⊢
   exact fls q
 | ref a=>exact hp.1.elim
 | ty a=>exact hp.1.elim
 | dic a b c=>exact hp.1.elim
 | _=>simp? only [true_and];exact fls q
noncomputable def IQ (cs:List Str) (u:U) (b:Bool):Prop:=plain u/\(((∀ ts,u≠.tup ts)/\b=false)\/∃ (ts:List U) (bs:List Bool),u=.tup ts/\Paired (vV cs) ts bs/\b=(decide (1<=ts.length) && (decide (ts.length<=40) && ((bs.all fun x=>x) && FZ (ts.map fun t=>match t with | .tup (.str z :: _)=>z | _=>Str.ofString "")))))
theorem Jg {cs:List Str} {u:U} (h:vV cs u true):∃ z r,u=.tup (.str z :: r):=by
 rcases h.2 with ⟨_,z⟩ | ⟨a,k,g,d,rfl,_,e⟩
 ·cases z
 ·cases a with
  | str z=>exact ⟨z,_,rfl⟩
  | _=>cases e
theorem tI {α β:Type} {R:α->β->Prop}:∀ {xs:List α} {ys:List β},Paired R xs ys->∀ {i:Nat} {x:α} {y:β},xs[i]?=some x->ys[i]?=some y->R x y
 | _,_,.nil,i,_,_,h,_=>by simp at h
 | _,_,.cons h t,0,_,_,h1,h2=>by cases h1;cases h2;exact h
 | _,_,.cons h t,i + 1,_,_,h1,h2=>tI t (by simpa using h1) (by simpa using h2)
noncomputable def DE (Pt:Addr):bN:=fun us M Q=>∃ (u:U) (cs:List Str) (b:Bool),us=[u,.tup (cs.map U.str)]/\IQ cs u b/\(∀ c∈cs,PyData.strOk c=true)/\M Pt=some (.tbl QP)/\Q (.bl b) M
theorem Dm {Pl:Addr} {t1:Tok} (F:cF K "are_tiles" "are_tiles" j4 f fd) (hm:mg "are_tiles"=some (.ref f)) (aM:mg "isinstance"=none) (bI:mg "tuple"=none) (aW:mg "len"=none) (pD:mg "all"=none) (pZ:mg "MOST_TILES"=some (.int 40 t1)) (Jj:Callee P w K mg base 10 "is_tile" (C5 Pl) []) (qA:Callee P w K mg base 1 "are_unlike" wX []):Callee P w K mg base 11 "are_tiles" (DE Pl) []:=by
 refine bD F hm C0 (nM fun _ _ _ _ _ _ _ _=>rfl) (aD (bK (gW.pt (iH (dD (cM (b8 h9 aM (aA (uv 0) (aA (hJ (n:="tuple") bI) aB))))) (gZ (dD (zD mC mC aH (b8 cO aW (aA (uv 0) aB)) (lS pZ))))))
 (aF (aQ nO))
 bB)
 (aF (aQ (gY (b8 F7 pD (aA (n8 false ["tile","classes"] 1 [1] (iT (uv 0)) (bQ (k:=1) 0 (by dsimp only [cQ];decide +kernel)) mG (aR Jj (aA (uv 0) (aA (uv 1) aB)))) aB)) (iP (aR qA (aA (n8 false ["tile"] 1 [] (iT (uv 0)) (bQ (k:=1) 0 (by dsimp only [cQ];decide +kernel)) mG (aL (uv 0) aH)) aB))))))) ?_
 rintro us M Q ⟨u,cs,b,rfl,⟨hp,h⟩,hc,hP,q⟩
 refine ⟨rfl,?_⟩
 refine aN fun V1 hV1=>?_
 refine bX fun A B hA hB=>?_
 have fls:Q (.bl false) M->A M:=fun q=>by
  subst hA
  simp? only [bM]
  exact aI q
 rcases h with ⟨nt,rfl⟩ | ⟨ts,bs,rfl,hb,rfl⟩
 ·cases u with
  | tup us=>exact (nt us rfl).elim
  | ref a=>exact hp.1.elim
  | ty a=>exact hp.1.elim
  | dic a b c=>exact hp.1.elim
  | _=>simp? only [true_and];exact fls q
 ·have hl:=plain_len hp
  have hlb:=hb.length
  simp? only [true_and]
  by_cases h1:1<=ts.length
  ·have h1':(1:Int)<=(ts.length:Int):=by omega
   simp? only [h1,h1',Bool.true_and] at q ⊢
   by_cases h2:ts.length<=40
   ·have h2':(ts.length:Int)<=40:=by omega
    simp? only [h2,h2',Bool.true_and] at q ⊢
    subst hB
    simp only [bW]
    subst hV1
    simp only [bM,nE,tV,nK,pU]
    refine fL (S:=⟨none,ts⟩) (M1:=M) (bs.map U.bl) (fun R r=>?_) (by simp [hlb]) (small (by show ts.length<=_;omega)) (fun a e=>by cases e) (fun i x y hx hy M' hS R r=>?_) ?_
    ·simp? only [true_and];exact r
    ·rw [List.getElem?_map] at hy
     cases hbi:bs[i]? with
     | none=>rw [hbi] at hy;cases hy
     | some bb =>
      rw [hbi] at hy
      cases hy
      simp? only [hName]
      exact ⟨x,cs,bb,rfl,tI hb hx hbi,hc,hS Pl _ hP,r⟩
    ·simp? only [J5]
     cases ha:bs.all fun x=>x with
     | false =>
      rw [ha] at q
      simp? only [ha]
      exact aI q
     | true =>
      rw [ha] at q
      simp? only [ha]
      have hall:∀ (i:Nat) x,ts[i]?=some x->∃ z r,x=.tup (.str z :: r):=fun i x hx=>by
       have hi:i < bs.length:=by have:=(List.getElem?_eq_some_iff.mp hx).1;omega
       obtain ⟨bb,hbi⟩:∃ bb,bs[i]?=some bb:=⟨_,List.getElem?_eq_getElem hi⟩
       have:bb=true:=List.all_eq_true.mp ha bb (List.mem_of_getElem? hbi)
       subst this
       exact Jg (tI hb hx hbi)
      refine fL (S:=⟨none,ts⟩) (M1:=M) ((ts.map fun t=>match t with | .tup (.str z :: _)=>z | _=>Str.ofString "").map U.str) (fun R r=>?_) (by simp) (small (by show ts.length<=_;omega)) (fun a e=>by cases e) (fun i x y hx hy M' hS R r=>?_) ?_
      ·simp? only [true_and];exact r
      ·obtain ⟨z,rr,rfl⟩:=hall i x hx
       rw [List.getElem?_map,List.getElem?_map,hx] at hy
       cases hy
       simp? only [hName]
       exact r
      ·simp? only [true_and]
       exact ⟨_,_,rfl,.inr rfl,by simp;omega,aI q⟩
   ·have h2':¬ (ts.length:Int)<=40:=by omega
    simp? only [h2,h2',Bool.false_and] at q ⊢
    exact fls q
  ·have h1':¬ (1:Int)<=(ts.length:Int):=by omega
   simp? only [h1,h1',Bool.false_and] at q ⊢
   exact fls q
noncomputable def Dk (u:U) (b:Bool):Prop:=plain u/\(((∀ c t,u≠.tup [c,t])/\b=false)\/∃ c t,u=.tup [c,t]/\((rZ c=false/\b=false)\/∃ cs:List Str,c=.tup (cs.map U.str)/\rZ c=true/\(∀ x∈cs,PyData.strOk x=true)/\IQ cs t b))
noncomputable def CZ (Pt:Addr):bN:=fun us M Q=>∃ (u:U) (b:Bool),us=[u]/\Dk u b/\M Pt=some (.tbl QP)/\Q (.bl b) M
theorem Ej {Pl:Addr} (F:cF K "is_table" "is_table" kW f fd) (hm:mg "is_table"=some (.ref f)) (aM:mg "isinstance"=none) (bI:mg "tuple"=none) (aW:mg "len"=none) (o7:Callee P w K mg base 2 "are_classes" sO []) (El:Callee P w K mg base 11 "are_tiles" (DE Pl) []):Callee P w K mg base 12 "is_table" (CZ Pl) []:=by
 refine bD F hm E1 (lO fun _ _ _ _ _ _ _=>rfl) (aD (bK (gW.pt (iH (dD (cM (b8 h9 aM (aA (uv 0) (aA (hJ (n:="tuple") bI) aB))))) (gZ (bO rA (b8 cO aW (aA (uv 0) aB)) aH))))
 (aF (aQ nO))
 bB)
 (aF (aQ (gY (aR o7 (aA (aL (uv 0) aH) aB)) (iP (aR El (aA (aL (uv 0) aH) (aA (aL (uv 0) aH) aB)))))))) ?_
 rintro us M Q ⟨u,b,rfl,⟨hp,h⟩,hP,q⟩
 refine ⟨rfl,?_⟩
 have neX:∀ (i j:Int) (M:aG) (Q:UK),kE true (.int i) (.int j) M Q=Q (.bl (!decide (i=j))) M:=fun i j M Q=>rfl
 refine aN fun V1 hV1=>?_
 refine bX fun A B hA hB=>?_
 rcases h with ⟨n2,rfl⟩ | ⟨c,t,rfl,h⟩
 ·have fls:A M:=by
   subst hA
   simp? only [bM]
   exact aI q
  cases u with
  | tup us =>
   have hl:decide ((us.length:Int)=2)=false:=decide_eq_false fun z=>by
    have z:us.length=2:=by omega
    match us,z with
    | [c,t],_=>exact n2 c t rfl
   simp? only [neX,hl]
   exact fls
  | ref a=>exact hp.1.elim
  | ty a=>exact hp.1.elim
  | dic a b c=>exact hp.1.elim
  | _=>simp? only [true_and];exact fls
 ·have d2:decide (((0 + 1 + 1:Nat):Int)=2)=true:=rfl
  simp? only [neX,d2]
  subst hB
  simp only [bW]
  subst hV1
  simp? only [bM]
  refine ⟨c,rfl,iZ hp (by simp),?_⟩
  rcases h with ⟨hc,rfl⟩ | ⟨cs,rfl,hc,hs,ht⟩
  ·simp? only [hc]
   exact aI q
  ·simp? only [hc]
   exact ⟨t,cs,b,rfl,ht,hs,hP,aI q⟩
noncomputable def T3:Pt->List Nat->Option Pt
 | p,[]=>some p
 | p,k :: w=>match p.parts[k]? with
  | some a=>T3 a w
  | none=>none
noncomputable def T7:Pt->Bool
 | .turn _=>true
 | .two _ _ _=>true
 | _=>false
noncomputable def gP:Pt->G
 | .turn a=>.turn (gP a)
 | .two o a b=>.two o (gP a) (gP b)
 | p=>.leaf p.toU true
theorem Gz:∀ p:Pt,(gP p).toU=p.toU
 | .turn a=>by simp only [gP,G.toU,Pt.toU,Gz a]
 | .two o a b=>by simp only [gP,G.toU,Pt.toU,Gz a,Gz b]
 | .hole _=>rfl
 | .any=>rfl
 | .fr _ _=>rfl
noncomputable def pN (n:Nat) (u:U):Prop:=pl u/\lay u n
noncomputable def Dd (n:Nat) (us:List U):Prop:=Ck us/\Lk us n
theorem zG {n:Nat}:Dd n []:=⟨trivial,[],rfl,rfl,Nat.zero_le _⟩
theorem nB {n:Nat} {u:U} {us:List U} (h:pN n u) (g:Dd n us):Dd n (u :: us):=by
 obtain ⟨h1,d,e1,e2,e3⟩:=h
 obtain ⟨g1,ds,f1,f2,f3⟩:=g
 refine ⟨⟨h1,g1⟩,d :: ds,by simp only [dO,e1,f1],by simp only [PyData.canLayAll0,e2,f2];rfl,by simp only [PyData.depthAll];omega⟩
theorem pT {n:Nat} {us:List U} (h:Dd n us) (hl:us.length<=1000):pN (n + 1) (.tup us):=by
 obtain ⟨g1,ds,f1,f2,f3⟩:=h
 exact ⟨⟨hl,g1⟩,.tuple ds,by simp only [toD,f1,Option.map_some],by simp only [PyData.canLay0];exact f2,by simp only [PyData.depth];omega⟩
theorem pI {n:Nat} {i:Int}:pN n (.int i):=⟨trivial,_,rfl,rfl,Nat.zero_le _⟩
theorem pS {n:Nat} {z:Str} (h:PyData.strOk z=true) (hl:z.length<=1000):pN n (.str z):=⟨⟨h,hl⟩,_,rfl,(by simp only [PyData.canLay0];exact h),Nat.zero_le _⟩
theorem pN.mono {n m:Nat} {u:U} (h:pN n u) (hm:n<=m):pN m u:=let ⟨a,d,b,c,e⟩:=h;⟨a,d,b,c,Nat.le_trans e hm⟩
theorem pN.plain {n:Nat} {u:U} (h:pN n u) (hn:n<=60):plain u:=h.mono hn
theorem pP {cs:List Str}:∀ {p:Pt},p.ok->p.sm cs->pN p.dep p.toU
 | .hole c,h,k=>pT (nB (pS (by decide +kernel) (by decide +kernel)) (nB (pS h (by have:=k.1;omega)) zG)) (by simp)
 | .any,h,k=>pT (nB (pS (by decide +kernel) (by decide +kernel)) zG) (by simp)
 | .fr l u,h,k=>pT (nB (pS (by decide +kernel) (by decide +kernel)) (nB pI (nB pI zG))) (by simp)
 | .turn a,h,k=>pT (nB (pS (by decide +kernel) (by decide +kernel)) (nB (pP (p:=a) h k) zG)) (by simp)
 | .two o a b,h,k=>pT (nB (pS (by cases o <;> decide +kernel) (by cases o <;> decide +kernel)) (nB ((pP (p:=a) h.1 k.1).mono (Nat.le_max_left _ _)) (nB ((pP (p:=b) h.2 k.2).mono (Nat.le_max_right _ _)) zG))) (by simp)
theorem Ab {z:Str} {r:List U} (h:cB cL z=none):xY (.tup (.str z :: r))=false:=by simp only [xY,h]
theorem BY {cs:List Str}:∀ {p:Pt},p.ok->p.sm cs->p.dep<=50->(gP p).wf (LP cs)
 | .hole c,h,k,_=>⟨(pP (p:=.hole c) h k).plain (by simp [Pt.dep]),Ab (by decide +kernel),by
   have:c∈cs:=k.2
   show true=lG cs (.tup [.str (Str.ofString "at"),.str c])
   simp only [lG,if_true,wF]
   exact (by simpa using this:cs.contains c=true).symm⟩
 | .any,h,k,_=>⟨(pP (cs:=cs) (p:=.any) h k).plain (by decide),Ab (by decide +kernel),by
   have h1:Str.ofString "any"≠Str.ofString "at":=by decide +kernel
   have h2:Str.ofString "any"≠Str.ofString "from":=by decide +kernel
   show true=lG cs (.tup [.str (Str.ofString "any")])
   simp only [lG,h1,h2,if_false,decide_true]
   rfl⟩
 | .fr l u,h,k,_=>⟨(pP (p:=.fr l u) h k).plain (by simp [Pt.dep]),Ab (by decide +kernel),by
   have h1:0<=l:=h.1
   have h2:l<=u:=h.2
   have h3:u<=10 ^ 18:=k
   have hne:Str.ofString "from"≠Str.ofString "at":=by decide +kernel
   show true=lG cs (.tup [.str (Str.ofString "from"),.int l,.int u])
   simp only [lG,hne,if_true,if_false,sP]
   have a1:decide (0<=l)=true:=decide_eq_true h1
   have a2:decide (l<=1000000000000000000)=true:=decide_eq_true (by omega)
   have a3:decide (0<=u)=true:=decide_eq_true (by omega)
   have a4:decide (u<=1000000000000000000)=true:=decide_eq_true (by omega)
   have a5:decide (l<=u)=true:=decide_eq_true h2
   rw [a1,a2,a3,a4,a5];rfl⟩
 | .turn a,h,k,hd=>BY (p:=a) h k (by simp only [Pt.dep] at hd;omega)
 | .two o a b,h,k,hd=>⟨BY (p:=a) h.1 k.1 (by simp only [Pt.dep] at hd;omega),BY (p:=b) h.2 k.2 (by simp only [Pt.dep] at hd;omega)⟩
theorem NV {cs:List Str} {p:Pt} {c:Str} (h:p.toU=.tup [.str (Str.ofString "at"),.str c]):p=.hole c:=by
 cases p with
 | hole d=>simp only [Pt.toU,U.tup.injEq,List.cons.injEq,U.str.injEq,and_true,true_and] at h;rw [h]
 | any=>simp [Pt.toU] at h
 | fr l u=>simp [Pt.toU] at h
 | turn a =>
  simp only [Pt.toU,U.tup.injEq,List.cons.injEq,U.str.injEq] at h
  exact absurd h.1 (by decide +kernel)
 | two o a b=>simp [Pt.toU] at h
theorem Jm {p:Pt} {c:Str} (h:p≠.hole c):mX p.toU (.str c)=true:=by
 unfold mX
 split
 ·rename_i z d y e1 e2
  cases e2
  cases hz:decide (z=Str.ofString "at") && decide (d=c) with
  | false=>rfl
  | true =>
   rw [Bool.and_eq_true] at hz
   have h1:=of_decide_eq_true hz.1
   have h2:=of_decide_eq_true hz.2
   subst h1;subst h2
   exact (h (NV (cs:=[]) e1)).elim
 ·rfl
theorem yB:∀ p:Pt,(gP p).fit=true
 | .turn a=>by simp only [gP,G.fit];exact yB a
 | .two o a b=>by simp only [gP,G.fit,yB a,yB b];rfl
 | .hole _=>rfl
 | .any=>rfl
 | .fr _ _=>rfl
theorem vG:∀ p:Pt,(gP p).size=p.size/\(gP p).dep=p.dep/\(gP p).holes=p.holes
 | .turn a=>by obtain ⟨a1,a2,a3⟩:=vG a;simp only [gP,G.size,G.dep,G.holes,Pt.size,Pt.dep,Pt.holes,a1,a2,a3];exact ⟨trivial,trivial,trivial⟩
 | .two o a b=>by obtain ⟨a1,a2,a3⟩:=vG a;obtain ⟨b1,b2,b3⟩:=vG b;simp only [gP,G.size,G.dep,G.holes,Pt.size,Pt.dep,Pt.holes,a1,a2,a3,b1,b2,b3];exact ⟨trivial,trivial,trivial⟩
 | .hole c=>⟨rfl,rfl,by simp [gP,G.holes,isAt,Pt.toU,Pt.holes]⟩
 | .any=>⟨rfl,rfl,by
   have:Str.ofString "any"≠Str.ofString "at":=by decide +kernel
   simp [gP,G.holes,isAt,Pt.toU,Pt.holes,this]⟩
 | .fr l u=>⟨rfl,rfl,by
   have:Str.ofString "from"≠Str.ofString "at":=by decide +kernel
   simp [gP,G.holes,isAt,Pt.toU,Pt.holes,this]⟩
theorem D3 {cs:List Str} (hc:lJ cs) {t:Tl} (ht:t.ok cs):pN 20 t.toU :=
 (pT (n:=6) (nB (pS ht.no (by have:=ht.nm;omega)) (nB (pS (hc.ok.2.2 _ ht.ci).1 (by have:=ht.cl;omega)) (nB ((pP ht.pt.ok ht.pt.sm).mono (by have:=ht.pt.dep;omega)) (nB pI zG)))) (by simp)).mono (by decide)
theorem Pa {cs:List Str} (hc:lJ cs) {t:Tl} (ht:t.ok cs):vV cs t.toU true:=by
 have hf:=ht.pt
 obtain ⟨s1,s2,s3⟩:=vG t.pt
 have e:=Gz t.pt
 refine ⟨(D3 hc ht).plain (by decide),.inr ⟨.str t.name,.str t.cls,gP t.pt,.int t.cost,by rw [e];rfl,BY hf.ok hf.sm (by have:=hf.dep;omega),?_⟩⟩
 have h1:rJ (gP t.pt)=true:=by
  unfold rJ qM
  rw [yB,s1,s2,s3,decide_eq_true hf.siz,decide_eq_true hf.dep,decide_eq_true hf.hol]
  rfl
 have h2:wF cs (.str t.cls)=true:=by show cs.contains t.cls=true;simpa using ht.ci
 have h3:yF (.int t.cost)=true:=by
  simp only [yF]
  rw [decide_eq_true ht.c0,decide_eq_true ht.c1];rfl
 rw [ht.nn,h1,h2,h3,e,Jm ht.np]
 rfl
theorem wJ {cs:List Str} (hc:lJ cs):∀ {tl:List Tl},(∀ t∈tl,t.ok cs)->Paired (vV cs) (tl.map Tl.toU) (tl.map fun _=>true)
 | [],_=>.nil
 | t :: tl,h=>.cons (Pa hc (h t List.mem_cons_self)) (wJ hc fun x hx=>h x (List.mem_cons_of_mem _ hx))
theorem A4 {cs:List Str} (hc:lJ cs):∀ {tl:List Tl},(∀ t∈tl,t.ok cs)->Dd 20 (tl.map Tl.toU)
 | [],_=>zG
 | t :: tl,h=>nB (D3 hc (h t List.mem_cons_self)) (A4 hc fun x hx=>h x (List.mem_cons_of_mem _ hx))
theorem tH:∀ {cs:List Str},(∀ c∈cs,PyData.strOk c=true/\c.length<=8)->∀ n,Dd n (cs.map U.str)
 | [],_,n=>zG
 | c :: cs,h,n=>nB (pS (h c List.mem_cons_self).1 (by have:=(h c List.mem_cons_self).2;omega)) (tH (fun x hx=>h x (List.mem_cons_of_mem _ hx)) n)
theorem LR (tl:List Tl):((tl.map Tl.toU).map fun t=>match t with | .tup (.str z :: _)=>z | _=>Str.ofString "")=tl.map Tl.name:=by
 rw [List.map_map];rfl
theorem Je (cs:List Str):(cs.map U.str).map strOf=cs:=by
 rw [List.map_map]
 conv=>rhs;rw [<- List.map_id cs]
 rfl
theorem FC (l:List Str):FZ l=true ↔ l.Nodup:=by
 unfold FZ
 rw [decide_eq_true_eq]
 exact JE l
theorem Jq {cs:List Str} (h:∀ c∈cs,isName (.str c)=true):(cs.map U.str).all isName=true:=by
 rw [List.all_map,List.all_eq_true]
 exact h
theorem CF {cs:List Str} (hc:lJ cs):rZ (.tup (cs.map U.str))=true:=by
 have h1:=List.length_pos_iff.mpr hc.ok.1
 have h2:=hc.ok.2.1
 simp only [rZ,List.length_map,Je]
 rw [decide_eq_true (show 1<=cs.length by omega),decide_eq_true h2,Jq hc.nm,(FC cs).mpr hc.nd]
 rfl
theorem Jf {cs:List Str} (hc:lJ cs) {ts:List U} {bs:List Bool} {b:Bool} (hp:Dd 20 ts) (hl:ts.length<=1000) (h:Paired (vV cs) ts bs) (hb:b=(decide (1<=ts.length) && (decide (ts.length<=40) && ((bs.all fun x=>x) && FZ (ts.map fun t=>match t with | .tup (.str z :: _)=>z | _=>Str.ofString ""))))):Dk (.tup [.tup (cs.map U.str),.tup ts]) b:=by
 have p1:pN 21 (.tup (cs.map U.str)):=pT (tH hc.ok.2.2 20) (by rw [List.length_map];have:=hc.ok.2.1;omega)
 have p2:pN 21 (.tup ts):=pT hp hl
 have p3:pN 22 (.tup [.tup (cs.map U.str),.tup ts]):=pT (nB p1 (nB p2 zG)) (by simp)
 exact ⟨p3.plain (by decide),.inr ⟨_,_,rfl,.inr ⟨cs,rfl,CF hc,(fun x hx=>(hc.ok.2.2 x hx).1),p2.plain (by decide),.inr ⟨ts,bs,rfl,h,hb⟩⟩⟩⟩
theorem Mj {cs:List Str} (hc:lJ cs) {tl:List Tl} (h1:1<=tl.length) (h2:tl.length<=40) (h:∀ t∈tl,t.ok cs) (hn:(tl.map Tl.name).Nodup):Dk (.tup [.tup (cs.map U.str),.tup (tl.map Tl.toU)]) true:=by
 refine Jf hc (A4 hc h) (by rw [List.length_map];omega) (wJ hc h) ?_
 rw [List.length_map,LR,decide_eq_true h1,decide_eq_true h2,(FC _).mpr hn]
 have:((tl.map fun _=>true).all fun x=>x)=true:=by rw [List.all_map,List.all_eq_true];intro _ _;rfl
 rw [this];rfl
noncomputable def vR:bN:=fun us M Q=>∃ (p:Pt) (cs:List Str),us=[p.toU]/\p.leafy=true/\p.ok/\p.sm cs/\Q (.str p.text) M
theorem CT (F:cF K "show_leaf" "show_leaf" jW f fd) (cP:mg "str"=none):nU P w K mg base 1 f vR:=by
 have h:gI P w K mg base mM 1 f fd ["leaf"] (dQ K vR):=by
  refine zY F C8 (fun us M Q h=>by obtain ⟨x,_,rfl,_⟩:=h;rfl) (aD (bK (bO cI (aL (uv 0) aH) bZ)
 (aF (aQ (aO (own:=false) bZ (aL (uv 0) aH))))
 bB)
 (aD (bK (bO cI (aL (uv 0) aH) bZ)
 (aF (aQ bZ))
 bB)
 (aF (aQ (aO (own:=false) (aO (own:=false) (oX vI cP (aA (aL (uv 0) aH) aB)) bZ) (oX vI cP (aA (aL (uv 0) aH) aB))))))) ?_
  rintro us M Q ⟨p,cs,rfl,hl,ho,hs,q⟩
  cases p with
  | hole c =>
   have k':c.length<=8:=hs.1
   dsimp! only [Pt.toU,nD,m8,m9,nN,m6,nF,mY,aT,dB,dA,bL,cE]
   exact ⟨small (by rw [C6];omega),aI q⟩
  | any =>
   dsimp! only [Pt.toU,nD,m8,m9,nN,m6,nF,mY,aT,dB,dA,bL,cE]
   exact aI q
  | fr l h =>
   have g1:0<=l:=ho.1
   have g2:l<=h:=ho.2
   have g3:h<=10 ^ 18:=hs
   have e1:=jZ g1 (by omega)
   have e2:=jZ (show 0<=h by omega) g3
   dsimp! only [Pt.toU,nD,m8,m9,nN,m6,nF,mY,aT,dB,dA,bL,cE]
   exact ⟨oO g1 (by omega),small (by rw [vB];omega),oO (by omega) g3,small (by rw [len_app,vB];omega),aI q⟩
  | turn a=>cases hl
  | two o a b=>cases hl
 exact ⟨fd,_,h,F.kp,F.binds (lO fun _ _ _ _ _ _ _=>rfl)⟩
noncomputable def uV (fl:Addr) (n:Nat):bN:=fun us M Q=>∃ (p:Pt) (cs:List Str),us=[p.toU,.ref fl]/\p.ok/\p.sm cs/\p.dep<=n/\p.size<=100/\Q (.str p.text) M
theorem BQ {n:Nat} (F:cF K "show_shape" "show_shape" gC f fd) (hm:mg "show_shape"=some (.ref f)) (fQ:i6 P w K d cL) (fY:mg "SIGNS"=some (.ref d)) (fV:i6 P w K d2 Ad) (fT:mg "MIDDLE_TEXTS"=some (.ref d2))
  (eC:Callee P w K mg base 1 "parts_of" n5 []) (A_show_leaf:nU P w K mg base 1 fl vR) (pL:Callee P w K mg base (n + 1) "show_shape" (uV fl n) []):Callee P w K mg base (n + 2) "show_shape" (uV fl (n + 1)) []:=by
 refine bD F hm tW (nM fun _ _ _ _ _ _ _ _=>rfl) (aD (bK (bO (zL fQ) (aL (uv 0) aH) (nA fY))
 (aF (aQ (CK 1 A_show_leaf (aA (uv 0) aB))))
 bB)
 (aD (Fd 2 tW.nd false ["part","show_leaf"] 1 [1] (iT (aR eC (aA (uv 0) aB))) (bQ (k:=1) 0 (by dsimp only [cQ];decide +kernel)) mG (aR pL (aA (uv 0) (aA (uv 1) aB))))
 (aD (bK (bO cI (aL (uv 0) aH) bZ)
 (aF (aQ (aO (own:=false) (aO (own:=false) bZ (aL (uv 2) aH)) bZ)))
 bB)
 (aF (aQ (aO (own:=false) (aO (own:=false) (aO (own:=false) (aO (own:=false) bZ (aL (uv 2) aH)) (B4 fV (nA fT) (aL (uv 0) aH))) (aL (uv 2) aH)) bZ)))))) ?_
 rintro us M Q ⟨p,cs,rfl,ho,hs,hd,hz,q⟩
 refine ⟨rfl,?_⟩
 cases p with
 | turn a =>
  have hda:a.dep<=n:=by simp only [Pt.dep] at hd;omega
  have hza:a.size<=99:=by simp only [Pt.size] at hz;omega
  have ht:=text_len (p:=a) ho hs
  dsimp! only [Pt.toU,sA,aT,dB,dA,bL,cE]
  refine fL (S:=⟨none,[a.toU]⟩) (M1:=M) [.str a.text] (fun R r=>⟨_,_,true,rfl,sA,by simp,r⟩) rfl (show 1<=sizeLine by decide) (fun a e=>by cases e) ?_ ?_
  ·intro j x y hx hy M' _ R r'
   match j,hx,hy with
   | 0,hx,hy =>
    cases hx;cases hy
    dsimp! only [aT,dB,dA,bL,cE]
    exact ⟨a,cs,rfl,ho,hs,hda,by omega,r'⟩
   | j + 1,hx,hy=>cases hy
  ·dsimp! only [aT,dB,dA,bL,cE]
   exact ⟨small (by rw [qQ];omega),small (by rw [len_app,qQ,sW];omega),aI q⟩
 | two o a b =>
  have hda:a.dep<=n/\b.dep<=n:=by simp only [Pt.dep] at hd;omega
  have hza:a.size<=99/\b.size<=99:=by simp only [Pt.size] at hz;omega
  have ht:=text_len (p:=a) ho.1 hs.1
  have ht2:=text_len (p:=b) ho.2 hs.2
  dsimp! only [Pt.toU,rW,aT,dB,dA,bL,cE]
  refine fL (S:=⟨none,[a.toU,b.toU]⟩) (M1:=M) [.str a.text,.str b.text] (fun R r=>⟨_,_,true,rfl,rW o,by simp,r⟩) rfl (show 2<=sizeLine by decide) (fun a e=>by cases e) ?_ ?_
  ·intro j x y hx hy M' _ R r'
   match j,hx,hy with
   | 0,hx,hy =>
    cases hx;cases hy
    dsimp! only [aT,dB,dA,bL,cE]
    exact ⟨a,cs,rfl,ho.1,hs.1,hda.1,by omega,r'⟩
   | 1,hx,hy =>
    cases hx;cases hy
    dsimp! only [aT,dB,dA,bL,cE]
    exact ⟨b,cs,rfl,ho.2,hs.2,hda.2,by omega,r'⟩
   | j + 2,hx,hy=>cases hy
  ·dsimp! only [nD,m8,m9,nN,m6,nF,mY,Rx,QV,aT,dB,dA,bL,cE]
   have e3:=MQ o
   exact ⟨small (by rw [kA];omega),small (by rw [len_app,kA,e3];omega),small (by rw [len_app,len_app,kA,e3];omega),small (by rw [len_app,len_app,len_app,kA,sW,e3];omega),aI q⟩
 | hole c =>
  dsimp! only [Pt.toU,Qv,aT,dB,dA,bL,cE]
  exact ⟨.hole c,cs,rfl,rfl,ho,hs,aI q⟩
 | any =>
  dsimp! only [Pt.toU,G8,aT,dB,dA,bL,cE]
  exact ⟨.any,cs,rfl,rfl,ho,hs,aI q⟩
 | fr l h =>
  dsimp! only [Pt.toU,DM,aT,dB,dA,bL,cE]
  exact ⟨.fr l h,cs,rfl,rfl,ho,hs,aI q⟩
theorem CI (F:cF K "show_shape" "show_shape" gC f fd) (hm:mg "show_shape"=some (.ref f)) (fQ:i6 P w K d cL) (fY:mg "SIGNS"=some (.ref d)) (fV:i6 P w K d2 Ad) (fT:mg "MIDDLE_TEXTS"=some (.ref d2))
  (eC:Callee P w K mg base 1 "parts_of" n5 []) (A_show_leaf:nU P w K mg base 1 fl vR):∀ n,Callee P w K mg base (n + 1) "show_shape" (uV fl n) []
 | 0=>by
  have no:∀ us M Q,¬ uV fl 0 us M Q:=fun us M Q h=>by
   obtain ⟨p,_,_,_,_,h,_⟩:=h
   have:=Ds p
   omega
  refine ⟨f,fd,["shape","show_leaf"],[],[],⟨fun vs H Q E h=>?_,fun A outer s H args us vs Q E _ _ _ _ h=>?_⟩,hm,F.kp,F.binds (nM fun _ _ _ _ _ _ _ _=>rfl),.nil,fun H M=>.nil⟩
  ·obtain ⟨us,M,Q',_,_,h,_⟩:=h;exact absurd h (no us M Q')
  ·obtain ⟨us,M,Q',_,_,h,_⟩:=h;exact absurd h (no us M Q')
 | n + 1=>BQ F hm fQ fY fV fT eC A_show_leaf (CI F hm fQ fY fV fT eC A_show_leaf n)
noncomputable def D8:bN:=fun us M Q=>∃ (cs:List Str) (tl:List Tl),us=[.tup [eK cs,.tup (tl.map Tl.toU)]]/\qZ cs/\tl.length<=70/\(∀ t∈tl,t.ok cs)/\Q (.str (Txt.join (Str.ofString "\n") (linesOf cs tl))) M
theorem Ac (F:cF K "shown_table" "shown_table" gL f fd) (hm:mg "shown_table"=some (.ref f)) (cP:mg "str"=none) (rQ:mg "show_leaf"=some (.ref fl)) (pL:Callee P w K mg base 7 "show_shape" (uV fl 6) []):Callee P w K mg base 8 "shown_table" D8 []:=by
 refine bD F hm fP (lO fun _ _ _ _ _ _ _=>rfl) (aD (aJ 1 fP.nd (dH (own:=true) (aA (rY bZ (aA (aL (uv 0) aH) aB)) aB)))
 (aD (oR (iT (aL (uv 0) aH)) (oS (n:=4) (cH (bQ (k:=1000) 2 fP.nd) (cH (bQ (k:=1000) 3 fP.nd) (cH (bQ (k:=1000) 4 fP.nd) (cH (bQ (k:=1000) 5 fP.nd) mI)))))
 (aF (cZ (eG (uv 1) (aA (rY bZ (aA (dH (own:=false) (aA (uv 2) (aA (uv 3) (aA (oX vI cP (aA (uv 5) aB)) (aA (aR pL (aA (uv 4) (aA (nA rQ) aB))) aB))))) aB)) aB)))))
 (aF (aQ (rY bZ (aA (uv 1) aB)))))) ?_
 rintro us M Q ⟨cs,tl,rfl,hcs,hl,htl,q⟩
 refine ⟨rfl,?_⟩
 dsimp! only [eK,aT,dB,dA,bL,cE]
 refine ⟨⟨_,rfl⟩,cs,oQ cs,(vQ hcs).1,fun p hp=>?_⟩
 refine pQ (S:=⟨none,tl.map Tl.toU⟩) (M1:=mup M p (.lst [.str (Txt.join (Str.ofString " ") cs)])) (fun R r=>by first | exact r | (dsimp! only [aT,dB,dA,bL,cE];exact r))
  (fun i τ Mi=>∃ (a b c d:Option U),τ=[some (.tup [eK cs,.tup (tl.map Tl.toU)]),some (.ref p),a,b,c,d]/\Mi=mup M p (.lst ((linesOf cs (tl.take i)).map .str))) ⟨_,_,_,_,rfl,rfl⟩ nk ?_ ?_
 ·rintro i x τ Mi e ⟨a,b,c,d,rfl,rfl⟩
  have e':(tl.map Tl.toU)[i]?=some x:=e
  rw [List.getElem?_map] at e'
  cases hk:tl[i]? with
  | none=>rw [hk] at e';cases e'
  | some t =>
   rw [hk] at e'
   cases e'
   have ht:=htl t (List.mem_of_getElem? hk)
   have hrow:=Ai ht
   have hnext:linesOf cs (tl.take (i + 1))=linesOf cs (tl.take i)++[t.row]:=by
    unfold linesOf
    rw [List.take_add_one,hk];simp
   have hll:(linesOf cs (tl.take i)).length<=71:=by simp only [linesOf,List.length_cons,List.length_map,List.length_take];omega
   have h4:=jZ ht.c0 (by have:=ht.c1;omega)
   have hfour:∀ z∈[t.name,t.cls,Str.ofString (toString t.cost),t.pt.text],z.length<=600:=fun z hz=>by
    have h1:=ht.nm;have h2:=ht.cl;have h3:=ht.pt.len
    simp only [List.mem_cons,List.not_mem_nil,or_false] at hz
    rcases hz with rfl | rfl | rfl | rfl <;> omega
   have hj:=tB (B:=600) (n:=4) (z:=Str.ofString " ") (l:=[t.name,t.cls,Str.ofString (toString t.cost),t.pt.text]) (by rw [iE];omega) hfour (by simp) (by decide)
   dsimp! only [Tl.toU,aT,dB,dA,bL,cE]
   refine ⟨cD,⟨_,rfl⟩,oO ht.c0 (by have:=ht.c1;omega),t.pt,cs,rfl,ht.pt.ok,ht.pt.sm,by have:=ht.pt.dep;omega,by have:=ht.pt.siz;omega,?_⟩
   dsimp! only [pE,DZ,Option.map_some,aT,dB,dA,bL,cE]
   exact ⟨by simpa using hj.1,big (by rw [List.length_map];omega),_,_,_,_,rfl,by rw [hnext,List.map_append];rfl⟩
 ·rintro τ Mi ⟨a,b,c,d,rfl,rfl⟩
  have hl2:(Src.mk none (tl.map Tl.toU)).xs.length=tl.length:=by simp
  rw [hl2,List.take_length]
  dsimp! only [aT,dB,dA,bL,cE]
  refine ⟨⟨_,rfl⟩,_,oQ _,yP hcs htl hl,_,M,(Sub.refl M).mup hp,.inl rfl,q⟩
noncomputable def tx (s:List Nat):Str:=⟨s.toArray⟩
theorem R7 (s:List Nat):(tx s).cps.toList=s:=by simp [tx]
theorem Nj (z:Str):tx z.cps.toList=z:=by cases z;simp [tx]
theorem vA {a b:List Nat}:(tx a=tx b)=(a=b):=by
 refine propext ⟨fun h=>?_,fun h=>by rw [h]⟩
 have:=congrArg (fun z:Str=>z.cps.toList) h
 simpa [R7] using this
theorem Fo {z:Str} {i:Nat} {s r:List Nat} {a b:Int} (h:z.cps.toList.drop i=s++r) (ha:a=i) (hb:b=(i + s.length:Nat)) (hs:0 < s.length:=by simp):Txt.slice z (some a) (some b)=tx s:=by
 subst ha hb
 have hl:z.length=z.cps.toList.length:=by simp [Str.length]
 have hi:i + s.length<=z.length:=by
  have:=congrArg List.length h
  rw [List.length_drop,List.length_append] at this
  rw [hl];omega
 have e:=PySem.StrLaws.sliced_plain z (a:=i) (b:=i + s.length) (by omega) hi
 unfold Txt.slice
 split
 ·rename_i hc
  have hc':(PySem.Builtin.Str.strSliceIndices (some ((i:Nat):Int)) (some (((i + s.length):Nat):Int)) 1 z.length).length=z.length:=by simpa using hc
  rw [PySem.StrLaws.strSliceIndices_plain (by omega) hi] at hc'
  simp only [List.length_map,List.length_range] at hc'
  have hi0:i=0:=by omega
  subst hi0
  rw [<- Nj z]
  congr 1
  rw [List.drop_zero] at h
  have:r=[]:=by
   have h2:=congrArg List.length h
   rw [List.length_append,<- hl] at h2
   exact List.length_eq_zero_iff.mp (by omega)
  rw [h,this,List.append_nil]
 ·rw [e,h]
  unfold tx
  congr 2
  rw [Nat.add_sub_cancel_left,List.take_left']
  rfl
theorem eL {L:List Nat} {i:Nat} {c:Nat} {r:List Nat} (h:L.drop i=c :: r):L[i]?=some c/\i < L.length/\L.drop (i + 1)=r:=by
 have hl:i < L.length:=by
  have:=congrArg List.length h
  rw [List.length_drop] at this
  simp at this
  omega
 rw [List.drop_eq_getElem_cons hl] at h
 injection h with h1 h2
 exact ⟨by rw [List.getElem?_eq_getElem hl,h1],hl,h2⟩
theorem uD {L:List Nat} {i:Nat} {s r:List Nat} (h:L.drop i=s++r):L.drop (i + s.length)=r:=by
 rw [<- List.drop_drop,h,List.drop_left'];rfl
noncomputable def dig (n:Nat):List Nat:=if h:n < 10 then [48 + n] else dig (n / 10)++[48 + n % 10]
termination_by n
decreasing_by omega
noncomputable def val (l:List Nat):Nat:=l.foldl (fun a c=>a * 10 + (c - 48)) 0
theorem CP (l:List Nat) (c:Nat):val (l++[c])=val l * 10 + (c - 48):=by simp [val,List.foldl_append]
theorem Av (n:Nat):1<=(dig n).length:=by
 rw [dig];split
 ·simp
 ·simp
theorem zV:∀ (n k:Nat),k<=(dig n).length->val ((dig n).take k)=n / 10 ^ ((dig n).length - k):=by
 intro n
 induction n using Nat.strongRecOn with
 | _ n ih =>
  intro k hk
  by_cases h:n < 10
  ·have e:dig n=[48 + n]:=by rw [dig,dif_pos h]
   rw [e] at hk ⊢
   simp only [List.length_cons,List.length_nil] at hk ⊢
   have:k=0\/k=1:=by omega
   rcases this with rfl | rfl
   ·simp [val];omega
   ·simp [val]
  ·have e:dig n=dig (n / 10)++[48 + n % 10]:=by rw [dig,dif_neg h]
   rw [e] at hk ⊢
   simp only [List.length_append,List.length_cons,List.length_nil] at hk ⊢
   by_cases hk2:k<=(dig (n / 10)).length
   ·rw [List.take_append_of_le_length hk2,ih (n / 10) (by omega) k hk2,Nat.div_div_eq_div_mul]
    congr 1
    rw [show (dig (n / 10)).length + (0 + 1) - k=((dig (n / 10)).length - k) + 1 by omega,Nat.pow_succ,Nat.mul_comm]
   ·have:k=(dig (n / 10)).length + 1:=by omega
    subst this
    rw [List.take_of_length_le (by simp),CP]
    have:=ih (n / 10) (by omega) _ (Nat.le_refl _)
    rw [List.take_length,Nat.sub_self] at this
    rw [this]
    simp
    omega
theorem Pp:∀ n:Nat,1<=n->10 ^ ((dig n).length - 1)<=n:=by
 intro n
 induction n using Nat.strongRecOn with
 | _ n ih =>
  intro h1
  by_cases h:n < 10
  ·have e:dig n=[48 + n]:=by rw [dig,dif_pos h]
   rw [e];simpa using h1
  ·have e:dig n=dig (n / 10)++[48 + n % 10]:=by rw [dig,dif_neg h]
   rw [e]
   simp only [List.length_append,List.length_cons,List.length_nil]
   have:=ih (n / 10) (by omega) (by omega)
   have hp:=Av (n / 10)
   rw [show (dig (n / 10)).length + (0 + 1) - 1=((dig (n / 10)).length - 1) + 1 by omega,Nat.pow_succ]
   omega
theorem sE:∀ n:Nat,∀ c∈dig n,48<=c/\c<=57:=by
 intro n
 induction n using Nat.strongRecOn with
 | _ n ih =>
  intro c hc
  by_cases h:n < 10
  ·have e:dig n=[48 + n]:=by rw [dig,dif_pos h]
   rw [e] at hc
   cases List.mem_singleton.mp hc
   omega
  ·have e:dig n=dig (n / 10)++[48 + n % 10]:=by rw [dig,dif_neg h]
   rw [e] at hc
   rcases List.mem_append.mp hc with hc | hc
   ·exact ih (n / 10) (by omega) c hc
   ·cases List.mem_singleton.mp hc
    omega
theorem Gv:∀ n:Nat,(Nat.toDigits 10 n).map Char.toNat=dig n:=by
 intro n
 have hd:∀ k:Fin 10,(Nat.digitChar k.val).toNat=48 + k.val:=by decide
 induction n using Nat.strongRecOn with
 | _ n ih =>
  by_cases h:n < 10
  ·rw [Nat.toDigits_of_lt_base h,dig,dif_pos h]
   have:=hd ⟨n,h⟩
   simp only [List.map_cons,List.map_nil]
   rw [this]
  ·rw [Nat.toDigits_of_base_le (by decide) (by omega),dig,dif_neg h,List.map_append,ih (n / 10) (by omega)]
   have:=hd ⟨n % 10,by omega⟩
   simp only [List.map_cons,List.map_nil]
   rw [this]
theorem zI {n:Int} (h:0<=n):(Str.ofString (toString n)).cps.toList=dig n.toNat:=by
 obtain ⟨k,rfl⟩:∃ k:Nat,n=k:=⟨n.toNat,by omega⟩
 rw [Str.ofString_eq_toList]
 have e:(toString (k:Int)).toList=Nat.toDigits 10 k:=by
  show (toString k).toList=_
  rw [show toString k=k.repr from rfl,Nat.toList_repr]
 rw [e]
 simp only [Int.toNat_natCast]
 rw [<- Gv]
theorem Iq {M:aG} {a:Addr} {o:MO} (h:M a=some o):mup M a o=M:=by
 funext b
 unfold mup
 split
 ·rename_i e;subst e;exact h.symm
 ·rfl
theorem Cr {Q:UK} {v:U} {M:aG} {p:Addr} {o o':MO} (h:M p=some o) (q:Q v (mup M p o')):i4 Q v (mup M p o'):=aI q
noncomputable def oc:Op->Nat
 | .sum=>43 | .less=>45 | .by_=>42
noncomputable def Pt.rd:Pt->Prop
 | .hole c=>(1<=c.length/\c.length<=8)/\∀ x∈c.cps.toList,97<=x/\x<=122
 | .any=>True
 | .fr l h=>(0<=l/\l<=10 ^ 18)/\0<=h/\h<=10 ^ 18
 | .turn a=>a.rd
 | .two _ a b=>a.rd/\b.rd
noncomputable def cT (t:Pt):List Nat:=t.text.cps.toList
theorem vL (x y:Str):(x++y).cps.toList=x.cps.toList++y.cps.toList:=Hg x y
theorem zX (a:Pt):cT (.turn a)=40 :: 45 :: 32 :: (cT a++[41]):=by
 unfold cT
 simp only [Pt.text,vL]
 rw [show (Str.ofString "(- ").cps.toList=[40,45,32] by decide +kernel,show (Str.ofString ")").cps.toList=[41] by decide +kernel]
 simp
theorem Cw (o:Op) (a b:Pt):cT (.two o a b)=40 :: (cT a++32 :: oc o :: 32 :: (cT b++[41])):=by
 unfold cT
 simp only [Pt.text,vL]
 rw [show (Str.ofString "(").cps.toList=[40] by decide +kernel,show (Str.ofString ")").cps.toList=[41] by decide +kernel]
 have:o.mid.cps.toList=[32,oc o,32]:=by cases o <;> decide +kernel
 rw [this]
 simp
theorem NX:(Str.ofString "..").cps.toList=[46,46]:=by decide +kernel
theorem HW {l h:Int} (h1:0<=l) (h2:0<=h):cT (.fr l h)=dig l.toNat++46 :: 46 :: dig h.toNat:=by
 unfold cT
 simp only [Pt.text,vL,zI h1,zI h2,NX]
 simp
theorem Ae (c:Str):cT (.hole c)=64 :: c.cps.toList:=by
 unfold cT
 simp only [Pt.text,vL]
 rw [show (Str.ofString "@").cps.toList=[64] by decide +kernel]
 rfl
theorem DP:cT .any=[63]:=by unfold cT;decide +kernel
theorem AK (n:Nat):∃ c r,dig n=c :: r/\48<=c/\c<=57:=by
 have hp:=Av n
 cases hd:dig n with
 | nil=>rw [hd] at hp;simp at hp
 | cons c r=>exact ⟨c,r,rfl,sE n c (by rw [hd];exact List.mem_cons_self)⟩
theorem sN:∀ t:Pt,t.rd->∃ c r,cT t=c :: r/\c≠45/\(t.leafy=true->c≠40)
 | .fr l u,h=>by
  obtain ⟨c,r,e,h1,h2⟩:=AK l.toNat
  exact ⟨c,_,by rw [HW h.1.1 h.2.1,e];rfl,by omega,fun _=>by omega⟩
 | .hole x,h=>⟨64,_,Ae x,by decide,fun _=>by decide⟩
 | .any,h=>⟨63,_,DP,by decide,fun _=>by decide⟩
 | .turn a,h=>⟨40,_,zX a,by decide,fun z=>by cases z⟩
 | .two o a b,h=>⟨40,_,Cw o a b,by decide,fun z=>by cases z⟩
inductive Fm where
 | t | l (o:Op) (b:Pt) | r (o:Op) (a:Pt)
noncomputable def Dh:Fm->U
 | .t=>.lst [.str (Str.ofString "turn")]
 | .l _ _=>.lst [.str (Str.ofString "")]
 | .r o a=>.lst [.str o.word,a.toU]
noncomputable def after:List Fm->List Nat
 | []=>[]
 | .t :: c=>41 :: after c
 | .l o b :: c=>32 :: oc o :: 32 :: (cT b++41 :: after c)
 | .r _ _ :: c=>41 :: after c
noncomputable def qS:Pt->List Fm->Pt
 | t,[]=>t
 | t,.t :: c=>qS (.turn t) c
 | t,.l o b :: c=>qS (.two o t b) c
 | t,.r o a :: c=>qS (.two o a t) c
noncomputable def zK:List Fm->Prop
 | []=>True
 | .t :: c=>zK c
 | .l _ b :: c=>b.rd/\c.length + 1 + b.dep<=60/\zK c
 | .r _ _ :: c=>zK c
noncomputable def qY (c:List Fm):List U:=(c.map Dh).reverse
theorem pV (f:Fm) (c:List Fm):qY (f :: c)=qY c++[Dh f]:=by simp [qY]
theorem nS (c:List Fm):(qY c).length=c.length:=by simp [qY]
noncomputable def Qh (R:List Nat):Prop:=∀ c r,R=c :: r->c=32\/c=41
theorem Kf (c:List Fm):Qh (after c):=fun x r h=>by
 cases c with
 | nil=>cases h
 | cons f c=>cases f <;> (simp only [after,List.cons.injEq] at h;omega)
noncomputable def xX:bN:=fun us M Q=>∃ (z y:Str) (i:Nat) (r:List Nat) (c:Nat),us=[.str z,.int (i:Int),.str y]/\z.length<=100000/\z.cps.toList.drop i=c :: r/\y=tx [c]/\Q .non M
theorem Kz {z:Str} {i:Nat} {c:Nat} {r:List Nat} (h:z.cps.toList.drop i=c :: r):Txt.slice z (some (i:Int)) (some ((i:Int) + 1))=tx [c]:=Fo (s:=[c]) (r:=r) h rfl (by simp)
theorem Pd (F:cF K "need_sign" "need_sign" j1 f fd) (hm:mg "need_sign"=some (.ref f)):Callee P w K mg base 1 "need_sign" xX []:=by
 refine bD F hm DH (JC fun _ _ _ _ _ _ _ _ _=>rfl) (aF (bK (bO rA (jD (own:=false) (uv 0) (cR (uv 1)) (cR (aO (own:=false) (uv 1) aH))) (uv 2))
 (aF iC)
 bB)) ?_
 rintro us M Q ⟨z,y,i,r,c,rfl,hz,hd,rfl,q⟩
 refine ⟨rfl,?_⟩
 refine bX fun A B hA hB=>?_
 simp? only [Kz hd,bP,aU,aV]
 refine ⟨small hz,?_⟩
 subst hB
 simp? only [bW,bP,aU,aV]
 exact aI q
noncomputable def B2:List (Str × Fl):=[("+",.str "sum"),("-",.str "less"),("*",.str "by")]
theorem P4 (o:Op):cB B2 (tx [oc o])=some (.str o.word):=by cases o <;> kernel_rfl
noncomputable def Na:bN:=fun us M Q=>∃ (z:Str) (i:Nat) (r:List Nat) (o:Op),us=[.str z,.int (i:Int)]/\z.length<=100000/\z.cps.toList.drop i=32 :: oc o :: 32 :: r/\Q (.str o.word) M
theorem GW:Str.ofString " "=tx [32]:=by decide +kernel
theorem Qg (F:cF K "read_middle" "read_middle" gN f fd) (hm:mg "read_middle"=some (.ref f)) (kS:i6 P w K d B2) (lC:mg "MIDDLE_WORDS"=some (.ref d)) (j0:Callee P w K mg base 1 "need_sign" xX []):Callee P w K mg base 2 "read_middle" Na []:=by
 refine bD F hm rX (nM fun _ _ _ _ _ _ _ _=>rfl) (aD (cZ (aR j0 (aA (uv 0) (aA (uv 1) (aA bZ aB)))))
 (aD (aJ 2 rX.nd (jD (own:=false) (uv 0) (cR (aO (own:=false) (uv 1) aH)) (cR (aO (own:=false) (uv 1) aH))))
 (aD (bK (bO (zL kS) (uv 2) (nA lC))
 (aF iC)
 bB)
 (aD (cZ (aR j0 (aA (uv 0) (aA (aO (own:=false) (uv 1) aH) (aA bZ aB)))))
 (aF (aQ (B4 kS (nA lC) (uv 2)))))))) ?_
 rintro us M Q ⟨z,i,r,o,rfl,hz,hd,q⟩
 refine ⟨rfl,?_⟩
 obtain ⟨_,_,rD⟩:=eL hd
 obtain ⟨_,_,hd2⟩:=eL rD
 refine aN fun V1 hV1=>?_
 simp? only [gH,bP,aU,aV]
 refine ⟨z,_,i,_,32,rfl,hz,hd,GW,?_⟩
 subst hV1
 refine aN fun V2 hV2=>?_
 have e1:(i:Int) + 1=((i + 1:Nat):Int):=by omega
 have e2:(i:Int) + 2=((i + 2:Nat):Int):=by omega
 have hs:Txt.slice z (some ((i:Int) + 1)) (some ((i:Int) + 2))=tx [oc o]:=Fo (s:=[oc o]) rD e1 (by simp;omega)
 simp? only [bU,hName,hs,bP,aU,aV]
 refine ⟨small hz,?_⟩
 subst hV2
 refine aN fun V3 hV3=>?_
 refine bX fun A B hA hB=>?_
 simp? only [aU,P4,bP,aU,aV]
 rw [if_neg (by simp)]
 subst hB
 simp only [bW]
 subst hV3
 refine aN fun V4 hV4=>?_
 simp? only [gH,e2,bP,aU,aV]
 refine ⟨z,_,i + 2,_,32,rfl,hz,hd2,GW,?_⟩
 subst hV4
 simp? only [bM,aV,P4,bP,aU,aV]
 exact aI q
theorem Sn:Str.ofString "("=tx [40]:=by decide +kernel
theorem Nu:Str.ofString ")"=tx [41]:=by decide +kernel
theorem MP:Str.ofString "-"=tx [45]:=by decide +kernel
noncomputable def Q6 (z:Str) (i0:Nat) (t0:Pt) (c0:List Fm) (i:Nat) (t:Pt) (c:List Fm):Prop:=t.rd/\z.cps.toList.drop i=cT t++after c/\qS t c=qS t0 c0/\c.length + t.dep<=60/\zK c/\i0<=i
noncomputable def IL:bN:=fun us M Q=>∃ (z:Str) (i0:Nat) (p:Addr) (t0:Pt) (c0:List Fm),us=[.str z,.int (i0:Int),.ref p]/\z.length<=100000/\M p=some (.lst (qY c0))/\t0.rd/\z.cps.toList.drop i0=cT t0++after c0/\c0.length + t0.dep<=60/\zK c0/\∀ i t c,t.leafy=true->Q6 z i0 t0 c0 i t c->Q (.int (i:Int)) (mup M p (.lst (qY c)))
theorem N7 (F:cF K "read_openings" "read_openings" fB f fd) (hm:mg "read_openings"=some (.ref f)) (j0:Callee P w K mg base 1 "need_sign" xX []):Callee P w K mg base 2 "read_openings" IL []:=by
 refine bD F hm jA (JC fun _ _ _ _ _ _ _ _ _=>rfl) (aD (aJ 3 jA.nd (uv 1))
 (aD (iD (bO cI (jD (own:=false) (uv 0) (cR (uv 3)) (cR (aO (own:=false) (uv 3) aH))) bZ)
 (aF (bK (bO cI (jD (own:=false) (uv 0) (cR (aO (own:=false) (uv 3) aH)) (cR (aO (own:=false) (uv 3) aH))) bZ)
 (aD (cZ (aR j0 (aA (uv 0) (aA (aO (own:=false) (uv 3) aH) (aA bZ aB)))))
 (aD (cZ (eG (uv 2) (aA (dH (own:=false) (aA bZ aB)) aB)))
 (aF (aJ 3 jA.nd (aO (own:=false) (uv 3) aH)))))
 (aD (cZ (eG (uv 2) (aA (dH (own:=false) (aA bZ aB)) aB)))
 (aF (aJ 3 jA.nd (aO (own:=false) (uv 3) aH)))))))
 (aF (aQ (uv 3))))) ?_
 rintro us M Q ⟨z,i0,p,t0,c0,rfl,hz,hM,ht0,hd0,hb0,hf0,q⟩
 refine ⟨rfl,?_⟩
 have hL:z.cps.toList.length=z.length:=by simp [Str.length]
 refine aN fun V1 hV1=>?_
 simp? only [bU,hName,bP,aU,aV]
 subst hV1
 refine aN fun V2 hV2=>?_
 refine i8 (fun τ M'=>∃ (i:Nat) (t:Pt) (c:List Fm),τ=[some (.str z),some (.int (i0:Int)),some (.ref p),some (.int (i:Int))]/\M'=mup M p (.lst (qY c))/\Q6 z i0 t0 c0 i t c) (fun τ _=>match τ with | [_,_,_,some (.int i)]=>z.length - i.toNat | _=>0) ⟨i0,t0,c0,rfl,by rw [Iq hM],ht0,hd0,rfl,hb0,hf0,Nat.le_refl _⟩ ?_
 rintro τ M' ⟨i,t,c,rfl,rfl,ht,hd,hr,hb,hf,hi⟩
 have e1:(i:Int) + 1=((i + 1:Nat):Int):=by omega
 have e2:(i:Int) + 2=((i + 2:Nat):Int):=by omega
 have e3:(i:Int) + 3=((i + 3:Nat):Int):=by omega
 have hcl:c.length<=60:=by omega
 obtain ⟨a,r,hcr,ha1,ha2⟩:=sN t ht
 rw [hcr] at hd
 obtain ⟨_,hil,hdr⟩:=eL (show z.cps.toList.drop i=a :: (r++after c) from hd)
 simp? only [Kz (show z.cps.toList.drop i=a :: (r++after c) from hd),Sn,vA,List.cons.injEq,bP,aU,aV]
 refine ⟨small hz,?_⟩
 cases t with
 | hole x =>
  rw [if_neg (by simpa using ha2 rfl)]
  subst hV2
  simp? only [bM,bP,aU,aV]
  exact Cr hM (q i _ c rfl ⟨ht,by rw [hcr];exact hd,hr,hb,hf,hi⟩)
 | any =>
  rw [if_neg (by simpa using ha2 rfl)]
  subst hV2
  simp? only [bM,bP,aU,aV]
  exact Cr hM (q i _ c rfl ⟨ht,by rw [hcr];exact hd,hr,hb,hf,hi⟩)
 | fr l h =>
  rw [if_neg (by simpa using ha2 rfl)]
  subst hV2
  simp? only [bM,bP,aU,aV]
  exact Cr hM (q i _ c rfl ⟨ht,by rw [hcr];exact hd,hr,hb,hf,hi⟩)
 | turn b =>
  rw [zX] at hcr
  cases hcr
  rw [if_pos (by simp)]
  have g1:z.cps.toList.drop (i + 1)=[45]++(32 :: (cT b++[41])++after c):=hdr
  obtain ⟨_,hil1,g2⟩:=eL (show z.cps.toList.drop (i + 1)=45 :: (32 :: (cT b++[41])++after c) from g1)
  obtain ⟨_,hil2,g3⟩:=eL (show z.cps.toList.drop (i + 2)=32 :: ((cT b++[41])++after c) from g2)
  have hs:Txt.slice z (some ((i:Int) + 1)) (some ((i:Int) + 2))=tx [45]:=Fo g1 e1 (by simp;omega)
  refine bX fun A B hA hB=>?_
  simp? only [hs,MP,bP,aU,aV]
  refine ⟨small hz,?_⟩
  subst hA
  refine aN fun V3 hV3=>?_
  simp? only [gH,e2,bP,aU,aV]
  refine ⟨z,_,i + 2,_,32,rfl,hz,g2,GW,?_⟩
  subst hV3
  simp? only [fD,gH,bU,hName,e3,nS,bP,aU,aV]
  simp only [Pt.dep] at hb
  have hb2:c.length + b.dep + 1<=60:=by omega
  refine ⟨cD,big (by omega),⟨i + 3,b,.t :: c,rfl,by rw [pV];rfl,ht,?_,?_,by simp only [List.length_cons];omega,hf,by omega⟩,by rw [hL] at hil;omega⟩
  ·rw [g3];simp [after]
  ·simp only [qS];exact hr
 | two o b d =>
  rw [Cw] at hcr
  cases hcr
  rw [if_pos (by simp)]
  obtain ⟨a',r',hcr',ha1',_⟩:=sN b ht.1
  have g1:z.cps.toList.drop (i + 1)=cT b++(32 :: oc o :: 32 :: (cT d++41 :: after c)):=by rw [hdr];simp
  have hs:Txt.slice z (some ((i:Int) + 1)) (some ((i:Int) + 2))=tx [a']:=Fo (s:=[a']) (by rw [g1,hcr'];rfl) e1 (by simp;omega)
  refine bX fun A B hA hB=>?_
  simp? only [hs,MP,vA,List.cons.injEq,bP,aU,aV]
  refine ⟨small hz,?_⟩
  rw [if_neg (by simpa using ha1')]
  subst hB
  simp? only [fD,gH,bU,hName,e1,nS,bP,aU,aV]
  simp only [Pt.dep] at hb
  refine ⟨cD,big (by omega),⟨i + 1,b,.l o d :: c,rfl,by rw [pV];rfl,ht.1,?_,?_,by simp only [List.length_cons];omega,⟨ht.2,by omega,hf⟩,by omega⟩,by rw [hL] at hil;omega⟩
  ·rw [g1];simp [after]
  ·simp only [qS];exact hr
noncomputable def ML:bN:=fun us M Q=>∃ (z:Str) (w0:Pt) (i0:Nat) (p:Addr) (c0:List Fm),us=[.str z,w0.toU,.int (i0:Int),.ref p]/\z.length<=100000/\M p=some (.lst (qY c0))/\z.cps.toList.drop i0=after c0/\c0.length<=60/\zK c0/\i0<=z.length /\
 Q (.tup [(qS w0 c0).toU,.int (z.length:Int)]) (mup M p (.lst [])) /\
 ∀ (i:Nat) (b:Pt) (o:Op) (a:Pt) (c:List Fm),b.rd->z.cps.toList.drop i=cT b++after (.r o a :: c)->qS b (.r o a :: c)=qS w0 c0->c.length + 1 + b.dep<=60->zK c->i0 < i->Q (.tup [.non,.int (i:Int)]) (mup M p (.lst (qY (.r o a :: c))))
theorem So {α:Type} {l:List α} {a:α}:(l++[a]).getLast?=some a:=by simp
theorem RX {α:Type} {l:List α} {a:α}:(l++[a]).dropLast=l:=by simp
theorem Ry (F:cF K "read_behind" "read_behind" gS f fd) (hm:mg "read_behind"=some (.ref f)) (bI:mg "tuple"=none) (j0:Callee P w K mg base 1 "need_sign" xX []) (Br:Callee P w K mg base 2 "read_middle" Na []):Callee P w K mg base 3 "read_behind" ML []:=by
 refine bD F hm fS (SR fun _ _ _ _ _ _ _ _ _ _=>rfl) (aD (aJ 4 fS.nd (uv 1))
 (aD (aJ 5 fS.nd (uv 2))
 (aD (iD (cM (uv 3))
 (aD (aJ 6 fS.nd (oK (uv 3)))
 (aD (bK (bO cI (aL (uv 6) aH) bZ)
 (aD (cZ (eG (uv 3) (aA (dH (own:=false) (aA (aR Br (aA (uv 0) (aA (uv 5) aB))) (aA (uv 4) aB))) aB)))
 (aF (aQ (bG (aA QJ (aA (aO (own:=false) (uv 5) aH) aB))))))
 bB)
 (aD (cZ (aR j0 (aA (uv 0) (aA (uv 5) (aA bZ aB)))))
 (aD (aJ 4 fS.nd (oX vH bI (aA (aO (own:=false) (uv 6) (dH (own:=false) (aA (uv 4) aB))) aB)))
 (aF (aJ 5 fS.nd (aO (own:=false) (uv 5) aH))))))))
 (aF (aQ (bG (aA (uv 4) (aA (uv 5) aB)))))))) ?_
 rintro us M Q ⟨z,w0,i0,p,c0,rfl,hz,hM,hd0,hb0,hf0,hi0,q1,q2⟩
 refine ⟨rfl,?_⟩
 have hL:z.cps.toList.length=z.length:=by simp [Str.length]
 refine aN fun V1 hV1=>?_
 simp? only [bU,hName,bP,aU,aV]
 subst hV1
 refine aN fun V2 hV2=>?_
 simp? only [bU,hName,bP,aU,aV]
 subst hV2
 refine aN fun V3 hV3=>?_
 refine i8 (fun τ M'=>∃ (i:Nat) (t:Pt) (c:List Fm) (e:Option U),τ=[some (.str z),some w0.toU,some (.int (i0:Int)),some (.ref p),some t.toU,some (.int (i:Int)),e]/\M'=mup M p (.lst (qY c))/\z.cps.toList.drop i=after c/\qS t c=qS w0 c0/\c.length<=60/\zK c/\i0<=i/\i<=z.length) (fun _ M'=>match M' p with | some (.lst us)=>us.length | _=>0) ⟨i0,w0,c0,none,rfl,by rw [Iq hM],hd0,rfl,hb0,hf0,Nat.le_refl _,hi0⟩ ?_
 rintro τ M' ⟨i,t,c,e,rfl,rfl,hd,hr,hb,hf,hi,hil⟩
 have e1:(i:Int) + 1=((i + 1:Nat):Int):=by omega
 have e3:(i:Int) + 3=((i + 3:Nat):Int):=by omega
 cases c with
 | nil =>
  have hi2:i=z.length:=by
   have:=congrArg List.length hd
   rw [List.length_drop,hL] at this
   simp [after] at this
   omega
  simp? only [qY,List.reverse_nil,List.isEmpty_nil,bP,aU,aV]
  subst hV3
  simp? only [bM,bP,aU,aV]
  subst hi2
  simp only [qS] at hr
  rw [<- hr] at q1
  exact aI q1
 | cons fm c =>
  have hne:(qY (fm :: c)).isEmpty=false:=by rw [pV];simp
  simp? only [hne,bP,aU,aV]
  refine aN fun V4 hV4=>?_
  simp? only [bU,hName,pV,So,RX,bP,aU,aV]
  refine ⟨cD,?_⟩
  subst hV4
  refine aN fun V5 hV5=>?_
  refine bX fun A B hA hB=>?_
  cases fm with
  | l o b =>
   obtain ⟨k1,k2,k3⟩:=hf
   simp? only [Dh,bP,aU,aV]
   subst hA
   have hmid:z.cps.toList.drop i=32 :: oc o :: 32 :: (cT b++41 :: after c):=hd
   obtain ⟨_,m1,d1⟩:=eL hmid
   obtain ⟨_,m2,d2⟩:=eL d1
   obtain ⟨_,m3,d3⟩:=eL d2
   simp? only [fD,gH,bP,aU,aV]
   refine ⟨cD,z,i,_,o,rfl,hz,hmid,?_⟩
   simp? only [bM,e3,nS,bP,aU,aV]
   have q3:=q2 (i + 3) b o t c k1 (by rw [d3];rfl) (by rw [<- hr];rfl) k2 k3 (by omega)
   rw [pV] at q3
   exact ⟨big (by simp only [List.length_cons] at hb;omega),aI q3⟩
  | t =>
   simp? only [Dh,show decide (Str.ofString "turn"=Str.ofString "")=false by decide +kernel,bP,aU,aV]
   subst hB
   simp only [bW]
   subst hV5
   refine aN fun V6 hV6=>?_
   simp? only [gH,bP,aU,aV]
   refine ⟨z,_,i,after c,41,rfl,hz,hd,Nu,?_⟩
   obtain ⟨_,hil2,hd2⟩:=eL hd
   subst hV6
   simp? only [fD,bU,hName,e1,Dh,bP,aU,aV]
   simp only [List.length_cons] at hb
   refine ⟨⟨i + 1,.turn t,c,_,rfl,rfl,hd2,hr,by omega,hf,by omega,by rw [hL] at hil2;omega⟩,by rw [nS,nS];simp⟩
  | r o a =>
   have hw:decide (o.word=Str.ofString "")=false:=by cases o <;> decide +kernel
   simp? only [Dh,hw,bP,aU,aV]
   subst hB
   simp only [bW]
   subst hV5
   refine aN fun V6 hV6=>?_
   simp? only [gH,bP,aU,aV]
   refine ⟨z,_,i,after c,41,rfl,hz,hd,Nu,?_⟩
   obtain ⟨_,hil2,hd2⟩:=eL hd
   subst hV6
   simp? only [fD,bU,hName,e1,Dh,bP,aU,aV]
   simp only [List.length_cons] at hb
   refine ⟨⟨i + 1,.two o a t,c,_,rfl,rfl,hd2,hr,by omega,hf,by omega,by rw [hL] at hil2;omega⟩,by rw [nS,nS];simp⟩
noncomputable def AY:Str:="0123456789"
theorem OC (c:Nat):decide (c∈t9.cps.toList)=decide (97<=c/\c<=122):=by
 have:t9.cps.toList=[97,98,99,100,101,102,103,104,105,106,107,108,109,110,111,112,113,114,115,116,117,118,119,120,121,122]:=by decide +kernel
 rw [this]
 refine decide_eq_decide.mpr ?_
 simp only [List.mem_cons,List.not_mem_nil,or_false]
 omega
theorem NK (c:Nat):decide (c∈AY.cps.toList)=decide (48<=c/\c<=57):=by
 have:AY.cps.toList=[48,49,50,51,52,53,54,55,56,57]:=by decide +kernel
 rw [this]
 refine decide_eq_decide.mpr ?_
 simp only [List.mem_cons,List.not_mem_nil,or_false]
 omega
theorem DQ (c:Nat):(!(Builtin.Str.occurrences t9 ⟨#[c]⟩ 0 t9.length 1).isEmpty)=decide (97<=c/\c<=122):=by rw [PySem.StrLaws.found_one,OC]
theorem Jl (c:Nat):(!(Builtin.Str.occurrences AY ⟨#[c]⟩ 0 AY.length 1).isEmpty)=decide (48<=c/\c<=57):=by rw [PySem.StrLaws.found_one,NK]
theorem K0 {c:Nat} (h:48<=c/\c<=57):findF AY ⟨#[c]⟩=((c - 48:Nat):Int):=by
 have:∀ k:Fin 10,findF AY ⟨#[48 + k.val]⟩=(k.val:Int):=by decide +kernel
 have:=this ⟨c - 48,by omega⟩
 simp only at this
 rw [show 48 + (c - 48)=c by omega] at this
 exact this
noncomputable def Nt:bN:=fun us M Q=>∃ (z:Str) (i:Nat) (w R:List Nat),us=[.str z,.int (i:Int)]/\z.length<=100000/\z.cps.toList.drop i=w++R/\(∀ c∈w,97<=c/\c<=122)/\w.length<=8/\(∀ c r,R=c :: r->¬ (97<=c/\c<=122))/\Q (.int ((i + w.length:Nat):Int)) M
theorem u7 {L:List Nat} {i c:Nat} (h:L[i]?=some c):eP L (i:Int)=some c:=by
 have hl:=(List.getElem?_eq_some_iff.mp h).1
 unfold eP qW
 rw [if_pos (by omega),if_pos (by omega)]
 simpa using h
theorem RC {t1 t2:Tok} (F:cF K "end_of_name" "end_of_name" gJ f fd) (hm:mg "end_of_name"=some (.ref f)) (aW:mg "len"=none) (fW:mg "LONGEST_NAME"=some (.int 8 t1)) (mH:mg "LETTERS"=some (.str t9 t2)):Callee P w K mg base 1 "end_of_name" Nt []:=by
 refine bD F hm nT (nM fun _ _ _ _ _ _ _ _=>rfl) (aD (aJ 2 nT.nd (uv 1))
 (aD (iD (gW.pt (kJ (bO m5 (uv 2) (b8 cO aW (aA (uv 0) aB))) (kJ (bO m5 (uv 2) (aO (own:=false) (uv 1) (lS fW))) (nQ (bO Hw (aL (uv 0) (uv 2)) (zH mH))))))
 (aF (aJ 2 nT.nd (aO (own:=false) (uv 2) aH))))
 (aF (aQ (uv 2))))) ?_
 rintro us M Q ⟨z,i,w,R,rfl,hz,hd,hw,hw8,hR,q⟩
 refine ⟨rfl,?_⟩
 have hL:z.cps.toList.length=z.length:=by simp [Str.length]
 refine aN fun V1 hV1=>?_
 simp? only [bU,hName,bP,aU,aV]
 subst hV1
 refine aN fun V2 hV2=>?_
 refine i8 (fun τ M'=>∃ k:Nat,τ=[some (.str z),some (.int (i:Int)),some (.int ((i + k:Nat):Int))]/\M'=M/\k<=w.length) (fun τ _=>match τ with | [_,_,some (.int e)]=>i + w.length - e.toNat | _=>0) ⟨0,rfl,rfl,Nat.zero_le _⟩ ?_
 rintro τ M' ⟨k,rfl,rfl,hk⟩
 have hdk:z.cps.toList.drop (i + k)=w.drop k++R:=by rw [<- List.drop_drop,hd,List.drop_append_of_le_length hk]
 by_cases hk2:k < w.length
 ·have hwk:w.drop k=w[k] :: w.drop (k + 1):=List.drop_eq_getElem_cons hk2
  rw [hwk] at hdk
  obtain ⟨a1,a2,a3⟩:=eL (show z.cps.toList.drop (i + k)=w[k] :: (w.drop (k + 1)++R) from hdk)
  have hc:=hw w[k] (List.getElem_mem hk2)
  simp? only [bP,aU,aV]
  refine ⟨small hz,?_⟩
  rw [if_pos (decide_eq_true (by rw [hL] at a2;omega)),if_pos (decide_eq_true (by omega))]
  refine ⟨small hz,_,u7 a1,?_⟩
  rw [DQ,if_pos (decide_eq_true hc)]
  simp? only [bU,hName,bP,aU,aV]
  exact ⟨⟨k + 1,by rw [show (((i + k:Nat):Int) + 1)=((i + (k + 1):Nat):Int) by omega],hk2⟩,by omega⟩
 ·have hk3:k=w.length:=by omega
  subst hk3
  rw [List.drop_length,List.nil_append] at hdk
  simp? only [bP,aU,aV]
  refine ⟨small hz,?_⟩
  have fin:V2 [some (U.str z),some (U.int (i:Int)),some (U.int ((i + w.length:Nat):Int))] M':=by
   subst hV2
   simp? only [bM,bP,aU,aV]
   exact aI q
  refine fM (fun b1=>fM (fun b2=>?_) (fun _=>fin)) (fun _=>fin)
  refine ⟨small hz,?_⟩
  cases R with
  | nil =>
   have:=congrArg List.length hdk
   rw [List.length_drop,hL] at this
   have b1':=of_decide_eq_true b1
   simp at this
   omega
  | cons c r =>
   obtain ⟨a1,a2,a3⟩:=eL hdk
   refine ⟨c,u7 a1,?_⟩
   rw [DQ,if_neg (fun z=>hR c r rfl (of_decide_eq_true z))]
   exact fin
theorem IE {v:Int} (h1:-1000000000000000000<=v) (h2:v<=1000000000000000000):Builtin.Int.intBits v<=60:=PySem.intBits_le_iff.mpr (by omega)
theorem Tn {i j:Int} (h1:-1000000000000000000<=i) (h2:i<=1000000000000000000) (h3:-1000000000000000000<=j) (h4:j<=1000000000000000000):pF i j:=.inr ⟨Nat.le_trans (IE h1 h2) (by decide),Nat.le_trans (IE h3 h4) (by decide)⟩
noncomputable def HI:bN:=fun us M Q=>∃ (z:Str) (i n:Nat) (R:List Nat),us=[.str z,.int (i:Int)]/\z.length<=100000/\z.cps.toList.drop i=dig n++R/\n<=1000000000000000000/\(∀ c r,R=c :: r->¬ (48<=c/\c<=57))/\Q (.tup [.int (n:Int),.int ((i + (dig n).length:Nat):Int)]) M
theorem QO {t1 t2:Tok} (F:cF K "read_number" "read_number" gO f fd) (hm:mg "read_number"=some (.ref f)) (aW:mg "len"=none) (kY:mg "GREATEST"=some (.int 1000000000000000000 t1)) (qT:mg "FIGURES"=some (.str AY t2)):Callee P w K mg base 1 "read_number" HI []:=by
 refine bD F hm fR (nM fun _ _ _ _ _ _ _ _=>rfl) (aD (aJ 2 fR.nd aH)
 (aD (aJ 3 fR.nd (uv 1))
 (aD (iD (gW.pt (kJ (bO m5 (uv 3) (b8 cO aW (aA (uv 0) aB))) (nQ (bO Hw (aL (uv 0) (uv 3)) (zH qT)))))
 (aD (aJ 4 fR.nd (aO (own:=false) (gR (own:=false) (uv 2) aH) (O3 (zH qT) (aA (aL (uv 0) (uv 3)) aB))))
 (aD (bK (gW.pt (iH (bO qO (uv 4) (lS kY)) (gZ (gW.pt (kJ (bO cI (uv 2) aH) (nQ (bO qO (uv 3) (uv 1))))))))
 (aF LW)
 bB)
 (aD (aJ 2 fR.nd (uv 4))
 (aF (aJ 3 fR.nd (aO (own:=false) (uv 3) aH)))))))
 (aD (bK (bO cI (uv 3) (uv 1))
 (aF iC)
 bB)
 (aF (aQ (bG (aA (uv 2) (aA (uv 3) aB))))))))) ?_
 rintro us M Q ⟨z,i,n,R,rfl,hz,hd,hn,hR,q⟩
 refine ⟨rfl,?_⟩
 have hL:z.cps.toList.length=z.length:=by simp [Str.length]
 have hp:=Av n
 refine aN fun V1 hV1=>?_
 simp? only [bU,hName,bP,aU,aV]
 subst hV1
 refine aN fun V2 hV2=>?_
 simp? only [bU,hName,bP,aU,aV]
 subst hV2
 refine aN fun V3 hV3=>?_
 refine i8 (fun τ M'=>∃ (k:Nat) (e:Option U),τ=[some (.str z),some (.int (i:Int)),some (.int ((val ((dig n).take k):Nat):Int)),some (.int ((i + k:Nat):Int)),e]/\M'=M/\k<=(dig n).length) (fun τ _=>match τ with | [_,_,_,some (.int e),_]=>i + (dig n).length - e.toNat | _=>0) ⟨0,none,rfl,rfl,Nat.zero_le _⟩ ?_
 rintro τ M' ⟨k,e,rfl,rfl,hk⟩
 have hdk:z.cps.toList.drop (i + k)=(dig n).drop k++R:=by rw [<- List.drop_drop,hd,List.drop_append_of_le_length hk]
 by_cases hk2:k < (dig n).length
 ·have hwk:(dig n).drop k=(dig n)[k] :: (dig n).drop (k + 1):=List.drop_eq_getElem_cons hk2
  rw [hwk] at hdk
  obtain ⟨a1,a2,a3⟩:=eL (show z.cps.toList.drop (i + k)=(dig n)[k] :: ((dig n).drop (k + 1)++R) from hdk)
  have hc:=sE n (dig n)[k] (List.getElem_mem hk2)
  have htk:(dig n).take (k + 1)=(dig n).take k++[(dig n)[k]]:=by rw [List.take_add_one,List.getElem?_eq_getElem hk2];rfl
  have hv1:=zV n (k + 1) hk2
  have hv0:=zV n k hk
  have hvk:=hv1
  rw [htk,CP] at hv1
  have hle:n / 10 ^ ((dig n).length - (k + 1))<=n:=Nat.div_le_self _ _
  have hbig:k=0\/1<=val ((dig n).take k):=by
   by_cases k0:k=0
   ·exact .inl k0
   ·right
    have h1:1<=n:=by
     rcases Nat.eq_zero_or_pos n with z0 | z0
     ·subst z0
      have:(dig 0).length=1:=by rw [dig];simp
      omega
     ·exact z0
    have h2:=Pp n h1
    rw [hv0]
    refine (Nat.le_div_iff_mul_le (Nat.pow_pos (by decide))).mpr ?_
    rw [Nat.one_mul]
    exact Nat.le_trans (Nat.pow_le_pow_right (by decide) (by omega)) h2
  simp? only [bP,aU,aV]
  refine ⟨small hz,?_⟩
  rw [if_pos (decide_eq_true (by rw [hL] at a2;omega))]
  refine ⟨small hz,_,u7 a1,?_⟩
  rw [Jl,if_pos (decide_eq_true hc)]
  generalize val ((dig n).take k)=v at hv1 hv0 hbig
  refine aN fun V4 hV4=>?_
  simp? only [bU,hName,uW,BZ,Dt,bP,aU,aV]
  have hvn:v<=n:=by rw [hv0];exact Nat.div_le_self _ _
  refine ⟨Tn (by omega) (by omega) (by decide) (by decide),⟨_,rfl⟩,small hz,_,u7 a1,?_⟩
  rw [K0 hc]
  have ev:((v:Int) * 10 + (((dig n)[k] - 48:Nat):Int))=((v * 10 + ((dig n)[k] - 48):Nat):Int):=by omega
  rw [ev,hv1]
  subst hV4
  refine aN fun V5 hV5=>?_
  refine bX fun A B hA hB=>?_
  simp? only [bP,aU,aV]
  have hB':B M':=by
   subst hB
   simp only [bW]
   subst hV5
   simp? only [fD,bU,hName,bP,aU,aV]
   exact ⟨⟨k + 1,some (.int ((n / 10 ^ ((dig n).length - (k + 1)):Nat):Int)),by rw [hvk,show (((i + k:Nat):Int) + 1)=((i + (k + 1):Nat):Int) by omega],hk2⟩,by omega⟩
  refine fM (fun b1=>?_) (fun b1=>fM (fun b2=>fM (fun b3=>?_) (fun _=>hB')) (fun _=>hB'))
  ·have:=of_decide_eq_true b1
   omega
  ·have h2:=of_decide_eq_true b2
   have h3:=of_decide_eq_true b3
   rcases hbig with h | h <;> omega
 ·have hk3:k=(dig n).length:=by omega
  subst hk3
  rw [List.drop_length,List.nil_append] at hdk
  have hvn:=zV n (dig n).length (Nat.le_refl _)
  rw [Nat.sub_self,Nat.pow_zero,Nat.div_one] at hvn
  rw [hvn]
  simp? only [bP,aU,aV]
  refine ⟨small hz,?_⟩
  have fin:V3 [some (U.str z),some (U.int (i:Int)),some (U.int (n:Int)),some (U.int ((i + (dig n).length:Nat):Int)),e] M':=by
   subst hV3
   refine aN fun V6 hV6=>?_
   refine bX fun A B hA hB=>?_
   simp? only [bP,aU,aV]
   rw [if_neg (fun z=>by have:=of_decide_eq_true z;omega)]
   subst hB
   simp only [bW]
   subst hV6
   simp? only [bM,bP,aU,aV]
   exact aI q
  refine fM (fun b1=>?_) (fun _=>fin)
  refine ⟨small hz,?_⟩
  cases R with
  | nil =>
   have:=congrArg List.length hdk
   rw [List.length_drop,hL] at this
   have b1':=of_decide_eq_true b1
   simp at this
   omega
  | cons c r =>
   obtain ⟨a1,a2,a3⟩:=eL hdk
   refine ⟨c,u7 a1,?_⟩
   rw [Jl,if_neg (fun z=>hR c r rfl (of_decide_eq_true z))]
   exact fin
noncomputable def A9:bN:=fun us M Q=>∃ (z:Str) (i l h:Nat) (R:List Nat),us=[.str z,.int (i:Int)]/\z.length<=100000/\z.cps.toList.drop i=dig l++46 :: 46 :: (dig h++R)/\l<=1000000000000000000/\h<=1000000000000000000/\(∀ c r,R=c :: r->¬ (48<=c/\c<=57))/\Q (.tup [.tup [.str (Str.ofString "from"),.int (l:Int),.int (h:Int)],.int ((i + (dig l).length + 2 + (dig h).length:Nat):Int)]) M
theorem R6:Str.ofString ".."=tx [46,46]:=by decide +kernel
theorem Ig (F:cF K "read_stretch" "read_stretch" fX f fd) (hm:mg "read_stretch"=some (.ref f)) (lX:Callee P w K mg base 1 "read_number" HI []):Callee P w K mg base 2 "read_stretch" A9 []:=by
 refine bD F hm nH (nM fun _ _ _ _ _ _ _ _=>rfl) (aD (aJ 2 nH.nd (aR lX (aA (uv 0) (aA (uv 1) aB))))
 (aD (bK (bO rA (jD (own:=false) (uv 0) (cR (aL (uv 2) aH)) (cR (aO (own:=false) (aL (uv 2) aH) aH))) bZ)
 (aF iC)
 bB)
 (aD (aJ 3 nH.nd (aR lX (aA (uv 0) (aA (aO (own:=false) (aL (uv 2) aH) aH) aB))))
 (aF (aQ (bG (aA (bG (aA bZ (aA (aL (uv 2) aH) (aA (aL (uv 3) aH) aB)))) (aA (aL (uv 3) aH) aB)))))))) ?_
 rintro us M Q ⟨z,i,l,h,R,rfl,hz,hd,hl,hh,hR,q⟩
 refine ⟨rfl,?_⟩
 refine aN fun V1 hV1=>?_
 simp? only [bU,hName]
 refine ⟨z,i,l,_,rfl,hz,hd,hl,fun c r e=>?_,?_⟩
 ·cases e;omega
 have rD:=uD hd
 have hd2:=uD (s:=[46,46]) (r:=dig h++R) (show z.cps.toList.drop (i + (dig l).length)=[46,46]++(dig h++R) from rD)
 have e2:(((i + (dig l).length:Nat):Int) + 2)=((i + (dig l).length + 2:Nat):Int):=by omega
 have hs:Txt.slice z (some ((i + (dig l).length:Nat):Int)) (some ((i + (dig l).length + 2:Nat):Int))=tx [46,46]:=Fo (s:=[46,46]) rD rfl rfl
 generalize hj:i + (dig l).length=j at rD hd2 e2 hs q
 subst hV1
 refine aN fun V2 hV2=>?_
 refine bX fun A B hA hB=>?_
 simp? only [e2,hs,R6]
 refine ⟨small hz,?_⟩
 subst hB
 simp only [bW]
 subst hV2
 refine aN fun V3 hV3=>?_
 simp? only [bU,hName,e2]
 refine ⟨z,j + 2,h,R,rfl,hz,hd2,hh,hR,?_⟩
 subst hV3
 simp? only [bM]
 exact aI q
noncomputable def D5:bN:=fun us M Q=>∃ (z:Str) (n:Nat),us=[.str z]/\z.length<=100000/\z.cps.toList=dig n/\n<=1000000000000000000/\Q (.int (n:Int)) M
theorem Kk (F:cF K "read_whole_number" "read_whole_number" dE f fd) (hm:mg "read_whole_number"=some (.ref f)) (aW:mg "len"=none) (lX:Callee P w K mg base 1 "read_number" HI []):Callee P w K mg base 2 "read_whole_number" D5 []:=by
 refine bD F hm m4 (lO fun _ _ _ _ _ _ _=>rfl) (aD (aJ 1 m4.nd (aR lX (aA (uv 0) (aA aH aB))))
 (aD (bK (bO m5 (aL (uv 1) aH) (b8 cO aW (aA (uv 0) aB)))
 (aF iC)
 bB)
 (aF (aQ (aL (uv 1) aH))))) ?_
 rintro us M Q ⟨z,n,rfl,hz,hd,hn,q⟩
 refine ⟨rfl,?_⟩
 have hL:z.cps.toList.length=z.length:=by simp [Str.length]
 refine aN fun V1 hV1=>?_
 simp? only [bU,hName]
 refine ⟨z,0,n,[],rfl,hz,by simpa using hd,hn,(fun c r e=>by cases e),?_⟩
 subst hV1
 refine aN fun V2 hV2=>?_
 refine bX fun A B hA hB=>?_
 simp? only [true_and]
 refine ⟨small hz,?_⟩
 rw [if_neg (fun e=>by have:=of_decide_eq_true e;rw [hd] at hL;omega)]
 subst hB
 simp only [bW]
 subst hV2
 simp? only [bM]
 exact aI q
noncomputable def Fv:bN:=fun us M Q=>∃ (z:Str) (i:Nat) (t:Pt) (R:List Nat),us=[.str z,.int (i:Int)]/\z.length<=100000/\t.rd/\t.leafy=true/\z.cps.toList.drop i=cT t++R/\Qh R/\Q (.tup [t.toU,.int ((i + (cT t).length:Nat):Int)]) M
theorem Sb:Str.ofString "?"=tx [63]:=by decide +kernel
theorem MU:Str.ofString "@"=tx [64]:=by decide +kernel
theorem LG (F:cF K "read_leaf" "read_leaf" jV f fd) (Bq:Callee P w K mg base 1 "end_of_name" Nt []) (Ah:Callee P w K mg base 2 "read_stretch" A9 []):nU P w K mg base 3 f Fv:=by
 refine ⟨fd,["text","at"],?_,F.kp,F.binds (nM fun _ _ _ _ _ _ _ _=>rfl)⟩
 refine zY F pX (fun us M Q h=>by obtain ⟨_,_,_,_,rfl,_⟩:=h;rfl) (aD (aJ 2 pX.nd (jD (own:=false) (uv 0) (cR (uv 1)) (cR (aO (own:=false) (uv 1) aH))))
 (aD (bK (bO cI (uv 2) bZ)
 (aF (aQ (bG (aA (bG (aA bZ aB)) (aA (aO (own:=false) (uv 1) aH) aB)))))
 bB)
 (aD (bK (bO cI (uv 2) bZ)
 (aD (aJ 3 pX.nd (aR Bq (aA (uv 0) (aA (aO (own:=false) (uv 1) aH) aB))))
 (aF (aQ (bG (aA (bG (aA bZ (aA (jD (own:=false) (uv 0) (cR (aO (own:=false) (uv 1) aH)) (cR (uv 3))) aB))) (aA (uv 3) aB))))))
 bB)
 (aF (aQ (aR Ah (aA (uv 0) (aA (uv 1) aB)))))))) ?_
 rintro us M Q ⟨z,i,t,R,rfl,hz,hok,hlf,hd,hR,q⟩
 have e1:(i:Int) + 1=((i + 1:Nat):Int):=by omega
 obtain ⟨a,r,hcr,-,-⟩:=sN t hok
 refine aN fun V1 hV1=>?_
 simp? only [bU,hName,Kz (show z.cps.toList.drop i=a :: (r++R) by rw [hd,hcr];rfl)]
 refine ⟨small hz,?_⟩
 subst hV1
 refine aN fun V2 hV2=>?_
 refine bX fun A B hA hB=>?_
 simp? only [Sb,vA,List.cons.injEq]
 cases t with
 | turn a=>cases hlf
 | two o a b=>cases hlf
 | any =>
  rw [DP] at hcr hd q
  cases hcr
  rw [if_pos (decide_eq_true rfl)]
  subst hA
  simp? only [bM,e1]
  exact aI q
 | hole x =>
  rw [Ae] at hcr hd q
  cases hcr
  rw [if_neg (by simp)]
  subst hB
  simp only [bW]
  subst hV2
  refine aN fun V3 hV3=>?_
  refine bX fun A B hA hB=>?_
  simp? only [MU,vA,List.cons.injEq]
  subst hA
  obtain ⟨_,_,rD⟩:=eL (show z.cps.toList.drop i=64 :: (x.cps.toList++R) from hd)
  have hl:x.cps.toList.length=x.length:=by simp [Str.length]
  refine aN fun V4 hV4=>?_
  simp? only [bU,hName,e1]
  refine ⟨z,i + 1,x.cps.toList,R,rfl,hz,rD,hok.2,by rw [hl];exact hok.1.2,fun c r e=>?_,?_⟩
  ·have:=hR c r e;omega
  subst hV4
  have hs:Txt.slice z (some ((i + 1:Nat):Int)) (some ((i + 1 + x.cps.toList.length:Nat):Int))=x:=by
   have h0:=hok.1.1
   rw [Fo rD rfl rfl (by omega),Nj]
  simp? only [bM,hs,e1]
  refine ⟨small hz,aI ?_⟩
  have e3:i + 1 + x.cps.toList.length=i + (64 :: x.cps.toList).length:=by simp only [List.length_cons];omega
  rw [e3]
  exact q
 | fr l h =>
  have h18:(10:Int) ^ 18=1000000000000000000:=by decide
  obtain ⟨⟨k1,k2⟩,k3,k4⟩:=hok
  rw [HW k1 k3] at hcr hd q
  obtain ⟨c',r',hc1,hc2,hc3⟩:=AK l.toNat
  have ha:a=c':=by rw [hc1] at hcr;cases hcr;rfl
  subst ha
  rw [if_neg (fun e=>by have:=of_decide_eq_true e;omega)]
  subst hB
  simp only [bW]
  subst hV2
  refine aN fun V3 hV3=>?_
  refine bX fun A B hA hB=>?_
  simp? only [MU,vA,List.cons.injEq]
  rw [if_neg (fun e=>by have:=of_decide_eq_true e;omega)]
  subst hB
  simp only [bW]
  subst hV3
  simp? only [bM]
  refine ⟨z,i,l.toNat,h.toNat,R,rfl,hz,by rw [hd];simp,by omega,by omega,fun c r e=>?_,aI ?_⟩
  ·have:=hR c r e;omega
  have e3:i + (dig l.toNat).length + 2 + (dig h.toNat).length=i + (dig l.toNat++46 :: 46 :: dig h.toNat).length:=by simp only [List.length_append,List.length_cons];omega
  rw [e3,show ((l.toNat:Nat):Int)=l by omega,show ((h.toNat:Nat):Int)=h by omega]
  exact q
theorem CY {t:Pt} (h:t.rd):1<=(cT t).length:=by
 obtain ⟨c,r,e,_⟩:=sN t h
 rw [e];simp
noncomputable def CH (fl:Addr):bN:=fun us M Q=>∃ T:Pt,us=[.str T.text,.ref fl]/\T.rd/\T.text.length<=100000/\T.dep<=60/\Q T.toU M
theorem JO (F:cF K "read_shape" "read_shape" iU f fd) (hm:mg "read_shape"=some (.ref f)) (aW:mg "len"=none) (A_read_leaf:nU P w K mg base 3 fl Fv) (x9:Callee P w K mg base 2 "read_openings" IL []) (Bv:Callee P w K mg base 3 "read_behind" ML []):Callee P w K mg base 4 "read_shape" (CH fl) []:=by
 refine bD F hm dI (nM fun _ _ _ _ _ _ _ _=>rfl) (aD (aJ 2 dI.nd (dH (own:=true) aB))
 (aD (aJ 3 dI.nd QJ)
 (aD (aJ 4 dI.nd aH)
 (aD (iD (bO Sd (uv 3) QJ)
 (aD (aJ 4 dI.nd (aR x9 (aA (uv 0) (aA (uv 4) (aA (uv 2) aB)))))
 (aD (aJ 5 dI.nd (CK 1 A_read_leaf (aA (uv 0) (aA (uv 4) aB))))
 (aD (aJ 5 dI.nd (aR Bv (aA (uv 0) (aA (aL (uv 5) aH) (aA (aL (uv 5) aH) (aA (uv 2) aB))))))
 (aD (aJ 3 dI.nd (aL (uv 5) aH))
 (aF (aJ 4 dI.nd (aL (uv 5) aH))))))))
 (aD (bK (bO m5 (uv 4) (b8 cO aW (aA (uv 0) aB)))
 (aF iC)
 bB)
 (aF (aQ (uv 3)))))))) ?_
 rintro us M Q ⟨T,rfl,hT,hsz,hdp,q⟩
 refine ⟨rfl,?_⟩
 have hz:T.text.length<=100000:=hsz
 have hL:T.text.cps.toList.length=T.text.length:=by simp [Str.length]
 have hTd:T.text.cps.toList.drop 0=cT T++after []:=by simp [cT,after]
 generalize hzz:T.text=z at hz hL hTd
 refine aN fun V1 hV1=>?_
 simp? only [bU,hName,bP,aU,aV]
 intro p hp
 subst hV1
 refine aN fun V2 hV2=>?_
 simp? only [bU,hName,bP,aU,aV]
 subst hV2
 refine aN fun V3 hV3=>?_
 simp? only [bU,hName,bP,aU,aV]
 subst hV3
 refine aN fun V4 hV4=>?_
 refine i8 (fun τ M'=>∃ (s:U) (i:Nat) (e:Option U) (c:List Fm),τ=[some (.str z),some (.ref fl),some (.ref p),some s,some (.int (i:Int)),e]/\M'=mup M p (.lst (qY c))/\((s=T.toU/\i=z.length)\/∃ t,s=.non/\t.rd/\z.cps.toList.drop i=cT t++after c/\qS t c=T/\c.length + t.dep<=60/\zK c)) (fun τ _=>match τ with | [_,_,_,_,some (.int i),_]=>z.length - i.toNat | _=>0) ⟨.non,0,none,[],rfl,rfl,.inr ⟨T,rfl,hT,hTd,rfl,by simpa using hdp,trivial⟩⟩ ?_
 rintro τ M' ⟨s,i,e,c,rfl,rfl,(⟨rfl,rfl⟩ | ⟨t,rfl,ht,hd,hr,hb,hf⟩)⟩
 ·have hnn:fC T.toU=false:=by cases T <;> rfl
  simp_all! only [hnn,vU,v5,yC,yS,zN,y8,zJ,yU,u9,bC,iO,xB,AA,yQ,bR,M7,Nat.reduceLeDiff,Option.getD_some]
  subst hV4
  refine aN fun V5 hV5=>?_
  refine bX fun A B hA hB=>?_
  simp? only [bP,aU,aV]
  refine ⟨small hz,?_⟩
  rw [if_neg (fun z=>by have:=of_decide_eq_true z;omega)]
  subst hB
  simp only [bW]
  subst hV5
  simp? only [bM,bP,aU,aV]
  exact ⟨_,M,(Sub.refl M).mup hp,.inl rfl,q⟩
 ·have hil:i < z.length:=by
   have:=congrArg List.length hd
   have h2:=CY ht
   rw [List.length_drop,List.length_append,hL] at this
   omega
  simp? only [bP,aU,aV]
  refine aN fun V5 hV5=>?_
  simp? only [bU,hName,bP,aU,aV]
  refine ⟨z,i,p,t,c,rfl,hz,bC,ht,hd,hb,hf,fun i1 t1 c1 hl1 ⟨o1,o2,o3,o4,o5,o6⟩=>?_⟩
  rw [iO]
  subst hV5
  refine aN fun V6 hV6=>?_
  simp? only [bU,hName,bP,aU,aV]
  refine ⟨z,i1,t1,after c1,rfl,hz,o1,hl1,o2,Kf c1,?_⟩
  have rD:=uD o2
  have hi1:i1 + (cT t1).length<=z.length:=by
   have:=congrArg List.length o2
   have h2:=CY o1
   rw [List.length_drop,List.length_append,hL] at this
   omega
  have hp1:=CY o1
  subst hV6
  refine aN fun V7 hV7=>?_
  simp? only [bU,hName,bP,aU,aV]
  refine ⟨z,t1,_,p,c1,rfl,hz,bC,rD,by omega,o5,hi1,?_,fun i2 b o a c2 k1 k2 k3 k4 k5 k6=>?_⟩
  ·rw [iO]
   subst hV7
   simp? only [fD,bU,hName,bP,aU,aV]
   exact ⟨⟨_,z.length,_,[],rfl,rfl,.inl ⟨by rw [o3,hr],rfl⟩⟩,by omega⟩
  ·rw [iO]
   subst hV7
   simp? only [fD,bU,hName,bP,aU,aV]
   exact ⟨⟨_,i2,_,.r o a :: c2,rfl,rfl,.inr ⟨b,rfl,k1,k2,by rw [k3,o3,hr],by simp only [List.length_cons];omega,k5⟩⟩,by omega⟩
theorem mF {c:Str} (h:isName (.str c)=true):(1<=c.length/\c.length<=8)/\∀ x∈c.cps.toList,97<=x/\x<=122:=by
 simp only [isName,Bool.and_eq_true,decide_eq_true_eq] at h
 refine ⟨h.1,fun x hx=>?_⟩
 have:=List.all_eq_true.mp h.2 x hx
 unfold isLetter at this
 rw [DQ] at this
 exact of_decide_eq_true this
theorem yI {cs:List Str} (hc:∀ c∈cs,isName (.str c)=true):∀ {p:Pt},p.ok->p.sm cs->p.rd
 | .hole c,_,h=>mF (hc c h.2)
 | .any,_,_=>trivial
 | .fr l u,h,k=>by
  have h1:0<=l:=h.1
  have h2:l<=u:=h.2
  have h3:u<=10 ^ 18:=k
  exact ⟨⟨h1,by omega⟩,by omega,h3⟩
 | .turn a,h,k=>yI hc (p:=a) h k
 | .two o a b,h,k=>⟨yI hc h.1 k.1,yI hc h.2 k.2⟩
theorem BV:∀ {p:Pt},p.rd->∀ x∈cT p,32<=x
 | .hole c,h,x,hx=>by
  rw [Ae] at hx
  rcases List.mem_cons.mp hx with rfl | hx
  ·decide
  ·have:=h.2 x hx;omega
 | .any,h,x,hx=>by
  rw [DP] at hx
  cases List.mem_singleton.mp hx;decide
 | .fr l u,h,x,hx=>by
  rw [HW h.1.1 h.2.1] at hx
  rcases List.mem_append.mp hx with hx | hx
  ·have:=sE _ x hx;omega
  ·rcases List.mem_cons.mp hx with rfl | hx
   ·decide
   ·rcases List.mem_cons.mp hx with rfl | hx
    ·decide
    ·have:=sE _ x hx;omega
 | .turn a,h,x,hx=>by
  rw [zX] at hx
  simp only [List.mem_cons,List.mem_append,List.not_mem_nil,or_false] at hx
  rcases hx with rfl | rfl | rfl | hx | rfl
  ·decide
  ·decide
  ·decide
  ·exact BV (p:=a) h x hx
  ·decide
 | .two o a b,h,x,hx=>by
  rw [Cw] at hx
  simp only [List.mem_cons,List.mem_append,List.not_mem_nil,or_false] at hx
  rcases hx with rfl | hx | rfl | rfl | rfl | hx | rfl
  ·decide
  ·exact BV (p:=a) h.1 x hx
  ·decide
  ·cases o <;> decide
  ·decide
  ·exact BV (p:=b) h.2 x hx
  ·decide
noncomputable def oP:Str:=⟨#[32]⟩
theorem B0:Str.ofString " "=oP:=by decide +kernel
theorem RV:Str.ofString "\n"=⟨#[10]⟩:=by decide +kernel
theorem vT (z:Str) (l:List Str):Txt.join z l=Str.join z l:=StrLaws.glued_eq_join z l
theorem oA (z a:Str) {l:List Str} (h:l≠[]):Str.join z (a :: l)=a++z++Str.join z l:=by
 cases l with
 | nil=>exact (h rfl).elim
 | cons b r=>rfl
theorem Qu {a b c d:Str} (ha:32 ∉ a.cps.toList) (hb:32 ∉ b.cps.toList) (hc:32 ∉ c.cps.toList):Txt.splitMax (Str.join oP [a,b,c,d]) oP 3=[a,b,c,d]:=by
 have hn:=D4 d oP
 have hf:=StrLaws.split_free d 32
 have hj:=StrLaws.join_split d oP
 have hf':∀ p∈Txt.split d oP,32 ∉ p.cps.toList:=hf
 generalize Txt.split d oP=ps at hn hf' hj
 have e:Str.join oP [a,b,c,d]=Str.join oP (a :: b :: c :: ps):=by
  rw [oA _ a (by simp),oA _ b (by simp),oA _ c (by simp),oA _ a (by simp),oA _ b (by simp),oA _ c hn,hj]
  rfl
 have hs:Txt.split (Str.join oP [a,b,c,d]) oP=a :: b :: c :: ps:=by
  rw [e]
  refine tG (by simp) fun p hp=>?_
  rcases List.mem_cons.mp hp with rfl | hp
  ·exact ha
  ·rcases List.mem_cons.mp hp with rfl | hp
   ·exact hb
   ·rcases List.mem_cons.mp hp with rfl | hp
    ·exact hc
    ·exact hf' p hp
 have:=Ep (Str.join oP [a,b,c,d]) oP 3 (by decide)
 rw [hs] at this
 have this':Txt.splitMax (Str.join oP [a,b,c,d]) oP 3=_:=this
 rw [this']
 split
 ·rename_i h
  have:ps.length=1:=by
   have:=List.length_pos_iff.mpr hn
   simp only [List.length_cons] at h
   omega
  obtain ⟨x,rfl⟩:=List.length_eq_one_iff.mp this
  have hj':x=d:=hj
  rw [hj']
 ·show a :: b :: c :: [Str.join oP ps]=_
  rw [hj]
theorem Fx {n:Int} (h:0<=n):∀ x∈(Str.ofString (toString n)).cps.toList,48<=x/\x<=57:=fun x hx=>by
 rw [zI h] at hx
 exact sE _ x hx
theorem Kr {cs:List Str} (hc:lJ cs) {t:Tl} (h:t.ok cs):Txt.splitMax t.row (Str.ofString " ") 3=[t.name,t.cls,Str.ofString (toString t.cost),t.pt.text]:=by
 have e:t.row=Str.join oP [t.name,t.cls,Str.ofString (toString t.cost),t.pt.text]:=by
  rw [<- DZ,B0]
  exact vT _ _
 rw [e,B0]
 refine Qu (fun z=>?_) (fun z=>?_) (fun z=>?_)
 ·have:=(mF h.nn).2 _ z;omega
 ·have:=(mF (hc.nm _ h.ci)).2 _ z;omega
 ·have:=Fx h.c0 _ z;omega
theorem QS {cs:List Str} (hc:lJ cs) {t:Tl} (h:t.ok cs):10 ∉ t.row.cps.toList:=fun z=>by
 have hb:(Str.ofString " ").cps.toList=[32]:=by decide +kernel
 simp only [Tl.row,vL,List.mem_append,hb,List.mem_singleton] at z
 rcases z with (((((z | z) | z) | z) | z) | z) | z
 ·have:=(mF h.nn).2 _ z;omega
 ·omega
 ·have:=(mF (hc.nm _ h.ci)).2 _ z;omega
 ·omega
 ·have:=Fx h.c0 _ z;omega
 ·omega
 ·have:=BV (yI hc.nm h.pt.ok h.pt.sm) _ z;omega
theorem Jc {cs:List Str} (hc:lJ cs):Txt.split (Txt.join (Str.ofString " ") cs) (Str.ofString " ")=cs:=by
 rw [vT,B0]
 refine tG hc.ok.1 fun p hp z=>?_
 have:=(mF (hc.nm p hp)).2 _ z
 omega
theorem DW {c:Nat}:∀ {l:List Str} {x:Nat},x∈(Str.join ⟨#[c]⟩ l).cps.toList->x=c\/∃ s∈l,x∈s.cps.toList
 | [],x,h=>by cases h
 | [a],x,h=>.inr ⟨a,List.mem_singleton.mpr rfl,h⟩
 | a :: b :: r,x,h=>by
  rw [oA _ a (by simp)] at h
  simp only [vL,List.mem_append] at h
  rcases h with (h | h) | h
  ·exact .inr ⟨a,List.mem_cons_self,h⟩
  ·left;simpa using h
  ·rcases DW h with h | ⟨s,h1,h2⟩
   ·exact .inl h
   ·exact .inr ⟨s,List.mem_cons_of_mem _ h1,h2⟩
theorem EJ {cs:List Str} (hc:lJ cs) {tl:List Tl} (h:∀ t∈tl,t.ok cs):Txt.split (Txt.join (Str.ofString "\n") (linesOf cs tl)) (Str.ofString "\n")=linesOf cs tl:=by
 rw [vT,RV]
 refine tG (by simp [linesOf]) fun p hp z=>?_
 rcases List.mem_cons.mp hp with rfl | hp
 ·rw [vT,B0] at z
  rcases DW z with z | ⟨s,h1,h2⟩
  ·cases z
  ·have:=(mF (hc.nm s h1)).2 _ h2;omega
 ·obtain ⟨t,h1,rfl⟩:=List.mem_map.mp hp
  exact QS hc (h t h1) z
noncomputable def FW:bN:=fun us M Q=>∃ (t:Tl) (cs:List Str) (r:U),us=[.str t.row,r]/\lJ cs/\t.ok cs/\Q t.toU M
theorem Ts:(decide ((3:Int) < -(2 ^ 63:Int)) || decide ((3:Int) ≥ 2 ^ 63))=false:=by decide
theorem KU {fl:Addr} (F:cF K "read_tile" "read_tile" jT f fd) (hm:mg "read_tile"=some (.ref f)) (aW:mg "len"=none) (rN:mg "read_leaf"=some (.ref fl)) (t5:Callee P w K mg base 2 "read_whole_number" D5 []) (Ci:Callee P w K mg base 4 "read_shape" (CH fl) []):Callee P w K mg base 5 "read_tile" FW []:=by
 refine bD F hm mV (nM fun _ _ _ _ _ _ _ _=>rfl) (aD (aJ 2 mV.nd (IG (own:=false) (uv 0) (aA bZ (aA aH aB))))
 (aD (bK (bO m5 (b8 cO aW (aA (uv 2) aB)) aH)
 (aF iC)
 bB)
 (aD (N3 (aD (aJ 3 mV.nd (aR t5 (aA (aL (uv 2) aH) aB)))
 (aF (aJ 4 mV.nd (aR Ci (aA (aL (uv 2) aH) (aA (nA rN) aB)))))))
 (aF (aQ (bG (aA (aL (uv 2) aH) (aA (aL (uv 2) aH) (aA (uv 4) (aA (uv 3) aB)))))))))) ?_
 rintro us M Q ⟨t,cs,r,rfl,hc,ht,q⟩
 refine ⟨rfl,?_⟩
 have hrow:=Ai ht
 refine aN fun V1 hV1=>?_
 simp? only [bU,hName,uW,qN,Dt,Kr hc ht]
 refine ⟨⟨_,rfl⟩,rfl,by omega,Ts,?_⟩
 subst hV1
 refine aN fun V2 hV2=>?_
 refine bX fun A B hA hB=>?_
 simp? only [true_and]
 refine fM (fun e=>absurd (of_decide_eq_true e) (by omega)) (fun _=>?_)
 subst hB
 simp only [bW]
 subst hV2
 refine aN fun V3 hV3=>?_
 simp? only [fD,bU,hName]
 have h4:=jZ ht.c0 (by have:=ht.c1;omega)
 have h1:=ht.c1
 have h0:=ht.c0
 have hpl:=ht.pt.len
 refine ⟨_,t.cost.toNat,rfl,by omega,zI ht.c0,by omega,?_⟩
 have hn:((t.cost.toNat:Nat):Int)=t.cost:=by omega
 refine ⟨t.pt,rfl,yI hc.nm ht.pt.ok ht.pt.sm,by omega,by have:=ht.pt.dep;omega,?_⟩
 rw [hn]
 subst hV3
 simp? only [bM]
 exact aI q
noncomputable def B3 (Pt:Addr):bN:=fun us M Q=>∃ (cs:List Str) (tl:List Tl),us=[.str (Txt.join (Str.ofString "\n") (linesOf cs tl))]/\lJ cs/\1<=tl.length/\tl.length<=40/\(∀ t∈tl,t.ok cs)/\(tl.map Tl.name).Nodup/\M Pt=some (.tbl QP)/\Q (.tup [eK cs,.tup (tl.map Tl.toU)]) M
theorem LI {α:Type} (a:α) (l:List α):gF (a :: l) (some 1) none=l:=by
 unfold gF
 simp only [HT.bV]
 rw [if_neg (by decide)]
 have e1:(1:Int).toNat=1:=rfl
 rw [e1]
 simp
theorem Kb {Pl:Addr} (F:cF K "read_table" "read_table" iN f fd) (hm:mg "read_table"=some (.ref f)) (aW:mg "len"=none) (bI:mg "tuple"=none) (eS:mg "enumerate"=none) (o7:Callee P w K mg base 2 "are_classes" sO []) (EM:Callee P w K mg base 5 "read_tile" FW []) (GN:Callee P w K mg base 12 "is_table" (CZ Pl) []):Callee P w K mg base 13 "read_table" (B3 Pl) []:=by
 refine bD F hm fE (lO fun _ _ _ _ _ _ _=>rfl) (aD (aJ 1 fE.nd (AX (own:=false) (uv 0) (aA bZ aB)))
 (aD (aJ 2 fE.nd (oX vH bI (aA (AX (own:=false) (aL (uv 1) aH) (aA bZ aB)) aB)))
 (aD (bK (dD (cM (aR o7 (aA (uv 2) aB))))
 (aF iC)
 bB)
 (aD (bK (bO cI (b8 cO aW (aA (uv 1) aB)) aH)
 (aF iC)
 bB)
 (aD (aJ 3 fE.nd (bG aB))
 (aD (oR (Lj eS (aA (jD (own:=false) (uv 1) (cR aH) vO) aB)) (oS (n:=2) (cH (bQ (k:=1000) 4 fE.nd) (cH (bQ (k:=1000) 5 fE.nd) mI)))
 (aD (aJ 3 fE.nd (aO (own:=false) (uv 3) (bG (aA (aR EM (aA (uv 5) (aA (uv 4) aB))) aB))))
 (aF (bK (dD (cM (aR GN (aA (bG (aA (uv 2) (aA (uv 3) aB))) aB))))
 (aF iC)
 bB))))
 (aF (aQ (bG (aA (uv 2) (aA (uv 3) aB))))))))))) ?_
 rintro us M Q ⟨cs,tl,rfl,hc,h1,h40,ht,hnd,hP,q⟩
 refine ⟨rfl,?_⟩
 have hzl:(Txt.join (Str.ofString "\n") (linesOf cs tl)).length<=100000:=by
  have:=tB (B:=600) (n:=71) (z:=Str.ofString "\n") (l:=linesOf cs tl) (by rw [QC];omega) (AQ hc.ok ht) (by simp only [linesOf,List.length_cons,List.length_map];omega) (by decide)
  omega
 have hcl:=(vQ hc.ok).2
 refine aN fun V1 hV1=>?_
 simp? only [bU,hName,uW,qN,Dt]
 rw [EJ hc ht]
 refine ⟨⟨_,rfl⟩,rfl,hzl,?_⟩
 generalize Txt.join (Str.ofString "\n") (linesOf cs tl)=z
 subst hV1
 refine aN fun V2 hV2=>?_
 simp? only [bU,hName,uW,qN,Dt,linesOf,Jc hc]
 refine ⟨⟨_,rfl⟩,rfl,by omega,?_⟩
 subst hV2
 refine aN fun V3 hV3=>?_
 refine bX fun A B hA hB=>?_
 simp? only [true_and]
 have pC:pN 21 (.tup (cs.map U.str)):=pT (tH hc.ok.2.2 20) (by rw [List.length_map];have:=hc.ok.2.1;omega)
 refine ⟨_,rfl,pC.plain (by decide),?_⟩
 simp? only [CF hc]
 subst hB
 simp only [bW]
 subst hV3
 refine aN fun V4 hV4=>?_
 refine bX fun A B hA hB=>?_
 simp? only [true_and]
 rw [if_neg (fun e=>by have:=of_decide_eq_true e;simp only [List.length_map] at this;omega)]
 subst hB
 simp only [bW]
 subst hV4
 refine aN fun V5 hV5=>?_
 simp? only [bU,hName]
 subst hV5
 refine aN fun V6 hV6=>?_
 refine pQ (S:=⟨none,oC ((tl.map Tl.row).map U.str)⟩) (M1:=M) (fun R r=>by simp! only [Dg,LI,items,b9,cG,bR];exact r)
  (fun i τ Mi=>∃ (a b:Option U),τ=[some (.str z),some (.lst (.str (Txt.join (Str.ofString " ") cs) :: (tl.map Tl.row).map U.str)),some (.tup (cs.map U.str)),some (.tup ((tl.take i).map Tl.toU)),a,b]/\Mi=M) ⟨_,_,rfl,rfl⟩ nk ?_ ?_
 ·rintro i x τ Mi e ⟨a,b,rfl,rfl⟩
  obtain ⟨u,e1,rfl⟩:=Bb e
  rw [List.getElem?_map,List.getElem?_map] at e1
  cases hk:tl[i]? with
  | none=>rw [hk] at e1;cases e1
  | some t =>
   rw [hk] at e1
   cases e1
   have hti:=ht t (List.mem_of_getElem? hk)
   have hil:i < tl.length:=(List.getElem?_eq_some_iff.mp hk).1
   have hnext:(tl.take i).map Tl.toU++[t.toU]=(tl.take (i + 1)).map Tl.toU:=by
    rw [List.take_add_one,hk];simp
   simp? only [i9,kZ,nW,hName]
   refine aN fun V7 hV7=>?_
   simp? only [bU,hName]
   refine ⟨t,cs,_,rfl,hc,hti,?_⟩
   simp? only [hnext]
   refine ⟨Nat.le_trans (show _<=41 by rw [List.length_map,List.length_take];omega) (by decide),?_⟩
   subst hV7
   refine bX fun A B hA hB=>?_
   simp? only [true_and]
   have htake:∀ t'∈tl.take (i + 1),t'.ok cs:=fun t' h'=>ht t' (List.mem_of_mem_take h')
   refine ⟨_,true,rfl,Mj hc (by rw [List.length_take];omega) (by rw [List.length_take];omega) htake (by rw [List.map_take];exact hnd.sublist (List.take_sublist _ _)),hP,?_⟩
   simp? only [true_and]
   subst hB
   exact ⟨_,_,rfl,rfl⟩
 ·rintro τ Mi ⟨a,b,rfl,rfl⟩
  have hl2:(Src.mk none (oC ((tl.map Tl.row).map U.str))).xs.length=tl.length:=by simp [oC]
  rw [hl2,List.take_length]
  subst hV6
  simp? only [bM]
  exact aI q
mutual
noncomputable def al:U->Nat->Prop
 | .str _,n=>1<=n
 | .int _,n=>1<=n
 | .tup us,n=>us.length<=1000/\∃ m,n=m + 1/\FG us m
 | _,_=>False
noncomputable def FG:List U->Nat->Prop
 | [],_=>True
 | u :: us,n=>al u n/\FG us n
end
theorem FQ:∀ {us:List U} {n i:Nat} {u:U},FG us n->us[i]?=some u->al u n
 | a :: us,n,0,u,h,e=>by cases e;exact h.1
 | a :: us,n,i + 1,u,h,e=>FQ (us:=us) h.2 e
theorem CO:∀ {u:U} {n:Nat},al u n->1<=n
 | .str _,n,h=>h
 | .int _,n,h=>h
 | .tup us,n,h=>by obtain ⟨_,m,rfl,_⟩:=h;omega
noncomputable def sF (n:Nat):bN:=fun us M Q=>∃ u:U,us=[u,u]/\al u n/\n<=30/\Q (.bl true) M
noncomputable def xG:bN:=fun us M Q=>∃ i:Int,us=[.int i]/\Q (.bl true) M
local macro_rules | `(tactic| simp! only [$xs,*] $[$l]?) => do `(tactic| simp only [$xs,*, $(← zzS "Bool.false_eq_true Bool.not_false Bool.not_true List.append_nil List.cons_append List.getElem?_cons_succ List.getElem?_cons_zero List.length_cons List.length_nil List.map_cons List.map_nil List.nil_append List.replicate List.set_cons_succ List.set_cons_zero Nat.add_sub_cancel Nat.reduceAdd Nat.reduceLeDiff Nat.reduceSub Nat.sub_self Option.getD_some Option.some.injEq and_true DG Iy at2 Js xF AA oD yR q8 rR y9 w4 C7 oJ FH FN FL JG eW decide_false decide_true vU v5 exists_eq_left' if_false if_true zW fC fG fJ gD fF gB eX jF jQ kH jC kD iV jP jI kG jH kL iQ kI kO lQ kM lT jK jE jN kQ jM kP iX kK kC lN kN lP jO iY iK jG iS jJ hG mO uS mN uB yQ mP iO bC reduceCtorEq eU M7 true_and xO oU rE wY nE Bc xM uC tV tS qH oN nK Cm uI r9 DI uN sX tU xN wZ xB Cg pU n6 xK yN tM gA De w5 sV tT yZ wR pB xE wQ CA mB yS zN yU yC u9 y8 zJ"),*] $[$l]?)
theorem Il (F:cF K "_law_whole" "_law_whole" j2 f fd) (hm:mg "_law_whole"=some (.ref f)) (aM:mg "isinstance"=none) (lY:mg "int"=none) (sI:mg "bool"=none):Callee P w K mg base 1 "_law_whole" xG []:=by
 refine bD F hm Dr (lO fun _ _ _ _ _ _ _=>rfl) (aF (aQ (gY (b8 h9 aM (aA (uv 0) (aA (hJ (n:="int") lY) aB))) (iP (DB (b8 h9 aM (aA (uv 0) (aA (hJ (n:="bool") sI) aB)))))))) ?_
 rintro us M Q ⟨i,rfl,q⟩
 refine ⟨rfl,?_⟩
 simp? only [bM]
 exact aI q
theorem zip_get {us:List U} {i:Nat} {x:U} (h:(fH us us)[i]?=some x):∃ u,us[i]?=some u/\x=.tup [u,u]:=by
 obtain ⟨u,w,e1,e2,e3⟩:=tO h
 rw [e1] at e2;cases e2
 exact ⟨u,e1,e3⟩
theorem KS {n:Nat} (F:cF K "_law_alike" "_law_alike" iB f fd) (hm:mg "_law_alike"=some (.ref f)) (aM:mg "isinstance"=none) (bI:mg "tuple"=none) (aW:mg "len"=none) (vS:mg "zip"=none) (cP:mg "str"=none) (oH:Callee P w K mg base 1 "_law_whole" xG []) (rL:Callee P w K mg base (n + 1) "_law_alike" (sF n) []):Callee P w K mg base (n + 2) "_law_alike" (sF (n + 1)) []:=by
 refine bD F hm pW (nM fun _ _ _ _ _ _ _ _=>rfl) (aD (bK (cM (b8 h9 aM (aA (uv 1) (aA (hJ (n:="tuple") bI) aB))))
 (aD (bK (gW.pt (iH (dD (cM (b8 h9 aM (aA (uv 0) (aA (hJ (n:="tuple") bI) aB))))) (gZ (bO rA (b8 cO aW (aA (uv 0) aB)) (b8 cO aW (aA (uv 1) aB))))))
 (aF (aQ nO))
 bB)
 (aD (oR (RA vS (aA (uv 0) (aA (uv 1) aB))) (oS (n:=2) (cH (bQ (k:=1000) 2 pW.nd) (cH (bQ (k:=1000) 3 pW.nd) mI)))
 (aF (bK (dD (cM (aR rL (aA (uv 2) (aA (uv 3) aB)))))
 (aF (aQ nO))
 bB)))
 (aF (aQ nO))))
 bB)
 (aD (bK (cM (b8 h9 aM (aA (uv 1) (aA (hJ (n:="str") cP) aB))))
 (aF (aQ (gY (b8 h9 aM (aA (uv 0) (aA (hJ (n:="str") cP) aB))) (iP (j7 cI (uv 0) (uv 1))))))
 bB)
 (aF (aQ (gY (aR oH (aA (uv 0) aB)) (iP (j7 cI (uv 0) (uv 1)))))))) ?_
 rintro us M Q ⟨u,rfl,ha,hn,q⟩
 refine ⟨rfl,?_⟩
 refine aN fun V1 hV1=>?_
 refine bX fun A B hA hB=>?_
 cases u with
 | str z =>
  simp? only [true_and]
  subst hB
  simp only [bW]
  subst hV1
  refine aN fun V2 hV2=>?_
  refine bX fun A B hA hB=>?_
  simp? only [true_and]
  subst hA
  simp? only [bM]
  exact aI q
 | int z =>
  simp? only [true_and]
  subst hB
  simp only [bW]
  subst hV1
  refine aN fun V2 hV2=>?_
  refine bX fun A B hA hB=>?_
  simp? only [true_and]
  subst hB
  simp only [bW]
  subst hV2
  simp? only [bM]
  refine ⟨z,rfl,?_⟩
  simp? only [true_and]
  exact aI q
 | tup ws =>
  obtain ⟨hl,m,e,has⟩:=ha
  cases e
  simp? only [true_and]
  subst hA
  refine aN fun V2 hV2=>?_
  refine bX fun A B hA hB=>?_
  simp? only [true_and]
  subst hB
  simp only [bW]
  subst hV2
  refine aN fun V3 hV3=>?_
  refine pQ (S:=⟨none,fH ws ws⟩) (M1:=M) (fun R r=>by simp! only [cG,items,b9,cG,bR];exact r)
   (fun i τ Mi=>∃ (a b:Option U),τ=[some (.tup ws),some (.tup ws),a,b]/\Mi=M) ⟨_,_,rfl,rfl⟩ nk ?_ ?_
  ·rintro i x τ Mi e ⟨a,b,rfl,rfl⟩
   obtain ⟨v,e1,rfl⟩:=zip_get e
   simp? only [i9,kZ,nW,hName]
   refine bX fun A B hA hB=>?_
   simp? only [true_and]
   refine ⟨v,rfl,FQ has e1,by omega,?_⟩
   simp? only [true_and]
   subst hB
   exact ⟨_,_,rfl,rfl⟩
  ·rintro τ Mi ⟨a,b,rfl,rfl⟩
   subst hV3
   simp? only [bM]
   exact aI q
 | _=>exact ha.elim
theorem A1 (F:cF K "_law_alike" "_law_alike" iB f fd) (hm:mg "_law_alike"=some (.ref f)) (aM:mg "isinstance"=none) (bI:mg "tuple"=none) (aW:mg "len"=none) (vS:mg "zip"=none) (cP:mg "str"=none) (oH:Callee P w K mg base 1 "_law_whole" xG []):∀ n,Callee P w K mg base (n + 1) "_law_alike" (sF n) []
 | 0=>by
  have no:∀ us M Q,¬ sF 0 us M Q:=fun us M Q h=>by
   obtain ⟨p,_,h,_⟩:=h
   have:=CO h
   omega
  refine ⟨f,fd,["found","due"],[],[],⟨fun vs H Q E h=>?_,fun A outer s H args us vs Q E _ _ _ _ h=>?_⟩,hm,F.kp,F.binds (nM fun _ _ _ _ _ _ _ _=>rfl),.nil,fun H M=>.nil⟩
  ·obtain ⟨us,M,Q',_,_,h,_⟩:=h;exact absurd h (no us M Q')
  ·obtain ⟨us,M,Q',_,_,h,_⟩:=h;exact absurd h (no us M Q')
 | n + 1=>KS F hm aM bI aW vS cP oH (A1 F hm aM bI aW vS cP oH n)
theorem NA:∀ {u:U} {n:Nat},al u n->al u (n + 1):=by
 have key:∀ n,(∀ u,al u n->al u (n + 1))/\∀ us,FG us n->FG us (n + 1):=by
  intro n
  induction n with
  | zero =>
   refine ⟨fun u h=>absurd (CO h) (by omega),fun us=>?_⟩
   cases us with
   | nil=>exact fun _=>trivial
   | cons u us=>exact fun h=>absurd (CO h.1) (by omega)
  | succ n ih =>
   have h1:∀ u,al u (n + 1)->al u (n + 1 + 1):=fun u h=>by
    cases u with
    | str z=>exact (show 1<=_ by omega)
    | int z=>exact (show 1<=_ by omega)
    | tup ws =>
     obtain ⟨hl,m,e,has⟩:=h
     cases e
     exact ⟨hl,_,rfl,ih.2 ws has⟩
    | _=>exact h.elim
   refine ⟨h1,fun us=>?_⟩
   induction us with
   | nil=>exact fun _=>trivial
   | cons u us ih2=>exact fun h=>⟨h1 u h.1,ih2 h.2⟩
 exact fun {u n} h=>(key n).1 u h
theorem B1 {u:U} {n m:Nat} (h:al u n) (hm:n<=m):al u m:=by
 induction hm with
 | refl=>exact h
 | step _ ih=>exact NA ih
theorem BR:∀ p:Pt,al p.toU (p.dep + 1)
 | .hole c=>⟨by simp,_,rfl,(show 1<=_ by simp [Pt.dep]),(show 1<=_ by simp [Pt.dep]),trivial⟩
 | .any=>⟨by simp,_,rfl,(show 1<=_ by simp [Pt.dep]),trivial⟩
 | .fr l h=>⟨by simp,_,rfl,(show 1<=_ by simp [Pt.dep]),(show 1<=_ by simp [Pt.dep]),(show 1<=_ by simp [Pt.dep]),trivial⟩
 | .turn a=>⟨by simp,_,rfl,(show 1<=_ by simp [Pt.dep]),B1 (BR a) (by simp [Pt.dep]),trivial⟩
 | .two o a b=>⟨by simp,_,rfl,(show 1<=_ by simp [Pt.dep]),B1 (BR a) (by simp only [Pt.dep];omega),B1 (BR b) (by simp only [Pt.dep];omega),trivial⟩
theorem Aq {α:Type} {g:α->U} {n:Nat}:∀ {l:List α},(∀ x∈l,al (g x) n)->FG (l.map g) n
 | [],_=>trivial
 | x :: l,h=>⟨h x List.mem_cons_self,Aq fun y hy=>h y (List.mem_cons_of_mem _ hy)⟩
theorem RN {cs:List Str} {tl:List Tl} (hc:lJ cs) (h40:tl.length<=40) (ht:∀ t∈tl,t.ok cs):al (.tup [eK cs,.tup (tl.map Tl.toU)]) 12:=by
 refine ⟨by simp,11,rfl,⟨?_,10,rfl,Aq fun x _=>(show 1<=10 by decide)⟩,⟨?_,10,rfl,Aq fun t h=>?_⟩,trivial⟩
 ·rw [List.length_map];have:=hc.ok.2.1;omega
 ·rw [List.length_map];omega
 ·exact ⟨by simp,9,rfl,(show 1<=9 by decide),(show 1<=9 by decide),B1 (BR t.pt) (by have:=(ht t h).pt.dep;omega),(show 1<=9 by decide),trivial⟩
noncomputable def yA (Pt:Addr):bN:=fun us M Q=>∃ ns:List Int,us=[.lst (ns.map .int)]/\ns.length<=63/\(∀ m∈ns,Builtin.Int.intBits m<=2 ^ 20)/\M Pt=some (.tbl QP)/\Q (.bl true) M
theorem Rc {Pl:Addr} (F:cF K "law" "law" pA f fd) (aM:mg "isinstance"=none) (cP:mg "str"=none) (EE:Callee P w K mg base 4 "_law_table" E5 []) (Dl:Callee P w K mg base 13 "read_table" (B3 Pl) []) (rL:Callee P w K mg base 13 "_law_alike" (sF 12) []) (By:Callee P w K mg base 8 "shown_table" D8 []):gI P w K mg base mM 14 f fd ["script"] (dQ K (yA Pl)):=by
 refine zY F qI (fun us M Q h=>by obtain ⟨x,rfl,_⟩:=h;rfl) (aD (DC (aR EE (aA (jD (own:=false) (uv 0) vO (cR aH)) aB)) (oS (n:=3) (cH (bQ (k:=1000) 1 qI.nd) (cH (bQ (k:=1000) 2 qI.nd) (cH (bQ (k:=1000) 3 qI.nd) mI)))))
 (aD (aJ 4 qI.nd (rY bZ (aA (uv 3) aB)))
 (aD (aJ 5 qI.nd (aR Dl (aA (uv 4) aB)))
 (aD (bK (dD (cM (aR rL (aA (uv 5) (aA (bG (aA (uv 1) (aA (uv 2) aB))) aB)))))
 (aF (aQ nO))
 bB)
 (aD (aJ 6 qI.nd (aR By (aA (uv 5) aB)))
 (aF (aQ (gY (b8 h9 aM (aA (uv 6) (aA (hJ (n:="str") cP) aB))) (iP (j7 cI (uv 6) (uv 4))))))))))) ?_
 rintro us M Q ⟨ns,rfl,hl,hb,hP,q⟩
 refine aN fun V1 hV1=>?_
 simp? only [bU,i9,kZ,nW,hName,NB]
 refine ⟨gF ns none (some 41),rfl,by have:=Ak ns none (some 41);omega,fun m hm=>hb m (List.mem_of_mem_drop (List.mem_of_mem_take hm)),fun cs tl q4 hc h1 h40 htl hnd h4=>?_⟩
 simp? only [true_and]
 have hPl:∀ o,mup M q4 o Pl=some (.tbl QP):=fun o=>by
  rw [bH (fun e=>by rw [<- e,hP] at h4;cases h4)];exact hP
 subst hV1
 refine aN fun V2 hV2=>?_
 simp? only [bU,hName]
 refine ⟨⟨_,rfl⟩,?_⟩
 simp? only [cE]
 refine ⟨_,oQ _,yP hc.ok htl (by omega),?_⟩
 subst hV2
 refine aN fun V3 hV3=>?_
 simp? only [bU,hName]
 refine ⟨cs,tl,rfl,hc,h1,h40,htl,hnd,hPl _,?_⟩
 subst hV3
 refine aN fun V4 hV4=>?_
 refine bX fun A B hA hB=>?_
 simp? only [true_and]
 refine ⟨_,rfl,RN hc h40 htl,by decide,?_⟩
 simp? only [true_and]
 subst hB
 simp only [bW]
 subst hV4
 refine aN fun V5 hV5=>?_
 simp? only [bU,hName]
 refine ⟨cs,tl,rfl,hc.ok,by omega,htl,?_⟩
 subst hV5
 simp? only [bM]
 exact ⟨_,M,(Sub.refl M).mup h4,.inl rfl,q⟩
end
end K13
namespace K13
open PySem L2 U2
open PyProof.Rows in
theorem all_mk (Pt0:Addr) {l:PySem.W.OpenLaw} {w:World} {K:PySem.W.Frag} {h:Heap} {mg:Str->Option Value} {fa f0 f1 f2 f3 f4 f5 f6 f7 f8 f9 f10 f11 f12 f13 f14 f15 f16 f17 f18 f19 f20 f21 f22 f23 f24 f25 f26 f27 f28 f29 f30 f31 f32 f33 f34 f35 f36 f37 f38 f39 f40 f41 f42 f43 f44:Addr} (X:K.In h) (G:h.Ns mainGlobals mg) (hfa:mg "law"=some (.ref fa))
  {od0 an0:Option Addr} {sl0:Array (Option Value)} {oc0 kV0 dc0 pm0 cd0 ct0:Value}
  {od1 an1:Option Addr} {sl1:Array (Option Value)} {oc1 kV1 dc1 pm1 cd1 ct1:Value}
  {od2 an2:Option Addr} {sl2:Array (Option Value)} {oc2 kV2 dc2 pm2 cd2 ct2:Value}
  {od3 an3:Option Addr} {sl3:Array (Option Value)} {oc3 kV3 dc3 pm3 cd3 ct3:Value}
  {od4 an4:Option Addr} {sl4:Array (Option Value)} {oc4 kV4 dc4 pm4 cd4 ct4:Value}
  {od5 an5:Option Addr} {sl5:Array (Option Value)} {oc5 kV5 dc5 pm5 cd5 ct5:Value}
  {od6 an6:Option Addr} {sl6:Array (Option Value)} {oc6 kV6 dc6 pm6 cd6 ct6:Value}
  {od7 an7:Option Addr} {sl7:Array (Option Value)} {oc7 kV7 dc7 pm7 cd7 ct7:Value}
  {od8 an8:Option Addr} {sl8:Array (Option Value)} {oc8 kV8 dc8 pm8 cd8 ct8:Value}
  {od9 an9:Option Addr} {sl9:Array (Option Value)} {oc9 kV9 dc9 pm9 cd9 ct9:Value}
  {od10 an10:Option Addr} {sl10:Array (Option Value)} {oc10 kV10 dc10 pm10 cd10 ct10:Value}
  {od11 an11:Option Addr} {sl11:Array (Option Value)} {oc11 kV11 dc11 pm11 cd11 ct11:Value}
  {od12 an12:Option Addr} {sl12:Array (Option Value)} {oc12 kV12 dc12 pm12 cd12 ct12:Value}
  {od13 an13:Option Addr} {sl13:Array (Option Value)} {oc13 kV13 dc13 pm13 cd13 ct13:Value}
  {od14 an14:Option Addr} {sl14:Array (Option Value)} {oc14 kV14 dc14 pm14 cd14 ct14:Value}
  {od15 an15:Option Addr} {sl15:Array (Option Value)} {oc15 kV15 dc15 pm15 cd15 ct15:Value}
  {od16 an16:Option Addr} {sl16:Array (Option Value)} {oc16 kV16 dc16 pm16 cd16 ct16:Value}
  {od17 an17:Option Addr} {sl17:Array (Option Value)} {oc17 kV17 dc17 pm17 cd17 ct17:Value}
  {od18 an18:Option Addr} {sl18:Array (Option Value)} {oc18 kV18 dc18 pm18 cd18 ct18:Value}
  {od19 an19:Option Addr} {sl19:Array (Option Value)} {oc19 kV19 dc19 pm19 cd19 ct19:Value}
  {od20 an20:Option Addr} {sl20:Array (Option Value)} {oc20 kV20 dc20 pm20 cd20 ct20:Value}
  {cd21:Addr} {od21 an21:Option Addr} {sl21:Array (Option Value)} {oc21 kV21 dc21 pm21 ct21:Value}
  {od22 an22:Option Addr} {sl22:Array (Option Value)} {oc22 kV22 dc22 pm22 cd22 ct22:Value}
  {od23 an23:Option Addr} {sl23:Array (Option Value)} {oc23 kV23 dc23 pm23 cd23 ct23:Value}
  {od24 an24:Option Addr} {sl24:Array (Option Value)} {oc24 kV24 dc24 pm24 cd24 ct24:Value}
  {od25 an25:Option Addr} {sl25:Array (Option Value)} {oc25 kV25 dc25 pm25 cd25 ct25:Value}
  {od26 an26:Option Addr} {sl26:Array (Option Value)} {oc26 kV26 dc26 pm26 cd26 ct26:Value}
  {od27 an27:Option Addr} {sl27:Array (Option Value)} {oc27 kV27 dc27 pm27 cd27 ct27:Value}
  {od28 an28:Option Addr} {sl28:Array (Option Value)} {oc28 kV28 dc28 pm28 cd28 ct28:Value}
  {od29 an29:Option Addr} {sl29:Array (Option Value)} {oc29 kV29 dc29 pm29 cd29 ct29:Value}
  {od30 an30:Option Addr} {sl30:Array (Option Value)} {oc30 kV30 dc30 pm30 cd30 ct30:Value}
  {od31 an31:Option Addr} {sl31:Array (Option Value)} {oc31 kV31 dc31 pm31 cd31 ct31:Value}
  {od32 an32:Option Addr} {sl32:Array (Option Value)} {oc32 kV32 dc32 pm32 cd32 ct32:Value}
  {od33 an33:Option Addr} {sl33:Array (Option Value)} {oc33 kV33 dc33 pm33 cd33 ct33:Value}
  {od34 an34:Option Addr} {sl34:Array (Option Value)} {oc34 kV34 dc34 pm34 cd34 ct34:Value}
  {od35 an35:Option Addr} {sl35:Array (Option Value)} {oc35 kV35 dc35 pm35 cd35 ct35:Value}
  {od36 an36:Option Addr} {sl36:Array (Option Value)} {oc36 kV36 dc36 pm36 cd36 ct36:Value}
  {od37 an37:Option Addr} {sl37:Array (Option Value)} {oc37 kV37 dc37 pm37 cd37 ct37:Value}
  {od38 an38:Option Addr} {sl38:Array (Option Value)} {oc38 kV38 dc38 pm38 cd38 ct38:Value}
  {od39 an39:Option Addr} {sl39:Array (Option Value)} {oc39 kV39 dc39 pm39 cd39 ct39:Value}
  {od40 an40:Option Addr} {sl40:Array (Option Value)} {oc40 kV40 dc40 pm40 cd40 ct40:Value}
  {od41 an41:Option Addr} {sl41:Array (Option Value)} {oc41 kV41 dc41 pm41 cd41 ct41:Value}
  {od42 an42:Option Addr} {sl42:Array (Option Value)} {oc42 kV42 dc42 pm42 cd42 ct42:Value}
  {od43 an43:Option Addr} {sl43:Array (Option Value)} {oc43 kV43 dc43 pm43 cd43 ct43:Value}
  {od44 an44:Option Addr} {sl44:Array (Option Value)} {oc44 kV44 dc44 pm44 cd44 ct44:Value}
  {PN:Tok}
  {tk1:Tok}
  {tk2:Tok}
  {tk3:Tok}
  {tk4:Tok}
  {tk5:Tok}
  {tk6:Tok}
  {tk7:Tok}
  {tk8:Tok}
  {tk9:Tok}
  (a0:PySem.W.nsIn K mainGlobals "is_whole"=some (some (.ref f0))) (l0:K.lookup f0=some ⟨oc0,od0,.func (PySem.W.fnOf "is_whole" "is_whole" (aX lD) (aS lD) (aE lD) .none kV0 dc0 pm0 an0 cd0 ct0),sl0⟩) (c0:PySem.W.codeIn K cd0 "is_whole"=true) (k0:PySem.W.keepIn K (.ref f0)=true)
  (a1:PySem.W.nsIn K mainGlobals "is_number"=some (some (.ref f1))) (l1:K.lookup f1=some ⟨oc1,od1,.func (PySem.W.fnOf "is_number" "is_number" (aX j3) (aS j3) (aE j3) .none kV1 dc1 pm1 an1 cd1 ct1),sl1⟩) (c1:PySem.W.codeIn K cd1 "is_number"=true) (k1:PySem.W.keepIn K (.ref f1)=true)
  (a2:PySem.W.nsIn K mainGlobals "is_sign"=some (some (.ref f2))) (l2:K.lookup f2=some ⟨oc2,od2,.func (PySem.W.fnOf "is_sign" "is_sign" (aX mS) (aS mS) (aE mS) .none kV2 dc2 pm2 an2 cd2 ct2),sl2⟩) (c2:PySem.W.codeIn K cd2 "is_sign"=true) (k2:PySem.W.keepIn K (.ref f2)=true)
  (a3:PySem.W.nsIn K mainGlobals "is_shape"=some (some (.ref f3))) (l3:K.lookup f3=some ⟨oc3,od3,.func (PySem.W.fnOf "is_shape" "is_shape" (aX kX) (aS kX) (aE kX) .none kV3 dc3 pm3 an3 cd3 ct3),sl3⟩) (c3:PySem.W.codeIn K cd3 "is_shape"=true) (k3:PySem.W.keepIn K (.ref f3)=true)
  (a4:PySem.W.nsIn K mainGlobals "parts_of"=some (some (.ref f4))) (l4:K.lookup f4=some ⟨oc4,od4,.func (PySem.W.fnOf "parts_of" "parts_of" (aX kT) (aS kT) (aE kT) .none kV4 dc4 pm4 an4 cd4 ct4),sl4⟩) (c4:PySem.W.codeIn K cd4 "parts_of"=true) (k4:PySem.W.keepIn K (.ref f4)=true)
  (a5:PySem.W.nsIn K mainGlobals "places_of"=some (some (.ref f5))) (l5:K.lookup f5=some ⟨oc5,od5,.func (PySem.W.fnOf "places_of" "places_of" (aX iG) (aS iG) (aE iG) .none kV5 dc5 pm5 an5 cd5 ct5),sl5⟩) (c5:PySem.W.codeIn K cd5 "places_of"=true) (k5:PySem.W.keepIn K (.ref f5)=true)
  (a6:PySem.W.nsIn K mainGlobals "shape_at"=some (some (.ref f6))) (l6:K.lookup f6=some ⟨oc6,od6,.func (PySem.W.fnOf "shape_at" "shape_at" (aX lB) (aS lB) (aE lB) .none kV6 dc6 pm6 an6 cd6 ct6),sl6⟩) (c6:PySem.W.codeIn K cd6 "shape_at"=true) (k6:PySem.W.keepIn K (.ref f6)=true)
  (a7:PySem.W.nsIn K mainGlobals "is_pass"=some (some (.ref f7))) (l7:K.lookup f7=some ⟨oc7,od7,.func (PySem.W.fnOf "is_pass" "is_pass" (aX mK) (aS mK) (aE mK) .none kV7 dc7 pm7 an7 cd7 ct7),sl7⟩) (c7:PySem.W.codeIn K cd7 "is_pass"=true) (k7:PySem.W.keepIn K (.ref f7)=true)
  (a8:PySem.W.nsIn K mainGlobals "show_shape"=some (some (.ref f8))) (l8:K.lookup f8=some ⟨oc8,od8,.func (PySem.W.fnOf "show_shape" "show_shape" (aX gC) (aS gC) (aE gC) .none kV8 dc8 pm8 an8 cd8 ct8),sl8⟩) (c8:PySem.W.codeIn K cd8 "show_shape"=true) (k8:PySem.W.keepIn K (.ref f8)=true)
  (a9:PySem.W.nsIn K mainGlobals "end_of_name"=some (some (.ref f9))) (l9:K.lookup f9=some ⟨oc9,od9,.func (PySem.W.fnOf "end_of_name" "end_of_name" (aX gJ) (aS gJ) (aE gJ) .none kV9 dc9 pm9 an9 cd9 ct9),sl9⟩) (c9:PySem.W.codeIn K cd9 "end_of_name"=true) (k9:PySem.W.keepIn K (.ref f9)=true)
  (a10:PySem.W.nsIn K mainGlobals "read_number"=some (some (.ref f10))) (l10:K.lookup f10=some ⟨oc10,od10,.func (PySem.W.fnOf "read_number" "read_number" (aX gO) (aS gO) (aE gO) .none kV10 dc10 pm10 an10 cd10 ct10),sl10⟩) (c10:PySem.W.codeIn K cd10 "read_number"=true) (k10:PySem.W.keepIn K (.ref f10)=true)
  (a11:PySem.W.nsIn K mainGlobals "read_whole_number"=some (some (.ref f11))) (l11:K.lookup f11=some ⟨oc11,od11,.func (PySem.W.fnOf "read_whole_number" "read_whole_number" (aX dE) (aS dE) (aE dE) .none kV11 dc11 pm11 an11 cd11 ct11),sl11⟩) (c11:PySem.W.codeIn K cd11 "read_whole_number"=true) (k11:PySem.W.keepIn K (.ref f11)=true)
  (a12:PySem.W.nsIn K mainGlobals "read_shape"=some (some (.ref f12))) (l12:K.lookup f12=some ⟨oc12,od12,.func (PySem.W.fnOf "read_shape" "read_shape" (aX iU) (aS iU) (aE iU) .none kV12 dc12 pm12 an12 cd12 ct12),sl12⟩) (c12:PySem.W.codeIn K cd12 "read_shape"=true) (k12:PySem.W.keepIn K (.ref f12)=true)
  (a13:PySem.W.nsIn K mainGlobals "read_openings"=some (some (.ref f13))) (l13:K.lookup f13=some ⟨oc13,od13,.func (PySem.W.fnOf "read_openings" "read_openings" (aX fB) (aS fB) (aE fB) .none kV13 dc13 pm13 an13 cd13 ct13),sl13⟩) (c13:PySem.W.codeIn K cd13 "read_openings"=true) (k13:PySem.W.keepIn K (.ref f13)=true)
  (a14:PySem.W.nsIn K mainGlobals "read_behind"=some (some (.ref f14))) (l14:K.lookup f14=some ⟨oc14,od14,.func (PySem.W.fnOf "read_behind" "read_behind" (aX gS) (aS gS) (aE gS) .none kV14 dc14 pm14 an14 cd14 ct14),sl14⟩) (c14:PySem.W.codeIn K cd14 "read_behind"=true) (k14:PySem.W.keepIn K (.ref f14)=true)
  (a15:PySem.W.nsIn K mainGlobals "read_middle"=some (some (.ref f15))) (l15:K.lookup f15=some ⟨oc15,od15,.func (PySem.W.fnOf "read_middle" "read_middle" (aX gN) (aS gN) (aE gN) .none kV15 dc15 pm15 an15 cd15 ct15),sl15⟩) (c15:PySem.W.codeIn K cd15 "read_middle"=true) (k15:PySem.W.keepIn K (.ref f15)=true)
  (a16:PySem.W.nsIn K mainGlobals "need_sign"=some (some (.ref f16))) (l16:K.lookup f16=some ⟨oc16,od16,.func (PySem.W.fnOf "need_sign" "need_sign" (aX j1) (aS j1) (aE j1) .none kV16 dc16 pm16 an16 cd16 ct16),sl16⟩) (c16:PySem.W.codeIn K cd16 "need_sign"=true) (k16:PySem.W.keepIn K (.ref f16)=true)
  (a17:PySem.W.nsIn K mainGlobals "is_name"=some (some (.ref f17))) (l17:K.lookup f17=some ⟨oc17,od17,.func (PySem.W.fnOf "is_name" "is_name" (aX mQ) (aS mQ) (aE mQ) .none kV17 dc17 pm17 an17 cd17 ct17),sl17⟩) (c17:PySem.W.codeIn K cd17 "is_name"=true) (k17:PySem.W.keepIn K (.ref f17)=true)
  (a18:PySem.W.nsIn K mainGlobals "are_unlike"=some (some (.ref f18))) (l18:K.lookup f18=some ⟨oc18,od18,.func (PySem.W.fnOf "are_unlike" "are_unlike" (aX iM) (aS iM) (aE iM) .none kV18 dc18 pm18 an18 cd18 ct18),sl18⟩) (c18:PySem.W.codeIn K cd18 "are_unlike"=true) (k18:PySem.W.keepIn K (.ref f18)=true)
  (a19:PySem.W.nsIn K mainGlobals "are_classes"=some (some (.ref f19))) (l19:K.lookup f19=some ⟨oc19,od19,.func (PySem.W.fnOf "are_classes" "are_classes" (aX gM) (aS gM) (aE gM) .none kV19 dc19 pm19 an19 cd19 ct19),sl19⟩) (c19:PySem.W.codeIn K cd19 "are_classes"=true) (k19:PySem.W.keepIn K (.ref f19)=true)
  (a20:PySem.W.nsIn K mainGlobals "is_pattern_leaf"=some (some (.ref f20))) (l20:K.lookup f20=some ⟨oc20,od20,.func (PySem.W.fnOf "is_pattern_leaf" "is_pattern_leaf" (aX eF) (aS eF) (aE eF) .none kV20 dc20 pm20 an20 cd20 ct20),sl20⟩) (c20:PySem.W.codeIn K cd20 "is_pattern_leaf"=true) (k20:PySem.W.keepIn K (.ref f20)=true)
  (a21:PySem.W.nsIn K mainGlobals "is_pattern"=some (some (.ref f21))) (l21:K.lookup f21=some ⟨oc21,od21,.func (PySem.W.fnOf "is_pattern" "is_pattern" (aX eB) (aS eB) (aE eB) .none kV21 dc21 pm21 an21 (.ref cd21) ct21),sl21⟩) (c21:PySem.W.codeIn K (.ref cd21) "is_pattern"=true) (k21:PySem.W.keepIn K (.ref f21)=true)
  (q21:PySem.W.codeHdIn K cd21 Pt0=true)
  (a22:PySem.W.nsIn K mainGlobals "is_tile"=some (some (.ref f22))) (l22:K.lookup f22=some ⟨oc22,od22,.func (PySem.W.fnOf "is_tile" "is_tile" (aX mJ) (aS mJ) (aE mJ) .none kV22 dc22 pm22 an22 cd22 ct22),sl22⟩) (c22:PySem.W.codeIn K cd22 "is_tile"=true) (k22:PySem.W.keepIn K (.ref f22)=true)
  (a23:PySem.W.nsIn K mainGlobals "are_tiles"=some (some (.ref f23))) (l23:K.lookup f23=some ⟨oc23,od23,.func (PySem.W.fnOf "are_tiles" "are_tiles" (aX j4) (aS j4) (aE j4) .none kV23 dc23 pm23 an23 cd23 ct23),sl23⟩) (c23:PySem.W.codeIn K cd23 "are_tiles"=true) (k23:PySem.W.keepIn K (.ref f23)=true)
  (a24:PySem.W.nsIn K mainGlobals "is_table"=some (some (.ref f24))) (l24:K.lookup f24=some ⟨oc24,od24,.func (PySem.W.fnOf "is_table" "is_table" (aX kW) (aS kW) (aE kW) .none kV24 dc24 pm24 an24 cd24 ct24),sl24⟩) (c24:PySem.W.codeIn K cd24 "is_table"=true) (k24:PySem.W.keepIn K (.ref f24)=true)
  (a25:PySem.W.nsIn K mainGlobals "holes"=some (some (.ref f25))) (l25:K.lookup f25=some ⟨oc25,od25,.func (PySem.W.fnOf "holes" "holes" (aX pK) (aS pK) (aE pK) .none kV25 dc25 pm25 an25 cd25 ct25),sl25⟩) (c25:PySem.W.codeIn K cd25 "holes"=true) (k25:PySem.W.keepIn K (.ref f25)=true)
  (a26:PySem.W.nsIn K mainGlobals "show_leaf"=some (some (.ref f26))) (l26:K.lookup f26=some ⟨oc26,od26,.func (PySem.W.fnOf "show_leaf" "show_leaf" (aX jW) (aS jW) (aE jW) .none kV26 dc26 pm26 an26 cd26 ct26),sl26⟩) (c26:PySem.W.codeIn K cd26 "show_leaf"=true) (k26:PySem.W.keepIn K (.ref f26)=true)
  (a27:PySem.W.nsIn K mainGlobals "shown_table"=some (some (.ref f27))) (l27:K.lookup f27=some ⟨oc27,od27,.func (PySem.W.fnOf "shown_table" "shown_table" (aX gL) (aS gL) (aE gL) .none kV27 dc27 pm27 an27 cd27 ct27),sl27⟩) (c27:PySem.W.codeIn K cd27 "shown_table"=true) (k27:PySem.W.keepIn K (.ref f27)=true)
  (a28:PySem.W.nsIn K mainGlobals "read_stretch"=some (some (.ref f28))) (l28:K.lookup f28=some ⟨oc28,od28,.func (PySem.W.fnOf "read_stretch" "read_stretch" (aX fX) (aS fX) (aE fX) .none kV28 dc28 pm28 an28 cd28 ct28),sl28⟩) (c28:PySem.W.codeIn K cd28 "read_stretch"=true) (k28:PySem.W.keepIn K (.ref f28)=true)
  (a29:PySem.W.nsIn K mainGlobals "read_leaf"=some (some (.ref f29))) (l29:K.lookup f29=some ⟨oc29,od29,.func (PySem.W.fnOf "read_leaf" "read_leaf" (aX jV) (aS jV) (aE jV) .none kV29 dc29 pm29 an29 cd29 ct29),sl29⟩) (c29:PySem.W.codeIn K cd29 "read_leaf"=true) (k29:PySem.W.keepIn K (.ref f29)=true)
  (a30:PySem.W.nsIn K mainGlobals "read_tile"=some (some (.ref f30))) (l30:K.lookup f30=some ⟨oc30,od30,.func (PySem.W.fnOf "read_tile" "read_tile" (aX jT) (aS jT) (aE jT) .none kV30 dc30 pm30 an30 cd30 ct30),sl30⟩) (c30:PySem.W.codeIn K cd30 "read_tile"=true) (k30:PySem.W.keepIn K (.ref f30)=true)
  (a31:PySem.W.nsIn K mainGlobals "read_table"=some (some (.ref f31))) (l31:K.lookup f31=some ⟨oc31,od31,.func (PySem.W.fnOf "read_table" "read_table" (aX iN) (aS iN) (aE iN) .none kV31 dc31 pm31 an31 cd31 ct31),sl31⟩) (c31:PySem.W.codeIn K cd31 "read_table"=true) (k31:PySem.W.keepIn K (.ref f31)=true)
  (a32:PySem.W.nsIn K mainGlobals "_law_whole"=some (some (.ref f32))) (l32:K.lookup f32=some ⟨oc32,od32,.func (PySem.W.fnOf "_law_whole" "_law_whole" (aX j2) (aS j2) (aE j2) .none kV32 dc32 pm32 an32 cd32 ct32),sl32⟩) (c32:PySem.W.codeIn K cd32 "_law_whole"=true) (k32:PySem.W.keepIn K (.ref f32)=true)
  (a33:PySem.W.nsIn K mainGlobals "_law_alike"=some (some (.ref f33))) (l33:K.lookup f33=some ⟨oc33,od33,.func (PySem.W.fnOf "_law_alike" "_law_alike" (aX iB) (aS iB) (aE iB) .none kV33 dc33 pm33 an33 cd33 ct33),sl33⟩) (c33:PySem.W.codeIn K cd33 "_law_alike"=true) (k33:PySem.W.keepIn K (.ref f33)=true)
  (a34:PySem.W.nsIn K mainGlobals "_law_name_of"=some (some (.ref f34))) (l34:K.lookup f34=some ⟨oc34,od34,.func (PySem.W.fnOf "_law_name_of" "_law_name_of" (aX gK) (aS gK) (aE gK) .none kV34 dc34 pm34 an34 cd34 ct34),sl34⟩) (c34:PySem.W.codeIn K cd34 "_law_name_of"=true) (k34:PySem.W.keepIn K (.ref f34)=true)
  (a35:PySem.W.nsIn K mainGlobals "_law_wide"=some (some (.ref f35))) (l35:K.lookup f35=some ⟨oc35,od35,.func (PySem.W.fnOf "_law_wide" "_law_wide" (aX lE) (aS lE) (aE lE) .none kV35 dc35 pm35 an35 cd35 ct35),sl35⟩) (c35:PySem.W.codeIn K cd35 "_law_wide"=true) (k35:PySem.W.keepIn K (.ref f35)=true)
  (a36:PySem.W.nsIn K mainGlobals "_law_fresh"=some (some (.ref f36))) (l36:K.lookup f36=some ⟨oc36,od36,.func (PySem.W.fnOf "_law_fresh" "_law_fresh" (aX jU) (aS jU) (aE jU) .none kV36 dc36 pm36 an36 cd36 ct36),sl36⟩) (c36:PySem.W.codeIn K cd36 "_law_fresh"=true) (k36:PySem.W.keepIn K (.ref f36)=true)
  (a37:PySem.W.nsIn K mainGlobals "_law_leaf"=some (some (.ref f37))) (l37:K.lookup f37=some ⟨oc37,od37,.func (PySem.W.fnOf "_law_leaf" "_law_leaf" (aX kR) (aS kR) (aE kR) .none kV37 dc37 pm37 an37 cd37 ct37),sl37⟩) (c37:PySem.W.codeIn K cd37 "_law_leaf"=true) (k37:PySem.W.keepIn K (.ref f37)=true)
  (a38:PySem.W.nsIn K mainGlobals "_law_fits"=some (some (.ref f38))) (l38:K.lookup f38=some ⟨oc38,od38,.func (PySem.W.fnOf "_law_fits" "_law_fits" (aX lF) (aS lF) (aE lF) .none kV38 dc38 pm38 an38 cd38 ct38),sl38⟩) (c38:PySem.W.codeIn K cd38 "_law_fits"=true) (k38:PySem.W.keepIn K (.ref f38)=true)
  (a39:PySem.W.nsIn K mainGlobals "_law_paired"=some (some (.ref f39))) (l39:K.lookup f39=some ⟨oc39,od39,.func (PySem.W.fnOf "_law_paired" "_law_paired" (aX iL) (aS iL) (aE iL) .none kV39 dc39 pm39 an39 cd39 ct39),sl39⟩) (c39:PySem.W.codeIn K cd39 "_law_paired"=true) (k39:PySem.W.keepIn K (.ref f39)=true)
  (a40:PySem.W.nsIn K mainGlobals "_law_pattern"=some (some (.ref f40))) (l40:K.lookup f40=some ⟨oc40,od40,.func (PySem.W.fnOf "_law_pattern" "_law_pattern" (aX gQ) (aS gQ) (aE gQ) .none kV40 dc40 pm40 an40 cd40 ct40),sl40⟩) (c40:PySem.W.codeIn K cd40 "_law_pattern"=true) (k40:PySem.W.keepIn K (.ref f40)=true)
  (a41:PySem.W.nsIn K mainGlobals "_law_classes"=some (some (.ref f41))) (l41:K.lookup f41=some ⟨oc41,od41,.func (PySem.W.fnOf "_law_classes" "_law_classes" (aX gT) (aS gT) (aE gT) .none kV41 dc41 pm41 an41 cd41 ct41),sl41⟩) (c41:PySem.W.codeIn K cd41 "_law_classes"=true) (k41:PySem.W.keepIn K (.ref f41)=true)
  (a42:PySem.W.nsIn K mainGlobals "_law_tile"=some (some (.ref f42))) (l42:K.lookup f42=some ⟨oc42,od42,.func (PySem.W.fnOf "_law_tile" "_law_tile" (aX lA) (aS lA) (aE lA) .none kV42 dc42 pm42 an42 cd42 ct42),sl42⟩) (c42:PySem.W.codeIn K cd42 "_law_tile"=true) (k42:PySem.W.keepIn K (.ref f42)=true)
  (a43:PySem.W.nsIn K mainGlobals "_law_table"=some (some (.ref f43))) (l43:K.lookup f43=some ⟨oc43,od43,.func (PySem.W.fnOf "_law_table" "_law_table" (aX jS) (aS jS) (aE jS) .none kV43 dc43 pm43 an43 cd43 ct43),sl43⟩) (c43:PySem.W.codeIn K cd43 "_law_table"=true) (k43:PySem.W.keepIn K (.ref f43)=true)
  (a44:PySem.W.nsIn K mainGlobals "law"=some (some (.ref f44))) (l44:K.lookup f44=some ⟨oc44,od44,.func (PySem.W.fnOf "law" "law" (aX pA) (aS pA) (aE pA) .none kV44 dc44 pm44 an44 cd44 ct44),sl44⟩) (c44:PySem.W.codeIn K cd44 "law"=true) (k44:PySem.W.keepIn K (.ref f44)=true)
  (e0:PySem.W.nsIn K mainGlobals "LETTERS"=some (some (.str (t9) PN)))
  (e1:PySem.W.nsIn K mainGlobals "FIGURES"=some (some (.str (AY) tk1)))
  (e2:PySem.W.nsIn K mainGlobals "LONGEST_NAME"=some (some (.int (8) tk2)))
  (e3:PySem.W.nsIn K mainGlobals "GREATEST"=some (some (.int (1000000000000000000) tk3)))
  (e4:PySem.W.nsIn K mainGlobals "MOST_CLASSES"=some (some (.int (6) tk4)))
  (e5:PySem.W.nsIn K mainGlobals "MOST_TILES"=some (some (.int (40) tk5)))
  (e6:PySem.W.nsIn K mainGlobals "MOST_PIECES"=some (some (.int (9) tk6)))
  (e7:PySem.W.nsIn K mainGlobals "MOST_WITHIN"=some (some (.int (5) tk7)))
  (e8:PySem.W.nsIn K mainGlobals "MOST_HOLES"=some (some (.int (4) tk8)))
  (e9:PySem.W.nsIn K mainGlobals "GREATEST_PRICE"=some (some (.int (1000) tk9)))
  {dt0:Addr} (ta0:PySem.W.nsIn K mainGlobals "SIGNS"=some (some (.ref dt0))) (tb0:KTD.tabLook KTD.flatLooks (fun b=>K.lookup b) dt0 (rG cL)=true) (tc0:KTD.hashesOf (fun b=>K.lookup b) dt0=(rG cL).map fun p=>(PySem.strKind l.prog w).hash p.1)
  {dt1:Addr} (ta1:PySem.W.nsIn K mainGlobals "MIDDLE_TEXTS"=some (some (.ref dt1))) (tb1:KTD.tabLook KTD.flatLooks (fun b=>K.lookup b) dt1 (rG Ad)=true) (tc1:KTD.hashesOf (fun b=>K.lookup b) dt1=(rG Ad).map fun p=>(PySem.strKind l.prog w).hash p.1)
  {dt2:Addr} (ta2:PySem.W.nsIn K mainGlobals "MIDDLE_WORDS"=some (some (.ref dt2))) (tb2:KTD.tabLook KTD.flatLooks (fun b=>K.lookup b) dt2 (rG B2)=true) (tc2:KTD.hashesOf (fun b=>K.lookup b) dt2=(rG B2).map fun p=>(PySem.strKind l.prog w).hash p.1)
  (z0:PySem.W.nsIn K mainGlobals "len"=some none)
  (z1:PySem.W.nsIn K mainGlobals "isinstance"=some none)
  (z2:PySem.W.nsIn K mainGlobals "max"=some none)
  (z3:PySem.W.nsIn K mainGlobals "range"=some none)
  (z4:PySem.W.nsIn K mainGlobals "enumerate"=some none)
  (z5:PySem.W.nsIn K mainGlobals "int"=some none)
  (z6:PySem.W.nsIn K mainGlobals "bool"=some none)
  (z7:PySem.W.nsIn K mainGlobals "tuple"=some none)
  (z8:PySem.W.nsIn K mainGlobals "str"=some none)
  (z9:PySem.W.nsIn K mainGlobals "all"=some none)
  (z10:PySem.W.nsIn K mainGlobals "set"=some none)
  (z11:PySem.W.nsIn K mainGlobals "zip"=some none)
  : ∃ fd:FuncData,(∀ (s:Shared) (v:Value),BindsTo s fd ⟨[v],[]⟩ [("script",v)])/\∀ base:Heap,K.In base->base.Ns mainGlobals mg->j5 base mg->gI l.prog w K mg base mM 14 fa fd ["script"] (dQ K (yA Pt0)):=by
 have e:=hfa.symm.trans (PySem.W.mg_of X G a44)
 cases e
 have G2:=bF (st:=lD) l0 c0 k0
 have Ia:=PySem.W.mg_of X G a0
 have ET:=bF (st:=j3) l1 c1 k1
 have Eo:=PySem.W.mg_of X G a1
 have JH:=bF (st:=mS) l2 c2 k2
 have Kg:=PySem.W.mg_of X G a2
 have G5:=bF (st:=kX) l3 c3 k3
 have pG:=PySem.W.mg_of X G a3
 have G0:=bF (st:=kT) l4 c4 k4
 have GZ:=PySem.W.mg_of X G a4
 have Ek:=bF (st:=iG) l5 c5 k5
 have EI:=PySem.W.mg_of X G a5
 have Hu:=bF (st:=lB) l6 c6 k6
 have Ha:=PySem.W.mg_of X G a6
 have Kl:=bF (st:=mK) l7 c7 k7
 have Jz:=PySem.W.mg_of X G a7
 have DT:=bF (st:=gC) l8 c8 k8
 have Ec:=PySem.W.mg_of X G a8
 have Bz:=bF (st:=gJ) l9 c9 k9
 have BP:=PySem.W.mg_of X G a9
 have BO:=bF (st:=gO) l10 c10 k10
 have Bk:=PySem.W.mg_of X G a10
 have t8:=bF (st:=dE) l11 c11 k11
 have t7:=PySem.W.mg_of X G a11
 have DA:=bF (st:=iU) l12 c12 k12
 have Dv:=PySem.W.mg_of X G a12
 have zM:=bF (st:=fB) l13 c13 k13
 have yT:=PySem.W.mg_of X G a13
 have BH:=bF (st:=gS) l14 c14 k14
 have Bx:=PySem.W.mg_of X G a14
 have Bw:=bF (st:=gN) l15 c15 k15
 have Bs:=PySem.W.mg_of X G a15
 have EC:=bF (st:=j1) l16 c16 k16
 have Ef:=PySem.W.mg_of X G a16
 have JT:=bF (st:=mQ) l17 c17 k17
 have Ik:=PySem.W.mg_of X G a17
 have DK:=bF (st:=iM) l18 c18 k18
 have CW:=PySem.W.mg_of X G a18
 have BG:=bF (st:=gM) l19 c19 k19
 have BD:=PySem.W.mg_of X G a19
 have wA:=bF (st:=eF) l20 c20 k20
 have v8:=PySem.W.mg_of X G a20
 have Dz:=bF (st:=eB) l21 c21 k21
 have CU:=PySem.W.mg_of X G a21
 have Jd:=bF (st:=mJ) l22 c22 k22
 have IV:=PySem.W.mg_of X G a22
 have EH:=bF (st:=j4) l23 c23 k23
 have ER:=PySem.W.mg_of X G a23
 have HZ:=bF (st:=kW) l24 c24 k24
 have Gs:=PySem.W.mg_of X G a24
 have Nw:=bF (st:=pK) l25 c25 k25
 have OA:=PySem.W.mg_of X G a25
 have Et:=bF (st:=jW) l26 c26 k26
 have rQ:=PySem.W.mg_of X G a26
 have BI:=bF (st:=gL) l27 c27 k27
 have BA:=PySem.W.mg_of X G a27
 have Aa:=bF (st:=fX) l28 c28 k28
 have AB:=PySem.W.mg_of X G a28
 have ED:=bF (st:=jV) l29 c29 k29
 have rN:=PySem.W.mg_of X G a29
 have EX:=bF (st:=jT) l30 c30 k30
 have Eu:=PySem.W.mg_of X G a30
 have Cj:=bF (st:=iN) l31 c31 k31
 have Di:=PySem.W.mg_of X G a31
 have EY:=bF (st:=j2) l32 c32 k32
 have EO:=PySem.W.mg_of X G a32
 have Ee:=bF (st:=iB) l33 c33 k33
 have Eg:=PySem.W.mg_of X G a33
 have BK:=bF (st:=gK) l34 c34 k34
 have Bt:=PySem.W.mg_of X G a34
 have G6:=bF (st:=lE) l35 c35 k35
 have Ib:=PySem.W.mg_of X G a35
 have E3:=bF (st:=jU) l36 c36 k36
 have Ex:=PySem.W.mg_of X G a36
 have HF:=bF (st:=kR) l37 c37 k37
 have F2:=PySem.W.mg_of X G a37
 have F3:=bF (st:=lF) l38 c38 k38
 have Gn:=PySem.W.mg_of X G a38
 have CL:=bF (st:=iL) l39 c39 k39
 have DY:=PySem.W.mg_of X G a39
 have BC:=bF (st:=gQ) l40 c40 k40
 have Bi:=PySem.W.mg_of X G a40
 have Bh:=bF (st:=gT) l41 c41 k41
 have BL:=PySem.W.mg_of X G a41
 have HH:=bF (st:=lA) l42 c42 k42
 have GS:=PySem.W.mg_of X G a42
 have EL:=bF (st:=jS) l43 c43 k43
 have Ew:=PySem.W.mg_of X G a43
 have R5:=bF (st:=pA) l44 c44 k44
 have T6:=PySem.W.mg_of X G a44
 have mH:=PySem.W.mg_of X G e0
 have qT:=PySem.W.mg_of X G e1
 have fW:=PySem.W.mg_of X G e2
 have kY:=PySem.W.mg_of X G e3
 have n0:=PySem.W.mg_of X G e4
 have pZ:=PySem.W.mg_of X G e5
 have oY:=PySem.W.mg_of X G e6
 have o8:=PySem.W.mg_of X G e7
 have p8:=PySem.W.mg_of X G e8
 have lZ:=PySem.W.mg_of X G e9
 have fY:=PySem.W.mg_of X G ta0
 have fQ:i6 l.prog w K dt0 cL:=tab_of (by decide +kernel) tb0 tc0
 have fT:=PySem.W.mg_of X G ta1
 have fV:i6 l.prog w K dt1 Ad:=tab_of (by decide +kernel) tb1 tc1
 have lC:=PySem.W.mg_of X G ta2
 have kS:i6 l.prog w K dt2 B2:=tab_of (by decide +kernel) tb2 tc2
 have aW:=PySem.W.mg_none_of X G z0
 have aM:=PySem.W.mg_none_of X G z1
 have vZ:=PySem.W.mg_none_of X G z2
 have zQ:=PySem.W.mg_none_of X G z3
 have eS:=PySem.W.mg_none_of X G z4
 have lY:=PySem.W.mg_none_of X G z5
 have sI:=PySem.W.mg_none_of X G z6
 have bI:=PySem.W.mg_none_of X G z7
 have cP:=PySem.W.mg_none_of X G z8
 have pD:=PySem.W.mg_none_of X G z9
 have GO:=PySem.W.mg_none_of X G z10
 have vS:=PySem.W.mg_none_of X G z11
 refine ⟨PySem.W.fnOf "law" "law" (aX pA) (aS pA) (aE pA) .none kV44 dc44 pm44 an44 cd44 ct44,fun s v=>.of_eq rfl,fun base _ _ hB=>?_⟩
 have a0:∀ base,Callee l.prog w K mg base 1 "is_whole" tQ []:=fun base=>EU G2 Ia aM lY sI
 have a1:∀ base,Callee l.prog w K mg base 2 "is_number" xI []:=fun base=>Cv ET Eo kY (a0 base)
 have a2:∀ base,Callee l.prog w K mg base 1 "is_sign" Dj []:=fun base=>Hc JH Kg aM bI aW cP fQ fY
 have a3:∀ base,Callee l.prog w K mg base 3 "is_pattern_leaf" Ax []:=fun base=>KD wA v8 aM bI aW (a1 base)
 have a4:=GQ (P:=l.prog) (w:=w) (base:=base) JT Ik aW aM cP pD mH fW
 have c0:=ES (P:=l.prog) (w:=w) (base:=base) G0 GZ fQ fY
 have b0:=y7 Ek EI eS c0 6
 have b1:=EA Hu Ha c0
 have b5:=Lh Nw OA b0 b1
 have e0:=Bu Dz rfl CU q21 hB pG k3 aW oY o8 p8 (fun base fl s _ A=>EF G5 pG (a2 base) (ka:=3) A) (fun base _=>a3 base) b5
 have e1:=Hd Jd IV aM bI aW lZ a4 e0 (a0 base) (HV Kl Jz)
 have e2:=Ir (P:=l.prog) (w:=w) (base:=base) DK CW aW GO
 have e3:=zU BG BD aM bI aW pD n0 a4 e2
 have e4:=Dm EH ER aM bI aW pD pZ e1 e2
 have e5:=Ej HZ Gs aM bI aW e3 e4
 have d2:=GY (P:=l.prog) (w:=w) (base:=base) BK Bt aW
 have d3:=OS (P:=l.prog) (w:=w) (base:=base) G6 Ib
 have d4:=LO E3 Ex d2
 have d5:=LV (P:=l.prog) (w:=w) (base:=base) HF F2 aW cP
 have d6:=NP (P:=l.prog) (w:=w) (base:=base) F3 Gn vZ
 have d7:=JI (P:=l.prog) (w:=w) (base:=base) CL DY vZ
 have d8:=Qd BC Bi aW lY d6 d7 d5
 have d9:=HK Bh BL zQ bI d3 d4
 have d10:=Pk HH GS aW cP d3 d4 d8
 have d11:=MB EL Ew aW lY bI d9 d10
 have g0:=QO (P:=l.prog) (w:=w) (base:=base) BO Bk aW kY qT
 have g1:=RC (P:=l.prog) (w:=w) (base:=base) Bz BP aW fW mH
 have g2:=Pd (P:=l.prog) (w:=w) (base:=base) EC Ef
 have g3:=Qg Bw Bs kS lC g2
 have g4:=N7 zM yT g2
 have g5:=Ry BH Bx bI g2 g3
 have g6:=Ig Aa AB g0
 have g7:=LG ED g1 g6
 have g8:=Kk t8 t7 aW g0
 have g9:=JO DA Dv aW g7 g4 g5
 have r0:=KU EX Eu aW rN g8 g9
 have r1:=Kb Cj Di aW bI eS e3 r0 e5
 have s0:=CT (P:=l.prog) (w:=w) (base:=base) Et cP
 have s1:=CI DT Ec fQ fY fV fT c0 s0 6
 have s2:=Ac BI BA cP rQ s1
 have l0:=Il (P:=l.prog) (w:=w) (base:=base) EY EO aM lY sI
 have l1:=A1 Ee Eg aM bI aW vS cP l0 12
 exact Rc R5 aM cP d11 r1 l1 s2
theorem PN {K:PySem.W.Frag} {f c Pt:Addr} {od an:Option Addr} {sl:Array (Option Value)} {oc kV dc pm ct:Value} (n:K.lookup Pt=none) (a:PySem.W.nsIn K mainGlobals "is_pattern"=some (some (.ref f))) (lk:K.lookup f=some ⟨oc,od,.func (PySem.W.fnOf "is_pattern" "is_pattern" (aX eB) (aS eB) (aE eB) .none kV dc pm an (.ref c) ct),sl⟩) (q:PySem.W.codeHdIn K c Pt=true):K.lookup Pt=none/\∃ c,PySem.W.codeHdIn K c Pt=true:=⟨n,c,q⟩
theorem IT {K:PySem.W.Frag} {H:Hp} {a:Addr} {ns:List Int} {E:XK} (hl:ns.length<=63) (hb:∀ m∈ns,Builtin.Int.intBits m<=2 ^ 20) (hS:eH K H a (ns.map V.int)) (hT:∀ p∈[(207:Addr)],H p=some (.tbl #[])):dQ K (yA (207:Addr)) [.ref a] H (fun v _=>v=.bl true) E :=
 PU (ts:=[((207:Addr),QP)]) hS hT (by decide +kernel) ⟨ns,rfl,hl,hb,rfl,rfl⟩
theorem walk {l:PySem.W.OpenLaw} {q:Program} {loose:List Str} {XP:(Str->Option Value)->Heap->Prop} {YP:World->Heap->Prop} {d:DefRec} {K:Params->PySem.W.Frag} (hn:l.most=some 63) (hdf:d.params.defaults=[])
  (hY:∀ (w:World) (h:Heap),YP w h->(K w.params).In h/\∀ P∈[(207:Addr)],h.get? P=some (PySem.W.tabObj #[]))
  (hTK:∀ (w:World),∀ P∈[(207:Addr)],(K w.params).lookup P=none/\∃ c,PySem.W.codeHdIn (K w.params) c P=true)
  (F:∀ (w:World) (mg:Str->Option Value) (fa:Addr) (h:Heap),(K w.params).In h->h.Ns mainGlobals mg->mg d.name=some (.ref fa) ->
   ∃ fd:FuncData,(∀ (s:Shared) (u:Value),BindsTo s fd ⟨[u],[]⟩ [("script",u)])/\∀ base:Heap,(K w.params).In base->base.Ns mainGlobals mg->j5 base mg->gI l.prog w (K w.params) mg base mM 14 fa fd ["script"] (dQ (K w.params) (yA (207:Addr)))) :
  PySem.W.WalkO q loose XP YP l.row.toRowW d [] (fun f vs=>PySem.call f vs) :=
 Ka (n:=63) (k:=14) (x:="script") (ts:=[(207:Addr)]) (sp:=fun w=>dQ (K w.params) (yA (207:Addr))) hn (by decide) hdf ⟨rfl,by decide,by decide⟩ hY hTK F (fun w H a ns hl hb _ hS hT=>IT hl hb hS hT)
end K13
namespace PySem.W.Fast
noncomputable def tw10012968251284958673:=0
noncomputable def tw10047036659296642666:=0
noncomputable def tw10180963314965547783:=0
noncomputable def tw10194047273624332460:=0
noncomputable def tw10242162948533141402:=0
noncomputable def tw10268468400410684153:=0
noncomputable def tw10282213775355333369:=0
noncomputable def tw10361597448394297240:=0
noncomputable def tw10559663981232583110:=0
noncomputable def tw10608789436129938319:=0
noncomputable def tw10610750494080862707:=0
noncomputable def tw10662346184359941367:=0
noncomputable def tw10751322100244730011:=0
noncomputable def tw10801322584495511796:=0
noncomputable def tw10963482882615243698:=0
noncomputable def tw1102379422625186922:=0
noncomputable def tw11082561126378320780:=0
noncomputable def tw11115575758500650191:=0
noncomputable def tw11118200707632151860:=0
noncomputable def tw11193783203191001264:=0
noncomputable def tw11227786261896159697:=0
noncomputable def tw11229655509783796350:=0
noncomputable def tw11254453178927905202:=0
noncomputable def tw11440000109686439746:=0
noncomputable def tw11497506750455338327:=0
noncomputable def tw11563758943296473432:=0
noncomputable def tw11566786999960499361:=0
noncomputable def tw11645604742906494216:=0
noncomputable def tw11758594752977235948:=0
noncomputable def tw1175894741800420059:=0
noncomputable def tw1177405670520875038:=0
noncomputable def tw11791174466326199374:=0
noncomputable def tw12011160817231672441:=0
noncomputable def tw12073874523026144024:=0
noncomputable def tw1210314359538238996:=0
noncomputable def tw1228934313827049409:=0
noncomputable def tw12314686806217138289:=0
noncomputable def tw12316221837974497896:=0
noncomputable def tw1239765378375982221:=0
noncomputable def tw12471022045871285787:=0
noncomputable def tw12511745938587812162:=0
noncomputable def tw12520519705812829508:=0
noncomputable def tw12664002423911030130:=0
noncomputable def tw12749580774761493056:=0
noncomputable def tw12752438707063289548:=0
noncomputable def tw12808187689448466359:=0
noncomputable def tw12841994873700525810:=0
noncomputable def tw12882877851756120035:=0
noncomputable def tw12972537801746621148:=0
noncomputable def tw13032568740205648820:=0
noncomputable def tw13077031934635037139:=0
noncomputable def tw13137181556424710559:=0
noncomputable def tw13150802627407035461:=0
noncomputable def tw13222208579666476052:=0
noncomputable def tw13251719932031244863:=0
noncomputable def tw13279286581722877545:=0
noncomputable def tw13284915972018791421:=0
noncomputable def tw13305282185243802153:=0
noncomputable def tw13347388826933633178:=0
noncomputable def tw13372886679637698398:=0
noncomputable def tw13375413113632824151:=0
noncomputable def tw13399890399371701877:=0
noncomputable def tw13458894919719209387:=0
noncomputable def tw13472089611699265485:=0
noncomputable def tw13714225367771749489:=0
noncomputable def tw13764144198765249214:=0
noncomputable def tw13807343733310315899:=0
noncomputable def tw13879994732899483672:=0
noncomputable def tw13885877979180534540:=0
noncomputable def tw1393023603446123490:=0
noncomputable def tw13949706824953805185:=0
noncomputable def tw13974322683752845005:=0
noncomputable def tw1398095669732436261:=0
noncomputable def tw14014994531239727272:=0
noncomputable def tw14037290839826270299:=0
noncomputable def tw1409145922159833866:=0
noncomputable def tw14170409626819091837:=0
noncomputable def tw1417113413308857441:=0
noncomputable def tw14216282960427357938:=0
noncomputable def tw14270009674854336612:=0
noncomputable def tw14273265753293481891:=0
noncomputable def tw14282331619942830172:=0
noncomputable def tw14297480045328298181:=0
noncomputable def tw14368543163528010876:=0
noncomputable def tw1439949003106966281:=0
noncomputable def tw14446726859452051333:=0
noncomputable def tw14515854060938854374:=0
noncomputable def tw14530786817799808882:=0
noncomputable def tw14532405513774605135:=0
noncomputable def tw1462365985852376265:=0
noncomputable def tw14661875129000783220:=0
noncomputable def tw14671744893299887605:=0
noncomputable def tw14763078141141499585:=0
noncomputable def tw1476637403319976489:=0
noncomputable def tw14816590759423192128:=0
noncomputable def tw14819805548286370261:=0
noncomputable def tw14868750222737487772:=0
noncomputable def tw14899541241455421487:=0
noncomputable def tw14900905774209544020:=0
noncomputable def tw14901913813869398972:=0
noncomputable def tw14950985223230849901:=0
noncomputable def tw14956212022297225010:=0
noncomputable def tw14957674244856915306:=0
noncomputable def tw14975534289179775041:=0
noncomputable def tw15174063488094002700:=0
noncomputable def tw15202868791182519641:=0
noncomputable def tw15219568849048424635:=0
noncomputable def tw15282603432771903261:=0
noncomputable def tw15342086028933968725:=0
noncomputable def tw15354481555666804667:=0
noncomputable def tw15435686522724422958:=0
noncomputable def tw15442537400245592327:=0
noncomputable def tw15567047290686782988:=0
noncomputable def tw15602924009248074290:=0
noncomputable def tw15621170652301936610:=0
noncomputable def tw1577290680999484689:=0
noncomputable def tw15926023602263564184:=0
noncomputable def tw1596529509452020632:=0
noncomputable def tw16006725145186651694:=0
noncomputable def tw16021917054384867210:=0
noncomputable def tw1611481925351727233:=0
noncomputable def tw16156609351791335560:=0
noncomputable def tw16168666716778881926:=0
noncomputable def tw1620161593288579285:=0
noncomputable def tw16236003417339514249:=0
noncomputable def tw16252300775117188752:=0
noncomputable def tw16289834213371779174:=0
noncomputable def tw16290570253813022421:=0
noncomputable def tw16293031930447903740:=0
noncomputable def tw16348281995351918257:=0
noncomputable def tw16379659935238148141:=0
noncomputable def tw16409618041084840737:=0
noncomputable def tw16452927588898492887:=0
noncomputable def tw16544552966985103666:=0
noncomputable def tw16594740606078163597:=0
noncomputable def tw16617487655764029268:=0
noncomputable def tw1671246004746774642:=0
noncomputable def tw16758088918564500399:=0
noncomputable def tw16827755596440526073:=0
noncomputable def tw16917569568488040785:=0
noncomputable def tw16938176711358429967:=0
noncomputable def tw16967212173316454261:=0
noncomputable def tw17241503853491156518:=0
noncomputable def tw17307935640502542806:=0
noncomputable def tw17345192292282798447:=0
noncomputable def tw17352633265349912429:=0
noncomputable def tw17412225212252705693:=0
noncomputable def tw17415888635894467922:=0
noncomputable def tw174401264447358404:=0
noncomputable def tw17477918775798574988:=0
noncomputable def tw17500983281480934163:=0
noncomputable def tw17556851677336626045:=0
noncomputable def tw17580162336596056135:=0
noncomputable def tw17660798414939928020:=0
noncomputable def tw17687299413354706224:=0
noncomputable def tw17752280083421787672:=0
noncomputable def tw17798515800857631181:=0
noncomputable def tw17918890823399809189:=0
noncomputable def tw18033543263225012613:=0
noncomputable def tw18039742916399393925:=0
noncomputable def tw18058774876022537169:=0
noncomputable def tw18072807269086637197:=0
noncomputable def tw18076736043978007756:=0
noncomputable def tw18181662611226479112:=0
noncomputable def tw18264995285898430178:=0
noncomputable def tw18302255276319563805:=0
noncomputable def tw18322566596158139478:=0
noncomputable def tw1835824073108977864:=0
noncomputable def tw1914232392151323479:=0
noncomputable def tw1979661539900771183:=0
noncomputable def tw2065777548291537725:=0
noncomputable def tw2132976804073068475:=0
noncomputable def tw2222713323843529745:=0
noncomputable def tw2330550272845651411:=0
noncomputable def tw2346659506276067499:=0
noncomputable def tw234867892515797488:=0
noncomputable def tw2368804719534789451:=0
noncomputable def tw2511263417174611404:=0
noncomputable def tw2530194026233980755:=0
noncomputable def tw2550488289772112178:=0
noncomputable def tw2635364971553233767:=0
noncomputable def tw2642290598784801885:=0
noncomputable def tw2657088396821849541:=0
noncomputable def tw277583995326114789:=0
noncomputable def tw2812467230151263276:=0
noncomputable def tw2942812430104173508:=0
noncomputable def tw3021206394028032868:=0
noncomputable def tw3032592572742788301:=0
noncomputable def tw3077484311995387324:=0
noncomputable def tw3106880268049716037:=0
noncomputable def tw3108989469769704751:=0
noncomputable def tw3452137563092326586:=0
noncomputable def tw3510663317733282550:=0
noncomputable def tw3549107351544794650:=0
noncomputable def tw3629957824437399483:=0
noncomputable def tw3677474297781481580:=0
noncomputable def tw3770183283549700591:=0
noncomputable def tw3813182708036428501:=0
noncomputable def tw391845056288840888:=0
noncomputable def tw3975655078786946317:=0
noncomputable def tw3981025843673473237:=0
noncomputable def tw4021883188740745118:=0
noncomputable def tw4022617817218457848:=0
noncomputable def tw4056022642021596803:=0
noncomputable def tw4081387282435978609:=0
noncomputable def tw4101743911164688036:=0
noncomputable def tw4111361923882018059:=0
noncomputable def tw4179063558642831947:=0
noncomputable def tw4301317129928783112:=0
noncomputable def tw4335423164899122090:=0
noncomputable def tw4357842367524530359:=0
noncomputable def tw4380786557464466461:=0
noncomputable def tw4384413124394179788:=0
noncomputable def tw4437442792537323959:=0
noncomputable def tw4520469615102052237:=0
noncomputable def tw4551380315333493333:=0
noncomputable def tw4670042133041226420:=0
noncomputable def tw4762913663803412004:=0
noncomputable def tw4791847805997547859:=0
noncomputable def tw4798119087454916140:=0
noncomputable def tw4808014539531859268:=0
noncomputable def tw4834753257230801517:=0
noncomputable def tw4881613092586399328:=0
noncomputable def tw4913016475549854005:=0
noncomputable def tw4976345751182028286:=0
noncomputable def tw5009401603823085979:=0
noncomputable def tw5030086913439596888:=0
noncomputable def tw5144697662044557290:=0
noncomputable def tw5181472493983260889:=0
noncomputable def tw5190658439392315653:=0
noncomputable def tw525297888528030718:=0
noncomputable def tw5409373568730296450:=0
noncomputable def tw5415275289469314091:=0
noncomputable def tw5440773306517598103:=0
noncomputable def tw5447366963444394719:=0
noncomputable def tw5469877535650848535:=0
noncomputable def tw5490034071318132409:=0
noncomputable def tw5530999833281392288:=0
noncomputable def tw5569333343908585509:=0
noncomputable def tw5600207227999180827:=0
noncomputable def tw5678005117280346107:=0
noncomputable def tw5702412020363708565:=0
noncomputable def tw570857180226194552:=0
noncomputable def tw577496814893739152:=0
noncomputable def tw5780416814157435490:=0
noncomputable def tw5799734408668119228:=0
noncomputable def tw5802512619631341810:=0
noncomputable def tw582272239029872425:=0
noncomputable def tw5844874188018819962:=0
noncomputable def tw5855226335137993860:=0
noncomputable def tw5897213141422664098:=0
noncomputable def tw5910625757302119960:=0
noncomputable def tw5922186733762246033:=0
noncomputable def tw5955309341989821905:=0
noncomputable def tw5987743859175217026:=0
noncomputable def tw6050005143152958644:=0
noncomputable def tw6069550308701800929:=0
noncomputable def tw608250818587534260:=0
noncomputable def tw6112043181501922862:=0
noncomputable def tw6167358739315472300:=0
noncomputable def tw6185420339536593308:=0
noncomputable def tw6265395672684454711:=0
noncomputable def tw6293684204273675456:=0
noncomputable def tw633660717829409458:=0
noncomputable def tw6445828530634485863:=0
noncomputable def tw6490901700435337612:=0
noncomputable def tw6540952820397731901:=0
noncomputable def tw6544540366926356897:=0
noncomputable def tw6560732890180649473:=0
noncomputable def tw6652054207102420485:=0
noncomputable def tw6654371962418135844:=0
noncomputable def tw6674476530299605949:=0
noncomputable def tw6816512210899320547:=0
noncomputable def tw6864929973792765789:=0
noncomputable def tw690568972689181923:=0
noncomputable def tw6967644701608921309:=0
noncomputable def tw6999635583090451018:=0
noncomputable def tw7030667260000585896:=0
noncomputable def tw7215976313668434317:=0
noncomputable def tw7216820214660144422:=0
noncomputable def tw7226535490845474531:=0
noncomputable def tw7314118137664969392:=0
noncomputable def tw733449188817804460:=0
noncomputable def tw7338668112424754974:=0
noncomputable def tw7365183316466220529:=0
noncomputable def tw742014644516200671:=0
noncomputable def tw7434686759617091526:=0
noncomputable def tw7619145443619355628:=0
noncomputable def tw7663003493526656166:=0
noncomputable def tw7681656973639227310:=0
noncomputable def tw7745487988346059172:=0
noncomputable def tw782888588334911186:=0
noncomputable def tw7836979292091347480:=0
noncomputable def tw7876030448943094209:=0
noncomputable def tw7889785504566947309:=0
noncomputable def tw7900147996844682232:=0
noncomputable def tw7966305741732970646:=0
noncomputable def tw8041315531619390989:=0
noncomputable def tw8124038380337133996:=0
noncomputable def tw8161937523917991378:=0
noncomputable def tw8162865039349904642:=0
noncomputable def tw8255992766466595022:=0
noncomputable def tw8292773112706774048:=0
noncomputable def tw8307620379939985626:=0
noncomputable def tw83618464347639422:=0
noncomputable def tw8393650610532818126:=0
noncomputable def tw844586123767043463:=0
noncomputable def tw8454626408206993343:=0
noncomputable def tw8488740047771539358:=0
noncomputable def tw8532225564796192321:=0
noncomputable def tw8540272730252182785:=0
noncomputable def tw8548691184245050937:=0
noncomputable def tw8573608613848661340:=0
noncomputable def tw8575991793315964709:=0
noncomputable def tw8654400859595391187:=0
noncomputable def tw8712206939137103550:=0
noncomputable def tw8720720165314883579:=0
noncomputable def tw8751510185475264644:=0
noncomputable def tw8764999442574411018:=0
noncomputable def tw8804948163711996108:=0
noncomputable def tw8955834790226070038:=0
noncomputable def tw8965893562440965194:=0
noncomputable def tw9112796946209102391:=0
noncomputable def tw9144451771093141425:=0
noncomputable def tw9155584439754003854:=0
noncomputable def tw9194223745703369464:=0
noncomputable def tw9204637949168217489:=0
noncomputable def tw9292446027157860297:=0
noncomputable def tw929357008742312380:=0
noncomputable def tw9417661465939188582:=0
noncomputable def tw9422159162704247595:=0
noncomputable def tw9435774318914373342:=0
noncomputable def tw949884493235438259:=0
noncomputable def tw9554287613405369239:=0
noncomputable def tw9563469027520303098:=0
noncomputable def tw9759079393168571982:=0
noncomputable def tw9768025037403208989:=0
noncomputable def tw9813578718969714433:=0
noncomputable def tw9882361553070782242:=0
noncomputable def tw9885836859807131603:=0
noncomputable def tw9963987474773859646:=0
noncomputable def tw9999784330359329532:=0
end PySem.W.Fast
open PySem PySem.W PyProof.Rows
set_option maxRecDepth 100000 in
set_option maxHeartbeats 0 in
theorem PySem.Challenge.cw_rowsmith_k13_tables_read_again_holds : PySem.Challenge.rw_rowsmith_k13_tables_read_again.Holds := by
 w_on;o_law;k_head;(case hw=>w_witness2)
 k_fill
 refine K13.walk (l:=PySem.Challenge.rw_rowsmith_k13_tables_read_again) rfl rfl (fun w h Y=>⟨PySem.W.km_in_of Y,PySem.W.km_tabs_of Y⟩) ?T ?F
 case T =>
  intro w P hP
  simp only [List.mem_cons,List.not_mem_nil,or_false] at hP
  rcases hP with rfl
  ·refine' K13.PN ?tkn ?tka ?tkl ?tkq
   (case tkn=>kernel_rfl)
   (case tka=>k_is)
   (case tkl=>k_is)
   (case tkq=>kernel_rfl)
 case F =>
  intro w mg fa h KX G hmg
  refine' K13.all_mk (207:Addr) KX G hmg ?a0 ?l0 ?c0 ?k0 ?a1 ?l1 ?c1 ?k1 ?a2 ?l2 ?c2 ?k2 ?a3 ?l3 ?c3 ?k3 ?a4 ?l4 ?c4 ?k4 ?a5 ?l5 ?c5 ?k5 ?a6 ?l6 ?c6 ?k6 ?a7 ?l7 ?c7 ?k7 ?a8 ?l8 ?c8 ?k8 ?a9 ?l9 ?c9 ?k9 ?a10 ?l10 ?c10 ?k10 ?a11 ?l11 ?c11 ?k11 ?a12 ?l12 ?c12 ?k12 ?a13 ?l13 ?c13 ?k13 ?a14 ?l14 ?c14 ?k14 ?a15 ?l15 ?c15 ?k15 ?a16 ?l16 ?c16 ?k16 ?a17 ?l17 ?c17 ?k17 ?a18 ?l18 ?c18 ?k18 ?a19 ?l19 ?c19 ?k19 ?a20 ?l20 ?c20 ?k20 ?a21 ?l21 ?c21 ?k21 ?q21 ?a22 ?l22 ?c22 ?k22 ?a23 ?l23 ?c23 ?k23 ?a24 ?l24 ?c24 ?k24 ?a25 ?l25 ?c25 ?k25 ?a26 ?l26 ?c26 ?k26 ?a27 ?l27 ?c27 ?k27 ?a28 ?l28 ?c28 ?k28 ?a29 ?l29 ?c29 ?k29 ?a30 ?l30 ?c30 ?k30 ?a31 ?l31 ?c31 ?k31 ?a32 ?l32 ?c32 ?k32 ?a33 ?l33 ?c33 ?k33 ?a34 ?l34 ?c34 ?k34 ?a35 ?l35 ?c35 ?k35 ?a36 ?l36 ?c36 ?k36 ?a37 ?l37 ?c37 ?k37 ?a38 ?l38 ?c38 ?k38 ?a39 ?l39 ?c39 ?k39 ?a40 ?l40 ?c40 ?k40 ?a41 ?l41 ?c41 ?k41 ?a42 ?l42 ?c42 ?k42 ?a43 ?l43 ?c43 ?k43 ?a44 ?l44 ?c44 ?k44 ?e0 ?e1 ?e2 ?e3 ?e4 ?e5 ?e6 ?e7 ?e8 ?e9 ?ta0 ?tb0 ?tc0 ?ta1 ?tb1 ?tc1 ?ta2 ?tb2 ?tc2 ?z0 ?z1 ?z2 ?z3 ?z4 ?z5 ?z6 ?z7 ?z8 ?z9 ?z10 ?z11
  (case a0=>k_is)
  (case l0=>k_is)
  (case c0=>k_is)
  (case k0=>k_is)
  (case a1=>k_is)
  (case l1=>k_is)
  (case c1=>k_is)
  (case k1=>k_is)
  (case a2=>k_is)
  (case l2=>k_is)
  (case c2=>k_is)
  (case k2=>k_is)
  (case a3=>k_is)
  (case l3=>k_is)
  (case c3=>k_is)
  (case k3=>k_is)
  (case a4=>k_is)
  (case l4=>k_is)
  (case c4=>k_is)
  (case k4=>k_is)
  (case a5=>k_is)
  (case l5=>k_is)
  (case c5=>k_is)
  (case k5=>k_is)
  (case a6=>k_is)
  (case l6=>k_is)
  (case c6=>k_is)
  (case k6=>k_is)
  (case a7=>k_is)
  (case l7=>k_is)
  (case c7=>k_is)
  (case k7=>k_is)
  (case a8=>k_is)
  (case l8=>k_is)
  (case c8=>k_is)
  (case k8=>k_is)
  (case a9=>k_is)
  (case l9=>k_is)
  (case c9=>k_is)
  (case k9=>k_is)
  (case a10=>k_is)
  (case l10=>k_is)
  (case c10=>k_is)
  (case k10=>k_is)
  (case a11=>k_is)
  (case l11=>k_is)
  (case c11=>k_is)
  (case k11=>k_is)
  (case a12=>k_is)
  (case l12=>k_is)
  (case c12=>k_is)
  (case k12=>k_is)
  (case a13=>k_is)
  (case l13=>k_is)
  (case c13=>k_is)
  (case k13=>k_is)
  (case a14=>k_is)
  (case l14=>k_is)
  (case c14=>k_is)
  (case k14=>k_is)
  (case a15=>k_is)
  (case l15=>k_is)
  (case c15=>k_is)
  (case k15=>k_is)
  (case a16=>k_is)
  (case l16=>k_is)
  (case c16=>k_is)
  (case k16=>k_is)
  (case a17=>k_is)
  (case l17=>k_is)
  (case c17=>k_is)
  (case k17=>k_is)
  (case a18=>k_is)
  (case l18=>k_is)
  (case c18=>k_is)
  (case k18=>k_is)
  (case a19=>k_is)
  (case l19=>k_is)
  (case c19=>k_is)
  (case k19=>k_is)
  (case a20=>k_is)
  (case l20=>k_is)
  (case c20=>k_is)
  (case k20=>k_is)
  (case a21=>k_is)
  (case l21=>k_is)
  (case c21=>k_is)
  (case k21=>k_is)
  (case q21=>kernel_rfl)
  (case a22=>k_is)
  (case l22=>k_is)
  (case c22=>k_is)
  (case k22=>k_is)
  (case a23=>k_is)
  (case l23=>k_is)
  (case c23=>k_is)
  (case k23=>k_is)
  (case a24=>k_is)
  (case l24=>k_is)
  (case c24=>k_is)
  (case k24=>k_is)
  (case a25=>k_is)
  (case l25=>k_is)
  (case c25=>k_is)
  (case k25=>k_is)
  (case a26=>k_is)
  (case l26=>k_is)
  (case c26=>k_is)
  (case k26=>k_is)
  (case a27=>k_is)
  (case l27=>k_is)
  (case c27=>k_is)
  (case k27=>k_is)
  (case a28=>k_is)
  (case l28=>k_is)
  (case c28=>k_is)
  (case k28=>k_is)
  (case a29=>k_is)
  (case l29=>k_is)
  (case c29=>k_is)
  (case k29=>k_is)
  (case a30=>k_is)
  (case l30=>k_is)
  (case c30=>k_is)
  (case k30=>k_is)
  (case a31=>k_is)
  (case l31=>k_is)
  (case c31=>k_is)
  (case k31=>k_is)
  (case a32=>k_is)
  (case l32=>k_is)
  (case c32=>k_is)
  (case k32=>k_is)
  (case a33=>k_is)
  (case l33=>k_is)
  (case c33=>k_is)
  (case k33=>k_is)
  (case a34=>k_is)
  (case l34=>k_is)
  (case c34=>k_is)
  (case k34=>k_is)
  (case a35=>k_is)
  (case l35=>k_is)
  (case c35=>k_is)
  (case k35=>k_is)
  (case a36=>k_is)
  (case l36=>k_is)
  (case c36=>k_is)
  (case k36=>k_is)
  (case a37=>k_is)
  (case l37=>k_is)
  (case c37=>k_is)
  (case k37=>k_is)
  (case a38=>k_is)
  (case l38=>k_is)
  (case c38=>k_is)
  (case k38=>k_is)
  (case a39=>k_is)
  (case l39=>k_is)
  (case c39=>k_is)
  (case k39=>k_is)
  (case a40=>k_is)
  (case l40=>k_is)
  (case c40=>k_is)
  (case k40=>k_is)
  (case a41=>k_is)
  (case l41=>k_is)
  (case c41=>k_is)
  (case k41=>k_is)
  (case a42=>k_is)
  (case l42=>k_is)
  (case c42=>k_is)
  (case k42=>k_is)
  (case a43=>k_is)
  (case l43=>k_is)
  (case c43=>k_is)
  (case k43=>k_is)
  (case a44=>k_is)
  (case l44=>k_is)
  (case c44=>k_is)
  (case k44=>k_is)
  (case e0=>k_is)
  (case e1=>k_is)
  (case e2=>k_is)
  (case e3=>k_is)
  (case e4=>k_is)
  (case e5=>k_is)
  (case e6=>k_is)
  (case e7=>k_is)
  (case e8=>k_is)
  (case e9=>k_is)
  (case ta0=>k_is)
  (case tb0=>kernel_rfl)
  (case tc0=>kernel_rfl)
  (case ta1=>k_is)
  (case tb1=>kernel_rfl)
  (case tc1=>kernel_rfl)
  (case ta2=>k_is)
  (case tb2=>kernel_rfl)
  (case tc2=>kernel_rfl)
  (case z0=>k_is)
  (case z1=>k_is)
  (case z2=>k_is)
  (case z3=>k_is)
  (case z4=>k_is)
  (case z5=>k_is)
  (case z6=>k_is)
  (case z7=>k_is)
  (case z8=>k_is)
  (case z9=>k_is)
  (case z10=>k_is)
  (case z11=>k_is)
#print axioms PySem.Challenge.cw_rowsmith_k13_tables_read_again_holds